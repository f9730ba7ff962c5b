/- Layer 8: the law's fixed calls. -/
import Derived.Test.YtponbnlhedigoaaSi
namespace Go.Proofs.Ytponbnlhedigoaa
open Go.RowKit

def kb : List Ent := [(0, 6), (1, 5), (1, 7)]
def kt : List Ent := [(1, 5), (0, 6)]
theorem kp1 : pushL [] 3 (1, 5) = [(1, 5)] := by decide +kernel
theorem kp2 : pushL [(1, 5)] 3 (0, 6) = [(0, 6), (1, 5)] := by decide +kernel
theorem kp3 : pushL [(0, 6), (1, 5)] 3 (1, 7) = kb := by decide +kernel
theorem kp4 : popL kb 3 1 = ([(0, 6), (1, 7)], (1, 5), true) := by decide +kernel
theorem kp5 : lastL kb 1 = (7, true) := by decide +kernel
theorem kp6 : pushL [] 2 (1, 5) = [(1, 5)] := by decide +kernel
theorem kp7 : pushL [(1, 5)] 2 (0, 6) = kt := by decide +kernel
theorem kp8 : popL kt 2 (-1) = ([(0, 6)], (1, 5), true) := by decide +kernel
theorem kp9 : popL kt 2 0 = (kt, (0, 0), false) := by decide +kernel
theorem kh1 : headsL kb 3 = [0, 1] := by decide +kernel
theorem kh2 : headsL kt 2 = [1] := by decide +kernel
theorem kr1 : roomL kt 2 3 0 = true := by decide +kernel
theorem kr2 : roomL kt 2 2 0 = false := by decide +kernel
theorem kr3 : roomL kb 3 2 0 = true := by decide +kernel
theorem kr4 : roomL kb 3 2 1 = false := by decide +kernel
theorem kr5 : rightL kb 3 2 8 2 = true := by decide +kernel
theorem kr6 : rightL kb 2 2 8 2 = false := by decide +kernel

set_option maxRecDepth 100000 in
set_option maxHeartbeats 8000000 in
theorem known_any (w : World) : Calls Try.prog 6 #[] w fun e w' => e = .returned (.bool true) ∧ Below w.heap.size w w' := by
  go_enter Try.func6, Try.ntmps6
  go_wp2_with fail
  refine (push_any [] _ 3 1 5 w SlD.nil (by decide) _ kp1).mono ?_
  rintro e w1 ⟨v1, rfl, d1, b1⟩
  have D1 := Lib.hid d1
  have B1 := Lib.hid b1
  obtain ⟨a1, c1, rfl, _⟩ := d1.shape
  clear d1 b1
  go_wp2_with fail
  refine (push_any _ _ 3 0 6 w1 D1.out (by decide) _ kp2).mono ?_
  rintro e w2 ⟨v2, rfl, d2, b2⟩
  have D2 := Lib.hid d2
  have B2 := Lib.hid (B1.out.trans (b2.mono B1.out.size))
  obtain ⟨a2, c2, rfl, _⟩ := d2.shape
  clear d2 b2 D1 B1
  go_wp2_with fail
  refine (push_any _ _ 3 1 7 w2 D2.out (by decide) _ kp3).mono ?_
  rintro e w3 ⟨v3, rfl, d3, b3⟩
  have D3 := Lib.hid d3
  have B3 := Lib.hid (B2.out.trans (b3.mono B2.out.size))
  obtain ⟨a3, c3, rfl, _⟩ := d3.shape
  clear d3 b3 D2 B2
  go_wp2_with fail
  refine (pop_any _ _ 3 1 w3 D3.out (by decide) _ _ _ _ kp4).mono ?_
  rintro e w4 ⟨v4, rfl, d4, b4⟩
  have D4 := Lib.hid d4
  have B4 := Lib.hid (B3.out.trans (b4.mono B3.out.size))
  have E3 := Lib.hid (EntsD.below D3.out b4)
  obtain ⟨a4, c4, rfl, _⟩ := d4.shape
  have K5 := Lib.hid (Bk.new w4 25 #[.int .i64 1, .int .i64 5])
  have L5 : Hid (Below w4.heap.size w4 (w4.alloc (.cells #[.int .i64 1, .int .i64 5] 25))) := (Below.refl _ _).alloc (Nat.le_refl _) _
  clear d4 b4 D3 B3
  go_wp2_with fail
  generalize w4.alloc _ = w5 at K5 L5 ⊢
  have B5 := Lib.hid (B4.out.trans (L5.out.mono B4.out.size))
  have E5 := Lib.hid (EntsD.below E3.out L5.out)
  refine (last_any _ _ 1 w5 E5.out (by decide) _ _ kp5).mono ?_
  rintro e w6 ⟨rfl, b6⟩
  have B6 := Lib.hid (B5.out.trans (b6.mono B5.out.size))
  have E6 := Lib.hid (EntsD.below E5.out b6)
  have K6 := Lib.hid (K5.out.below b6)
  clear b6 B5 E5 K5 L5 B4 E3 D4
  go_wp2_with fail
  refine (push_any [] _ 2 1 5 w6 SlD.nil (by decide) _ kp6).mono ?_
  rintro e w7 ⟨v7, rfl, d7, b7⟩
  have D7 := Lib.hid d7
  have B7 := Lib.hid (B6.out.trans (b7.mono B6.out.size))
  have E7 := Lib.hid (EntsD.below E6.out b7)
  have K7 := Lib.hid (K6.out.below b7)
  obtain ⟨a7, c7, rfl, _⟩ := d7.shape
  clear d7 b7 B6 E6 K6
  go_wp2_with fail
  refine (push_any _ _ 2 0 6 w7 D7.out (by decide) _ kp7).mono ?_
  rintro e w8 ⟨v8, rfl, d8, b8⟩
  have D8 := Lib.hid d8
  have B8 := Lib.hid (B7.out.trans (b8.mono B7.out.size))
  have E8 := Lib.hid (EntsD.below E7.out b8)
  have K8 := Lib.hid (K7.out.below b8)
  obtain ⟨a8, c8, rfl, _⟩ := d8.shape
  clear d8 b8 B7 E7 K7 D7
  go_wp2_with fail
  refine (pop_any _ _ 2 (-1) w8 D8.out (by decide) _ _ _ _ kp8).mono ?_
  rintro e w9 ⟨v9, rfl, d9, b9⟩
  have D9 := Lib.hid (EntsD.below D8.out b9)
  have B9 := Lib.hid (B8.out.trans (b9.mono B8.out.size))
  have E9 := Lib.hid (EntsD.below E8.out b9)
  have K9 := Lib.hid (K8.out.below b9)
  obtain ⟨a9, c9, rfl, _⟩ := d9.shape
  have KA := Lib.hid (Bk.new w9 25 #[.int .i64 1, .int .i64 5])
  have LA : Hid (Below w9.heap.size w9 (w9.alloc (.cells #[.int .i64 1, .int .i64 5] 25))) := (Below.refl _ _).alloc (Nat.le_refl _) _
  clear d9 b9 B8 E8 K8 D8
  go_wp2_with fail
  generalize w9.alloc _ = wA at KA LA ⊢
  have BA := Lib.hid (B9.out.trans (LA.out.mono B9.out.size))
  have EA := Lib.hid (EntsD.below E9.out LA.out)
  have DA := Lib.hid (EntsD.below D9.out LA.out)
  have KC := Lib.hid (K9.out.below LA.out)
  clear B9 E9 D9 K9 LA
  refine (pop_any _ _ 2 0 wA DA.out (by decide) _ _ _ _ kp9).mono ?_
  rintro e wB ⟨vB, rfl, dB, bB⟩
  have DB := Lib.hid (EntsD.below DA.out bB)
  have BB := Lib.hid (BA.out.trans (bB.mono BA.out.size))
  have EB := Lib.hid (EntsD.below EA.out bB)
  have KB := Lib.hid (KC.out.below bB)
  have KD := Lib.hid (KA.out.below bB)
  obtain ⟨aB, cB, rfl, _⟩ := dB.shape
  have TB := Lib.hid (two_new wB 25 25 #[.int .i64 0, .int .i64 0] #[.int .i64 0, .int .i64 6, .int .i64 1, .int .i64 5, .int .i64 1, .int .i64 7])
  clear dB bB BA EA KA KC DA
  go_wp2_with fail
  generalize (wB.alloc _).alloc _ = wC at TB ⊢
  have BC := Lib.hid (BB.out.trans (TB.out.1.mono BB.out.size))
  have EC := Lib.hid (EntsD.below EB.out TB.out.1)
  have DC := Lib.hid (EntsD.below DB.out TB.out.1)
  have KE := Lib.hid (KB.out.below TB.out.1)
  have KF := Lib.hid (KD.out.below TB.out.1)
  clear BB EB DB KB KD
  refine (same_any kb _ _ wC EC.out (entsD_of_bk (xs := kb) TB.out.2.2 rfl (by decide)) (by decide)).mono ?_
  rintro e wD ⟨rfl, bD⟩
  have BD := Lib.hid (BC.out.trans (bD.mono BC.out.size))
  have ED := Lib.hid (EntsD.below EC.out bD)
  have DD := Lib.hid (EntsD.below DC.out bD)
  have k0 := (KE.out.below bD).cell 0
  have k1 := (KE.out.below bD).cell 1
  have k2 := (KF.out.below bD).cell 0
  have k3 := (KF.out.below bD).cell 1
  simp only [List.getElem?_toArray, List.getElem?_cons_zero, List.getElem?_cons_succ] at k0 k1 k2 k3
  clear bD BC EC DC KE KF TB
  go_wp2_with fail
  refine (heads_any kb _ 3 wD ED.out (by decide) _ kh1).mono ?_
  rintro e wE ⟨vE, rfl, hE, bE⟩
  have BE := Lib.hid (BD.out.trans (bE.mono BD.out.size))
  have EE := Lib.hid (EntsD.below ED.out bE)
  have DE := Lib.hid (EntsD.below DD.out bE)
  have HE := Lib.hid hE
  obtain ⟨aE, cE, rfl, _⟩ := hE.shape
  have KG := Lib.hid (Bk.new wE 3 #[.int .i64 0, .int .i64 1])
  have LG : Hid (Below wE.heap.size wE (wE.alloc (.cells #[.int .i64 0, .int .i64 1] 3))) := (Below.refl _ _).alloc (Nat.le_refl _) _
  clear hE bE BD ED DD k0 k1 k2 k3
  go_wp2_with fail
  generalize wE.alloc _ = wF at KG LG ⊢
  have BF := Lib.hid (BE.out.trans (LG.out.mono BE.out.size))
  have EF := Lib.hid (EntsD.below EE.out LG.out)
  have DF := Lib.hid (EntsD.below DE.out LG.out)
  refine (ints_any [0, 1] _ _ wF (IntsD.below HE.out LG.out) (intsD_of_bk (xs := [0, 1]) KG.out rfl (by decide)) (by decide)).mono ?_
  rintro e wG ⟨rfl, bG⟩
  have BG := Lib.hid (BF.out.trans (bG.mono BF.out.size))
  have EG := Lib.hid (EntsD.below EF.out bG)
  have DG := Lib.hid (EntsD.below DF.out bG)
  clear bG BF EF DF KG LG BE EE DE HE
  go_wp2_with fail
  refine (heads_any kt _ 2 wG DG.out (by decide) _ kh2).mono ?_
  rintro e wH ⟨vH, rfl, hH, bH⟩
  have BH := Lib.hid (BG.out.trans (bH.mono BG.out.size))
  have EH := Lib.hid (EntsD.below EG.out bH)
  have DH := Lib.hid (EntsD.below DG.out bH)
  have HH := Lib.hid hH
  obtain ⟨aH, cH, rfl, _⟩ := hH.shape
  have KI := Lib.hid (Bk.new wH 3 #[.int .i64 1])
  have LI : Hid (Below wH.heap.size wH (wH.alloc (.cells #[.int .i64 1] 3))) := (Below.refl _ _).alloc (Nat.le_refl _) _
  clear hH bH BG EG DG
  go_wp2_with fail
  generalize wH.alloc _ = wI at KI LI ⊢
  have BI := Lib.hid (BH.out.trans (LI.out.mono BH.out.size))
  have EI := Lib.hid (EntsD.below EH.out LI.out)
  have DI := Lib.hid (EntsD.below DH.out LI.out)
  refine (ints_any [1] _ _ wI (IntsD.below HH.out LI.out) (intsD_of_bk (xs := [1]) KI.out rfl (by decide)) (by decide)).mono ?_
  rintro e wJ ⟨rfl, bJ⟩
  have BJ := Lib.hid (BI.out.trans (bJ.mono BI.out.size))
  have EJ := Lib.hid (EntsD.below EI.out bJ)
  have DJ := Lib.hid (EntsD.below DI.out bJ)
  clear bJ BI EI DI KI LI BH EH DH HH
  go_wp2_with fail
  refine (room_any kt _ 2 3 0 wJ DJ.out (by decide) _ kr1).mono ?_
  rintro e wK ⟨rfl, bK⟩
  have BK := Lib.hid (BJ.out.trans (bK.mono BJ.out.size))
  have EK := Lib.hid (EntsD.below EJ.out bK)
  have DK := Lib.hid (EntsD.below DJ.out bK)
  clear bK BJ EJ DJ
  go_wp2_with fail
  refine (room_any kt _ 2 2 0 wK DK.out (by decide) _ kr2).mono ?_
  rintro e wL ⟨rfl, bL⟩
  have BL := Lib.hid (BK.out.trans (bL.mono BK.out.size))
  have EL := Lib.hid (EntsD.below EK.out bL)
  clear bL BK EK DK
  go_wp2_with fail
  refine (room_any kb _ 3 2 0 wL EL.out (by decide) _ kr3).mono ?_
  rintro e wM ⟨rfl, bM⟩
  have BM := Lib.hid (BL.out.trans (bM.mono BL.out.size))
  have EM := Lib.hid (EntsD.below EL.out bM)
  clear bM BL EL
  go_wp2_with fail
  refine (room_any kb _ 3 2 1 wM EM.out (by decide) _ kr4).mono ?_
  rintro e wN ⟨rfl, bN⟩
  have BN := Lib.hid (BM.out.trans (bN.mono BM.out.size))
  have EN := Lib.hid (EntsD.below EM.out bN)
  clear bN BM EM
  go_wp2_with fail
  refine (right_any kb _ 3 2 8 2 wN EN.out (by decide) (by decide) (by decide) _ kr5).mono ?_
  rintro e wO ⟨rfl, bO⟩
  have BO := Lib.hid (BN.out.trans (bO.mono BN.out.size))
  have EO := Lib.hid (EntsD.below EN.out bO)
  clear bO BN EN
  go_wp2_with fail
  refine (right_any kb _ 2 2 8 2 wO EO.out (by decide) (by decide) (by decide) _ kr6).mono ?_
  rintro e wP ⟨rfl, bP⟩
  have BP := Lib.hid (BO.out.trans (bP.mono BO.out.size))
  clear bP BO EO
  go_wp2
  go_ret
  exact ⟨rfl, BP.out⟩

end Go.Proofs.Ytponbnlhedigoaa
