/- Layer 8: the walk of StoreNone. -/
import Derived.Test.YtponbnlhedigoaaSj
namespace Go.Proofs.Ytponbnlhedigoaa
open Go.RowKit

theorem pushL_one (l : List Ent) (e : Ent) : pushL l 1 e = l := by unfold pushL; rw [if_neg (by decide), if_neg (by decide)]
theorem oldL_one (l : List Ent) (k : Int) : oldL l 1 k = -1 := by unfold oldL; rw [if_neg (by decide), if_neg (by decide)]
theorem popL_one (l : List Ent) (k : Int) : popL l 1 k = (l, (0, 0), false) := by
  unfold popL
  rw [oldL_one, if_pos (by decide)]
theorem roomL_one (l : List Ent) (r k : Int) : roomL l 1 r k = false := by unfold roomL; rw [if_neg (by decide), if_neg (by decide)]
theorem headsL_one (l : List Ent) : headsL l 1 = [] := by unfold headsL; rw [if_neg (by decide), if_neg (by decide)]
theorem kn1 : rightL [] 1 1 2 0 = true := by decide +kernel
theorem kn2 : rightL [(0, 0)] 1 1 2 1 = false := by decide +kernel

set_option maxRecDepth 100000 in
set_option maxHeartbeats 8000000 in
theorem none_in (l : List Ent) (v : Value) (x y room : Int) (w : World) (hv : EntsD w v l) :
    Calls Try.prog 4 #[v, .agg #[.int .i64 x, .int .i64 y], .int .i64 room] w fun e w' => e = .returned (.bool true) ∧ Below w.heap.size w w' := by
  have K0 := Lib.hid (Bk.new w 25 #[.int .i64 x, .int .i64 y])
  have L0 : Hid (Below w.heap.size w (w.alloc (.cells #[.int .i64 x, .int .i64 y] 25))) := (Below.refl _ _).alloc (Nat.le_refl _) _
  have D0 := Lib.hid (EntsD.below hv L0.out)
  have HL := Lib.hid (fun W (hb : Below w.heap.size w W) => light_any l v W (EntsD.below hv hb))
  obtain ⟨ad, cap, rfl, _⟩ := hv.shape
  by_cases hn : l.length ≤ 60
  · rw [decide_eq_true hn] at HL
    have HN : Hid (l.length ≤ 100000) := Lib.hid (by omega)
    generalize l.length = n at D0 HL
    clear hv hn
    go_enter Try.func4, Try.ntmps4
    go_wp2_with fail
    generalize w.alloc _ = w0 at K0 L0 D0 ⊢
    refine (HL.out w0 L0.out).mono ?_
    rintro e w0' ⟨rfl, rfl⟩
    have c0 : w0.cell? ⟨w.heap.size, 0, none⟩ = some (.int .i64 x) := K0.out.cell 0
    have c1 : w0.cell? ⟨w.heap.size, 1, none⟩ = some (.int .i64 y) := K0.out.cell 1
    have hlt := K0.out.lt
    clear HL
    go_wp2_with fail
    refine (push_any l _ 1 x y w0 D0.out HN.out _ (pushL_one _ _)).mono ?_
    rintro e w1 ⟨v1, rfl, d1, b1⟩
    have X1 := Lib.hid d1
    have B1 := Lib.hid (L0.out.trans (b1.mono L0.out.size))
    have D1 := Lib.hid (EntsD.below D0.out b1)
    have K1 := Lib.hid (K0.out.below b1)
    obtain ⟨a1, c1', rfl, _⟩ := d1.shape
    have e0 : w1.cell? ⟨w.heap.size, 0, none⟩ = some (.int .i64 x) := K1.out.cell 0
    clear d1 b1 D0 L0 K0 c0 c1
    go_wp2_with fail
    refine (pop_any l _ 1 x w1 D1.out HN.out _ _ _ _ (popL_one _ _)).mono ?_
    rintro e w2 ⟨v2, rfl, d2, b2⟩
    have Y2 := Lib.hid d2
    have X2 := Lib.hid (EntsD.below X1.out b2)
    have B2 := Lib.hid (B1.out.trans (b2.mono B1.out.size))
    have D2 := Lib.hid (EntsD.below D1.out b2)
    have K2 := Lib.hid (K1.out.below b2)
    obtain ⟨a2, c2', rfl, _⟩ := d2.shape
    have K3 := Lib.hid (Bk.new w2 25 #[.int .i64 0, .int .i64 0])
    have L3 : Hid (Below w2.heap.size w2 (w2.alloc (.cells #[.int .i64 0, .int .i64 0] 25))) := (Below.refl _ _).alloc (Nat.le_refl _) _
    have e0 : (w2.alloc (.cells #[.int .i64 0, .int .i64 0] 25)).cell? ⟨w.heap.size, 0, none⟩ = some (.int .i64 x) := (K2.out.below L3.out).cell 0
    clear d2 b2 D1 K1 X1 B1
    go_wp2_with fail
    generalize w2.alloc _ = w3 at K3 L3 ⊢
    have Y3 := Lib.hid (EntsD.below Y2.out L3.out)
    have X3 := Lib.hid (EntsD.below X2.out L3.out)
    have B3 := Lib.hid (B2.out.trans (L3.out.mono B2.out.size))
    have D3 := Lib.hid (EntsD.below D2.out L3.out)
    clear Y2 X2 B2 D2 K2 L3
    refine (room_any l _ 1 room x w3 D3.out HN.out _ (roomL_one _ _ _)).mono ?_
    rintro e w4 ⟨rfl, b4⟩
    have Y4 := Lib.hid (EntsD.below Y3.out b4)
    have X4 := Lib.hid (EntsD.below X3.out b4)
    have B4 := Lib.hid (B3.out.trans (b4.mono B3.out.size))
    have D4 := Lib.hid (EntsD.below D3.out b4)
    have K4 := Lib.hid (K3.out.below b4)
    clear b4 Y3 X3 B3 D3 K3
    go_wp2_with fail
    refine (same_any l _ _ w4 X4.out D4.out HN.out).mono ?_
    rintro e w5 ⟨rfl, b5⟩
    have Y5 := Lib.hid (EntsD.below Y4.out b5)
    have B5 := Lib.hid (B4.out.trans (b5.mono B4.out.size))
    have D5 := Lib.hid (EntsD.below D4.out b5)
    have K5 := Lib.hid (K4.out.below b5)
    clear b5 Y4 X4 B4 D4 K4
    go_wp2_with fail
    refine (same_any l _ _ w5 Y5.out D5.out HN.out).mono ?_
    rintro e w6 ⟨rfl, b6⟩
    have B6 := Lib.hid (B5.out.trans (b6.mono B5.out.size))
    have D6 := Lib.hid (EntsD.below D5.out b6)
    have K6 := Lib.hid (K5.out.below b6)
    have k0 : w6.cell? ⟨w2.heap.size, 0, none⟩ = some (.int .i64 0) := K6.out.cell 0
    have k1 : w6.cell? ⟨w2.heap.size, 1, none⟩ = some (.int .i64 0) := K6.out.cell 1
    clear b6 Y5 B5 D5 K5
    go_wp2_with fail
    refine (heads_any l _ 1 w6 D6.out HN.out _ (headsL_one _)).mono ?_
    rintro e w7 ⟨v7, rfl, h7, b7⟩
    have B7 := Lib.hid (B6.out.trans (b7.mono B6.out.size))
    obtain ⟨a7, c7, rfl, _⟩ := h7.shape
    clear h7 b7 B6 D6 K6 k0 k1
    go_wp2_with fail
    refine (right_any [] _ 1 1 2 0 w7 SlD.nil (by decide) (by decide) (by decide) _ kn1).mono ?_
    rintro e w8 ⟨rfl, b8⟩
    have B8 := Lib.hid (B7.out.trans (b8.mono B7.out.size))
    have K8 := Lib.hid (Bk.new w8 25 #[.int .i64 0, .int .i64 0])
    have L8 : Hid (Below w8.heap.size w8 (w8.alloc (.cells #[.int .i64 0, .int .i64 0] 25))) := (Below.refl _ _).alloc (Nat.le_refl _) _
    clear b8 B7
    go_wp2_with fail
    generalize w8.alloc _ = w9 at K8 L8 ⊢
    refine (right_any [(0, 0)] _ 1 1 2 1 w9 (entsD_of_bk (xs := [(0, 0)]) K8.out rfl (by decide)) (by decide) (by decide) (by decide) _ kn2).mono ?_
    rintro e wA ⟨rfl, bA⟩
    have BA := Lib.hid (B8.out.trans ((L8.out.trans (bA.mono L8.out.size)).mono B8.out.size))
    clear bA B8 K8 L8
    go_wp2_with fail
    refine (known_any wA).mono ?_
    rintro e wB ⟨rfl, bB⟩
    have BB := Lib.hid (BA.out.trans (bB.mono BA.out.size))
    clear bB BA
    go_wp2
    go_ret
    exact ⟨rfl, BB.out⟩
  · rw [decide_eq_false hn] at HL
    generalize l.length = n at D0 HL
    clear hv hn
    go_enter Try.func4, Try.ntmps4
    go_wp2_with fail
    generalize w.alloc _ = w0 at K0 L0 D0 ⊢
    refine (HL.out w0 L0.out).mono ?_
    rintro e w0' ⟨rfl, rfl⟩
    go_wp2_with fail
    refine (known_any w0).mono ?_
    rintro e wB ⟨rfl, bB⟩
    have BB := Lib.hid (L0.out.trans (bB.mono L0.out.size))
    clear bB
    go_wp2
    go_ret
    exact ⟨rfl, BB.out⟩

end Go.Proofs.Ytponbnlhedigoaa
