/- ProgBack holds, as a card: whatever program is handed in, the law returns true: if the program is right and not too large, what Show makes of it is read by Parse as the program was, but for places; the card's condition, that the listed package variables read as laid, is tied to the program's own text. -/
import Derived.Test.YtcghccjnadagcaaGreatDoorGi
import Derived.Test.YtcghccjnadagcaaGreatDoorPw
import Derived.Deep.RegionHeld3
import Derived.Test.YtcghccjnadagcaaGreatDoorZt
import Derived.Test.YtcghccjnadagcaaGreatDoorCards
import Derived.ChangeOld
import Derived.Below
import Derived.OneCell
import Derived.SevenTiedAt
import Derived.SevenBuild
set_option maxRecDepth 100000
set_option maxHeartbeats 32000000
namespace Go.Proofs.YtcghccjnadagcaaGreatDoor
open Go.RowKit
theorem pback_heavy (m : Int) (a1 a2 a3 : Option Addr) (n1 n2 n3 c1 c2 c3 : Nat) (w : World) (hf : Flds w) (ht : Tabs w) (hw : Wds w)
  (hl : ∀ W,Below w.heap.size w W → Calls Tryz.prog 12 #[.agg #[.int .i64 m,.slice a1 n1 c1,.slice a2 n2 c2,.slice a3 n3 c3]] W fun e w' => e = .returned (.bool false) ∧ Below W.heap.size W w') :
  Calls Tryz.prog 5 #[.agg #[.int .i64 m,.slice a1 n1 c1,.slice a2 n2 c2,.slice a3 n3 c3]] w fun e w' => e = .returned (.bool true) ∧ Below w.heap.size w w':=by
 have HF:=Lib.hid hf
 have HT:=Lib.hid ht
 have HW:=Lib.hid hw
 have B0 : Hid (Below w.heap.size w (w.alloc (.cells #[.int .i64 m,.slice a1 n1 c1,.slice a2 n2 c2,.slice a3 n3 c3] 27))):=Lib.hid ((Below.refl _ _).alloc (Nat.le_refl _) _)
 have HL:=Lib.hid (hl _ B0.out)
 clear hf ht hw hl
 go_enter Tryz.func5,Tryz.ntmps5
 go_wp2_with fail
 refine HL.out.mono ?_
 rintro e w1 ⟨rfl,b1⟩
 have B1:=Lib.hid (B0.out.trans (b1.mono B0.out.size))
 clear b1
 go_wp2_with fail
 refine (pknown_any _ (HF.out.below B1.out) (HT.out.below B1.out) (HW.out.below B1.out)).mono ?_
 rintro e w4 ⟨rfl,b4⟩
 go_wp2
 go_ret
 exact ⟨rfl,B1.out.trans (b4.mono B1.out.size)⟩
theorem pback_wrong (m : Int) (a1 a2 a3 : Option Addr) (n1 n2 n3 c1 c2 c3 : Nat) (w : World) (hf : Flds w) (ht : Tabs w) (hw : Wds w)
  (hl : ∀ W,Below w.heap.size w W → Calls Tryz.prog 12 #[.agg #[.int .i64 m,.slice a1 n1 c1,.slice a2 n2 c2,.slice a3 n3 c3]] W fun e w' => e = .returned (.bool true) ∧ Below W.heap.size W w')
  (hr : ∀ W,Below w.heap.size w W → Calls Tryz.prog 14 #[.agg #[.int .i64 m,.slice a1 n1 c1,.slice a2 n2 c2,.slice a3 n3 c3]] W fun e w' => e = .returned (.bool false) ∧ Below W.heap.size W w') :
  Calls Tryz.prog 5 #[.agg #[.int .i64 m,.slice a1 n1 c1,.slice a2 n2 c2,.slice a3 n3 c3]] w fun e w' => e = .returned (.bool true) ∧ Below w.heap.size w w':=by
 have HF:=Lib.hid hf
 have HT:=Lib.hid ht
 have HW:=Lib.hid hw
 have HR:=Lib.hid hr
 obtain ⟨w0,hw0⟩ : ∃ w0,w0 = w.alloc (.cells #[.int .i64 m,.slice a1 n1 c1,.slice a2 n2 c2,.slice a3 n3 c3] 27):=⟨_,rfl⟩
 have B0 : Hid (Below w.heap.size w w0):=Lib.hid (by rw [hw0]; exact (Below.refl _ _).alloc (Nat.le_refl _) _)
 have K0 : Hid (Bk w0 w.heap.size 27 #[.int .i64 m,.slice a1 n1 c1,.slice a2 n2 c2,.slice a3 n3 c3]):=Lib.hid (by rw [hw0]; exact Bk.new w _ _)
 have HL:=Lib.hid (hl _ B0.out)
 have HW0:=Lib.hid hw0
 clear hf ht hw hl hr hw0
 go_enter Tryz.func5,Tryz.ntmps5
 go_wp2_with fail
 rw [← HW0.out]
 refine HL.out.mono ?_
 rintro e w1 ⟨rfl,b1⟩
 have B1:=Lib.hid (B0.out.trans (b1.mono B0.out.size))
 have K1:=Lib.hid (K0.out.below b1)
 have k0:=K1.out.cell 0
 have k1:=K1.out.cell 1
 have k2:=K1.out.cell 2
 have k3:=K1.out.cell 3
 have kl:=K1.out.lt
 clear b1 K0
 go_wp2_with fail
 refine (HR.out _ B1.out).mono ?_
 rintro e w2 ⟨rfl,b2⟩
 have B2:=Lib.hid (B1.out.trans (b2.mono B1.out.size))
 clear b2 k0 k1 k2 k3 kl
 go_wp2_with fail
 refine (pknown_any _ (HF.out.below B2.out) (HT.out.below B2.out) (HW.out.below B2.out)).mono ?_
 rintro e w4 ⟨rfl,b4⟩
 go_wp2
 go_ret
 exact ⟨rfl,B2.out.trans (b4.mono B2.out.size)⟩
theorem pback_right (g : Pg) (a1 a2 a3 : Option Addr) (n1 n2 n3 c1 c2 c3 : Nat) (w : World) (hf : Flds w) (ht : Tabs w) (hw : Wds w)
  (hl : ∀ W,Below w.heap.size w W → Calls Tryz.prog 12 #[.agg #[.int .i64 g.mod,.slice a1 n1 c1,.slice a2 n2 c2,.slice a3 n3 c3]] W fun e w' => e = .returned (.bool true) ∧ Below W.heap.size W w')
  (hd : PgD w (.slice a1 n1 c1) (.slice a2 n2 c2) (.slice a3 n3 c3) g) (ho : okP g) (hb : BdP g) (hcnt : g.locs.length ≤ 3100 ∧ g.ths.length ≤ 3100 ∧ g.cls.length ≤ 3100) :
  Calls Tryz.prog 5 #[.agg #[.int .i64 g.mod,.slice a1 n1 c1,.slice a2 n2 c2,.slice a3 n3 c3]] w fun e w' => e = .returned (.bool true) ∧ Below w.heap.size w w':=by
 have HF:=Lib.hid hf
 have HT:=Lib.hid ht
 have HW:=Lib.hid hw
 have hz:=pmOK_of hb ho
 have hr:=(rightPB_ok g).2 ho
 have htl:=text_le hb ho
 obtain ⟨T,hT⟩ : ∃ T,T = (⟨(textP g).toArray⟩ : ByteArray):=⟨_,rfl⟩
 have hTd : T.data.toList = textP g:=by rw [hT]
 have hTs : T.size = (textP g).length:=by rw [Lib.size_eq,hTd]
 obtain ⟨⟨g2,k2,a2'⟩,hR2⟩ : ∃ R,R = parseG (textP g):=⟨_,rfl⟩
 have hbd2 : T.size ≤ 20000 → k2 = 0 ∧ a2' = 0 ∧ g2.er = g.er ∧ okP g2 ∧ textP g2 = textP g ∧ BdP g2:=by
  intro h20
  obtain ⟨g',h1,h2,h3,h4⟩:=prog_round ho (by omega)
  have hb2:=parse_few (textP g) (by omega)
  rw [h1] at hR2 hb2
  cases hR2
  exact ⟨rfl,rfl,h2,h3,h4,hb2⟩
 have HP2:=Lib.hid (fun (W : World) (h : Below w.heap.size w W) => gparse_any T W (ht.below h).1 (hw.below h) (by rw [hTs]; unfold maxLen; omega))
 rw [hTd,← hR2] at HP2
 have HSHOW:=Lib.hid (fun (W : World) (x y z : Value) (hd : PgD W x y z g) (h : Below w.heap.size w W) => pshow_yes g x y z W hd hz (hf.below h) (ht.below h) (hw.below h) hr hcnt)
 rw [← hT] at HSHOW
 have HRI:=Lib.hid (fun (W : World) (x y z : Value) (hd : PgD W x y z g) (h : Below w.heap.size w W) => pright_any g x y z W hd hz (hf.below h))
 rw [hr] at HRI
 have HSM:=Lib.hid (fun (W : World) (x1 y1 z1 x2 y2 z2 : Value) (hd : PgD W x1 y1 z1 g) (hd2 : PgD W x2 y2 z2 g2) (he : g.er = g2.er) => rpsame_any false g g2 x1 y1 z1 x2 y2 z2 W hd hd2 (alike_er hb he))
 have HS2:=Lib.hid (fun (W : World) (x y z : Value) (hd : PgD W x y z g2) (h : Below w.heap.size w W) (ho2 : okP g2) (hb2 : BdP g2) (hc2 : g2.locs.length ≤ 3100 ∧ g2.ths.length ≤ 3100 ∧ g2.cls.length ≤ 3100) (he : textP g2 = textP g) => (by
  have hh:=pshow_yes g2 x y z W hd (pmOK_of hb2 ho2) (hf.below h) (ht.below h) (hw.below h) ((rightPB_ok g2).2 ho2) hc2
  rw [he,← hT] at hh
  exact hh : Calls Tryz.prog 17 #[.agg #[.int .i64 g2.mod,x,y,z]] W fun e w' => e = .returned (.string T) ∧ Below W.heap.size W w'))
 have hc2 : g2.er = g.er → g2.locs.length ≤ 3100 ∧ g2.ths.length ≤ 3100 ∧ g2.cls.length ≤ 3100:=by
  intro he
  have e1:=congrArg (fun p : Pg => p.locs.length) he
  have e2:=congrArg (fun p : Pg => p.ths.length) he
  have e3:=congrArg (fun p : Pg => p.cls.length) he
  simp only [Pg.er,List.length_map] at e1 e2 e3
  omega
 have HBK:=Lib.hid hbd2
 have HC2:=Lib.hid hc2
 obtain ⟨n,hn⟩ : ∃ n,n = T.size:=⟨_,rfl⟩
 have hnl : n ≤ 1000000000000000000:=by omega
 obtain ⟨m0,hm0⟩ : ∃ m,m = g.mod:=⟨_,rfl⟩
 obtain ⟨m2,hm2⟩ : ∃ m,m = g2.mod:=⟨_,rfl⟩
 rw [← hm0] at HSHOW HRI HSM hl ⊢
 rw [← hm2] at HS2 HSM
 have HM2:=Lib.hid hm2
 have HN:=Lib.hid hn
 obtain ⟨w0,hw0⟩ : ∃ w0,w0 = w.alloc (.cells #[.int .i64 m0,.slice a1 n1 c1,.slice a2 n2 c2,.slice a3 n3 c3] 27):=⟨_,rfl⟩
 have B0 : Hid (Below w.heap.size w w0):=Lib.hid (by rw [hw0]; exact (Below.refl _ _).alloc (Nat.le_refl _) _)
 have K0 : Hid (Bk w0 w.heap.size 27 #[.int .i64 m0,.slice a1 n1 c1,.slice a2 n2 c2,.slice a3 n3 c3]):=Lib.hid (by rw [hw0]; exact Bk.new w _ _)
 have D0:=Lib.hid (hd.below B0.out)
 have HL:=Lib.hid (hl _ B0.out)
 have HW0:=Lib.hid hw0
 clear hf ht hw hz hr htl hT hTd hTs hR2 hbd2 ho hb hcnt hm0 hm2 hn hl hd hw0 hc2
 go_enter Tryz.func5,Tryz.ntmps5
 go_wp2_with fail
 rw [← HW0.out]
 refine HL.out.mono ?_
 rintro e w1 ⟨rfl,b1⟩
 have B1:=Lib.hid (B0.out.trans (b1.mono B0.out.size))
 have K1:=Lib.hid (K0.out.below b1)
 have D1:=Lib.hid (D0.out.below b1)
 have k0:=K1.out.cell 0
 have k1:=K1.out.cell 1
 have k2:=K1.out.cell 2
 have k3:=K1.out.cell 3
 have kl:=K1.out.lt
 clear b1 K0 D0 HL HW0
 go_wp2_with fail
 refine (HRI.out _ _ _ _ D1.out B1.out).mono ?_
 rintro e w2 ⟨rfl,b2⟩
 have B2:=Lib.hid (B1.out.trans (b2.mono B1.out.size))
 have K2:=Lib.hid (K1.out.below b2)
 have D2:=Lib.hid (D1.out.below b2)
 clear b2 k0 k1 k2 k3 kl K1 D1
 have k0:=K2.out.cell 0
 have k1:=K2.out.cell 1
 have k2:=K2.out.cell 2
 have k3:=K2.out.cell 3
 have kl:=K2.out.lt
 go_wp2_with fail
 refine (HSHOW.out _ _ _ _ D2.out B2.out).mono ?_
 rintro e w2b ⟨rfl,b2⟩
 have B2b:=Lib.hid (B2.out.trans (b2.mono B2.out.size))
 have K2b:=Lib.hid (K2.out.below b2)
 have D2b:=Lib.hid (D2.out.below b2)
 clear b2 k0 k1 k2 k3 kl K2 D2 HSHOW
 go_wp2_with fail
 refine (HP2.out _ B2b.out).mono ?_
 rintro e w3 ⟨a',b',c',rfl,p3,b3⟩
 have E3:=Lib.hid (pgD_of_own p3)
 obtain ⟨da,ma,ea,rfl⟩ : ∃ x n y,a' = .slice x n y:=by obtain ⟨x,y,h,_⟩:=own_shape p3.l; exact ⟨x,_,y,h⟩
 obtain ⟨db,mb,eb,rfl⟩ : ∃ x n y,b' = .slice x n y:=by obtain ⟨x,y,h⟩:=p3.t.shape; exact ⟨x,_,y,h⟩
 obtain ⟨dc,mc,ec,rfl⟩ : ∃ x n y,c' = .slice x n y:=by obtain ⟨x,y,h⟩:=p3.c.shape; exact ⟨x,_,y,h⟩
 simp only [] at p3 ⊢
 rw [← HM2.out]
 have A3 : Below w3.heap.size w3 (w3.alloc (.cells #[.int .i64 m2,.slice da ma ea,.slice db mb eb,.slice dc mc ec] 27)):=(Below.refl _ _).alloc (Nat.le_refl _) _
 have K3:=Lib.hid (Bk.new w3 27 #[.int .i64 m2,.slice da ma ea,.slice db mb eb,.slice dc mc ec])
 have B3:=Lib.hid ((B2b.out.trans (b3.mono B2b.out.size)).trans (A3.mono (B2b.out.trans (b3.mono B2b.out.size)).size))
 have K4:=Lib.hid ((K2b.out.below b3).below A3)
 have D3:=Lib.hid ((D2b.out.below b3).below A3)
 have E4:=Lib.hid (E3.out.below A3)
 obtain ⟨wy,hwy⟩ : ∃ wy,wy = w3.alloc (.cells #[.int .i64 m2,.slice da ma ea,.slice db mb eb,.slice dc mc ec] 27):=⟨_,rfl⟩
 rw [← hwy] at K3 B3 K4 D3 E4
 have HWY:=Lib.hid hwy
 have hlt3 : w3.heap.size < wy.heap.size:=K3.out.lt
 have hsy3:=Lib.hid hlt3
 have hlt1 : w.heap.size < wy.heap.size:=K4.out.lt
 have hsy1:=Lib.hid hlt1
 clear hwy p3 b3 A3 K2b D2b E3 HP2
 have KK:=Lib.hid (fun (W : World) (h : Below wy.heap.size wy W) => (⟨(K4.out.below h).cell 0,(K4.out.below h).cell 1,(K4.out.below h).cell 2,(K4.out.below h).cell 3,(K3.out.below h).cell 0,(K3.out.below h).cell 1,(K3.out.below h).cell 2,(K3.out.below h).cell 3⟩ : W.cell? ⟨w.heap.size,0,none⟩ = some (.int .i64 m0) ∧ W.cell? ⟨w.heap.size,1,none⟩ = some (.slice a1 n1 c1) ∧ W.cell? ⟨w.heap.size,2,none⟩ = some (.slice a2 n2 c2) ∧ W.cell? ⟨w.heap.size,3,none⟩ = some (.slice a3 n3 c3) ∧ W.cell? ⟨w3.heap.size,0,none⟩ = some (.int .i64 m2) ∧ W.cell? ⟨w3.heap.size,1,none⟩ = some (.slice da ma ea) ∧ W.cell? ⟨w3.heap.size,2,none⟩ = some (.slice db mb eb) ∧ W.cell? ⟨w3.heap.size,3,none⟩ = some (.slice dc mc ec)))
 have k0:=K4.out.cell 0
 have k1:=K4.out.cell 1
 have k2':=K4.out.cell 2
 have k3:=K4.out.cell 3
 have k4:=K3.out.cell 0
 have k5:=K3.out.cell 1
 have k6:=K3.out.cell 2
 have k7:=K3.out.cell 3
 have bb : Below wy.heap.size wy wy:=Below.refl _ _
 clear K3 K4
 by_cases hl : 20000 < n
 ·have q7 : decide ((20000 : Int) < (T.size : Int)) = true:=decide_eq_true (by rw [← HN.out]; omega)
  have q8 : decide (20000 < T.size) = true:=decide_eq_true (by rw [← HN.out]; omega)
  have q9 : 20000 < T.size:=by rw [← HN.out]; omega
  go_wp2_with fail
  rw [← HWY.out]
  refine (pknown_any _ (HF.out.below B3.out) (HT.out.below B3.out) (HW.out.below B3.out)).mono ?_
  rintro e w7 ⟨rfl,b7⟩
  go_wp2
  go_ret
  exact ⟨rfl,B3.out.trans (b7.mono B3.out.size)⟩
 ·obtain ⟨rfl,rfl,her,ho2,htx,hb2⟩:=HBK.out (by rw [← HN.out]; omega)
  have hcc:=HC2.out her
  have HER:=Lib.hid her.symm
  have HO2:=Lib.hid ho2
  have HB2:=Lib.hid hb2
  have HCC:=Lib.hid hcc
  have HTX:=Lib.hid htx
  clear her ho2 hb2 hcc htx HC2 HBK
  have q7 : decide ((20000 : Int) < (T.size : Int)) = false:=decide_eq_false (by rw [← HN.out]; omega)
  have q8 : decide (20000 < T.size) = false:=decide_eq_false (by rw [← HN.out]; omega)
  have q9 : ¬ 20000 < T.size:=by rw [← HN.out]; omega
  have q10 : ¬ (20000 : Int) < (T.size : Int):=by omega
  rw [HWY.out] at k0 k1 k2' k3 k4 k5 k6 k7 hlt3 hlt1
  go_wp2_with fail
  rw [← HWY.out]
  clear k0 k1 k2' k3 k4 k5 k6 k7 hlt3 hlt1
  refine (HSM.out _ _ _ _ _ _ _ D3.out E4.out HER.out).mono ?_
  rintro e w5 ⟨rfl,b5⟩
  have bb:=b5
  have E5:=Lib.hid (E4.out.below b5)
  have B5:=Lib.hid (B3.out.trans (b5.mono B3.out.size))
  obtain ⟨k0,k1,k2',k3,k4,k5,k6,k7⟩:=KK.out _ b5
  have hl5:=b5.size
  have hlt3 : w3.heap.size < w5.heap.size:=by have:=hsy3.out; omega
  have hlt1 : w.heap.size < w5.heap.size:=by have:=hsy1.out; omega
  clear b5
  go_wp2_with fail
  refine (HS2.out _ _ _ _ E5.out B5.out HO2.out HB2.out HCC.out HTX.out).mono ?_
  rintro e w6 ⟨rfl,b6⟩
  have B6:=Lib.hid (B5.out.trans (b6.mono B5.out.size))
  clear b6 k0 k1 k2' k3 k4 k5 k6 k7 hlt3 hlt1
  go_wp2_with fail
  refine (pknown_any _ (HF.out.below B6.out) (HT.out.below B6.out) (HW.out.below B6.out)).mono ?_
  rintro e w7 ⟨rfl,b7⟩
  go_wp2
  go_ret
  exact ⟨rfl,B6.out.trans (b7.mono B6.out.size)⟩
open Go.ChangeShapes Go.WideShapes Go.ChangeAt Go.RowKit
open Go.ChangeMaps (open_string shut_string)
theorem gWords : Tryz.prog.globalNamed "spinnaker/prog.words" = some 0 := by kernel_rfl
theorem tWords : (Tryz.prog.globals[0]?).map (·.type) = some 94:=by kernel_rfl
theorem uWords : Tryz.prog.underlying 94 = some (.array 4 9):=by kernel_rfl
theorem cWords : Tryz.prog.cellsOf 94 = 4:=by kernel_rfl
theorem wds_of_laid {W : World} (h : laidMetH Tryz.prog laid6 W) : Wds W:=by
 rw [MakeChecks.laidMetH_plain _ _ _ (by kernel_rfl)] at h
 obtain ⟨ps,⟨g0,t0,cs0,f0,p0,q0,hg0,ht0,hv0,hd0,⟨g1,t1,cs1,f1,p1,q1,hg1,ht1,hv1,hd1,⟨g2,t2,cs2,f2,p2,q2,hg2,ht2,hv2,hd2,⟨g3,t3,cs3,f3,p3,q3,hg3,ht3,hv3,hd3,⟨g4,t4,cs4,f4,p4,q4,hg4,ht4,hv4,hd4,⟨g5,t5,cs5,f5,p5,q5,hg5,ht5,hv5,hd5,_,_⟩,_⟩,_⟩,_⟩,_⟩,_⟩,_,_⟩:=h
 obtain rfl:=Option.some.inj (gWords.symm.trans hg5)
 obtain rfl:=Option.some.inj (tWords.symm.trans ht5)
 have hall : ∀ i,i < 4 → W.cell? ⟨0,i,none⟩ = some (.string ⟨(wdsL.getD i []).toArray⟩):=by
  intro i hi
  obtain ⟨xs,m,rfl,hx,hl,hxl,hel⟩:=DataW.trod_array uWords hd5
  have hi':=hel i hi
  rw [c9,Nat.mul_one] at hi'
  rw [cWords] at hl
  rw [World.var?_cell hg5 hv5 i]
  simp only [Prod.mk.injEq] at hx
  have hxi : i < xs.length:=by omega
  rw [List.getElem?_eq_getElem hxi] at hi'
  obtain ⟨sb,e1,e2,_⟩:=DataW.trod_string Tryz.underlying9 hi'
  have hci : i < cs5.toList.length:=by omega
  have e3 : cs5.toList[i] = .string sb:=by
   have:=congrArg (·[0]?) e1
   simpa [List.getElem?_take,List.getElem?_drop,List.getElem?_eq_getElem hci] using this
  have e4 : (Rows.laid_spinnaker_prog_words : DataW Unit) = .agg (wdsL.map fun l => .lit (.string l)):=rfl
  rw [e4,DataW.agg.injEq] at hx
  have e5:=congrArg (·[i]?) hx.1
  simp only [List.getElem?_map,List.getElem?_eq_getElem hxi,Option.map_some,e2] at e5
  have hti : i < wdsL.length:=hi
  rw [List.getElem?_eq_getElem hti,Option.map_some,Option.some.injEq,DataW.lit.injEq,Lit.string.injEq] at e5
  have e6 : cs5[i]? = some (.string sb):=by
   rw [← e3,← Array.getElem?_toList,List.getElem?_eq_getElem hci]
  rw [e6]
  refine congrArg some (congrArg Value.string ?_)
  refine ByteArray.ext ?_
  rw [List.getD_eq_getElem?_getD,List.getElem?_eq_getElem hti,Option.getD_some,e5]
 exact ⟨World.block_lt_of_cell? W ⟨0,0,none⟩ (hall 0 (by decide)),hall⟩
theorem door_met (os : Os) (args : Array Value) : laidMetH Tryz.prog laid6 ((World.doorLaid Tryz.prog 400 os).forCall (fun _ _ => 0) ⟨#[],args,[]⟩).memory:=
 laidMetH_of_parts3 (fuel:=8) (laidMet_of_run' 8 (by kernel_rfl) (by kernel_rfl)) (by kernel_rfl) (by kernel_rfl)
theorem PgL.below {w w' : World} {pv : Value} {m : Int} {vs : List Vr} {ts : List TI} {cs : List CI} (h : PgL w pv m vs ts cs) (hb : Below w.heap.size w w') : PgL w' pv m vs ts cs:=by
 obtain ⟨⟨lv,tv,cv,e,h1,h2,h3⟩,n1,n2,n3,n4,n5⟩:=h
 exact ⟨⟨lv,tv,cv,e,VrsD.below h1 hb,ThsD.below h2 hb,ClsD.below h3 hb⟩,n1,n2,n3,n4,n5⟩
theorem progBack_walk (pv : Value) (m : Int) (vs : List Vr) (ts : List TI) (cs : List CI) (w : World) (hp : PgL w pv m vs ts cs) (hf : Flds w) (hw : Wds w) (ht : Tabs w) :
  Calls Tryz.prog 5 #[pv] w fun e w' => e = .returned (.bool true) ∧ Below w.heap.size w w':=by
 have hL : ∀ R,lightP vs ts cs = R → ∀ W,Below w.heap.size w W → Calls Tryz.prog 12 #[pv] W fun e w' => e = .returned (.bool R) ∧ Below W.heap.size W w':=fun R hR W hb => light4_any pv m vs ts cs W (hp.below hb) R hR
 obtain ⟨lv,tv,cv,rfl,h1,h2,h3⟩:=hp.v
 obtain ⟨a1,c1,rfl⟩:=h1.shape
 obtain ⟨a2,c2,rfl⟩:=h2.shape
 obtain ⟨a3,c3,rfl⟩:=h3.shape
 have hd : PgD w (.slice a1 vs.length c1) (.slice a2 ts.length c2) (.slice a3 cs.length c3) (pgOf m vs ts cs):=⟨h1,⟨ts,rfl,h2⟩,cs,rfl,h3⟩
 cases h : lightP vs ts cs with
 | false => exact pback_heavy m _ _ _ _ _ _ _ _ _ w hf ht hw (hL false h)
 | true =>
  obtain ⟨hz,hb,n1,n2,n3⟩:=light_bd (m:=m) h
  cases hr : rightPB (pgOf m vs ts cs) with
  | false =>
   refine pback_wrong m _ _ _ _ _ _ _ _ _ w hf ht hw (hL true h) fun W hB => ?_
   have hh:=pright_any (pgOf m vs ts cs) _ _ _ W (hd.below hB) hz (hf.below hB)
   rw [hr] at hh
   exact hh
  | true =>
   exact pback_right (pgOf m vs ts cs) a1 a2 a3 _ _ _ c1 c2 c3 w hf ht hw (hL true h) hd ((rightPB_ok _).1 hr) hb ⟨by show vs.length ≤ _; omega,by show (ts.map (·.1)).length ≤ _; rw [List.length_map]; omega,by show (cs.map (·.1)).length ≤ _; rw [List.length_map]; omega⟩
theorem ownProgBack : ownKnob Tryz.prog.godebug = none:=by kernel_rfl
theorem laidProgBack : laidOutB Tryz.prog = true:=by kernel_rfl
set_option linter.unusedVariables false in
theorem progBack_lifted (os : Os) (started : os.Started) (H : Type) (enc : TypeId × Value → H) :
  ReturnsInHanded {} Tryz.checked os 5 .any (fun w args => (Rows.progBackSpec.pre enc Tryz.prog Tryz.f5 [] false w args ∧ laidMetH Tryz.prog laid6 w) ∧ sizedMet enc Tryz.prog Tryz.f5 (OpenSpec.ofChange Rows.progBackSpec) false w args) (Rows.progBackSpec.post enc Tryz.prog Tryz.f5 false true false false):=by
 refine returnsInHanded_of_change_and (C:=Tryz.checked) (X:=fun w _ => laidMetH Tryz.prog laid6 w) (fun _ _ _ hh h => h.of_heap hh) ownProgBack started (by kernel_rfl) Tryz.func5
  (ChangeSpec.witness_shaped (enc:=enc) (C:=Tryz.checked) (os:=os) (X:=fun w _ => laidMetH Tryz.prog laid6 w) false (World.doorLaid Tryz.prog 400 os) #[.agg #[.int .i64 0,.slice none 0 0,.slice none 0 0,.slice none 0 0]] 8 rfl (World.shaped_of_RefB (by kernel_rfl) (by kernel_rfl)) (by kernel_rfl) (by kernel_rfl) (by kernel_rfl) (door_met os _)) ?_
 intro W base args ds gs before hval0 hW _ _ hL _
 have HT:=tabs_of_laid hL
 have hval : ∀ (j : Nat) t v,Tryz.f5.params[j]? = some t → args[j]? = some v → Value.okWide Tryz.prog W .any base t v:=hval0
 have hW':=hW
 obtain ⟨p,q,hA0,hV,rfl,hfz,hnd⟩:=hW
 have hA : DataW.TrodAll enc Tryz.prog W 0 (fun _ => true) true Tryz.f5.params.toList args.toList ds p:=hA0
 rw [Tryz.params5] at hA hval
 obtain ⟨v0,vs0,d0,ds0,p0,q0,hargs,rfl,rfl,h0,r0⟩:=trodAll_cons hA
 obtain ⟨rfl,rfl,rfl⟩:=trodAll_nil r0
 obtain rfl : args = #[v0]:=by cases args; simp_all
 obtain ⟨rfl,rfl⟩:=trodVars_none hV
 have k0:=h0
 have lt0 : ∀ x ∈ p0,x.block < W.heap.size:=by obtain ⟨m,hm⟩:=k0; exact DataW.trod_lt m _ _ _ hm
 obtain ⟨m,vs,ts,cs,hp⟩:=open_prog (hval 0 27 v0 rfl rfl) h0
 clear hA0 hval0
 refine (progBack_walk v0 m vs ts cs W hp (flds_of_laid hL) (wds_of_laid hL) HT).mono fun e W' ⟨he,bel⟩ => ?_
 subst he
 exact ⟨_,rfl,_,_,_,[],_,[],hW',trodAll_mk1 (shut_bool Tryz.underlying4 _),(trodAll_cons_mk (Below.trod laidProgBack (by kernel_rfl) (of_decide_eq_true (by kernel_rfl)) k0 bel lt0) trodAll_mk0),rfl,bel.frame _,fun h => by cases h⟩
theorem progBack_holds : Rows.ProgBackSaid:=
 OpenClaim.holds_of_wide 5 Tryz.f5 rfl rfl rfl rfl rfl rfl rfl ⟨rfl,rfl,rfl,rfl,rfl⟩ rfl rfl rfl rfl rfl (by kernel_rfl) Tryz.func5 (by kernel_rfl)
  (of_decide_eq_true (by kernel_rfl)) (by unfold Func.isWrapper; first | (rw [if_pos (by decide +kernel)]; kernel_rfl) | (rw [if_neg (by decide +kernel)]; exact ⟨rfl,rfl⟩))
  (fun os started H enc _ => progBack_lifted os started H enc)
theorem progBack_card : Rows.ProgBackCardSaid:=
 Claim7.holds_tied_plain_at .later [] [.data, .data, .data, .data, .data, .data] true (true, "19bb8aa1d8061144c491f764c0f8ea02cd7951f68cd56ffc1c4bb9faba466245") false
  progBack_holds (fun _ h => by cases h) (by kernel_rfl) (fun _ h => by cases h) progBack_row_tie rfl ⟨rfl,rfl⟩ (by kernel_rfl) rfl
  (fun f fn hf hfn => by
   obtain rfl : f = 5 := Option.some.inj ((show Tryz.prog.funcNamed "spinnaker/spinnakerlaw04.ProgBack" = some 5 by kernel_rfl).symm.trans hf) |>.symm
   obtain rfl : fn = Tryz.f5:=(Option.some.inj (Tryz.func5.symm.trans hfn)).symm
   exact ⟨by kernel_rfl,fun j t ht => by
    rw [Tryz.params5] at ht
    have hm : t ∈ [27]:=by simpa using Array.mem_of_getElem? ht
    have hall : ([27].all fun u => !Tryz.prog.wantsStandIn u) = true:=by kernel_rfl
    exact (show Tryz.prog.wantsStandIn t = false by simpa using List.all_eq_true.1 hall t hm)⟩)
  (by kernel_rfl)
end Go.Proofs.YtcghccjnadagcaaGreatDoor
