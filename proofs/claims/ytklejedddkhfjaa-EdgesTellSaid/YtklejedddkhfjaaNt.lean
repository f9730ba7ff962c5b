/- Layer 14's law: known. -/
import Derived.Test.YtklejedddkhfjaaNs
import Derived.Test.YtklejedddkhfjaaNr
import Derived.Test.YtklejedddkhfjaaNn
namespace Go.Proofs.Ytklejedddkhfjaa
set_option linter.unusedSimpArgs false
set_option linter.unusedVariables false
open Go.RowKit

abbrev kL : List Edg := [(1, 2, 0), (0, 3, 1), (1, 4, 1)]
abbrev kG : Gr := ⟨[0, 1, 3, 3], [3, 2, 4], [1, 0, 1]⟩
abbrev kB : Gr := ⟨[0, 1, 3, 3], [2, 3, 4], [1, 0, 1]⟩
abbrev kK : Gr := ⟨[0, 0, 1, 1], [4], [1]⟩
theorem k1 : buildG 3 kL = kG ∧ buildE 3 kL = 0 ∧ buildG 1 [(0, 0, 1)] = noG ∧ buildE 1 [(0, 0, 1)] = 1 := ⟨by kernel_rfl, by kernel_rfl, by kernel_rfl, by kernel_rfl⟩
theorem k2 : backZ kG = kB ∧ keepZ kG [false, true] = kK ∧ rightG kG = true ∧ (if rightG kG = true then numN kG else 0) = 3 := ⟨by kernel_rfl, by kernel_rfl, by kernel_rfl, by kernel_rfl⟩
theorem k3 : outZ kG 1 = [(1, 2, 0), (1, 4, 1)] ∧ allZ kG = [(0, 3, 1), (1, 2, 0), (1, 4, 1)] ∧ outZ kB 1 = [(1, 3, 0), (1, 4, 1)] ∧ allZ kK = [(1, 4, 1)] := ⟨by kernel_rfl, by kernel_rfl, by kernel_rfl, by kernel_rfl⟩
theorem k4 : ReachZ kG [0] [true, true, false] := by
  have hR := right_RG kG k2.2.2.1
  have hA : allL kG = [(0, 3, 1), (1, 2, 0), (1, 4, 1)] := by kernel_rfl
  refine ⟨fun _ => isR_of hR.allOk rfl (fun i hi => ?_) (fun x hx h0 h1 => ?_) (fun e he h1 => ?_), fun h => by rw [k2.2.2.1] at h; cases h⟩
  · have r0 : Rch (allL kG) [0] (numN kG) 0 := .base 0 (by simp) (by decide) (by decide)
    have r1 : Rch (allL kG) [0] (numN kG) 1 := .step (0, 3, 1) (by rw [hA]; simp) r0
    match i, hi with
    | 0, _ => exact r0
    | 1, _ => exact r1
    | 2, h => simp at h
    | i + 3, h => simp at h
  · rw [List.mem_singleton] at hx
    subst hx
    rfl
  · rw [hA] at he
    simp at he
    rcases he with rfl | rfl | rfl <;> rfl

theorem GrD.sh {w : World} {vs va vt : Value} {g : Gr} (h : GrD w vs va vt g) : ∃ z1 n1 y1 z2 n2 y2 z3 n3 y3, vs = .slice z1 n1 y1 ∧ va = .slice z2 n2 y2 ∧ vt = .slice z3 n3 y3 := by
  obtain ⟨a1, p1, h1⟩ := h.s.shape0
  obtain ⟨a2, p2, h2⟩ := h.a.shape0
  obtain ⟨a3, p3, h3⟩ := h.t.shape0
  exact ⟨_, _, _, _, _, _, _, _, _, h1, h2, h3⟩
theorem SlD.sh {α : Type} {S : Nat} {R : World → Nat → Nat → α → Prop} {w : World} {v : Value} {xs : List α} (h : SlD S R w v xs) : ∃ z y, v = .slice z xs.length y := h.shape0
theorem trusD_of_bk {w : World} {g : Nat} {xs : List Bool} {n : Nat} (h : BkT w g xs) (hn : xs.length = n) (hl : n ≤ 1000000) : TrusD w (.slice (some ⟨g, 0, none⟩) n n) xs := h.trus hn hl
set_option maxRecDepth 100000 in
set_option maxHeartbeats 8000000 in
theorem known_any (w : World) : Calls Try.prog 8 #[] w fun e w' => e = .returned (.bool true) ∧ Below w.heap.size w w' := by
  go_enter Try.func8, Try.ntmps8
  have E1 := Lib.hid (edgsD_of_bk (w := w.alloc (.cells (rowG kL).toArray 44)) (g := w.heap.size) (xs := kL) (n := 3) (Bk.new w _ _) rfl (by decide))
  have B1 := Lib.hid (bal (Below.refl w.heap.size w) (.cells (rowG kL).toArray 44))
  go_wp2_with fail
  refine (build_any 3 kL _ _ E1.out (by decide) (by decide)).mono ?_
  rintro e w1 ⟨us, ua, ut, rfl, gd, b1⟩
  rw [k1.1] at gd
  rw [k1.2.1]
  obtain ⟨a1, an1, ac1, a2, an2, ac2, a3, an3, ac3, rfl, rfl, rfl⟩ := gd.sh
  have BA := Lib.hid (B1.out.trans (b1.mono B1.out.size))
  have DA := Lib.hid (gd.below ((Below.refl w1.heap.size w1).alloc (Nat.le_refl _) (.cells #[.slice a1 an1 ac1, .slice a2 an2 ac2, .slice a3 an3 ac3] 26)))
  have KA := Lib.hid (Bk.new w1 26 #[.slice a1 an1 ac1, .slice a2 an2 ac2, .slice a3 an3 ac3])
  have BB := Lib.hid (bal BA.out (.cells #[.slice a1 an1 ac1, .slice a2 an2 ac2, .slice a3 an3 ac3] 26))
  clear gd b1 E1 B1 BA
  go_upto_region 2 with fail
  obtain ⟨ga, hga⟩ : ∃ x, x = w1.heap.size := ⟨_, rfl⟩
  rw [← hga] at KA ⊢
  generalize World.alloc w1 _ = w2 at DA KA BB ⊢
  clear hga
  have E2 := Lib.hid (edgsD_of_bk (w := w2.alloc (.cells (rowG [(0, 0, 1)]).toArray 44)) (g := w2.heap.size) (xs := [(0, 0, 1)]) (n := 1) (Bk.new w2 _ _) rfl (by decide))
  have b2 := (Below.refl w2.heap.size w2).alloc (Nat.le_refl _) (.cells (rowG [(0, 0, 1)]).toArray 44)
  replace DA := Lib.hid (DA.out.below b2)
  replace KA := Lib.hid (KA.out.below b2)
  replace BB := Lib.hid (BB.out.trans (b2.mono BB.out.size))
  clear b2
  go_wp2_with fail
  refine (build_any 1 [(0, 0, 1)] _ _ E2.out (by decide) (by decide)).mono ?_
  rintro e w3 ⟨us, ua, ut, rfl, gd, b3⟩
  rw [k1.2.2.2]
  obtain ⟨d1, dn1, dc1, d2, dn2, dc2, d3, dn3, dc3, rfl, rfl, rfl⟩ := gd.sh
  replace DA := Lib.hid (DA.out.below b3)
  replace KA := Lib.hid (KA.out.below b3)
  replace BB := Lib.hid (BB.out.trans (b3.mono BB.out.size))
  have b4 := (Below.refl w3.heap.size w3).alloc (Nat.le_refl _) (.cells #[.slice d1 dn1 dc1, .slice d2 dn2 dc2, .slice d3 dn3 dc3] 26)
  replace DA := Lib.hid (DA.out.below b4)
  replace KA := Lib.hid (KA.out.below b4)
  replace BB := Lib.hid (BB.out.trans (b4.mono BB.out.size))
  clear gd b3 b4 E2
  go_upto_region 3 with fail
  obtain ⟨gd3, hgd3⟩ : ∃ x, x = w3.heap.size := ⟨_, rfl⟩
  rw [← hgd3]
  generalize World.alloc w3 _ = w4 at DA KA BB ⊢
  clear hgd3
  have c0 := KA.out.cell 0
  have c1 := KA.out.cell 1
  have c2 := KA.out.cell 2
  have lk := KA.out.lt
  go_wp2_with fail
  refine (back_any kG _ _ _ _ DA.out ⟨by decide, by decide, by decide⟩).mono ?_
  rintro e w5 ⟨us, ua, ut, rfl, gd, b5⟩
  rw [k2.1] at gd
  obtain ⟨e1, en1, ec1, e2, en2, ec2, e3, en3, ec3, rfl, rfl, rfl⟩ := gd.sh
  clear c0 c1 c2 lk
  replace DA := Lib.hid (DA.out.below b5)
  replace KA := Lib.hid (KA.out.below b5)
  replace BB := Lib.hid (BB.out.trans (b5.mono BB.out.size))
  have b6 := (Below.refl w5.heap.size w5).alloc (Nat.le_refl _) (.cells #[.slice e1 en1 ec1, .slice e2 en2 ec2, .slice e3 en3 ec3] 26)
  replace DA := Lib.hid (DA.out.below b6)
  replace KA := Lib.hid (KA.out.below b6)
  replace BB := Lib.hid (BB.out.trans (b6.mono BB.out.size))
  have DE := Lib.hid (gd.below b6)
  have KE := Lib.hid (Bk.new w5 26 #[.slice e1 en1 ec1, .slice e2 en2 ec2, .slice e3 en3 ec3])
  clear gd b5 b6
  go_upto_region 4 with fail
  obtain ⟨ge, hge⟩ : ∃ x, x = w5.heap.size := ⟨_, rfl⟩
  rw [← hge] at KE ⊢
  generalize World.alloc w5 _ = w6 at DA KA DE KE BB ⊢
  clear hge
  have T7 := Lib.hid (trusD_of_bk (w := w6.alloc (.cells (truths [false, true]).toArray 4)) (g := w6.heap.size) (xs := [false, true]) (n := 2) (Bk.new w6 _ _) rfl (by decide))
  have b7 := (Below.refl w6.heap.size w6).alloc (Nat.le_refl _) (.cells (truths [false, true]).toArray 4)
  have c0 := KA.out.cell 0
  have c1 := KA.out.cell 1
  have c2 := KA.out.cell 2
  have lk := KA.out.lt
  replace DA := Lib.hid (DA.out.below b7)
  replace DE := Lib.hid (DE.out.below b7)
  replace KA := Lib.hid (KA.out.below b7)
  replace KE := Lib.hid (KE.out.below b7)
  replace BB := Lib.hid (BB.out.trans (b7.mono BB.out.size))
  clear b7
  go_wp2_with fail
  refine (keep_any kG [false, true] _ _ _ _ _ DA.out T7.out ⟨by decide, by decide, by decide⟩ (by decide)).mono ?_
  rintro e w8 ⟨us, ua, ut, rfl, gd, b8⟩
  rw [k2.2.1] at gd
  obtain ⟨f1, fn1, fc1, f2, fn2, fc2, f3, fn3, fc3, rfl, rfl, rfl⟩ := gd.sh
  clear c0 c1 c2 lk T7
  replace DA := Lib.hid (DA.out.below b8)
  replace DE := Lib.hid (DE.out.below b8)
  replace KA := Lib.hid (KA.out.below b8)
  replace KE := Lib.hid (KE.out.below b8)
  replace BB := Lib.hid (BB.out.trans (b8.mono BB.out.size))
  have b9 := (Below.refl w8.heap.size w8).alloc (Nat.le_refl _) (.cells #[.slice f1 fn1 fc1, .slice f2 fn2 fc2, .slice f3 fn3 fc3] 26)
  replace DA := Lib.hid (DA.out.below b9)
  replace DE := Lib.hid (DE.out.below b9)
  replace KA := Lib.hid (KA.out.below b9)
  replace KE := Lib.hid (KE.out.below b9)
  replace BB := Lib.hid (BB.out.trans (b9.mono BB.out.size))
  have DF := Lib.hid (gd.below b9)
  have KF := Lib.hid (Bk.new w8 26 #[.slice f1 fn1 fc1, .slice f2 fn2 fc2, .slice f3 fn3 fc3])
  clear gd b8 b9
  go_upto_region 5 with fail
  obtain ⟨gf, hgf⟩ : ∃ x, x = w8.heap.size := ⟨_, rfl⟩
  rw [← hgf] at KF ⊢
  generalize World.alloc w8 _ = w9 at DA KA DE KE DF KF BB ⊢
  clear hgf
  have c0 := KA.out.cell 0
  have c1 := KA.out.cell 1
  have c2 := KA.out.cell 2
  have lk := KA.out.lt
  go_wp2_with fail
  refine (right14_any kG _ _ _ _ DA.out ⟨by decide, by decide, by decide⟩ true k2.2.2.1).mono ?_
  rintro e w10 ⟨rfl, b10⟩
  clear c0 c1 c2 lk
  replace DA := Lib.hid (DA.out.below b10)
  replace DE := Lib.hid (DE.out.below b10)
  replace DF := Lib.hid (DF.out.below b10)
  replace KA := Lib.hid (KA.out.below b10)
  replace KE := Lib.hid (KE.out.below b10)
  replace KF := Lib.hid (KF.out.below b10)
  replace BB := Lib.hid (BB.out.trans (b10.mono BB.out.size))
  clear b10
  have c0 := KA.out.cell 0
  have c1 := KA.out.cell 1
  have c2 := KA.out.cell 2
  have lk := KA.out.lt
  go_wp2_with fail
  refine (nodes_any kG _ _ _ _ DA.out ⟨by decide, by decide, by decide⟩ 3 k2.2.2.2).mono ?_
  rintro e w11 ⟨rfl, b11⟩
  clear c0 c1 c2 lk
  replace DA := Lib.hid (DA.out.below b11)
  replace DE := Lib.hid (DE.out.below b11)
  replace DF := Lib.hid (DF.out.below b11)
  replace KA := Lib.hid (KA.out.below b11)
  replace KE := Lib.hid (KE.out.below b11)
  replace KF := Lib.hid (KF.out.below b11)
  replace BB := Lib.hid (BB.out.trans (b11.mono BB.out.size))
  clear b11
  have c0 := KA.out.cell 0
  have c1 := KA.out.cell 1
  have c2 := KA.out.cell 2
  have lk := KA.out.lt
  go_wp2_with fail
  refine (out_any kG _ _ _ _ DA.out ⟨by decide, by decide, by decide⟩ 1).mono ?_
  rintro e w12 ⟨v, rfl, vd, b12⟩
  rw [k3.1] at vd
  obtain ⟨z, y, rfl⟩ := SlD.sh vd
  clear c0 c1 c2 lk
  replace DA := Lib.hid (DA.out.below b12)
  replace DE := Lib.hid (DE.out.below b12)
  replace DF := Lib.hid (DF.out.below b12)
  replace KA := Lib.hid (KA.out.below b12)
  replace KE := Lib.hid (KE.out.below b12)
  replace KF := Lib.hid (KF.out.below b12)
  replace BB := Lib.hid (BB.out.trans (b12.mono BB.out.size))
  have VD := Lib.hid vd
  clear vd b12
  have EL := Lib.hid (edgsD_of_bk (w := w12.alloc (.cells (rowG [((1, 2, 0) : Edg), (1, 4, 1)]).toArray 44)) (g := w12.heap.size) (xs := [((1, 2, 0) : Edg), (1, 4, 1)]) (n := 2) (Bk.new w12 _ _) rfl (by decide))
  have bb := (Below.refl w12.heap.size w12).alloc (Nat.le_refl _) (.cells (rowG [((1, 2, 0) : Edg), (1, 4, 1)]).toArray 44)
  replace VD := Lib.hid (EdgsD.below VD.out bb)
  replace DA := Lib.hid (DA.out.below bb)
  replace DE := Lib.hid (DE.out.below bb)
  replace DF := Lib.hid (DF.out.below bb)
  replace KA := Lib.hid (KA.out.below bb)
  replace KE := Lib.hid (KE.out.below bb)
  replace KF := Lib.hid (KF.out.below bb)
  replace BB := Lib.hid (BB.out.trans (bb.mono BB.out.size))
  clear bb
  go_wp2_with fail
  refine (edges_gen _ _ _ _ _ VD.out EL.out (by decide) true (by decide)).mono ?_
  rintro e w13 ⟨rfl, b13⟩
  replace DA := Lib.hid (DA.out.below b13)
  replace DE := Lib.hid (DE.out.below b13)
  replace DF := Lib.hid (DF.out.below b13)
  replace KA := Lib.hid (KA.out.below b13)
  replace KE := Lib.hid (KE.out.below b13)
  replace KF := Lib.hid (KF.out.below b13)
  replace BB := Lib.hid (BB.out.trans (b13.mono BB.out.size))
  clear VD EL b13
  have c0 := KA.out.cell 0
  have c1 := KA.out.cell 1
  have c2 := KA.out.cell 2
  have lk := KA.out.lt
  go_wp2_with fail
  refine (all_any kG _ _ _ _ DA.out ⟨by decide, by decide, by decide⟩).mono ?_
  rintro e w14 ⟨v, rfl, vd, b14⟩
  rw [k3.2.1] at vd
  obtain ⟨z, y, rfl⟩ := SlD.sh vd
  clear c0 c1 c2 lk
  replace DA := Lib.hid (DA.out.below b14)
  replace DE := Lib.hid (DE.out.below b14)
  replace DF := Lib.hid (DF.out.below b14)
  replace KA := Lib.hid (KA.out.below b14)
  replace KE := Lib.hid (KE.out.below b14)
  replace KF := Lib.hid (KF.out.below b14)
  replace BB := Lib.hid (BB.out.trans (b14.mono BB.out.size))
  clear vd b14
  have c0 := KE.out.cell 0
  have c1 := KE.out.cell 1
  have c2 := KE.out.cell 2
  have lk := KE.out.lt
  go_wp2_with fail
  refine (out_any kB _ _ _ _ DE.out ⟨by decide, by decide, by decide⟩ 1).mono ?_
  rintro e w15 ⟨v, rfl, vd, b15⟩
  rw [k3.2.2.1] at vd
  obtain ⟨z, y, rfl⟩ := SlD.sh vd
  clear c0 c1 c2 lk
  replace DA := Lib.hid (DA.out.below b15)
  replace DE := Lib.hid (DE.out.below b15)
  replace DF := Lib.hid (DF.out.below b15)
  replace KA := Lib.hid (KA.out.below b15)
  replace KE := Lib.hid (KE.out.below b15)
  replace KF := Lib.hid (KF.out.below b15)
  replace BB := Lib.hid (BB.out.trans (b15.mono BB.out.size))
  have VD := Lib.hid vd
  clear vd b15
  have EL := Lib.hid (edgsD_of_bk (w := w15.alloc (.cells (rowG [((1, 3, 0) : Edg), (1, 4, 1)]).toArray 44)) (g := w15.heap.size) (xs := [((1, 3, 0) : Edg), (1, 4, 1)]) (n := 2) (Bk.new w15 _ _) rfl (by decide))
  have bb := (Below.refl w15.heap.size w15).alloc (Nat.le_refl _) (.cells (rowG [((1, 3, 0) : Edg), (1, 4, 1)]).toArray 44)
  replace VD := Lib.hid (EdgsD.below VD.out bb)
  replace DA := Lib.hid (DA.out.below bb)
  replace DE := Lib.hid (DE.out.below bb)
  replace DF := Lib.hid (DF.out.below bb)
  replace KA := Lib.hid (KA.out.below bb)
  replace KE := Lib.hid (KE.out.below bb)
  replace KF := Lib.hid (KF.out.below bb)
  replace BB := Lib.hid (BB.out.trans (bb.mono BB.out.size))
  clear bb
  go_wp2_with fail
  refine (edges_gen _ _ _ _ _ VD.out EL.out (by decide) true (by decide)).mono ?_
  rintro e w16 ⟨rfl, b16⟩
  replace DA := Lib.hid (DA.out.below b16)
  replace DE := Lib.hid (DE.out.below b16)
  replace DF := Lib.hid (DF.out.below b16)
  replace KA := Lib.hid (KA.out.below b16)
  replace KE := Lib.hid (KE.out.below b16)
  replace KF := Lib.hid (KF.out.below b16)
  replace BB := Lib.hid (BB.out.trans (b16.mono BB.out.size))
  clear VD EL b16
  have c0 := KF.out.cell 0
  have c1 := KF.out.cell 1
  have c2 := KF.out.cell 2
  have lk := KF.out.lt
  go_wp2_with fail
  refine (all_any kK _ _ _ _ DF.out ⟨by decide, by decide, by decide⟩).mono ?_
  rintro e w17 ⟨v, rfl, vd, b17⟩
  rw [k3.2.2.2] at vd
  obtain ⟨z, y, rfl⟩ := SlD.sh vd
  clear c0 c1 c2 lk
  replace DA := Lib.hid (DA.out.below b17)
  replace DE := Lib.hid (DE.out.below b17)
  replace DF := Lib.hid (DF.out.below b17)
  replace KA := Lib.hid (KA.out.below b17)
  replace KE := Lib.hid (KE.out.below b17)
  replace KF := Lib.hid (KF.out.below b17)
  replace BB := Lib.hid (BB.out.trans (b17.mono BB.out.size))
  have VD := Lib.hid vd
  clear vd b17
  have EL := Lib.hid (edgsD_of_bk (w := w17.alloc (.cells (rowG [((1, 4, 1) : Edg)]).toArray 44)) (g := w17.heap.size) (xs := [((1, 4, 1) : Edg)]) (n := 1) (Bk.new w17 _ _) rfl (by decide))
  have bb := (Below.refl w17.heap.size w17).alloc (Nat.le_refl _) (.cells (rowG [((1, 4, 1) : Edg)]).toArray 44)
  replace VD := Lib.hid (EdgsD.below VD.out bb)
  replace DA := Lib.hid (DA.out.below bb)
  replace DE := Lib.hid (DE.out.below bb)
  replace DF := Lib.hid (DF.out.below bb)
  replace KA := Lib.hid (KA.out.below bb)
  replace KE := Lib.hid (KE.out.below bb)
  replace KF := Lib.hid (KF.out.below bb)
  replace BB := Lib.hid (BB.out.trans (bb.mono BB.out.size))
  clear bb
  go_wp2_with fail
  refine (edges_gen _ _ _ _ _ VD.out EL.out (by decide) true (by decide)).mono ?_
  rintro e w18 ⟨rfl, b18⟩
  replace DA := Lib.hid (DA.out.below b18)
  replace DE := Lib.hid (DE.out.below b18)
  replace DF := Lib.hid (DF.out.below b18)
  replace KA := Lib.hid (KA.out.below b18)
  replace KE := Lib.hid (KE.out.below b18)
  replace KF := Lib.hid (KF.out.below b18)
  replace BB := Lib.hid (BB.out.trans (b18.mono BB.out.size))
  clear VD EL b18
  have IL := Lib.hid (BkI.ints (w := w18.alloc (.cells (ints [0]).toArray 3)) (g := w18.heap.size) (l := [0]) (Bk.new w18 _ _) (n := 1) rfl (by decide))
  have bb := (Below.refl w18.heap.size w18).alloc (Nat.le_refl _) (.cells (ints [0]).toArray 3)
  have c0 := KA.out.cell 0
  have c1 := KA.out.cell 1
  have c2 := KA.out.cell 2
  have lk := KA.out.lt
  replace DA := Lib.hid (DA.out.below bb)
  replace DE := Lib.hid (DE.out.below bb)
  replace DF := Lib.hid (DF.out.below bb)
  replace KA := Lib.hid (KA.out.below bb)
  replace KE := Lib.hid (KE.out.below bb)
  replace KF := Lib.hid (KF.out.below bb)
  replace BB := Lib.hid (BB.out.trans (bb.mono BB.out.size))
  clear bb
  go_wp2_with fail
  refine (reach_any kG [0] _ _ _ _ _ DA.out IL.out ⟨by decide, by decide, by decide⟩ (by decide)).mono ?_
  rintro e wr ⟨v, r, rfl, rd, rz, br⟩
  have hr := reachZ_one rz k4
  subst hr
  obtain ⟨z, y, rfl⟩ := SlD.sh rd
  have RD := Lib.hid rd
  replace BB := Lib.hid (BB.out.trans (br.mono BB.out.size))
  clear c0 c1 c2 lk rd rz br IL
  have TL := Lib.hid (trusD_of_bk (w := wr.alloc (.cells (truths [true, true, false]).toArray 4)) (g := wr.heap.size) (xs := [true, true, false]) (n := 3) (Bk.new wr _ _) rfl (by decide))
  have bb := (Below.refl wr.heap.size wr).alloc (Nat.le_refl _) (.cells (truths [true, true, false]).toArray 4)
  replace RD := Lib.hid (TrusD.below RD.out bb)
  replace BB := Lib.hid (BB.out.trans (bb.mono BB.out.size))
  clear bb
  go_wp2_with fail
  refine (bools_gen _ _ _ _ _ RD.out TL.out (by decide) true (by decide)).mono ?_
  rintro e wz ⟨rfl, bz⟩
  replace BB := Lib.hid (BB.out.trans (bz.mono BB.out.size))
  clear bz
  go_wp2_with fail
  go_ret
  exact ⟨rfl, BB.out⟩

end Go.Proofs.Ytklejedddkhfjaa
