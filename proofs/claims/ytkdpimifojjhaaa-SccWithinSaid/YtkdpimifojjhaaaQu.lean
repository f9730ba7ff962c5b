/- Layer 17's law: known. -/
import Derived.Test.YtkdpimifojjhaaaQt
import Derived.Test.YtkdpimifojjhaaaPb
namespace Go.Proofs.Ytkdpimifojjhaaa
set_option linter.unusedSimpArgs false
set_option linter.unusedVariables false
open Go.RowKit

set_option maxRecDepth 100000 in
set_option maxHeartbeats 8000000 in
theorem known17_any (w : World) : Calls Try.prog 9 #[] w fun e w' => e = .returned (.bool true) ∧ Below w.heap.size w w' := by
  go_enter Try.func9, Try.ntmps9
  have E1 := Lib.hid (edgsD_of_bk (w := w.alloc (.cells (rowG mL17).toArray 41)) (g := w.heap.size) (xs := mL17) (n := 4) (Bk.new w _ _) rfl (by decide))
  have B1 := Lib.hid (bal (Below.refl w.heap.size w) (.cells (rowG mL17).toArray 41))
  go_wp2_with fail
  refine Calls.mono (rbuild_any 4 mL17 _ _ E1.out (by decide) (by decide)) ?_
  rintro e w1 ⟨us, ua, ut, rfl, gd, b1⟩
  rw [kb1.1] at gd
  rw [kb1.2]
  have BA := Lib.hid (B1.out.trans (b1.mono B1.out.size))
  obtain ⟨a1, an1, ac1, a2, an2, ac2, a3, an3, ac3, rfl, rfl, rfl⟩ := gd.sh17
  have DA := Lib.hid (gd.below ((Below.refl w1.heap.size w1).alloc (Nat.le_refl _) (.cells #[.slice a1 an1 ac1, .slice a2 an2 ac2, .slice a3 an3 ac3] 24)))
  have KA := Lib.hid (Bk.new w1 24 #[.slice a1 an1 ac1, .slice a2 an2 ac2, .slice a3 an3 ac3])
  have BB := Lib.hid (bal BA.out (.cells #[.slice a1 an1 ac1, .slice a2 an2 ac2, .slice a3 an3 ac3] 24))
  clear gd b1 E1 B1 BA
  go_upto_region 2 with fail
  obtain ⟨ga, hga⟩ : ∃ x, x = w1.heap.size := ⟨_, rfl⟩
  rw [← hga] at KA ⊢
  generalize World.alloc w1 _ = w2 at DA KA BB ⊢
  clear hga
  have c0 := KA.out.cell 0
  have c1 := KA.out.cell 1
  have c2 := KA.out.cell 2
  have lA := KA.out.lt
  go_wp2_with fail
  refine Calls.mono (parts_any mG17 _ _ _ w2 DA.out (by decide)) ?_
  rintro e w3 ⟨v1, rfl, hp1, bw3⟩
  replace DA := Lib.hid (DA.out.below bw3)
  replace KA := Lib.hid (KA.out.below bw3)
  replace BB := Lib.hid (BB.out.trans (bw3.mono BB.out.size))
  rw [kp1.1] at hp1
  have HP1 := Lib.hid hp1
  obtain ⟨za1, zc1, rfl⟩ := hp1.shape0
  clear hp1
  clear c0 c1 c2 lA
  have c0 := KA.out.cell 0
  have c1 := KA.out.cell 1
  have c2 := KA.out.cell 2
  have lA := KA.out.lt
  have hb0 : Below w3.heap.size w3 ((w3).alloc (.cells #[.int .i64 0, .int .i64 0, .int .i64 1, .int .i64 2] 3)) := by repeat' (first | with_reducible exact Below.refl _ _ | with_reducible refine bal ?_ _)
  have HL1 := Lib.hid (BkI.ints (l := [0, 0, 1, 2]) (Bk.new w3 3 _) rfl (by decide))
  replace DA := Lib.hid (DA.out.below hb0)
  replace KA := Lib.hid (KA.out.below hb0)
  replace HP1 := Lib.hid (HP1.out.below hb0)
  replace BB := Lib.hid (BB.out.trans (hb0.mono BB.out.size))
  clear hb0
  go_wp2_with fail
  refine Calls.mono (ints_gen [0, 0, 1, 2] [0, 0, 1, 2] _ _ _ HP1.out HL1.out (by decide) true rfl) ?_
  rintro e w4 ⟨rfl, bw4⟩
  replace DA := Lib.hid (DA.out.below bw4)
  replace KA := Lib.hid (KA.out.below bw4)
  replace HP1 := Lib.hid (HP1.out.below bw4)
  replace BB := Lib.hid (BB.out.trans (bw4.mono BB.out.size))
  clear bw4 HP1 HL1
  clear c0 c1 c2 lA
  have c0 := KA.out.cell 0
  have c1 := KA.out.cell 1
  have c2 := KA.out.cell 2
  have lA := KA.out.lt
  go_wp2_with fail
  refine Calls.mono (groups_any mG17 _ _ _ w4 DA.out (by decide)) ?_
  rintro e w5 ⟨v2, z2, rfl, hg2, hz2, bw5⟩
  replace DA := Lib.hid (DA.out.below bw5)
  replace KA := Lib.hid (KA.out.below bw5)
  replace BB := Lib.hid (BB.out.trans (bw5.mono BB.out.size))
  rw [kp1.2] at hz2
  have HG2 := Lib.hid hg2.data
  have HZ2 := Lib.hid hz2
  obtain ⟨za2, zc2, rfl⟩ := hg2.data.shape0
  clear hg2 hz2
  clear c0 c1 c2 lA
  have c0 := KA.out.cell 0
  have c1 := KA.out.cell 1
  have c2 := KA.out.cell 2
  have lA := KA.out.lt
  obtain ⟨y2, hy2, hyl2, hyd2⟩ := lit3 w5
  have hb0 : Below w5.heap.size w5 ((((((((w5).alloc (.cells #[.int .i64 0, .int .i64 1] 3))).alloc (.cells #[.int .i64 2] 3))).alloc (.cells #[.int .i64 3] 3))).alloc (.cells #[.slice (some ⟨w5.heap.size, 0, none⟩) 2 2, .slice (some ⟨w5.heap.size + 1, 0, none⟩) 1 1, .slice (some ⟨w5.heap.size + 1 + 1, 0, none⟩) 1 1] 22)) := by repeat' (first | with_reducible exact Below.refl _ _ | with_reducible refine bal ?_ _)
  have HY2 := Lib.hid (hyd2)
  replace DA := Lib.hid (DA.out.below hb0)
  replace KA := Lib.hid (KA.out.below hb0)
  replace HG2 := Lib.hid (HG2.out.below hb0)
  replace BB := Lib.hid (BB.out.trans (hb0.mono BB.out.size))
  clear hb0
  have hm1 : ∀ l ∈ ([[0, 1], [2], [3]] : List (List Int)), l.length ≤ 1000 := by decide
  have HYL := Lib.hid hy2
  clear hyd2 hy2 hyl2
  go_wp2_with fail
  refine Calls.mono (same17_any z2 y2 _ _ _ HG2.out HY2.out (by have h := congrArg List.length HZ2.out; rw [List.length_map] at h; rw [h]; decide) (fun a ha => hm1 _ (by rw [← HZ2.out]; exact List.mem_map_of_mem ha)) (fun a ha => hm1 _ (by rw [← HYL.out]; exact List.mem_map_of_mem ha)) true (decide_eq_true (HZ2.out.trans HYL.out.symm))) ?_
  rintro e w6 ⟨rfl, bw6⟩
  replace DA := Lib.hid (DA.out.below bw6)
  replace KA := Lib.hid (KA.out.below bw6)
  replace HG2 := Lib.hid (HG2.out.below bw6)
  replace BB := Lib.hid (BB.out.trans (bw6.mono BB.out.size))
  clear bw6 HG2 HY2 HZ2 HYL hm1
  clear c0 c1 c2 lA
  have c0 := KA.out.cell 0
  have c1 := KA.out.cell 1
  have c2 := KA.out.cell 2
  have lA := KA.out.lt
  have hb0 : Below w6.heap.size w6 ((w6).alloc (.cells #[.bool true, .bool false, .bool true] 4)) := by repeat' (first | with_reducible exact Below.refl _ _ | with_reducible refine bal ?_ _)
  have HT3 := Lib.hid (BkT.trus (l := [true, false, true]) (Bk.new w6 4 _) rfl (by decide))
  replace DA := Lib.hid (DA.out.below hb0)
  replace KA := Lib.hid (KA.out.below hb0)
  replace BB := Lib.hid (BB.out.trans (hb0.mono BB.out.size))
  clear hb0
  go_wp2_with fail
  refine Calls.mono (within17_any mG17 [true, false, true] _ _ _ _ _ DA.out HT3.out (by decide) (by decide)) ?_
  rintro e w7 ⟨v3, z3, rfl, hg3, hz3, bw7⟩
  replace DA := Lib.hid (DA.out.below bw7)
  replace KA := Lib.hid (KA.out.below bw7)
  replace BB := Lib.hid (BB.out.trans (bw7.mono BB.out.size))
  rw [kp2] at hz3
  have HG3 := Lib.hid hg3
  have HZ3 := Lib.hid hz3
  obtain ⟨za3, zc3, rfl⟩ := hg3.shape0
  clear hg3 hz3 bw7 HT3
  clear c0 c1 c2 lA
  have c0 := KA.out.cell 0
  have c1 := KA.out.cell 1
  have c2 := KA.out.cell 2
  have lA := KA.out.lt
  obtain ⟨y3, hy3, hyl3, hyd3⟩ := lit2 w7
  have hb0 : Below w7.heap.size w7 ((((((w7).alloc (.cells #[.int .i64 0] 3))).alloc (.cells #[.int .i64 2] 3))).alloc (.cells #[.slice (some ⟨w7.heap.size, 0, none⟩) 1 1, .slice (some ⟨w7.heap.size + 1, 0, none⟩) 1 1] 22)) := by repeat' (first | with_reducible exact Below.refl _ _ | with_reducible refine bal ?_ _)
  have HY3 := Lib.hid (hyd3)
  replace DA := Lib.hid (DA.out.below hb0)
  replace KA := Lib.hid (KA.out.below hb0)
  replace HG3 := Lib.hid (HG3.out.below hb0)
  replace BB := Lib.hid (BB.out.trans (hb0.mono BB.out.size))
  clear hb0
  have hm1 : ∀ l ∈ ([[0], [2]] : List (List Int)), l.length ≤ 1000 := by decide
  have HYL := Lib.hid hy3
  clear hyd3 hy3 hyl3
  go_wp2_with fail
  refine Calls.mono (same17_any z3 y3 _ _ _ HG3.out HY3.out (by have h := congrArg List.length HZ3.out; rw [List.length_map] at h; rw [h]; decide) (fun a ha => hm1 _ (by rw [← HZ3.out]; exact List.mem_map_of_mem ha)) (fun a ha => hm1 _ (by rw [← HYL.out]; exact List.mem_map_of_mem ha)) true (decide_eq_true (HZ3.out.trans HYL.out.symm))) ?_
  rintro e w8 ⟨rfl, bw8⟩
  replace DA := Lib.hid (DA.out.below bw8)
  replace KA := Lib.hid (KA.out.below bw8)
  replace HG3 := Lib.hid (HG3.out.below bw8)
  replace BB := Lib.hid (BB.out.trans (bw8.mono BB.out.size))
  clear bw8 HG3 HY3 HZ3 HYL hm1
  clear c0 c1 c2 lA
  have c0 := KA.out.cell 0
  have c1 := KA.out.cell 1
  have c2 := KA.out.cell 2
  have lA := KA.out.lt
  have hb0 : Below w8.heap.size w8 ((w8).alloc (.cells #[.int .i64 0, .int .i64 1] 3)) := by repeat' (first | with_reducible exact Below.refl _ _ | with_reducible refine bal ?_ _)
  have HC0 := Lib.hid (BkI.ints (l := [0, 1]) (Bk.new w8 3 _) rfl (by decide))
  replace DA := Lib.hid (DA.out.below hb0)
  replace KA := Lib.hid (KA.out.below hb0)
  replace BB := Lib.hid (BB.out.trans (hb0.mono BB.out.size))
  clear hb0
  go_wp2_with fail
  refine Calls.mono (cyclic_any mG17 [0, 1] _ _ _ _ _ DA.out HC0.out (by decide) (by decide) true kb4.1) ?_
  rintro e w9 ⟨rfl, bw9⟩
  replace DA := Lib.hid (DA.out.below bw9)
  replace KA := Lib.hid (KA.out.below bw9)
  replace BB := Lib.hid (BB.out.trans (bw9.mono BB.out.size))
  clear bw9 HC0
  clear c0 c1 c2 lA
  have c0 := KA.out.cell 0
  have c1 := KA.out.cell 1
  have c2 := KA.out.cell 2
  have lA := KA.out.lt
  have hb0 : Below w9.heap.size w9 ((w9).alloc (.cells #[.int .i64 2] 3)) := by repeat' (first | with_reducible exact Below.refl _ _ | with_reducible refine bal ?_ _)
  have HC1 := Lib.hid (BkI.ints (l := [2]) (Bk.new w9 3 _) rfl (by decide))
  replace DA := Lib.hid (DA.out.below hb0)
  replace KA := Lib.hid (KA.out.below hb0)
  replace BB := Lib.hid (BB.out.trans (hb0.mono BB.out.size))
  clear hb0
  go_wp2_with fail
  refine Calls.mono (cyclic_any mG17 [2] _ _ _ _ _ DA.out HC1.out (by decide) (by decide) false kb4.2.1) ?_
  rintro e w10 ⟨rfl, bw10⟩
  replace DA := Lib.hid (DA.out.below bw10)
  replace KA := Lib.hid (KA.out.below bw10)
  replace BB := Lib.hid (BB.out.trans (bw10.mono BB.out.size))
  clear bw10 HC1
  clear c0 c1 c2 lA
  have c0 := KA.out.cell 0
  have c1 := KA.out.cell 1
  have c2 := KA.out.cell 2
  have lA := KA.out.lt
  have hb0 : Below w10.heap.size w10 ((w10).alloc (.cells #[.int .i64 3] 3)) := by repeat' (first | with_reducible exact Below.refl _ _ | with_reducible refine bal ?_ _)
  have HC2 := Lib.hid (BkI.ints (l := [3]) (Bk.new w10 3 _) rfl (by decide))
  replace DA := Lib.hid (DA.out.below hb0)
  replace KA := Lib.hid (KA.out.below hb0)
  replace BB := Lib.hid (BB.out.trans (hb0.mono BB.out.size))
  clear hb0
  go_wp2_with fail
  refine Calls.mono (cyclic_any mG17 [3] _ _ _ _ _ DA.out HC2.out (by decide) (by decide) true kb4.2.2) ?_
  rintro e w11 ⟨rfl, bw11⟩
  replace DA := Lib.hid (DA.out.below bw11)
  replace KA := Lib.hid (KA.out.below bw11)
  replace BB := Lib.hid (BB.out.trans (bw11.mono BB.out.size))
  clear bw11 HC2
  clear c0 c1 c2 lA
  have c0 := KA.out.cell 0
  have c1 := KA.out.cell 1
  have c2 := KA.out.cell 2
  have lA := KA.out.lt
  have hn : GrD w11 (.slice none 0 0) (.slice none 0 0) (.slice none 0 0) ⟨[], [], []⟩ := ⟨SlD.nil, SlD.nil, SlD.nil⟩
  go_wp2_with fail
  refine Calls.mono (parts_any ⟨[], [], []⟩ _ _ _ w11 hn (by decide)) ?_
  rintro e w12 ⟨v9, rfl, hp9, bw12⟩
  replace DA := Lib.hid (DA.out.below bw12)
  replace KA := Lib.hid (KA.out.below bw12)
  replace BB := Lib.hid (BB.out.trans (bw12.mono BB.out.size))
  rw [kp3] at hp9
  obtain ⟨za9, zc9, rfl⟩ := hp9.shape0
  go_wp2_with fail
  go_ret
  exact ⟨rfl, BB.out⟩

end Go.Proofs.Ytkdpimifojjhaaa
