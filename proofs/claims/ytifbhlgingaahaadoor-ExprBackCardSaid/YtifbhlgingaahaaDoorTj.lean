/- ExprShows: the law's own walk. -/
import Derived.Test.YtifbhlgingaahaaDoorTi
import Derived.Test.YtifbhlgingaahaaDoorNa
namespace Go.Proofs.YtifbhlgingaahaaDoor
open Go.RowKit

set_option maxRecDepth 100000 in
set_option maxHeartbeats 8000000 in
theorem shows_light (l : List Nd) (v : Value) (i : Int) (w : World) (hv : NdsC w v l) (hn : l.length ≤ 100000) (hz : NmOK l) (ht : Tabs w) (hl : Calls Tryd.prog 6 #[v] w fun e w' => e = .returned (.bool true) ∧ Below w.heap.size w w') :
    Calls Tryd.prog 3 #[v, .int .i64 i] w fun e w' => e = .returned (.bool true) ∧ Below w.heap.size w w' := by
  have HT := Lib.hid ht
  obtain ⟨b, hb⟩ : ∃ b, rightB l = b := ⟨_, rfl⟩
  obtain ⟨d, hd⟩ := depthIs_of l
  obtain ⟨z, hzz⟩ : ∃ z, endL l i = z := ⟨_, rfl⟩
  obtain ⟨s, hs⟩ : ∃ s, (⟨(textOf l).toArray⟩ : ByteArray) = s := ⟨_, rfl⟩
  clear ht
  go_enter Tryd.func3, Tryd.ntmps3
  go_wp2_with fail
  refine hl.mono ?_
  rintro e w0 ⟨rfl, b0⟩
  have A1 := hv.below b0
  clear hv hl
  go_wp2_with fail
  have H := right_any l _ w0 A1.nds hn hz b hb
  refine H.mono ?_
  clear H
  rintro e w1 ⟨rfl, c1⟩
  have b1 := b0.trans (c1.mono b0.size)
  replace A1 := A1.below c1
  clear c1 b0
  go_wp2_with fail
  have H := rright_any l _ w1 A1.nds hn hz b hb
  refine H.mono ?_
  clear H
  rintro e w2 ⟨rfl, c1⟩
  have b2 := b1.trans (c1.mono b1.size)
  replace A1 := A1.below c1
  clear c1 b1
  go_wp2_with fail
  have H := depth_any l _ w2 A1.nds hn hz d hd
  refine H.mono ?_
  clear H
  rintro e w3 ⟨rfl, c1⟩
  have b3 := b2.trans (c1.mono b2.size)
  replace A1 := A1.below c1
  clear c1 b2
  go_wp2_with fail
  have H := rdepth_any l _ w3 A1.nds hn hz d hd
  refine H.mono ?_
  clear H
  rintro e w4 ⟨rfl, c1⟩
  have b4 := b3.trans (c1.mono b3.size)
  replace A1 := A1.below c1
  clear c1 b3
  go_wp2_with fail
  have H := end_any l _ i w4 A1.nds hn
  rw [hzz] at H
  refine H.mono ?_
  clear H
  rintro e w' ⟨rfl, rfl⟩
  go_wp2_with fail
  have H := rend_any l _ i w4 A1.nds hn
  rw [hzz] at H
  refine H.mono ?_
  clear H
  rintro e w' ⟨rfl, rfl⟩
  go_wp2_with fail
  have H := shown_any l _ w4 A1 hn hz (HT.out.below b4)
  unfold TextIs at H; rw [hs] at H
  refine H.mono ?_
  clear H
  rintro e w5 ⟨rfl, c1⟩
  have b5 := b4.trans (c1.mono b4.size)
  replace A1 := A1.below c1
  clear c1 b4
  go_wp2_with fail
  have H := rshown_any l _ w5 A1 hn hz
  unfold TextIs at H; rw [hs] at H
  refine H.mono ?_
  clear H
  rintro e w6 ⟨rfl, c1⟩
  have b6 := b5.trans (c1.mono b5.size)
  replace A1 := A1.below c1
  clear c1 b5
  go_wp2_with fail
  refine (names_any l _ w6 A1.nds hn).mono ?_
  rintro e w7 ⟨u1, rfl, o1, c1⟩
  have b7 := b6.trans (c1.mono b6.size)
  replace A1 := A1.below c1
  have U1 := ndsC_of_own o1
  clear c1 b6 o1
  go_wp2_with fail
  refine (rnames_any l _ w7 A1.nds hn).mono ?_
  rintro e w8 ⟨u2, rfl, o2, c1⟩
  have b8 := b7.trans (c1.mono b7.size)
  replace U1 := U1.below c1
  have U2 := ndsC_of_own o2
  clear c1 b7 o2 A1
  go_wp2_with fail
  refine (same_true (namesL l) (namesL l) _ _ w8 U1.nds U2.nds (Nat.le_trans (List.length_filter_le _ _) hn) rfl (fun i hi => alike_refl _)).mono ?_
  rintro e w9 ⟨rfl, c1⟩
  have b9 := b8.trans (c1.mono b8.size)
  clear c1 b8 U1 U2
  go_wp2_with fail
  refine (known_any w9 (HT.out.below b9)).mono ?_
  rintro e w10 ⟨rfl, c1⟩
  have b10 := b9.trans (c1.mono b9.size)
  go_wp2
  go_ret
  exact ⟨rfl, b10⟩

set_option maxHeartbeats 2000000 in
theorem shows_heavy (v : Value) (i : Int) (w : World) (ht : Tabs w) (hl : Calls Tryd.prog 6 #[v] w fun e w' => e = .returned (.bool false) ∧ Below w.heap.size w w') :
    Calls Tryd.prog 3 #[v, .int .i64 i] w fun e w' => e = .returned (.bool true) ∧ Below w.heap.size w w' := by
  have HT := Lib.hid ht
  clear ht
  go_enter Tryd.func3, Tryd.ntmps3
  go_wp2_with fail
  refine hl.mono ?_
  rintro e w0 ⟨rfl, b0⟩
  go_wp2_with fail
  refine (known_any w0 (HT.out.below b0)).mono ?_
  rintro e w1 ⟨rfl, c1⟩
  go_wp2
  go_ret
  exact ⟨rfl, b0.trans (c1.mono b0.size)⟩

theorem light_nmOK (l : List Nd) (h : lightB l = true) : l.length ≤ 250 ∧ NmOK l := by
  unfold lightB at h
  rw [Bool.and_eq_true] at h
  refine ⟨of_decide_eq_true h.1, fun i hi => ?_⟩
  have := List.all_eq_true.1 h.2 _ (List.getElem_mem hi)
  unfold lightN at this
  have := of_decide_eq_true this
  omega

theorem light_is (l : List Nd) (v : Value) (w : World) (hv : NdsC w v l) (hn : l.length ≤ maxLen) (b : Bool) (hb : lightB l = b) :
    Calls Tryd.prog 6 #[v] w fun e w' => e = .returned (.bool b) ∧ Below w.heap.size w w' :=
  (light_any l v w hv.nds hn b hb).mono fun _ _ ⟨h, h'⟩ => ⟨h, h' ▸ Below.refl _ _⟩

theorem exprShows_walk (l : List Nd) (v : Value) (i : Int) (w : World) (hv : NdsC w v l) (hn : l.length ≤ maxLen) (ht : Tabs w) :
    Calls Tryd.prog 3 #[v, .int .i64 i] w fun e w' => e = .returned (.bool true) ∧ Below w.heap.size w w' := by
  cases hb : lightB l with
  | true =>
    obtain ⟨h1, h2⟩ := light_nmOK l hb
    exact shows_light l v i w hv (by omega) h2 ht (light_is l v w hv hn true hb)
  | false => exact shows_heavy v i w ht (light_is l v w hv hn false hb)

end Go.Proofs.YtifbhlgingaahaaDoor
