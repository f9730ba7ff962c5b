/- What known does. -/
import Derived.Test.YtmlcdnfejebhoaaGreatDoorZn
namespace Go.Proofs.YtmlcdnfejebhoaaGreatDoor
open Go.RowKit
theorem ytok (k : List UInt8) (s : ByteArray) (w : World) (h : s = ⟨k.toArray⟩) (hk : k.length ≤ 20000) : Calls Tryz.prog 13 #[.string s] w (fun e w' => ∃ v, e = .returned v ∧ w'.ownsRow w.heap.size 35 4 v (scanL k).1.length (rowOf (scanL k).1) ∧ Below w.heap.size w w') := by
  subst h
  exact tokens_any ⟨k.toArray⟩ w (by rw [Lib.size_eq]; exact hk)
theorem ypar_ok (k : List UInt8) (t : List Tok) (xs : List St) (j : Nat) (h1 : (scanL k).1 = t) (h2 : stmtR t 0 = .ok xs j) (hk : k.length ≤ 20000) (B : Nat) (lv : Value) (w : World) (h : w.ownsRow B 35 4 lv (scanL k).1.length (rowOf (scanL k).1)) (hs : Tabs w) :
    Calls Tryz.prog 14 #[lv, .int .i64 0] w fun e w' => ∃ v ts, e = .returned (.tuple #[v, .int .i64 j, .int .i64 0, .int .i64 0]) ∧ StsD w' v ts ∧ ts.map (·.1) = xs ∧ Below w.heap.size w w' := by
  have H := spar_scanned k B lv 0 w h hk hs.1
  rw [h1, h2] at H
  refine H.mono ?_
  rintro e w' ⟨v, rfl, ho, hb⟩
  obtain ⟨ts, e1, e2⟩ := stsD_of_own ho
  exact ⟨v, ts, rfl, e2, e1, hb⟩
theorem ypar_err (k : List UInt8) (t : List Tok) (c a : Nat) (h1 : (scanL k).1 = t) (h2 : stmtR t 0 = .err c a) (hk : k.length ≤ 20000) (B : Nat) (lv : Value) (w : World) (h : w.ownsRow B 35 4 lv (scanL k).1.length (rowOf (scanL k).1)) (hs : Tabs w) :
    Calls Tryz.prog 14 #[lv, .int .i64 0] w fun e w' => e = .returned (.tuple #[.slice none 0 0, .int .i64 0, .int .i64 c, .int .i64 a]) ∧ Below w.heap.size w w' := by
  have H := spar_scanned k B lv 0 w h hk hs.1
  rw [h1, h2] at H
  exact H
set_option maxRecDepth 100000 in
set_option maxHeartbeats 4000000 in
theorem known_any (w : World) (hf : Flds w) (ht : Tabs w) : Calls Tryz.prog 12 #[] w fun e w' => e = .returned (.bool true) ∧ Below w.heap.size w w' := by
  have HT := Lib.hid ht
  have HF := Lib.hid hf
  clear ht hf
  go_enter Tryz.func12, Tryz.ntmps12
  go_wp2_with fail
  refine (ytok ky1 _ _ rfl (by decide)).mono ?_
  rintro e w1 ⟨v1, rfl, o1, b1⟩
  go_wp2_with fail
  refine (ypar_ok ky1 ty1 xy 20 sy1 py1 (by decide) _ v1 w1 o1 (HT.out.below b1)).mono ?_
  rintro e w2 ⟨z1, ts, rfl, N1, hts, c1⟩
  have b2 : Below w.heap.size w w2 := b1.trans (c1.mono b1.size)
  have HTS := Lib.hid hts
  clear b1 c1 o1 hts
  go_wp2_with fail
  refine (ytok ky2 _ _ rfl (by decide)).mono ?_
  rintro e w3 ⟨v2, rfl, o1, b1⟩
  have b3 := b2.trans (b1.mono b2.size)
  have N1' := N1.below b1
  clear N1 b1 b2
  go_wp2_with fail
  refine (ypar_err ky2 ty2 5 7 sy2 py2 (by decide) _ v2 w3 o1 (HT.out.below b3)).mono ?_
  rintro e w4 ⟨rfl, c1⟩
  have b4 := b3.trans (c1.mono b3.size)
  have N1 := N1'.below c1
  clear b3 c1 o1 N1'
  go_wp2_with fail
  refine (ytok ky3 _ _ rfl (by decide)).mono ?_
  rintro e w5 ⟨v3, rfl, o1, c1⟩
  have b5 := b4.trans (c1.mono b4.size)
  have N1' := N1.below c1
  clear N1 c1 b4
  go_wp2_with fail
  refine (ypar_err ky3 ty3 6 6 sy3 py3 (by decide) _ v3 w5 o1 (HT.out.below b5)).mono ?_
  rintro e w6 ⟨rfl, c1⟩
  have b6 := b5.trans (c1.mono b5.size)
  have N1 := N1'.below c1
  clear N1' c1 b5 o1
  go_wp2_with fail
  refine (ytok ky4 _ _ rfl (by decide)).mono ?_
  rintro e w7 ⟨v4, rfl, o1, c1⟩
  have b7 := b6.trans (c1.mono b6.size)
  have N1' := N1.below c1
  clear N1 c1 b6
  go_wp2_with fail
  refine (ypar_err ky4 ty4 5 8 sy4 py4 (by decide) _ v4 w7 o1 (HT.out.below b7)).mono ?_
  rintro e w8 ⟨rfl, c1⟩
  have b8 := b7.trans (c1.mono b7.size)
  have N1 := N1'.below c1
  clear N1' c1 b7 o1
  obtain ⟨s0, s1, s2, rfl, k0, k1, k2⟩ : ∃ s0 s1 s2 : SI, ts = [s0, s1, s2] ∧ s0.1 = xy[0]'(by decide) ∧ s1.1 = xy[1]'(by decide) ∧ s2.1 = xy[2]'(by decide) := by
    have h := HTS.out
    have hl : ts.length = 3 := by rw [← List.length_map (f := (·.1)), h]; rfl
    have h3 : ∃ s0 s1 s2, ts = [s0, s1, s2] := by
      clear N1 HTS h
      match ts, hl with
      | [s0, s1, s2], _ => exact ⟨s0, s1, s2, rfl⟩
    obtain ⟨s0, s1, s2, rfl⟩ := h3
    simp only [List.map_cons, List.map_nil, xy, List.cons.injEq, and_true] at h
    exact ⟨s0, s1, s2, rfl, h.1, h.2.1, h.2.2⟩
  have K0 := Lib.hid k0
  have K1 := Lib.hid k1
  have K2 := Lib.hid k2
  have HN := Lib.hid N1
  obtain ⟨ad, cap, rfl, h1, h2, hc⟩ := N1
  obtain ⟨g, off, rfl, hg, ⟨x0, _, _, _, _, _, x1, _⟩, _⟩ := hc 0 (by simp)
  obtain ⟨g', off', hgg, _, ⟨x2, _⟩, _⟩ := hc 1 (by simp)
  cases hgg
  obtain ⟨g', off', hgg, _, ⟨x3, _⟩, _⟩ := hc 2 (by simp)
  cases hgg
  simp only [List.getElem_cons_zero, List.getElem_cons_succ] at x0 x1 x2 x3
  rw [k0] at x0 x1
  rw [k1] at x2
  rw [k2] at x3
  simp only [xy, List.getElem_cons_zero, List.getElem_cons_succ, Nat.zero_mul, Nat.one_mul, Nat.add_zero, Nat.reduceMul] at x0 x1 x2 x3
  have HTS' : Hid ([s0, s1, s2].map (·.1) = xy) := HTS
  obtain ⟨lst3, hl3⟩ : ∃ l3 : List SI, l3 = [s0, s1, s2] := ⟨_, rfl⟩
  have HL3 := Lib.hid hl3
  replace HTS : lst3.map (·.1) = xy := by rw [hl3]; exact HTS'.out
  replace HTS := Lib.hid HTS
  clear HTS'
  have hsm := smOK_of xy xok
  have hz : SmOK (lst3.map (·.1)) := by rw [HTS.out]; exact hsm
  have HZ := Lib.hid hz
  have hl4 : lst3.length = 3 := by rw [hl3]; rfl
  have HN' : Hid (StsD w8 (.slice (some ⟨g, off, none⟩) 3 cap) lst3) := by
    have h := HN.out
    rw [hl3]
    exact h
  clear hc k0 k1 k2 hsm hz h1 hl3 HN
  go_wp2_with fail
  have H := sright_any lst3 _ w8 HN'.out (by rw [hl4]; decide) HZ.out (HF.out.below b8)
  rw [HTS.out, (rightSB_iff xy).2 xright] at H
  refine H.mono ?_
  clear H
  rintro e w9 ⟨rfl, c1⟩
  have b9 := b8.trans (c1.mono b8.size)
  have HN9 := Lib.hid (HN'.out.below c1)
  clear c1 b8 HN' x0 x1 x2 x3
  go_wp2_with fail
  have H := sdepth_any lst3 _ w9 HN9.out (by rw [hl4]; decide) tyx (by rw [HTS.out]; rfl)
  rw [show tyx.hgt = 1 from by decide +kernel] at H
  refine H.mono ?_
  clear H
  rintro e w10 ⟨rfl, c1⟩
  have b10 := b9.trans (c1.mono b9.size)
  have HN10 := Lib.hid (HN9.out.below c1)
  clear c1 b9 HN9
  go_wp2_with fail
  have H := tops_two lst3 _ w10 HN10.out s0 s1 s2 HL3.out (by rw [K0.out]; exact ⟨rfl, rfl⟩) (by rw [K2.out]; exact ⟨rfl, rfl⟩) ⟨tyx, by rw [HTS.out]; rfl⟩
  refine H.mono ?_
  clear H
  rintro e w11 ⟨⟨ad2, cap2, rfl⟩, c1⟩
  have b11 := b10.trans (c1.mono b10.size)
  have HN11 := Lib.hid (HN10.out.below c1)
  clear c1 b10 HN10
  go_wp2_with fail
  have H := show_any lst3 _ 0 w11 (Nat.zero_le _) HN11.out (by rw [hl4]; decide) HZ.out (HF.out.below b11) (HT.out.below b11)
  unfold TextIs at H
  rw [HTS.out, xtext] at H
  refine H.mono ?_
  clear H
  rintro e w12 ⟨rfl, c1⟩
  have b12 := b11.trans (c1.mono b11.size)
  clear c1 b11 HN11
  go_wp2
  go_ret
  exact ⟨rfl, b12⟩
end Go.Proofs.YtmlcdnfejebhoaaGreatDoor
