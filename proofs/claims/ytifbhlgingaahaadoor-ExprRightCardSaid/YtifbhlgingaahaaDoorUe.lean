/- ExprRight: the law's own walk. -/
import Derived.Test.YtifbhlgingaahaaDoorUa
import Derived.Test.YtifbhlgingaahaaDoorTi
import Derived.Test.YtifbhlgingaahaaDoorSfalse
namespace Go.Proofs.YtifbhlgingaahaaDoor
open Go.RowKit

set_option maxHeartbeats 2000000 in
theorem eright_long (s : ByteArray) (w : World) (hm : s.size ≤ maxLen) (h : 1500 < s.size) (ht : Tabs w) :
    Calls Tryd.prog 5 #[.string s] w fun e w' => e = .returned (.bool true) ∧ Below w.heap.size w w' := by
  have HT := Lib.hid ht
  unfold maxLen at hm
  clear ht
  go_enter Tryd.func5, Tryd.ntmps5
  go_wp2_with fail
  refine (known_any w HT.out).mono ?_
  rintro e w1 ⟨rfl, c1⟩
  go_wp2
  go_ret
  exact ⟨rfl, c1⟩

theorem okN_size {x : Nd} (h : okN x = true) : x.nm.size ≤ 16 ∧ x.inn.size ≤ 16 := by
  by_cases h1 : x.op = 1
  · obtain ⟨_, _, h2, h3⟩ := okN_num h h1
    rw [h2, h3]; exact ⟨by decide, by decide⟩
  · by_cases h4 : x.op = 4
    · obtain ⟨h2, h3, _⟩ := okN_of' h h4
      exact ⟨nameB_size _ h2, nameB_size _ h3⟩
    · unfold okN at h
      rw [if_neg h1] at h
      by_cases h2 : x.op = 2 ∨ x.op = 3
      · rw [if_pos h2] at h
        simp only [Bool.and_eq_true, decide_eq_true_eq] at h
        exact ⟨nameB_size _ h.2.2.1, by have := h.2.2.2; omega⟩
      · rw [if_neg h2, if_neg h4] at h
        simp only [Bool.and_eq_true, decide_eq_true_eq] at h
        exact ⟨by have := h.2.2.1; omega, by have := h.2.2.2; omega⟩

theorem fit_nmOK {e : Ex} (h : Fit e) : NmOK e.flat := fun i hi => by
  have := okN_size (h.2 _ (List.getElem_mem hi)).1
  omega

set_option maxRecDepth 100000 in
set_option maxHeartbeats 4000000 in
theorem eright_err (s : ByteArray) (w : World) (h : ¬ 1500 < s.size) (ht : Tabs w) (k a : Nat) (hp : parseR (scanL s.data.toList).1 0 = .err k a) (hk : k ≠ 0) (ha : a ≤ s.size) :
    Calls Tryd.prog 5 #[.string s] w fun e w' => e = .returned (.bool true) ∧ Below w.heap.size w w' := by
  have HT := Lib.hid ht
  have hl : s.data.toList.length ≤ 20000 := by rw [← Lib.size_eq]; omega
  have HTOK := fun w => tok_k s.data.toList s w rfl hl
  have HPAR := fun B lv w => par_err s.data.toList _ k a rfl hp hl B lv w
  obtain ⟨q, hq⟩ : ∃ q, q = s.data.toList := ⟨_, rfl⟩
  rw [← hq] at HTOK HPAR
  clear ht hp hl hq
  go_enter Tryd.func5, Tryd.ntmps5
  go_wp2_with fail
  refine (HTOK w).mono ?_
  rintro e w1 ⟨v1, rfl, o1, b1⟩
  go_wp2_with fail
  refine (HPAR _ v1 w1 o1 (HT.out.below b1)).mono ?_
  rintro e w2 ⟨rfl, c2⟩
  have b2 := b1.trans (c2.mono b1.size)
  have q1 : ((k : Int) != 0) = true := by simp; omega
  go_wp2_with fail
  refine (known_any w2 (HT.out.below b2)).mono ?_
  rintro e w3 ⟨rfl, c3⟩
  go_wp2
  go_ret
  exact ⟨rfl, b2.trans (c3.mono b2.size)⟩

set_option maxRecDepth 100000 in
set_option maxHeartbeats 8000000 in
theorem eright_ok (s : ByteArray) (w : World) (h : ¬ 1500 < s.size) (ht : Tabs w) (x : Ex) (j : Nat) (hp : parseR (scanL s.data.toList).1 0 = .ok x j) (hf : Fit x) (hd : x.depth ≤ 30) (hs : x.size ≤ 200) (hj : 1 ≤ j) (hjl : j ≤ (scanL s.data.toList).1.length) :
    Calls Tryd.prog 5 #[.string s] w fun e w' => e = .returned (.bool true) ∧ Below w.heap.size w w' := by
  have HT := Lib.hid ht
  have hl : s.data.toList.length ≤ 20000 := by rw [← Lib.size_eq]; omega
  have HTOK := fun w => tok_k s.data.toList s w rfl hl
  have HPAR := fun B lv w => par_ok s.data.toList _ x j rfl hp hl B lv w
  have hfew := scan_few _ hl
  obtain ⟨q, hq⟩ : ∃ q, q = s.data.toList := ⟨_, rfl⟩
  rw [← hq] at HTOK HPAR hjl hfew
  have hr := fit_right hf hd hs
  obtain ⟨hsl, x', hp', he⟩ := back x hf hd hs
  have htx := textOf_tree _ hr x hf.1 rfl
  obtain ⟨t, hte⟩ : ∃ t, t = showE x := ⟨_, rfl⟩
  rw [← hte] at hsl hp' htx
  have hfew2 := scan_few _ hsl
  have hlen : x.flat.length ≤ 200 := by rw [x.flat_length]; exact hs
  have HS := Lib.hid hsl
  have HP2 := Lib.hid hp'
  have HE := Lib.hid (er_alike he)
  have HR := Lib.hid (right_yes _ hr)
  have HZ := Lib.hid (fit_nmOK hf)
  have HTX := Lib.hid htx
  have HLEN := Lib.hid hlen
  clear ht hp hl hq hr hsl hp' he htx hte hf hd hs hlen
  go_enter Tryd.func5, Tryd.ntmps5
  go_wp2_with fail
  refine (HTOK w).mono ?_
  rintro e w1 ⟨v1, rfl, o1, b1⟩
  go_wp2_with fail
  refine (HPAR _ v1 w1 o1 (HT.out.below b1)).mono ?_
  rintro e w2 ⟨z1, rfl, N1, c2⟩
  have b2 := b1.trans (c2.mono b1.size)
  obtain ⟨tad, tcap, rfl, _⟩ := own_shape o1
  clear o1 b1 c2 HTOK HPAR
  obtain ⟨n, hn⟩ : ∃ n, n = (scanL q).1.length := ⟨_, rfl⟩
  rw [← hn] at hjl hfew ⊢
  clear hn
  go_wp2_with fail
  have H := shown_any x.flat _ w2 N1 (by have := HLEN.out; omega) HZ.out (HT.out.below b2)
  rw [HTX.out] at H
  unfold TextIs at H
  refine H.mono ?_
  clear H
  rintro e w3 ⟨rfl, c3⟩
  have b3 := b2.trans (c3.mono b2.size)
  replace N1 := N1.below c3
  clear b2 c3
  go_wp2_with fail
  refine (tok_k t _ w3 rfl HS.out).mono ?_
  rintro e w4 ⟨v2, rfl, o4, c4⟩
  have b4 := b3.trans (c4.mono b3.size)
  replace N1 := N1.below c4
  clear b3 c4
  go_wp2_with fail
  refine (par_ok t _ x' _ rfl HP2.out HS.out _ v2 w4 o4 (HT.out.below b4)).mono ?_
  rintro e w5 ⟨z2, rfl, N2, c5⟩
  have b5 := b4.trans (c5.mono b4.size)
  replace N1 := N1.below c5
  clear b4 c5 o4
  go_wp2_with fail
  refine (right_any x.flat _ w5 N1.nds (by have := HLEN.out; omega) HZ.out true HR.out).mono ?_
  rintro e w6 ⟨rfl, c6⟩
  have b6 := b5.trans (c6.mono b5.size)
  replace N1 := N1.below c6
  replace N2 := N2.below c6
  clear b5 c6
  go_wp2_with fail
  refine (same_false x.flat x'.flat _ _ w6 N1.nds N2.nds (by have := HLEN.out; omega) HE.out.1 (fun i hi => HE.out.2 i hi _)).mono ?_
  rintro e w7 ⟨rfl, c7⟩
  have b7 := b6.trans (c7.mono b6.size)
  clear b6 c7
  go_wp2_with fail
  refine (known_any w7 (HT.out.below b7)).mono ?_
  rintro e w8 ⟨rfl, c8⟩
  go_wp2
  go_ret
  exact ⟨rfl, b7.trans (c8.mono b7.size)⟩

theorem exprRight_walk (s : ByteArray) (w : World) (hm : s.size ≤ maxLen) (ht : Tabs w) :
    Calls Tryd.prog 5 #[.string s] w fun e w' => e = .returned (.bool true) ∧ Below w.heap.size w w' := by
  by_cases h : 1500 < s.size
  · exact eright_long s w hm h ht
  · have hl : s.data.toList.length ≤ 20000 := by rw [← Lib.size_eq]; omega
    have ho := parse_out (scan_plOK s.data.toList hl)
    rw [← Lib.size_eq] at ho
    cases hp : parseR (scanL s.data.toList).1 0 with
    | err k a => rw [hp] at ho; exact eright_err s w h ht k a hp ho.1 ho.2
    | ok x j => rw [hp] at ho; exact eright_ok s w h ht x j hp ho.1 ho.2.1 ho.2.2.1 ho.2.2.2.1 ho.2.2.2.2

end Go.Proofs.YtifbhlgingaahaaDoor
