/- StmtRight: the law's own walk. -/
import Derived.Test.YtmlcdnfejebhoaaGreatDoorWe
namespace Go.Proofs.YtmlcdnfejebhoaaGreatDoor
open Go.RowKit
set_option maxHeartbeats 2000000 in
theorem sright_long (s : ByteArray) (w : World) (hm : s.size ≤ maxLen) (h : 2000 < s.size) (hf : Flds w) (ht : Tabs w) :
    Calls Tryz.prog 5 #[.string s] w fun e w' => e = .returned (.bool true) ∧ Below w.heap.size w w' := by
  have HK := Lib.hid (known_any w hf ht)
  unfold maxLen at hm
  have q1 : decide ((2000 : Int) < (s.size : Int)) = true := decide_eq_true (by omega)
  have q2 : decide (2000 < s.size) = true := decide_eq_true h
  clear ht hf
  go_enter Tryz.func5, Tryz.ntmps5
  go_wp2_with fail
  refine HK.out.mono ?_
  rintro e w1 ⟨rfl, c1⟩
  go_wp2
  go_ret
  exact ⟨rfl, c1⟩
set_option maxRecDepth 100000 in
set_option maxHeartbeats 4000000 in
theorem sright_err (s : ByteArray) (w : World) (h : s.size ≤ 2000) (hf : Flds w) (ht : Tabs w) (k a : Nat) (hp : stmtR (scanL s.data.toList).1 0 = .err k a) (hk : k ≠ 0) (ha : a ≤ s.size) :
    Calls Tryz.prog 5 #[.string s] w fun e w' => e = .returned (.bool true) ∧ Below w.heap.size w w' := by
  have HT := Lib.hid ht
  have HF := Lib.hid hf
  have HTOK := Lib.hid (tokens_any s w (by omega))
  have HPAR := Lib.hid (fun B lv w1 hh hs => spar_all s.data.toList B lv 0 w1 hh hs)
  rw [hp] at HPAR
  have q0 : decide ((2000 : Int) < (s.size : Int)) = false := decide_eq_false (by omega)
  have q01 : decide (2000 < s.size) = false := decide_eq_false (by omega)
  obtain ⟨N, hN⟩ : ∃ N, N = (scanL s.data.toList).1.length := ⟨_, rfl⟩
  clear ht hf hp
  go_enter Tryz.func5, Tryz.ntmps5
  go_wp2_with fail
  refine HTOK.out.mono ?_
  rintro e w1 ⟨v1, rfl, o1, b1⟩
  go_wp2_with fail
  refine (HPAR.out _ v1 w1 o1 (HT.out.below b1).1).mono ?_
  rintro e w2 ⟨rfl, c2⟩
  have b2 := b1.trans (c2.mono b1.size)
  have q1 : ((k : Int) != 0) = true := by simp; omega
  have q2 : decide ((0 : Int) ≤ (a : Int)) = true := by simp
  have q3 : decide ((a : Int) ≤ (s.size : Int)) = true := by simp; omega
  have q4 : decide (a ≤ s.size) = true := by simp; omega
  go_wp2_with fail
  refine (known_any w2 (HF.out.below b2) (HT.out.below b2)).mono ?_
  rintro e w3 ⟨rfl, c3⟩
  go_wp2
  go_ret
  exact ⟨rfl, b2.trans (c3.mono b2.size)⟩
set_option maxRecDepth 100000 in
set_option maxHeartbeats 8000000 in
theorem sright_ok (s : ByteArray) (w : World) (h : s.size ≤ 2000) (hf : Flds w) (ht : Tabs w) (xs : List St) (j : Nat) (hp : stmtR (scanL s.data.toList).1 0 = .ok xs j) (hr : rightS xs) (hj : j = (scanL s.data.toList).1.length ∨ sgAt (scanL s.data.toList).1 j [125] = true) :
    Calls Tryz.prog 5 #[.string s] w fun e w' => e = .returned (.bool true) ∧ Below w.heap.size w w' := by
  obtain ⟨h200, t, htf, hok, hh⟩ := id hr
  have hok' : ∀ x ∈ t.flat, okSt x := by rw [htf]; exact hok
  have hlen : t.flat.length ≤ 200 := by rw [htf]; exact h200
  obtain ⟨ys, hp2, he, hy⟩ := back_text t 0 hok' hh hlen
  have htl := text_len t 0 hok' (by omega)
  have htx := textS_tree hr t htf 0
  obtain ⟨q, hq⟩ : ∃ q, q = t.text 0 := ⟨_, rfl⟩
  rw [← hq] at hp2 he htl htx
  have hql : q.length ≤ 16000000 := by
    have : t.flat.length * 80000 ≤ 200 * 80000 := Nat.mul_le_mul_right _ hlen
    omega
  obtain ⟨x, hx⟩ : ∃ x : ByteArray, x = ⟨q.toArray⟩ := ⟨_, rfl⟩
  have hxs : x.size = q.length := by rw [hx, Lib.size_eq]
  have HT := Lib.hid ht
  have HF := Lib.hid hf
  have HZ := Lib.hid (smOK_of xs hok)
  have HR := Lib.hid ((rightSB_iff _).2 hr)
  have HP2 := Lib.hid hp2
  have HE := Lib.hid (show q.length ≤ 20000 → ys.map St.er = xs.map St.er by rw [← htf]; exact he)
  have HTX := Lib.hid htx
  have HX := Lib.hid hx
  have HQ := Lib.hid hql
  have HXS := Lib.hid hxs
  have HL := Lib.hid h200
  have HTOK := Lib.hid (tokens_any s w (by omega))
  have HPAR := Lib.hid (fun B lv w1 hh hs => par_all s.data.toList xs j hp B lv w1 hh hs)
  have q0 : decide ((2000 : Int) < (s.size : Int)) = false := decide_eq_false (by omega)
  have q01 : decide (2000 < s.size) = false := decide_eq_false (by omega)
  have hfew := scan_few s.data.toList (by rw [← Lib.size_eq]; omega)
  obtain ⟨l, hl⟩ : ∃ l, l = (scanL s.data.toList).1 := ⟨_, rfl⟩
  rw [← hl] at HTOK HPAR hj hfew
  have HJ := Lib.hid hj
  have hjN : j ≤ 40000 := by
    rcases hj with hj | hj
    · omega
    · have := sgAt_lt hj; omega
  have HFEW := Lib.hid hfew
  clear ht hf hp h200 htf hok hh hok' hlen hp2 he hy htl htx hq hql hx hxs hl hj hfew hr
  go_enter Tryz.func5, Tryz.ntmps5
  go_wp2_with fail
  refine HTOK.out.mono ?_
  rintro e w1 ⟨v1, rfl, o1, b1⟩
  have HC1 := Lib.hid (tokC_of_own o1)
  have HO1 := Lib.hid o1
  obtain ⟨tad, tcap, rfl, _⟩ := own_shape o1
  go_wp2_with fail
  refine (HPAR.out _ _ w1 HO1.out (HT.out.below b1)).mono ?_
  rintro e w2 ⟨z1, ts, rfl, N1, hts, c2⟩
  have b2 := b1.trans (c2.mono b1.size)
  have HTS := Lib.hid hts
  have HC2 := Lib.hid (HC1.out.below c2)
  have hl1 : ts.length ≤ 200 := by rw [← List.length_map (f := (·.1)), hts]; exact HL.out
  have HL1 := Lib.hid hl1
  have V2 := Lib.hid N1
  obtain ⟨ad, cap, rfl, j1, j2, j3⟩ := N1
  clear j3 j1 j2 c2 o1 b1 HTOK HPAR HC1 HO1 hts hl1
  obtain ⟨n, hN⟩ : ∃ n, n = ts.length := ⟨_, rfl⟩
  have HNN := Lib.hid hN
  rw [← hN] at V2 ⊢
  clear hN
  have H := show_any ts _ 0 w2 (by omega) V2.out (by have := HL1.out; omega) (by rw [HTS.out]; exact HZ.out) (HF.out.below b2) (HT.out.below b2)
  unfold TextIs at H
  rw [HTS.out, HTX.out, ← HX.out] at H
  go_wp2_with fail
  refine H.mono ?_
  clear H
  rintro e w3 ⟨rfl, c3⟩
  have b3 := b2.trans (c3.mono b2.size)
  have V3 := Lib.hid (V2.out.below c3)
  have HC3 := Lib.hid (HC2.out.below c3)
  clear b2 c3 V2 HC2
  go_wp2_with fail
  refine (tok_all q x w3 HX.out (by have := HQ.out; unfold maxLen; omega)).mono ?_
  rintro e w4 ⟨v2, rfl, o4, c4⟩
  have b4 := b3.trans (c4.mono b3.size)
  have V4 := Lib.hid (V3.out.below c4)
  have HC4 := Lib.hid (HC3.out.below c4)
  clear b3 c4 V3 HC3
  go_wp2_with fail
  refine (par_all q ys _ HP2.out _ v2 w4 o4 (HT.out.below b4)).mono ?_
  rintro e w5 ⟨z2, us, rfl, N2, hus, c5⟩
  have b5 := b4.trans (c5.mono b4.size)
  have V5 := Lib.hid (V4.out.below c5)
  have HC5 := Lib.hid (HC4.out.below c5)
  have HUS := Lib.hid hus
  have U5 := Lib.hid N2
  obtain ⟨ad2, cap2, rfl, j1, j2, j3⟩ := N2
  clear j3 j1 j2 b4 c5 V4 HC4 o4 hus
  obtain ⟨m, hM⟩ : ∃ m, m = us.length := ⟨_, rfl⟩
  have HMM := Lib.hid hM
  rw [← hM] at U5 ⊢
  clear hM
  have H := sright_any ts _ w5 V5.out (by have := HL1.out; omega) (by rw [HTS.out]; exact HZ.out) (HF.out.below b5)
  rw [HTS.out, HR.out] at H
  go_wp2_with fail
  refine H.mono ?_
  clear H
  rintro e w6 ⟨rfl, c6⟩
  have b6 := b5.trans (c6.mono b5.size)
  have V6 := Lib.hid (V5.out.below c6)
  have U6 := Lib.hid (U5.out.below c6)
  have HC6 := Lib.hid (HC5.out.below c6)
  clear b5 c6 V5 U5 HC5
  have HSAME : Hid (q.length ≤ 20000 → Calls Tryz.prog 16 #[.slice ad n cap, .slice ad2 m cap2, .bool false] w6 fun e w' => e = .returned (.bool true) ∧ Below w6.heap.size w6 w') :=
    Lib.hid fun hq => same_back ts us _ _ w6 V6.out U6.out (by rw [HUS.out, HTS.out]; exact HE.out hq) (by have := HL1.out; omega) (by rw [HTS.out]; exact HZ.out)
  have HK := Lib.hid (fun w' (hb : Below w6.heap.size w6 w') => known_any w' (HF.out.below (b6.trans (hb.mono b6.size))) (HT.out.below (b6.trans (hb.mono b6.size))))
  have HB6 := Lib.hid b6
  obtain ⟨N, hN⟩ : ∃ N, N = l.length := ⟨_, rfl⟩
  have HN := Lib.hid hN
  rw [← hN]
  have hNle : N ≤ 40000 := by have := HFEW.out; omega
  clear hN V6 U6 b6
  by_cases hjn : j = N
  · have e1 : ((j : Int) == (N : Int)) = true := by simp [hjn]
    subst hjn
    by_cases hlong : 20000 < q.length
    · have e2 : decide ((20000 : Int) < (x.size : Int)) = true := decide_eq_true (by have := HXS.out; omega)
      have e3 : decide (20000 < x.size) = true := decide_eq_true (by have := HXS.out; omega)
      go_wp2_with fail
      refine (HK.out _ (Below.refl _ _)).mono ?_
      rintro e w7 ⟨rfl, c7⟩
      go_wp2
      go_ret
      exact ⟨rfl, HB6.out.trans (c7.mono HB6.out.size)⟩
    · have e2 : decide ((20000 : Int) < (x.size : Int)) = false := decide_eq_false (by have := HXS.out; omega)
      have e3 : decide (20000 < x.size) = false := decide_eq_false (by have := HXS.out; omega)
      go_wp2_with fail
      refine (HSAME.out (by omega)).mono ?_
      rintro e w7 ⟨rfl, c7⟩
      go_wp2_with fail
      refine (HK.out _ c7).mono ?_
      rintro e w8 ⟨rfl, c8⟩
      go_wp2
      go_ret
      have b7 := HB6.out.trans (c7.mono HB6.out.size)
      exact ⟨rfl, b7.trans (c8.mono b7.size)⟩
  · have hsg : sgAt l j [125] = true := by
      rcases HJ.out with h9 | h9
      · exact absurd (h9.trans HN.out.symm) hjn
      · exact h9
    have hjl := sgAt_lt hsg
    obtain ⟨ad', cp', hlv', hct⟩ := HC6.out
    obtain ⟨g, hg, hglt, k0, k1, k2, k3⟩ := hct j hjl
    injection hlv' with i1 i2 i3
    rw [hg] at i1
    subst i1
    have htxt : (l[j]).2.1 = [125] := by
      unfold sgAt at hsg
      rw [Bool.and_eq_true, tokO_in l j hjl] at hsg
      simpa using hsg.2
    rw [htxt] at k1
    have hjN2 : j < N := by have := HN.out; omega
    have e1 : ((j : Int) == (N : Int)) = false := by simp; omega
    clear hct k0 k2 k3 i2 i3 hg
    by_cases hlong : 20000 < q.length
    · have e2 : decide ((20000 : Int) < (x.size : Int)) = true := decide_eq_true (by have := HXS.out; omega)
      have e3 : decide (20000 < x.size) = true := decide_eq_true (by have := HXS.out; omega)
      go_wp2_with fail
      refine (HK.out _ (Below.refl _ _)).mono ?_
      rintro e w7 ⟨rfl, c7⟩
      go_wp2
      go_ret
      exact ⟨rfl, HB6.out.trans (c7.mono HB6.out.size)⟩
    · have e2 : decide ((20000 : Int) < (x.size : Int)) = false := decide_eq_false (by have := HXS.out; omega)
      have e3 : decide (20000 < x.size) = false := decide_eq_false (by have := HXS.out; omega)
      go_wp2_with fail
      refine (HSAME.out (by omega)).mono ?_
      rintro e w7 ⟨rfl, c7⟩
      go_wp2_with fail
      refine (HK.out _ c7).mono ?_
      rintro e w8 ⟨rfl, c8⟩
      go_wp2
      go_ret
      have b7 := HB6.out.trans (c7.mono HB6.out.size)
      exact ⟨rfl, b7.trans (c8.mono b7.size)⟩
theorem scan_plOK2 (l : List UInt8) (h : l.length ≤ 20000) : ∀ i, (tokO (scanL l).1 i).2.2.2 + (tokO (scanL l).1 i).2.1.length ≤ 200000 := fun i => by
  have := scan_plOK l h i
  omega
theorem stmtRight_walk (s : ByteArray) (w : World) (hm : s.size ≤ maxLen) (hf : Flds w) (ht : Tabs w) :
    Calls Tryz.prog 5 #[.string s] w fun e w' => e = .returned (.bool true) ∧ Below w.heap.size w w' := by
  by_cases h : 2000 < s.size
  · exact sright_long s w hm h hf ht
  · have hl : s.data.toList.length ≤ 20000 := by rw [← Lib.size_eq]; omega
    have hpl := scan_plOK s.data.toList hl
    have hp2 := scan_plOK2 s.data.toList hl
    cases hp : stmtR (scanL s.data.toList).1 0 with
    | err k a =>
      obtain ⟨h1, h2⟩ := stmt_err _ hpl hp2 0 k a (Nat.zero_le _) hp
      exact sright_err s w (by omega) hf ht k a hp h1 (by rw [Lib.size_eq]; exact h2)
    | ok xs j =>
      obtain ⟨h1, h2, _⟩ := stmt_good _ hp2 xs j 0 (Nat.zero_le _) hp
      exact sright_ok s w (by omega) hf ht xs j hp h1 h2
end Go.Proofs.YtmlcdnfejebhoaaGreatDoor
