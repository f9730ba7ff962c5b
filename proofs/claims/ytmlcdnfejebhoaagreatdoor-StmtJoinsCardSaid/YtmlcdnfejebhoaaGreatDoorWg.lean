/- Statements one behind the other. -/
import Derived.Test.YtmlcdnfejebhoaaGreatDoorWe
namespace Go.Proofs.YtmlcdnfejebhoaaGreatDoor
open Go.RowKit
def Tr.app : Tr → Tr → Tr
  | .nil, u => u
  | .node s b o r, u => .node s b o (r.app u)
theorem Tr.app_flat (t u : Tr) : (t.app u).flat = t.flat ++ u.flat := by
  induction t with
  | nil => rfl
  | node s b o r _ _ ih => rw [Tr.app, Tr.flat, Tr.flat, ih]; simp [List.append_assoc]
theorem Tr.app_text (t u : Tr) (d : Nat) : (t.app u).text d = t.text d ++ u.text d := by
  induction t with
  | nil => rfl
  | node s b o r _ _ ih => rw [Tr.app, Tr.text, Tr.text, ih]; simp only [List.append_assoc]
theorem Tr.app_hgt (t u : Tr) : (t.app u).hgt = max t.hgt u.hgt := by
  induction t with
  | nil => rw [Tr.app, Tr.hgt, Nat.zero_max]
  | node s b o r _ _ ih => rw [Tr.app, Tr.hgt, Tr.hgt, ih, Nat.max_assoc]
theorem nds_one {w : World} {v : Value} {l : List Nd} (h : NdsC w v l) : v.oneCell' = true := by
  obtain ⟨ad, cap, rfl, _⟩ := h; rfl
theorem addr_off (b off j : Nat) : (⟨b, off, none⟩ : Addr).add j = ⟨b, off + j, none⟩ := by unfold Addr.add; split <;> simp_all
set_option maxRecDepth 100000 in
theorem append_in {w : World} {ops : Array Oper} {rest : List Oper} {o : Oper} {a : Act} {Q : Exit → Act → World → Prop} (hgd : o.guard = none) (s x : Operand)
    (ho : o.op = .call { callee := .builtin .append, args := #[s, x], argTypes := #[25, 25] }) (base n : Nat) (v u : Value) (xs : List Value) (l : List SI) (hs : a.eval s = v) (hx : a.eval x = u)
    (hown : w.ownsRow base 55 9 v n xs) (hu : StsD w u l) (hk : NilOK u) (hn : n + l.length ≤ 1000000) (hbase : base ≤ w.heap.size)
    (h : ∀ v' w', w'.ownsRow base 55 9 v' (n + l.length) (xs ++ rowS l) → Below base w w' → wpList Tryz.prog ops Q rest (a.put o.dst v') w') : wpList Tryz.prog ops Q (o :: rest) a w := by
  obtain ⟨i0, hi, hz0, hz1, hz2⟩ := info_parts info49
  obtain ⟨ad, cap, rfl, hc1, hc2, hc⟩ := hu
  rcases hk with hk | ⟨a9, n9, c9, hk⟩
  · injection hk with e1 e2 e3
    have := List.eq_nil_of_length_eq_zero e2
    subst this e1 e3
    refine wpList_append_own_none hgd s x 25 ho base 55 i0 9 Tryz.underlying25 hi v n xs hs hown hx ?_
    have := h v w
    rw [show rowS [] = [] from rfl, List.append_nil] at this
    exact this hown (Below.refl _ _)
  · injection hk with e1 e2 e3
    subst e1
    refine wpList_append_own _ hgd s x 25 ho base 55 i0 _ 9 120 Tryz.underlying25 hi hz0 hz1 hz2 rfl (by decide) v n xs hs hown a9 l.length cap (rowS l) hx
      (by rw [rowS_length]) ?cells ?one (by unfold maxLen; omega) (by omega) hbase ?_
    case cells =>
      intro j y hj
      have hjl : j < l.length * 9 := by
        rw [← rowS_length]
        exact (List.getElem?_eq_some_iff.1 hj).1
      have hi9 : j / 9 < l.length := by omega
      have hk9 : j % 9 < 9 := by omega
      have hr := rowS_at l (j / 9) hi9 (j % 9) hk9
      rw [show j / 9 * 9 + j % 9 = j by omega, hj, Option.some.injEq] at hr
      obtain ⟨b, off, e, _, ⟨h0, h1, h2, h3, h4, h5, h6, h7, h8⟩, _⟩ := hc (j / 9) hi9
      injection e with e
      subst e hr
      rw [addr_off, show off + j = off + j / 9 * 9 + j % 9 by omega]
      obtain ⟨k, hk⟩ : ∃ k, k = j % 9 := ⟨_, rfl⟩
      simp only [← hk]
      rw [← hk] at hk9
      match k, hk9 with
      | 0, _ => exact h0
      | 1, _ => exact h1
      | 2, _ => exact h2
      | 3, _ => exact h3
      | 4, _ => exact h4
      | 5, _ => exact h5
      | 6, _ => exact h6
      | 7, _ => exact h7
      | 8, _ => exact h8
    case one =>
      intro u hu
      unfold rowS at hu
      rw [List.mem_flatMap] at hu
      obtain ⟨t, ht, hu⟩ := hu
      obtain ⟨i, hi, rfl⟩ := List.mem_iff_getElem.1 ht
      obtain ⟨b, off, _, _, _, g1, g2⟩ := hc i hi
      have h1 := nds_one g1
      have h2 := nds_one g2
      simp only [cellsI, List.mem_cons, List.not_mem_nil, or_false] at hu
      rcases hu with rfl | rfl | rfl | rfl | rfl | rfl | rfl | rfl | rfl
      · rfl
      · rfl
      · rfl
      · exact h1
      · exact h2
      · rfl
      · rfl
      · rfl
      · rfl
    intro v' w' h1 h2 _
    exact h v' w' h1 ((Below.refl base w).grown h2 hbase (fun k hk => (hown.lt k hk).1))
theorem stsD_of_rowC {w : World} {B : Nat} {v : Value} {ts : List SI} (h : w.ownsRow B 55 9 v ts.length (rowS ts)) (hi : ∀ t ∈ ts, NdsC w t.2.1 t.1.e ∧ NdsC w t.2.2 t.1.f) : StsD w v ts := by
  have hl := h.lt
  have hc := @World.ownsRow.cells _ _ _ _ _ _ _ h
  rcases h.2 with ⟨rfl, h0⟩ | ⟨g, cap, cur, rfl, _, hg, h1, h2, _⟩
  · have := List.eq_nil_of_length_eq_zero h0
    subst this
    exact ⟨none, 0, rfl, Nat.zero_le _, by omega, fun i hi => absurd hi (Nat.not_lt_zero _)⟩
  · refine ⟨_, cap, rfl, h1, by unfold maxLen at h2; omega, fun i hi' => ?_⟩
    have hk : ∀ k, (hk : k < 9) → w.cell? ⟨g, 0 + i * 9 + k, none⟩ = some ((cellsI ts[i])[k]'(by simpa [cellsI] using hk)) := by
      intro k hk
      have r := hc (g := g) rfl _ _ (rowS_at ts i hi' k hk)
      rw [addr_add] at r
      rw [Nat.zero_add]
      exact r
    have hm := hi ts[i] (List.getElem_mem hi')
    exact ⟨g, 0, rfl, (hl g rfl).2, ⟨hk 0 (by decide), hk 1 (by decide), hk 2 (by decide), hk 3 (by decide), hk 4 (by decide), hk 5 (by decide), hk 6 (by decide), hk 7 (by decide), hk 8 (by decide)⟩, hm.1, hm.2⟩
theorem stsD_vals {w : World} {v : Value} {ts : List SI} (h : StsD w v ts) : ∀ t ∈ ts, NdsC w t.2.1 t.1.e ∧ NdsC w t.2.2 t.1.f := by
  obtain ⟨ad, cap, rfl, _, _, hc⟩ := h
  intro t ht
  obtain ⟨i, hi, rfl⟩ := List.mem_iff_getElem.1 ht
  obtain ⟨b, off, _, _, _, g1, g2⟩ := hc i hi
  exact ⟨g1, g2⟩
theorem rightS_app {t u : Tr} (h1 : ∀ x ∈ t.flat, okSt x) (h2 : ∀ x ∈ u.flat, okSt x) (h3 : t.hgt ≤ 30) (h4 : u.hgt ≤ 30) (h5 : t.flat.length + u.flat.length ≤ 200) : rightS (t.flat ++ u.flat) :=
  ⟨by rw [List.length_append]; exact h5, t.app u, t.app_flat u, fun x hx => by
    rcases List.mem_append.1 hx with h | h
    · exact h1 x h
    · exact h2 x h, by rw [Tr.app_hgt]; omega⟩
set_option maxHeartbeats 2000000 in
theorem join_heavy1 (v u : Value) (w : World) (hf : Flds w) (ht : Tabs w) (hl : Calls Tryz.prog 17 #[v] w fun e w' => e = .returned (.bool false) ∧ Below w.heap.size w w') :
    Calls Tryz.prog 6 #[v, u] w fun e w' => e = .returned (.bool true) ∧ Below w.heap.size w w' := by
  have HK := Lib.hid (fun w' (hb : Below w.heap.size w w') => known_any w' (hf.below hb) (ht.below hb))
  clear ht hf
  go_enter Tryz.func6, Tryz.ntmps6
  go_wp2_with fail
  refine hl.mono ?_
  rintro e w0 ⟨rfl, b0⟩
  go_wp2_with fail
  refine (HK.out w0 b0).mono ?_
  rintro e w1 ⟨rfl, c1⟩
  go_wp2
  go_ret
  exact ⟨rfl, b0.trans (c1.mono b0.size)⟩
set_option maxHeartbeats 2000000 in
theorem join_heavy2 (v u : Value) (w : World) (hf : Flds w) (ht : Tabs w) (hl : Calls Tryz.prog 17 #[v] w fun e w' => e = .returned (.bool true) ∧ Below w.heap.size w w')
    (hl2 : ∀ w0, Below w.heap.size w w0 → Calls Tryz.prog 17 #[u] w0 fun e w' => e = .returned (.bool false) ∧ Below w0.heap.size w0 w') :
    Calls Tryz.prog 6 #[v, u] w fun e w' => e = .returned (.bool true) ∧ Below w.heap.size w w' := by
  have HK := Lib.hid (fun w' (hb : Below w.heap.size w w') => known_any w' (hf.below hb) (ht.below hb))
  clear ht hf
  go_enter Tryz.func6, Tryz.ntmps6
  go_wp2_with fail
  refine hl.mono ?_
  rintro e w0 ⟨rfl, b0⟩
  go_wp2_with fail
  refine (hl2 w0 b0).mono ?_
  rintro e w1 ⟨rfl, c1⟩
  have b1 := b0.trans (c1.mono b0.size)
  go_wp2_with fail
  refine (HK.out w1 b1).mono ?_
  rintro e w2 ⟨rfl, c2⟩
  go_wp2
  go_ret
  exact ⟨rfl, b1.trans (c2.mono b1.size)⟩
set_option maxHeartbeats 2000000 in
theorem join_wrong1 (v u : Value) (w : World) (hf : Flds w) (ht : Tabs w) (hl : Calls Tryz.prog 17 #[v] w fun e w' => e = .returned (.bool true) ∧ Below w.heap.size w w')
    (hl2 : ∀ w0, Below w.heap.size w w0 → Calls Tryz.prog 17 #[u] w0 fun e w' => e = .returned (.bool true) ∧ Below w0.heap.size w0 w')
    (hr : ∀ w0, Below w.heap.size w w0 → Calls Tryz.prog 18 #[v] w0 fun e w' => e = .returned (.bool false) ∧ Below w0.heap.size w0 w') :
    Calls Tryz.prog 6 #[v, u] w fun e w' => e = .returned (.bool true) ∧ Below w.heap.size w w' := by
  have HK := Lib.hid (fun w' (hb : Below w.heap.size w w') => known_any w' (hf.below hb) (ht.below hb))
  clear ht hf
  go_enter Tryz.func6, Tryz.ntmps6
  go_wp2_with fail
  refine hl.mono ?_
  rintro e w0 ⟨rfl, b0⟩
  go_wp2_with fail
  refine (hl2 w0 b0).mono ?_
  rintro e w1 ⟨rfl, c1⟩
  have b1 := b0.trans (c1.mono b0.size)
  go_wp2_with fail
  refine (hr w1 b1).mono ?_
  rintro e w2 ⟨rfl, c2⟩
  have b2 := b1.trans (c2.mono b1.size)
  go_wp2_with fail
  refine (HK.out w2 b2).mono ?_
  rintro e w3 ⟨rfl, c3⟩
  go_wp2
  go_ret
  exact ⟨rfl, b2.trans (c3.mono b2.size)⟩
set_option maxHeartbeats 2000000 in
theorem join_wrong2 (v u : Value) (w : World) (hf : Flds w) (ht : Tabs w) (hl : Calls Tryz.prog 17 #[v] w fun e w' => e = .returned (.bool true) ∧ Below w.heap.size w w')
    (hl2 : ∀ w0, Below w.heap.size w w0 → Calls Tryz.prog 17 #[u] w0 fun e w' => e = .returned (.bool true) ∧ Below w0.heap.size w0 w')
    (hr : ∀ w0, Below w.heap.size w w0 → Calls Tryz.prog 18 #[v] w0 fun e w' => e = .returned (.bool true) ∧ Below w0.heap.size w0 w')
    (hr2 : ∀ w0, Below w.heap.size w w0 → Calls Tryz.prog 18 #[u] w0 fun e w' => e = .returned (.bool false) ∧ Below w0.heap.size w0 w') :
    Calls Tryz.prog 6 #[v, u] w fun e w' => e = .returned (.bool true) ∧ Below w.heap.size w w' := by
  have HK := Lib.hid (fun w' (hb : Below w.heap.size w w') => known_any w' (hf.below hb) (ht.below hb))
  clear ht hf
  go_enter Tryz.func6, Tryz.ntmps6
  go_wp2_with fail
  refine hl.mono ?_
  rintro e w0 ⟨rfl, b0⟩
  go_wp2_with fail
  refine (hl2 w0 b0).mono ?_
  rintro e w1 ⟨rfl, c1⟩
  have b1 := b0.trans (c1.mono b0.size)
  go_wp2_with fail
  refine (hr w1 b1).mono ?_
  rintro e w2 ⟨rfl, c2⟩
  have b2 := b1.trans (c2.mono b1.size)
  go_wp2_with fail
  refine (hr2 w2 b2).mono ?_
  rintro e w3 ⟨rfl, c3⟩
  have b3 := b2.trans (c3.mono b2.size)
  go_wp2_with fail
  refine (HK.out w3 b3).mono ?_
  rintro e w4 ⟨rfl, c4⟩
  go_wp2
  go_ret
  exact ⟨rfl, b3.trans (c4.mono b3.size)⟩
set_option maxRecDepth 100000 in
set_option maxHeartbeats 8000000 in
theorem join_right (ta tb : List SI) (v u : Value) (w : World) (hv : StsD w v ta) (hu : StsD w u tb) (nv : NilOK v) (nu : NilOK u) (na : ta.length ≤ 60) (nb : tb.length ≤ 60) (za : SmOK (ta.map (·.1))) (zb : SmOK (tb.map (·.1))) (hf : Flds w) (ht : Tabs w)
    (hl : Calls Tryz.prog 17 #[v] w fun e w' => e = .returned (.bool true) ∧ Below w.heap.size w w')
    (hl2 : ∀ w0, Below w.heap.size w w0 → Calls Tryz.prog 17 #[u] w0 fun e w' => e = .returned (.bool true) ∧ Below w0.heap.size w0 w')
    (ra : rightS (ta.map (·.1))) (rb : rightS (tb.map (·.1))) :
    Calls Tryz.prog 6 #[v, u] w fun e w' => e = .returned (.bool true) ∧ Below w.heap.size w w' := by
  obtain ⟨_, t1, f1, k1, h1⟩ := id ra
  obtain ⟨_, t2, f2, k2, h2⟩ := id rb
  have k1' : ∀ x ∈ t1.flat, okSt x := by rw [f1]; exact k1
  have k2' : ∀ x ∈ t2.flat, okSt x := by rw [f2]; exact k2
  have l1 : t1.flat.length ≤ 60 := by rw [f1, List.length_map]; exact na
  have l2 : t2.flat.length ≤ 60 := by rw [f2, List.length_map]; exact nb
  have rab := rightS_app k1' k2' h1 h2 (by omega)
  have kab : ∀ x ∈ (t1.app t2).flat, okSt x := by rw [Tr.app_flat]; exact fun x hx => (List.mem_append.1 hx).elim (k1' x) (k2' x)
  have lab : (t1.app t2).flat.length ≤ 120 := by rw [Tr.app_flat, List.length_append]; omega
  obtain ⟨ys, hp, he, _⟩ := back_text (t1.app t2) 0 kab (by rw [Tr.app_hgt]; omega) (by omega)
  have x1 := text_len t1 0 k1' (by omega)
  have x2 := text_len t2 0 k2' (by omega)
  have tx1 := textS_tree ra t1 f1 0
  have tx2 := textS_tree rb t2 f2 0
  rw [Tr.app_text] at hp he
  rw [Tr.app_flat, f1, f2] at he
  rw [f1, f2] at rab
  have hdep := Tr.app_hgt t1 t2
  have fab : (t1.app t2).flat = ta.map (·.1) ++ tb.map (·.1) := by rw [Tr.app_flat, f1, f2]
  obtain ⟨q1, hq1⟩ : ∃ q, q = t1.text 0 := ⟨_, rfl⟩
  obtain ⟨q2, hq2⟩ : ∃ q, q = t2.text 0 := ⟨_, rfl⟩
  rw [← hq1] at hp he x1 tx1
  rw [← hq2] at hp he x2 tx2
  have y1 : q1.length ≤ 8000000 := by have : t1.flat.length * 80000 ≤ 60 * 80000 := Nat.mul_le_mul_right _ l1; omega
  have y2 : q2.length ≤ 8000000 := by have : t2.flat.length * 80000 ≤ 60 * 80000 := Nat.mul_le_mul_right _ l2; omega
  obtain ⟨s1, hs1⟩ : ∃ s : ByteArray, s = ⟨q1.toArray⟩ := ⟨_, rfl⟩
  obtain ⟨s2, hs2⟩ : ∃ s : ByteArray, s = ⟨q2.toArray⟩ := ⟨_, rfl⟩
  have ss1 : s1.size = q1.length := by rw [hs1, Lib.size_eq]
  have ss2 : s2.size = q2.length := by rw [hs2, Lib.size_eq]
  have HT := Lib.hid ht
  have HF := Lib.hid hf
  have HZA := Lib.hid za
  have HZB := Lib.hid zb
  have HRA := Lib.hid ((rightSB_iff _).2 ra)
  have HRB := Lib.hid ((rightSB_iff _).2 rb)
  have HRAB := Lib.hid ((rightSB_iff _).2 rab)
  have HZAB := Lib.hid (smOK_of (ta.map (·.1) ++ tb.map (·.1)) (fun x hx => (List.mem_append.1 hx).elim (k1 x) (k2 x)))
  have HP := Lib.hid hp
  have HE := Lib.hid he
  have HX1 := Lib.hid tx1
  have HX2 := Lib.hid tx2
  have HS1 := Lib.hid hs1
  have HS2 := Lib.hid hs2
  have HFA := Lib.hid f1
  have HFB := Lib.hid f2
  have HFAB := Lib.hid fab
  have HDEP := Lib.hid hdep
  have HNA := Lib.hid na
  have HNB := Lib.hid nb
  have HVV := Lib.hid hv
  have HUU := Lib.hid hu
  have HNV := Lib.hid nv
  have HNU := Lib.hid nu
  obtain ⟨D1, hD1⟩ : ∃ D, D = t1.hgt := ⟨_, rfl⟩
  obtain ⟨D2, hD2⟩ : ∃ D, D = t2.hgt := ⟨_, rfl⟩
  have HD1 := Lib.hid hD1
  have HD2 := Lib.hid hD2
  have d1 : D1 ≤ 30 := by omega
  have d2 : D2 ≤ 30 := by omega
  clear k1 k2 h1 h2 k1' k2' l1 l2 rab kab lab hp he x1 x2 tx1 tx2 hdep fab hq1 hq2 hs1 hs2 ra rb za zb ht hf f1 f2 hD1 hD2
  obtain ⟨ad, cap, rfl, j1, j2, j3⟩ := id hv
  obtain ⟨ad', cap', rfl, j1', j2', j3'⟩ := id hu
  clear j3 j3' hv hu nv nu
  obtain ⟨n, hN⟩ : ∃ n, n = ta.length := ⟨_, rfl⟩
  obtain ⟨m, hM⟩ : ∃ m, m = tb.length := ⟨_, rfl⟩
  have HN := Lib.hid hN
  have HM := Lib.hid hM
  rw [← hN] at hl na HVV HNV j1 ⊢
  rw [← hM] at hl2 nb HUU HNU j1' ⊢
  clear hN hM
  go_enter Tryz.func6, Tryz.ntmps6
  go_wp2_with fail
  refine hl.mono ?_
  rintro e w0 ⟨rfl, b0⟩
  go_wp2_with fail
  refine (hl2 w0 b0).mono ?_
  rintro e w1 ⟨rfl, c1⟩
  have b1 := b0.trans (c1.mono b0.size)
  clear b0 c1 hl hl2
  have A1 := Lib.hid (HVV.out.below b1)
  have B1 := Lib.hid (HUU.out.below b1)
  have H := sright_any ta _ w1 A1.out (by have := HNA.out; omega) HZA.out (HF.out.below b1)
  rw [HRA.out] at H
  go_wp2_with fail
  refine H.mono ?_
  clear H
  rintro e w2 ⟨rfl, c2⟩
  have b2 := b1.trans (c2.mono b1.size)
  have A2 := Lib.hid (A1.out.below c2)
  have B2 := Lib.hid (B1.out.below c2)
  clear b1 c2 A1 B1
  have H := sright_any tb _ w2 B2.out (by have := HNB.out; omega) HZB.out (HF.out.below b2)
  rw [HRB.out] at H
  go_wp2_with fail
  refine H.mono ?_
  clear H
  rintro e w3 ⟨rfl, c3⟩
  have b3 := b2.trans (c3.mono b2.size)
  have A3 := Lib.hid (A2.out.below c3)
  have B3 := Lib.hid (B2.out.below c3)
  clear b2 c3 A2 B2
  have H := show_any ta _ 0 w3 (by omega) A3.out (by have := HNA.out; omega) HZA.out (HF.out.below b3) (HT.out.below b3)
  unfold TextIs at H
  rw [HX1.out, ← HS1.out] at H
  go_wp2_with fail
  refine H.mono ?_
  clear H
  rintro e w4 ⟨rfl, c4⟩
  have b4 := b3.trans (c4.mono b3.size)
  have A4 := Lib.hid (A3.out.below c4)
  have B4 := Lib.hid (B3.out.below c4)
  clear b3 c4 A3 B3
  have H := show_any tb _ 0 w4 (by omega) B4.out (by have := HNB.out; omega) HZB.out (HF.out.below b4) (HT.out.below b4)
  unfold TextIs at H
  rw [HX2.out, ← HS2.out] at H
  go_wp2_with fail
  refine H.mono ?_
  clear H
  rintro e w5 ⟨rfl, c5⟩
  have b5 := b4.trans (c5.mono b4.size)
  have A5 := Lib.hid (A4.out.below c5)
  have B5 := Lib.hid (B4.out.below c5)
  clear b4 c5 A4 B4
  have z1 : ¬ 9223372036854775807 < s1.size + s2.size := by omega
  have hss : s1 ++ s2 = ⟨(q1 ++ q2).toArray⟩ := by
    refine ba_eq ?_
    rw [HS1.out, HS2.out]
    simp
  have HSS := Lib.hid hss
  clear hss
  go_wp2_with fail
  obtain ⟨s3, hs3⟩ : ∃ s3, s3 = s1 ++ s2 := ⟨_, rfl⟩
  rw [← hs3] at HSS ⊢
  have ss3 : s3.size = (q1 ++ q2).length := by rw [HSS.out, Lib.size_eq]
  rw [List.length_append] at ss3
  clear hs3
  obtain ⟨q, hq⟩ : ∃ q, q = q1 ++ q2 := ⟨_, rfl⟩
  rw [← hq] at HSS HP HE
  have hql : q.length = q1.length + q2.length := by rw [hq, List.length_append]
  clear hq
  refine (tok_all q s3 w5 HSS.out (by unfold maxLen; omega)).mono ?_
  rintro e w6 ⟨tv, rfl, o6, c6⟩
  have b6 := b5.trans (c6.mono b5.size)
  have A6 := Lib.hid (A5.out.below c6)
  have B6 := Lib.hid (B5.out.below c6)
  have HO6 := Lib.hid o6
  obtain ⟨tad, tcap, rfl, _⟩ := own_shape o6
  clear b5 c6 A5 B5 o6
  go_wp2_with fail
  refine (par_all q ys _ HP.out _ _ w6 HO6.out (HT.out.below b6)).mono ?_
  rintro e w7 ⟨z2, us, rfl, N2, hus, c7⟩
  have b7 := b6.trans (c7.mono b6.size)
  have A7 := Lib.hid (A6.out.below c7)
  have B7 := Lib.hid (B6.out.below c7)
  have HUS := Lib.hid hus
  have U7 := Lib.hid N2
  obtain ⟨ad2, cap2, rfl, j4, j5, j6⟩ := N2
  clear j4 j5 j6 b6 c7 A6 B6 hus HO6
  obtain ⟨k, hK⟩ : ∃ k, k = us.length := ⟨_, rfl⟩
  rw [← hK] at U7 ⊢
  clear hK
  obtain ⟨N, hNt⟩ : ∃ N, N = (scanL q).1.length := ⟨_, rfl⟩
  rw [← hNt]
  clear hNt
  go_wp2_with (at_builtin; refine append_in rfl (.tmp 43) (.tmp 44) rfl w7.heap.size 0 _ _ [] ta rfl rfl (World.ownsRow_nil _ _ _ _) A7.out HNV.out (by have := HNA.out; omega) (Nat.le_refl _) ?_)
  intro v8 w8 o8 c8
  have A8 := Lib.hid (A7.out.below c8)
  have B8 := Lib.hid (B7.out.below c8)
  have U8 := Lib.hid (U7.out.below c8)
  have HO8 := Lib.hid o8
  have HC8 := Lib.hid c8
  obtain ⟨ad8, cap8, rfl, _⟩ := own_shape o8
  clear o8 c8
  go_wp2_with (at_builtin; refine append_in rfl (.tmp 46) (.tmp 47) rfl w7.heap.size ta.length _ _ (rowS ta) tb rfl rfl HO8.out B8.out HNU.out (by have := HNA.out; have := HNB.out; omega) HC8.out.size ?_)
  intro v9 w9 o9 c9
  rw [← rowS_append, ← List.length_append] at o9
  have b9 := HC8.out.trans c9
  obtain ⟨tab, htab⟩ : ∃ tab, tab = ta ++ tb := ⟨_, rfl⟩
  have hmap : tab.map (·.1) = ta.map (·.1) ++ tb.map (·.1) := by rw [htab, List.map_append]
  have ltab : tab.length ≤ 120 := by rw [htab, List.length_append]; have := HNA.out; have := HNB.out; omega
  have hvals : ∀ t ∈ tab, NdsC w9 t.2.1 t.1.e ∧ NdsC w9 t.2.2 t.1.f := by
    intro t ht
    rw [htab] at ht
    rcases List.mem_append.1 ht with h | h
    · have := stsD_vals A7.out t h; exact ⟨this.1.below b9, this.2.below b9⟩
    · have := stsD_vals B7.out t h; exact ⟨this.1.below b9, this.2.below b9⟩
  rw [← htab] at o9
  have V9 := Lib.hid (stsD_of_rowC o9 hvals)
  have A9 := Lib.hid (A7.out.below b9)
  have B9 := Lib.hid (B7.out.below b9)
  have U9 := Lib.hid (U7.out.below b9)
  have hb9 := b7.trans (b9.mono b7.size)
  obtain ⟨ad9, cap9, rfl, _⟩ := own_shape o9
  obtain ⟨g, hG⟩ : ∃ g, g = tab.length := ⟨_, rfl⟩
  rw [← hG] at V9 ⊢
  have HMAP := Lib.hid hmap
  have HLT := Lib.hid ltab
  clear htab hmap ltab hvals o9 c9 b9 b7 HO8 HC8 A7 B7 U7 A8 B8 U8 hG
  have HB9 := Lib.hid hb9
  clear hb9
  have HSAME : Hid (q.length ≤ 20000 → Calls Tryz.prog 16 #[.slice ad2 k cap2, .slice ad9 g cap9, .bool false] w9 fun e w' => e = .returned (.bool true) ∧ Below w9.heap.size w9 w') := by
    refine Lib.hid fun hq => ?_
    have hln := stmt_len _ _ _ _ HP.out
    have hul : us.length ≤ 200 := by rw [← List.length_map (f := (·.1)), HUS.out]; exact hln.1
    refine same_of_er us tab _ _ w9 U9.out V9.out (by rw [HMAP.out, HUS.out]; exact (HE.out hq).symm) (by omega) (fun x hx => ?_) fun _ _ _ h => stsC_of_D h
    rw [HUS.out] at hx
    have := hln.2 x hx
    exact ⟨by have := this.1; omega, by have := this.2; omega⟩
  have HREST : Hid (∀ w10, Below w9.heap.size w9 w10 → Calls Tryz.prog 18 #[.slice ad9 g cap9] w10 fun e w' => e = .returned (.bool true) ∧ Below w10.heap.size w10 w') := by
    refine Lib.hid fun w10 hb => ?_
    have H := sright_any tab _ w10 (V9.out.below hb) (by have := HLT.out; omega) (by rw [HMAP.out]; exact HZAB.out) (HF.out.below (HB9.out.trans (hb.mono HB9.out.size)))
    rw [HMAP.out, HRAB.out] at H
    exact H
  have HDA : Hid (∀ w10, Below w9.heap.size w9 w10 → Calls Tryz.prog 20 #[.slice ad n cap] w10 fun e w' => e = .returned (.int .i64 (D1 : Int)) ∧ Below w10.heap.size w10 w') := by
    refine Lib.hid fun w10 hb => ?_
    have H := sdepth_any ta _ w10 (A9.out.below hb) (by have := HNA.out; omega) t1 HFA.out.symm
    rw [← HD1.out] at H
    exact H
  have HDB : Hid (∀ w10, Below w9.heap.size w9 w10 → Calls Tryz.prog 20 #[.slice ad' m cap'] w10 fun e w' => e = .returned (.int .i64 (D2 : Int)) ∧ Below w10.heap.size w10 w') := by
    refine Lib.hid fun w10 hb => ?_
    have H := sdepth_any tb _ w10 (B9.out.below hb) (by have := HNB.out; omega) t2 HFB.out.symm
    rw [← HD2.out] at H
    exact H
  obtain ⟨D, hD⟩ : ∃ D, D = max D1 D2 := ⟨_, rfl⟩
  have HDD : Hid (∀ w10, Below w9.heap.size w9 w10 → Calls Tryz.prog 20 #[.slice ad9 g cap9] w10 fun e w' => e = .returned (.int .i64 (D : Int)) ∧ Below w10.heap.size w10 w') := by
    refine Lib.hid fun w10 hb => ?_
    have H := sdepth_any tab _ w10 (V9.out.below hb) (by have := HLT.out; omega) (t1.app t2) (by rw [HMAP.out, HFAB.out])
    rw [HDEP.out, ← HD1.out, ← HD2.out, ← hD] at H
    exact H
  have HK := Lib.hid (fun w10 (hb : Below w9.heap.size w9 w10) => known_any w10 (HF.out.below (HB9.out.trans (hb.mono HB9.out.size))) (HT.out.below (HB9.out.trans (hb.mono HB9.out.size))))
  have hd30 : D ≤ 30 := by omega
  clear V9 U9 A9 B9 HD1 HD2
  by_cases hlong : 20000 < q.length
  · have e2 : decide ((20000 : Int) < (s3.size : Int)) = true := decide_eq_true (by omega)
    have e3 : decide (20000 < s3.size) = true := decide_eq_true (by omega)
    go_wp2_with fail
    refine (HREST.out _ (Below.refl _ _)).mono ?_
    rintro e w10 ⟨rfl, c10⟩
    go_wp2_with fail
    refine (HDD.out _ c10).mono ?_
    rintro e w11 ⟨rfl, c11⟩
    have f11 := c10.trans (c11.mono c10.size)
    go_wp2_with fail
    refine (HDA.out _ f11).mono ?_
    rintro e w12 ⟨rfl, c12⟩
    have f12 := f11.trans (c12.mono f11.size)
    go_wp2_with fail
    refine (HDB.out _ f12).mono ?_
    rintro e w13 ⟨rfl, c13⟩
    have f13 := f12.trans (c13.mono f12.size)
    go_wp2_with fail
    refine (HK.out _ f13).mono ?_
    rintro e w14 ⟨rfl, c14⟩
    have f14 := f13.trans (c14.mono f13.size)
    go_wp2
    go_ret
    exact ⟨rfl, HB9.out.trans (f14.mono HB9.out.size)⟩
  · have e2 : decide ((20000 : Int) < (s3.size : Int)) = false := decide_eq_false (by omega)
    have e3 : decide (20000 < s3.size) = false := decide_eq_false (by omega)
    go_wp2_with fail
    refine (HSAME.out (by omega)).mono ?_
    rintro e w99 ⟨rfl, c99⟩
    go_wp2_with fail
    refine (HREST.out _ c99).mono ?_
    rintro e w10 ⟨rfl, c10'⟩
    have c10 := c99.trans (c10'.mono c99.size)
    go_wp2_with fail
    refine (HDD.out _ c10).mono ?_
    rintro e w11 ⟨rfl, c11⟩
    have f11 := c10.trans (c11.mono c10.size)
    go_wp2_with fail
    refine (HDA.out _ f11).mono ?_
    rintro e w12 ⟨rfl, c12⟩
    have f12 := f11.trans (c12.mono f11.size)
    go_wp2_with fail
    refine (HDB.out _ f12).mono ?_
    rintro e w13 ⟨rfl, c13⟩
    have f13 := f12.trans (c13.mono f12.size)
    go_wp2_with fail
    refine (HK.out _ f13).mono ?_
    rintro e w14 ⟨rfl, c14⟩
    have f14 := f13.trans (c14.mono f13.size)
    go_wp2
    go_ret
    exact ⟨rfl, HB9.out.trans (f14.mono HB9.out.size)⟩
theorem stmtJoins_walk (ta : List SI) (v : Value) (tb : List SI) (u : Value) (w : World) (hv : StsD w v ta) (na : BigOK ta) (nv : NilOK v) (hu : StsD w u tb) (nb : BigOK tb) (nu : NilOK u) (hf : Flds w) (ht : Tabs w) :
    Calls Tryz.prog 6 #[v, u] w fun e w' => e = .returned (.bool true) ∧ Below w.heap.size w w' := by
  cases ha : lightS ta with
  | false => exact join_heavy1 v u w hf ht (lightS_any ta v w hv na false ha)
  | true =>
    have hl := lightS_any ta v w hv na true ha
    obtain ⟨n1, z1⟩ := lightS_smOK ha
    cases hb : lightS tb with
    | false => exact join_heavy2 v u w hf ht hl fun w0 b0 => lightS_any tb u w0 (hu.below b0) nb false hb
    | true =>
      have hl2 := fun w0 (b0 : Below w.heap.size w w0) => lightS_any tb u w0 (hu.below b0) nb true hb
      obtain ⟨n2, z2⟩ := lightS_smOK hb
      have hr : ∀ w0, Below w.heap.size w w0 → Calls Tryz.prog 18 #[v] w0 fun e w' => e = .returned (.bool (rightSB (ta.map (·.1)))) ∧ Below w0.heap.size w0 w' := fun w0 b0 => sright_any ta v w0 (hv.below b0) (by omega) z1 (hf.below b0)
      have hr2 : ∀ w0, Below w.heap.size w w0 → Calls Tryz.prog 18 #[u] w0 fun e w' => e = .returned (.bool (rightSB (tb.map (·.1)))) ∧ Below w0.heap.size w0 w' := fun w0 b0 => sright_any tb u w0 (hu.below b0) (by omega) z2 (hf.below b0)
      cases h1 : rightSB (ta.map (·.1)) with
      | false => rw [h1] at hr; exact join_wrong1 v u w hf ht hl hl2 hr
      | true =>
        rw [h1] at hr
        cases h2 : rightSB (tb.map (·.1)) with
        | false => rw [h2] at hr2; exact join_wrong2 v u w hf ht hl hl2 hr hr2
        | true => exact join_right ta tb v u w hv hu nv nu n1 n2 z1 z2 hf ht hl hl2 ((rightSB_iff _).1 h1) ((rightSB_iff _).1 h2)
end Go.Proofs.YtmlcdnfejebhoaaGreatDoor
