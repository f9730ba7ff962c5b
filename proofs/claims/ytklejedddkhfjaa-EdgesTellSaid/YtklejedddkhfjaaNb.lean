/- Layer 14: the reference's Bools, Same, Light. -/
import Derived.Test.YtklejedddkhfjaaNa
namespace Go.Proofs.Ytklejedddkhfjaa
set_option linter.unusedSimpArgs false
set_option linter.unusedVariables false
open Go.RowKit

set_option maxRecDepth 100000 in
set_option maxHeartbeats 2000000 in
theorem bools_gen (l1 l2 : List Bool) (v1 v2 : Value) (w : World) (h1 : TrusD w v1 l1) (h2 : TrusD w v2 l2) (hn : l1.length ≤ 100000) (b : Bool) (hb : decide (l1 = l2) = b) :
    Calls Try.prog 26 #[v1, v2] w fun e w' => e = .returned (.bool b) ∧ Below w.heap.size w w' := by
  have H1 := Lib.hid h1
  have H2 := Lib.hid h2
  obtain ⟨ad, cap, rfl⟩ := h1.shape0
  obtain ⟨ad2, cap2, rfl⟩ := h2.shape0
  by_cases hl : l1.length = l2.length
  · have HB0 : Hid (decide (l1.drop 0 = l2.drop 0) = b) := Lib.hid hb
    rw [← hl] at H2 ⊢
    have HL := Lib.hid hl
    obtain ⟨n, hN⟩ : ∃ n, n = l1.length := ⟨_, rfl⟩
    rw [← hN] at H1 H2 hn ⊢
    have HN := Lib.hid hN
    clear h1 h2 hb hl hN
    go_enter Try.func26, Try.ntmps26
    go_wp2_with fail
    go_loopg [5] n (fun fuel i' wr => ∃ (k : Nat), i' = .int .i64 k ∧ k ≤ n ∧ n - k ≤ fuel ∧ decide (l1.drop k = l2.drop k) = b ∧ Below w.heap.size w wr)
    case atStart => exact ⟨0, rfl, Nat.zero_le _, Nat.le_refl _, HB0.out, Below.refl _ _⟩
    case round =>
      obtain ⟨k, rfl, hk, hf, ha, hb⟩ := hrel
      have HA := Lib.hid ha
      have HB := Lib.hid hb
      have hww := hb.size
      by_cases hlt : k < n
      · have hk1 : k < l1.length := by rw [← HN.out]; exact hlt
        have hk2 : k < l2.length := by rw [← HL.out]; exact hk1
        have HE := Lib.hid (drop_eq_iff l1 l2 k hk1 hk2)
        obtain ⟨b1, off, rfl, hbl, x0⟩ := TrusD.at2 H1.out k hk1
        obtain ⟨b2, off2, rfl, hbl2, y0⟩ := TrusD.at2 H2.out k hk2
        obtain ⟨xo, hx⟩ : ∃ x, x = l1[k] := ⟨_, rfl⟩
        obtain ⟨yo, hy⟩ : ∃ x, x = l2[k] := ⟨_, rfl⟩
        rw [← hx] at x0 HE
        rw [← hy] at y0 HE
        have c0 : wr.cell? ⟨b1, off + k, none⟩ = some (.bool xo) := (hb.cell (p := ⟨b1, _, none⟩) hbl).trans x0
        have d0 : wr.cell? ⟨b2, off2 + k, none⟩ = some (.bool yo) := (hb.cell (p := ⟨b2, _, none⟩) hbl2).trans y0
        clear x0 y0 hx hy hb ha hk1 hk2
        by_cases hq : xo = yo
        · have q1 : (xo == yo) = true := by simp [hq]
          have HQ : Hid (decide (l1.drop (k + 1) = l2.drop (k + 1)) = b) := Lib.hid (by rw [← HA.out, HE.out, decide_eq_true hq]; rfl)
          clear hq
          go_wp2
          go_quiet (fail)
          go_wp2
          go_roundg (gk - 1)
          case measure => omega
          case rel => exact ⟨k + 1, by go_num, by omega, by omega, HQ.out, below_drewN' HB.out _⟩
        · have q1 : (xo == yo) = false := by simpa using hq
          have HQ : Hid (b = false) := Lib.hid (by rw [← HA.out, HE.out, decide_eq_false hq]; rfl)
          clear hq
          go_wp2
          go_quiet (fail)
          go_wp2
          go_ret
          exact ⟨ret_bool HQ.out.symm, below_drewN' HB.out _⟩
      · have HE : Hid (b = true) := Lib.hid (by
          rw [← HA.out, List.drop_eq_nil_of_le (by rw [← HN.out]; omega), List.drop_eq_nil_of_le (by rw [← HL.out, ← HN.out]; omega)]; rfl)
        clear hb ha
        go_wp2
        go_ret
        exact ⟨ret_bool HE.out.symm, HB.out⟩
  · have HBF : Hid (b = false) := Lib.hid (by rw [← hb]; exact decide_eq_false (fun h => hl (by rw [h])))
    have g1 : ((l1.length : Int) != (l2.length : Int)) = true := by simp; omega
    generalize l1.length = n1 at g1 H1
    generalize l2.length = n2 at g1 H2
    clear h1 h2 hb hl hn
    go_enter Try.func26, Try.ntmps26
    go_wp2
    go_ret
    exact ⟨ret_bool HBF.out.symm, Below.refl _ _⟩

set_option maxRecDepth 100000 in
set_option maxHeartbeats 2000000 in
theorem edges_gen (l1 l2 : List Edg) (v1 v2 : Value) (w : World) (h1 : EdgsD w v1 l1) (h2 : EdgsD w v2 l2) (hn : l1.length ≤ 100000) (b : Bool) (hb : decide (l1 = l2) = b) :
    Calls Try.prog 12 #[v1, v2] w fun e w' => e = .returned (.bool b) ∧ Below w.heap.size w w' := by
  have H1 := Lib.hid h1
  have H2 := Lib.hid h2
  obtain ⟨ad, cap, rfl⟩ := h1.shape0
  obtain ⟨ad2, cap2, rfl⟩ := h2.shape0
  by_cases hl : l1.length = l2.length
  · have HB0 : Hid (decide (l1.drop 0 = l2.drop 0) = b) := Lib.hid hb
    rw [← hl] at H2 ⊢
    have HL := Lib.hid hl
    obtain ⟨n, hN⟩ : ∃ n, n = l1.length := ⟨_, rfl⟩
    rw [← hN] at H1 H2 hn ⊢
    have HN := Lib.hid hN
    clear h1 h2 hb hl hN
    go_enter Try.func12, Try.ntmps12
    go_wp2_with fail
    go_loopg [5] n (fun fuel i' wr => ∃ (k : Nat), i' = .int .i64 k ∧ k ≤ n ∧ n - k ≤ fuel ∧ decide (l1.drop k = l2.drop k) = b ∧ Below w.heap.size w wr)
    case atStart => exact ⟨0, rfl, Nat.zero_le _, Nat.le_refl _, HB0.out, Below.refl _ _⟩
    case round =>
      obtain ⟨k, rfl, hk, hf, ha, hb⟩ := hrel
      have HA := Lib.hid ha
      have HB := Lib.hid hb
      have hww := hb.size
      by_cases hlt : k < n
      · have hk1 : k < l1.length := by rw [← HN.out]; exact hlt
        have hk2 : k < l2.length := by rw [← HL.out]; exact hk1
        have HE := Lib.hid (drop_eq_iff l1 l2 k hk1 hk2)
        obtain ⟨b1, off, rfl, hbl, x0, x1, x2⟩ := EdgsD.at2 H1.out k hk1
        obtain ⟨b2, off2, rfl, hbl2, y0, y1, y2⟩ := EdgsD.at2 H2.out k hk2
        obtain ⟨⟨xo, xp, xq⟩, hx⟩ : ∃ x, x = l1[k] := ⟨_, rfl⟩
        obtain ⟨⟨yo, yp, yq⟩, hy⟩ : ∃ x, x = l2[k] := ⟨_, rfl⟩
        rw [← hx] at x0 x1 x2 HE
        rw [← hy] at y0 y1 y2 HE
        have c0 : wr.cell? ⟨b1, off + k * 3, none⟩ = some (.int .i64 xo) := (hb.cell (p := ⟨b1, _, none⟩) hbl).trans x0
        have c1 : wr.cell? ⟨b1, off + k * 3 + 1, none⟩ = some (.int .i64 xp) := (hb.cell (p := ⟨b1, _, none⟩) hbl).trans x1
        have d0 : wr.cell? ⟨b2, off2 + k * 3, none⟩ = some (.int .i64 yo) := (hb.cell (p := ⟨b2, _, none⟩) hbl2).trans y0
        have d1 : wr.cell? ⟨b2, off2 + k * 3 + 1, none⟩ = some (.int .i64 yp) := (hb.cell (p := ⟨b2, _, none⟩) hbl2).trans y1
        have c2 : wr.cell? ⟨b1, off + k * 3 + 2, none⟩ = some (.int .i64 xq) := (hb.cell (p := ⟨b1, _, none⟩) hbl).trans x2
        have d2 : wr.cell? ⟨b2, off2 + k * 3 + 2, none⟩ = some (.int .i64 yq) := (hb.cell (p := ⟨b2, _, none⟩) hbl2).trans y2
        clear x0 y0 x1 y1 x2 y2 hx hy hb ha hk1 hk2
        by_cases hq : xo = yo ∧ xp = yp ∧ xq = yq
        · have q1 : (xo == yo) = true := by simpa using hq.1
          have q2 : (xp == yp) = true := by simpa using hq.2.1
          have q3 : (xq == yq) = true := by simpa using hq.2.2
          have HQ : Hid (decide (l1.drop (k + 1) = l2.drop (k + 1)) = b) := Lib.hid (by rw [← HA.out, HE.out, decide_eq_true (show ((xo, xp, xq) : Edg) = (yo, yp, yq) by rw [hq.1, hq.2.1, hq.2.2])]; rfl)
          clear hq
          go_wp2
          go_quiet (fail)
          go_wp2
          go_roundg (gk - 1)
          case measure => omega
          case rel => exact ⟨k + 1, by go_num, by omega, by omega, HQ.out, below_drewN' HB.out _⟩
        · have HQ : Hid (b = false) := Lib.hid (by rw [← HA.out, HE.out, decide_eq_false (show ¬ ((xo, xp, xq) : Edg) = (yo, yp, yq) by intro h; injection h with h1 h2; injection h2 with h2 h3; exact hq ⟨h1, h2, h3⟩)]; rfl)
          have hq3 : (xo == yo) = false ∨ (xp == yp) = false ∨ (xq == yq) = false := by
            by_cases a1 : xo = yo
            · by_cases a2 : xp = yp
              · exact .inr (.inr (by simpa using fun a3 => hq ⟨a1, a2, a3⟩))
              · exact .inr (.inl (by simpa using a2))
            · exact .inl (by simpa using a1)
          clear hq
          rcases hq3 with q1 | q1 | q1
          all_goals
            go_wp2
            go_quiet (fail)
            go_wp2
            all_goals first
              | (go_ret
                 exact ⟨ret_bool HQ.out.symm, below_drewN' HB.out _⟩)
              | skip
      · have HE : Hid (b = true) := Lib.hid (by
          rw [← HA.out, List.drop_eq_nil_of_le (by rw [← HN.out]; omega), List.drop_eq_nil_of_le (by rw [← HL.out, ← HN.out]; omega)]; rfl)
        clear hb ha
        go_wp2
        go_ret
        exact ⟨ret_bool HE.out.symm, HB.out⟩
  · have HBF : Hid (b = false) := Lib.hid (by rw [← hb]; exact decide_eq_false (fun h => hl (by rw [h])))
    have g1 : ((l1.length : Int) != (l2.length : Int)) = true := by simp; omega
    generalize l1.length = n1 at g1 H1
    generalize l2.length = n2 at g1 H2
    clear h1 h2 hb hl hn
    go_enter Try.func12, Try.ntmps12
    go_wp2
    go_ret
    exact ⟨ret_bool HBF.out.symm, Below.refl _ _⟩

set_option maxRecDepth 100000 in
set_option maxHeartbeats 2000000 in
theorem light14_any (g : Gr) (vs va vt : Value) (w : World) (hd : GrD w vs va vt g) (q : Bool) (hq : lightG g = q) :
    Calls Try.prog 13 #[.agg #[vs, va, vt]] w fun e w' => e = .returned (.bool q) ∧ Below w.heap.size w w' := by
  obtain ⟨a1, p1, rfl⟩ := hd.s.shape0
  obtain ⟨a2, p2, rfl⟩ := hd.a.shape0
  obtain ⟨a3, p3, rfl⟩ := hd.t.shape0
  unfold lightG at hq
  clear hd
  generalize g.st.length = n1 at hq ⊢
  generalize g.to.length = n2 at hq ⊢
  generalize g.ag.length = n3 at hq ⊢
  by_cases h1 : n1 ≤ 80
  · by_cases h2 : n2 ≤ 400
    · by_cases h3 : n3 ≤ 400
      · have HQ : Hid (q = true) := Lib.hid (by rw [← hq, decide_eq_true h1, decide_eq_true h2, decide_eq_true h3]; rfl)
        have g1 : (n1 : Int) ≤ 80 := by omega
        have g2 : (n2 : Int) ≤ 400 := by omega
        have g3 : (n3 : Int) ≤ 400 := by omega
        clear hq h1 h2 h3
        go_enter Try.func13, Try.ntmps13
        go_wp2_with fail
        go_ret
        exact ⟨ret_bool HQ.out.symm, (Below.refl w.heap.size w).alloc (Nat.le_refl _) _⟩
      · have HQ : Hid (q = false) := Lib.hid (by rw [← hq, decide_eq_false h3, Bool.and_false, Bool.and_false])
        have g1 : (n1 : Int) ≤ 80 := by omega
        have g2 : (n2 : Int) ≤ 400 := by omega
        have g3 : ¬ (n3 : Int) ≤ 400 := by omega
        clear hq h1 h2 h3
        go_enter Try.func13, Try.ntmps13
        go_wp2_with fail
        go_ret
        exact ⟨ret_bool HQ.out.symm, (Below.refl w.heap.size w).alloc (Nat.le_refl _) _⟩
    · have HQ : Hid (q = false) := Lib.hid (by rw [← hq, decide_eq_false h2, Bool.false_and, Bool.and_false])
      have g1 : (n1 : Int) ≤ 80 := by omega
      have g2 : ¬ (n2 : Int) ≤ 400 := by omega
      clear hq h1 h2
      go_enter Try.func13, Try.ntmps13
      go_wp2_with fail
      go_ret
      exact ⟨ret_bool HQ.out.symm, (Below.refl w.heap.size w).alloc (Nat.le_refl _) _⟩
  · have HQ : Hid (q = false) := Lib.hid (by rw [← hq, decide_eq_false h1, Bool.false_and])
    have g1 : ¬ (n1 : Int) ≤ 80 := by omega
    clear hq h1
    go_enter Try.func13, Try.ntmps13
    go_wp2_with fail
    go_ret
    exact ⟨ret_bool HQ.out.symm, (Below.refl w.heap.size w).alloc (Nat.le_refl _) _⟩

end Go.Proofs.Ytklejedddkhfjaa
