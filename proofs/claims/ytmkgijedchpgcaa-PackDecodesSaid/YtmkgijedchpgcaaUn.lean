/- Layers 7 and 8: the references' Ints and Same. -/
import Derived.Test.YtmkgijedchpgcaaUm
namespace Go.Proofs.Ytmkgijedchpgcaa
set_option linter.unusedSimpArgs false
set_option linter.unusedVariables false
open Go.RowKit

theorem drop_eq_iff {α : Type} [DecidableEq α] (l1 l2 : List α) (k : Nat) (h1 : k < l1.length) (h2 : k < l2.length) : decide (l1.drop k = l2.drop k) = (decide (l1[k] = l2[k]) && decide (l1.drop (k + 1) = l2.drop (k + 1))) := by
  rw [List.drop_eq_getElem_cons h1, List.drop_eq_getElem_cons h2, Bool.eq_iff_iff]
  simp only [decide_eq_true_eq, Bool.and_eq_true, List.cons.injEq]

set_option maxRecDepth 100000 in
set_option maxHeartbeats 2000000 in
theorem ints_gen (l1 l2 : List Int) (v1 v2 : Value) (w : World) (h1 : IntsD w v1 l1) (h2 : IntsD w v2 l2) (hn : l1.length ≤ 100000) (b : Bool) (hb : decide (l1 = l2) = b) :
    Calls Try.prog 30 #[v1, v2] w fun e w' => e = .returned (.bool b) ∧ Below w.heap.size w w' := by
  have H1 := Lib.hid h1
  have H2 := Lib.hid h2
  have h9 := h2.bd
  obtain ⟨ad, cap, rfl⟩ := h1.shape0
  obtain ⟨ad2, cap2, rfl⟩ := h2.shape0
  by_cases hl : l1.length = l2.length
  · have HB0 : Hid (decide (l1.drop 0 = l2.drop 0) = b) := Lib.hid hb
    rw [← hl] at H2 ⊢
    have HL := Lib.hid hl
    obtain ⟨n, hN⟩ : ∃ n, n = l1.length := ⟨_, rfl⟩
    rw [← hN] at H1 H2 hn ⊢
    have HN := Lib.hid hN
    clear h1 h2 hb hl hN h9
    go_enter Try.func30, Try.ntmps30
    go_wp2_with fail
    go_loopg [5] n (fun fuel i' wr => ∃ (k : Nat), i' = .int .i64 k ∧ k ≤ n ∧ n - k ≤ fuel ∧ decide (l1.drop k = l2.drop k) = b ∧ Below w.heap.size w wr)
    case atStart => exact ⟨0, rfl, Nat.zero_le _, Nat.le_refl _, HB0.out, Below.refl _ _⟩
    case round =>
      obtain ⟨k, rfl, hk, hf, ha, hb⟩ := hrel
      have HA := Lib.hid ha
      have HB := Lib.hid hb
      have hww := hb.size
      by_cases hlt : k < n
      · have hk1 : k < l1.length := by rw [← HN.out]; exact hlt
        have hk2 : k < l2.length := by rw [← HL.out]; exact hk1
        have HE := Lib.hid (drop_eq_iff l1 l2 k hk1 hk2)
        obtain ⟨b1, off, rfl, hbl, x0⟩ := IntsD.at2 H1.out k hk1
        obtain ⟨b2, off2, rfl, hbl2, y0⟩ := IntsD.at2 H2.out k hk2
        obtain ⟨xo, hx⟩ : ∃ x, x = l1[k] := ⟨_, rfl⟩
        obtain ⟨yo, hy⟩ : ∃ x, x = l2[k] := ⟨_, rfl⟩
        rw [← hx] at x0 HE
        rw [← hy] at y0 HE
        have c0 : wr.cell? ⟨b1, off + k, none⟩ = some (.int .i64 xo) := (hb.cell (p := ⟨b1, _, none⟩) hbl).trans x0
        have d0 : wr.cell? ⟨b2, off2 + k, none⟩ = some (.int .i64 yo) := (hb.cell (p := ⟨b2, _, none⟩) hbl2).trans y0
        clear x0 y0 hx hy hb ha hk1 hk2
        by_cases hq : xo = yo
        · have q1 : (xo == yo) = true := by simpa using hq
          have HQ : Hid (decide (l1.drop (k + 1) = l2.drop (k + 1)) = b) := Lib.hid (by rw [← HA.out, HE.out, decide_eq_true hq]; rfl)
          clear hq
          go_wp2
          go_quiet (fail)
          go_wp2
          go_roundg (gk - 1)
          case measure => omega
          case rel => exact ⟨k + 1, by go_num, by omega, by omega, HQ.out, below_drewN' HB.out _⟩
        · have q1 : (xo == yo) = false := by simpa using hq
          have HQ : Hid (b = false) := Lib.hid (by rw [← HA.out, HE.out, decide_eq_false hq]; rfl)
          clear hq
          go_wp2
          go_quiet (fail)
          go_wp2
          go_ret
          exact ⟨ret_bool HQ.out.symm, below_drewN' HB.out _⟩
      · have HE : Hid (b = true) := Lib.hid (by
          rw [← HA.out, List.drop_eq_nil_of_le (by rw [← HN.out]; omega), List.drop_eq_nil_of_le (by rw [← HL.out, ← HN.out]; omega)]; rfl)
        clear hb ha
        go_wp2
        go_ret
        exact ⟨ret_bool HE.out.symm, HB.out⟩
  · have HBF : Hid (b = false) := Lib.hid (by rw [← hb]; exact decide_eq_false (fun h => hl (by rw [h])))
    have g1 : ((l1.length : Int) == (l2.length : Int)) = false := by simp; omega
    generalize l1.length = n1 at g1 H1
    generalize l2.length = n2 at g1 H2
    clear h1 h2 hb hl hn h9
    go_enter Try.func30, Try.ntmps30
    go_wp2
    go_ret
    exact ⟨ret_bool HBF.out.symm, Below.refl _ _⟩

set_option maxRecDepth 100000 in
set_option maxHeartbeats 2000000 in
theorem ents_gen (l1 l2 : List Ent) (v1 v2 : Value) (w : World) (h1 : EntsD w v1 l1) (h2 : EntsD w v2 l2) (hn : l1.length ≤ 100000) (b : Bool) (hb : decide (l1 = l2) = b) :
    Calls Try.prog 31 #[v1, v2] w fun e w' => e = .returned (.bool b) ∧ Below w.heap.size w w' := by
  have H1 := Lib.hid h1
  have H2 := Lib.hid h2
  have h9 := h2.bd
  obtain ⟨ad, cap, rfl⟩ := h1.shape0
  obtain ⟨ad2, cap2, rfl⟩ := h2.shape0
  by_cases hl : l1.length = l2.length
  · have HB0 : Hid (decide (l1.drop 0 = l2.drop 0) = b) := Lib.hid hb
    rw [← hl] at H2 ⊢
    have HL := Lib.hid hl
    obtain ⟨n, hN⟩ : ∃ n, n = l1.length := ⟨_, rfl⟩
    rw [← hN] at H1 H2 hn ⊢
    have HN := Lib.hid hN
    clear h1 h2 hb hl hN h9
    go_enter Try.func31, Try.ntmps31
    go_wp2_with fail
    go_loopg [5] n (fun fuel i' wr => ∃ (k : Nat), i' = .int .i64 k ∧ k ≤ n ∧ n - k ≤ fuel ∧ decide (l1.drop k = l2.drop k) = b ∧ Below w.heap.size w wr)
    case atStart => exact ⟨0, rfl, Nat.zero_le _, Nat.le_refl _, HB0.out, Below.refl _ _⟩
    case round =>
      obtain ⟨k, rfl, hk, hf, ha, hb⟩ := hrel
      have HA := Lib.hid ha
      have HB := Lib.hid hb
      have hww := hb.size
      by_cases hlt : k < n
      · have hk1 : k < l1.length := by rw [← HN.out]; exact hlt
        have hk2 : k < l2.length := by rw [← HL.out]; exact hk1
        have HE := Lib.hid (drop_eq_iff l1 l2 k hk1 hk2)
        obtain ⟨b1, off, rfl, hbl, x0, x1⟩ := EntsD.at2 H1.out k hk1
        obtain ⟨b2, off2, rfl, hbl2, y0, y1⟩ := EntsD.at2 H2.out k hk2
        obtain ⟨⟨xo, xp⟩, hx⟩ : ∃ x, x = l1[k] := ⟨_, rfl⟩
        obtain ⟨⟨yo, yp⟩, hy⟩ : ∃ x, x = l2[k] := ⟨_, rfl⟩
        rw [← hx] at x0 x1 HE
        rw [← hy] at y0 y1 HE
        have c0 : wr.cell? ⟨b1, off + k * 2, none⟩ = some (.int .i64 xo) := (hb.cell (p := ⟨b1, _, none⟩) hbl).trans x0
        have c1 : wr.cell? ⟨b1, off + k * 2 + 1, none⟩ = some (.int .i64 xp) := (hb.cell (p := ⟨b1, _, none⟩) hbl).trans x1
        have d0 : wr.cell? ⟨b2, off2 + k * 2, none⟩ = some (.int .i64 yo) := (hb.cell (p := ⟨b2, _, none⟩) hbl2).trans y0
        have d1 : wr.cell? ⟨b2, off2 + k * 2 + 1, none⟩ = some (.int .i64 yp) := (hb.cell (p := ⟨b2, _, none⟩) hbl2).trans y1
        clear x0 y0 x1 y1 hx hy hb ha hk1 hk2
        by_cases hq : xo = yo ∧ xp = yp
        · have q1 : (xo == yo) = true := by simpa using hq.1
          have q2 : (xp == yp) = true := by simpa using hq.2
          have HQ : Hid (decide (l1.drop (k + 1) = l2.drop (k + 1)) = b) := Lib.hid (by rw [← HA.out, HE.out, decide_eq_true (show ((xo, xp) : Ent) = (yo, yp) by rw [hq.1, hq.2])]; rfl)
          clear hq
          go_wp2
          go_quiet (fail)
          go_wp2
          go_roundg (gk - 1)
          case measure => omega
          case rel => exact ⟨k + 1, by go_num, by omega, by omega, HQ.out, below_drewN' HB.out _⟩
        · have q1 : ((xo == yo) && (xp == yp)) = false := by
            rw [Bool.eq_false_iff]; intro h; rw [Bool.and_eq_true] at h; exact hq ⟨by simpa using h.1, by simpa using h.2⟩
          have HQ : Hid (b = false) := Lib.hid (by rw [← HA.out, HE.out, decide_eq_false (show ¬ ((xo, xp) : Ent) = (yo, yp) by intro h; injection h with h1 h2; exact hq ⟨h1, h2⟩)]; rfl)
          have hq3 : (xo == yo) = false ∨ (xp == yp) = false := Bool.and_eq_false_iff.1 q1
          clear hq q1
          rcases hq3 with q1 | q1
          all_goals
            go_wp2
            go_quiet (fail)
            go_wp2
            all_goals first
              | (go_ret
                 exact ⟨ret_bool HQ.out.symm, below_drewN' HB.out _⟩)
              | skip
          all_goals trace_state
      · have HE : Hid (b = true) := Lib.hid (by
          rw [← HA.out, List.drop_eq_nil_of_le (by rw [← HN.out]; omega), List.drop_eq_nil_of_le (by rw [← HL.out, ← HN.out]; omega)]; rfl)
        clear hb ha
        go_wp2
        go_ret
        exact ⟨ret_bool HE.out.symm, HB.out⟩
  · have HBF : Hid (b = false) := Lib.hid (by rw [← hb]; exact decide_eq_false (fun h => hl (by rw [h])))
    have g1 : ((l1.length : Int) == (l2.length : Int)) = false := by simp; omega
    generalize l1.length = n1 at g1 H1
    generalize l2.length = n2 at g1 H2
    clear h1 h2 hb hl hn h9
    go_enter Try.func31, Try.ntmps31
    go_wp2
    go_ret
    exact ⟨ret_bool HBF.out.symm, Below.refl _ _⟩

end Go.Proofs.Ytmkgijedchpgcaa
