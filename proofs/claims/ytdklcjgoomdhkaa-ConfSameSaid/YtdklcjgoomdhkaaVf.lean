/- Layer 9, the code: Same. -/
import Derived.Test.YtdklcjgoomdhkaaVa
namespace Go.Proofs.Ytdklcjgoomdhkaa
set_option linter.unusedSimpArgs false
set_option linter.unusedVariables false
open Go.RowKit

set_option maxRecDepth 100000 in
set_option maxHeartbeats 2000000 in
theorem nints_any (l1 l2 : List Int) (v1 v2 : Value) (w : World) (h1 : IntsD w v1 l1) (h2 : IntsD w v2 l2) (hn : l1.length ≤ 100000) (b : Bool) (hb : decide (l1 = l2) = b) :
    Calls Try.prog 39 #[v1, v2] w fun e w' => e = .returned (.bool b) ∧ Below w.heap.size w w' := by
  have H1 := Lib.hid h1
  have H2 := Lib.hid h2
  have h9 := h2.bd
  obtain ⟨ad, cap, rfl⟩ := h1.shape0
  obtain ⟨ad2, cap2, rfl⟩ := h2.shape0
  by_cases hl : l1.length = l2.length
  · have HB0 : Hid (decide (l1.drop 0 = l2.drop 0) = b) := Lib.hid hb
    rw [← hl] at H2 ⊢
    have HL := Lib.hid hl
    obtain ⟨n, hN⟩ : ∃ n, n = l1.length := ⟨_, rfl⟩
    rw [← hN] at H1 H2 hn ⊢
    have HN := Lib.hid hN
    clear h1 h2 hb hl hN h9
    go_enter Try.func39, Try.ntmps39
    go_wp2_with fail
    go_loopg [13] n (fun fuel i' wr => ∃ (k : Nat), i' = .int .i64 k ∧ k ≤ n ∧ n - k ≤ fuel ∧ decide (l1.drop k = l2.drop k) = b ∧ Below w.heap.size w wr)
    case atStart => exact ⟨0, rfl, Nat.zero_le _, Nat.le_refl _, HB0.out, Below.refl _ _⟩
    case round =>
      obtain ⟨k, rfl, hk, hf, ha, hb⟩ := hrel
      have HA := Lib.hid ha
      have HB := Lib.hid hb
      have hww := hb.size
      by_cases hlt : k < n
      · have hk1 : k < l1.length := by rw [← HN.out]; exact hlt
        have hk2 : k < l2.length := by rw [← HL.out]; exact hk1
        have HE := Lib.hid (drop_eq_iff l1 l2 k hk1 hk2)
        obtain ⟨b1, off, rfl, hbl, x0⟩ := IntsD.at2 H1.out k hk1
        obtain ⟨b2, off2, rfl, hbl2, y0⟩ := IntsD.at2 H2.out k hk2
        obtain ⟨xo, hx⟩ : ∃ x, x = l1[k] := ⟨_, rfl⟩
        obtain ⟨yo, hy⟩ : ∃ x, x = l2[k] := ⟨_, rfl⟩
        rw [← hx] at x0 HE
        rw [← hy] at y0 HE
        have c0 : wr.cell? ⟨b1, off + k, none⟩ = some (.int .i64 xo) := (hb.cell (p := ⟨b1, _, none⟩) hbl).trans x0
        have d0 : wr.cell? ⟨b2, off2 + k, none⟩ = some (.int .i64 yo) := (hb.cell (p := ⟨b2, _, none⟩) hbl2).trans y0
        clear x0 y0 hx hy hb ha hk1 hk2
        by_cases hq : xo = yo
        · have q1 : (xo == yo) = true := by simpa using hq
          have HQ : Hid (decide (l1.drop (k + 1) = l2.drop (k + 1)) = b) := Lib.hid (by rw [← HA.out, HE.out, decide_eq_true hq]; rfl)
          clear hq
          go_wp2
          go_quiet (fail)
          go_wp2
          go_roundg (gk - 1)
          case measure => omega
          case rel => exact ⟨k + 1, by go_num, by omega, by omega, HQ.out, below_drewN' HB.out _⟩
        · have q1 : (xo == yo) = false := by simpa using hq
          have HQ : Hid (b = false) := Lib.hid (by rw [← HA.out, HE.out, decide_eq_false hq]; rfl)
          clear hq
          go_wp2
          go_quiet (fail)
          go_wp2
          go_ret
          exact ⟨ret_bool HQ.out.symm, below_drewN' HB.out _⟩
      · have HE : Hid (b = true) := Lib.hid (by
          rw [← HA.out, List.drop_eq_nil_of_le (by rw [← HN.out]; omega), List.drop_eq_nil_of_le (by rw [← HL.out, ← HN.out]; omega)]; rfl)
        clear hb ha
        go_wp2
        go_ret
        exact ⟨ret_bool HE.out.symm, HB.out⟩
  · have HBF : Hid (b = false) := Lib.hid (by rw [← hb]; exact decide_eq_false (fun h => hl (by rw [h])))
    have g1 : ((l1.length : Int) == (l2.length : Int)) = false := by simp; omega
    generalize l1.length = n1 at g1 H1
    generalize l2.length = n2 at g1 H2
    clear h1 h2 hb hl hn h9
    go_enter Try.func39, Try.ntmps39
    go_wp2
    go_ret
    exact ⟨ret_bool HBF.out.symm, Below.refl _ _⟩

set_option maxRecDepth 100000 in
set_option maxHeartbeats 2000000 in
theorem nents_any (l1 l2 : List Ent) (v1 v2 : Value) (w : World) (h1 : EntsD w v1 l1) (h2 : EntsD w v2 l2) (hn : l1.length ≤ 100000) (b : Bool) (hb : decide (l1 = l2) = b) :
    Calls Try.prog 59 #[v1, v2] w fun e w' => e = .returned (.bool b) ∧ Below w.heap.size w w' := by
  have H1 := Lib.hid h1
  have H2 := Lib.hid h2
  have h9 := h2.bd
  obtain ⟨ad, cap, rfl⟩ := h1.shape0
  obtain ⟨ad2, cap2, rfl⟩ := h2.shape0
  by_cases hl : l1.length = l2.length
  · have HB0 : Hid (decide (l1.drop 0 = l2.drop 0) = b) := Lib.hid hb
    rw [← hl] at H2 ⊢
    have HL := Lib.hid hl
    obtain ⟨n, hN⟩ : ∃ n, n = l1.length := ⟨_, rfl⟩
    rw [← hN] at H1 H2 hn ⊢
    have HN := Lib.hid hN
    clear h1 h2 hb hl hN h9
    go_enter Try.func59, Try.ntmps59
    go_wp2_with fail
    go_loopg [13] n (fun fuel i' wr => ∃ (k : Nat), i' = .int .i64 k ∧ k ≤ n ∧ n - k ≤ fuel ∧ decide (l1.drop k = l2.drop k) = b ∧ Below w.heap.size w wr)
    case atStart => exact ⟨0, rfl, Nat.zero_le _, Nat.le_refl _, HB0.out, Below.refl _ _⟩
    case round =>
      obtain ⟨k, rfl, hk, hf, ha, hb⟩ := hrel
      have HA := Lib.hid ha
      have HB := Lib.hid hb
      have hww := hb.size
      by_cases hlt : k < n
      · have hk1 : k < l1.length := by rw [← HN.out]; exact hlt
        have hk2 : k < l2.length := by rw [← HL.out]; exact hk1
        have HE := Lib.hid (drop_eq_iff l1 l2 k hk1 hk2)
        obtain ⟨b1, off, rfl, hbl, x0, x1⟩ := EntsD.at2 H1.out k hk1
        obtain ⟨b2, off2, rfl, hbl2, y0, y1⟩ := EntsD.at2 H2.out k hk2
        obtain ⟨⟨xo, xp⟩, hx⟩ : ∃ x, x = l1[k] := ⟨_, rfl⟩
        obtain ⟨⟨yo, yp⟩, hy⟩ : ∃ x, x = l2[k] := ⟨_, rfl⟩
        rw [← hx] at x0 x1 HE
        rw [← hy] at y0 y1 HE
        have c0 : wr.cell? ⟨b1, off + k * 2, none⟩ = some (.int .i64 xo) := (hb.cell (p := ⟨b1, _, none⟩) hbl).trans x0
        have c1 : wr.cell? ⟨b1, off + k * 2 + 1, none⟩ = some (.int .i64 xp) := (hb.cell (p := ⟨b1, _, none⟩) hbl).trans x1
        have d0 : wr.cell? ⟨b2, off2 + k * 2, none⟩ = some (.int .i64 yo) := (hb.cell (p := ⟨b2, _, none⟩) hbl2).trans y0
        have d1 : wr.cell? ⟨b2, off2 + k * 2 + 1, none⟩ = some (.int .i64 yp) := (hb.cell (p := ⟨b2, _, none⟩) hbl2).trans y1
        clear x0 y0 x1 y1 hx hy hb ha hk1 hk2
        by_cases hq : xo = yo ∧ xp = yp
        · have q1 : (xo == yo) = true := by simpa using hq.1
          have q2 : (xp == yp) = true := by simpa using hq.2
          have HQ : Hid (decide (l1.drop (k + 1) = l2.drop (k + 1)) = b) := Lib.hid (by rw [← HA.out, HE.out, decide_eq_true (show ((xo, xp) : Ent) = (yo, yp) by rw [hq.1, hq.2])]; rfl)
          clear hq
          go_wp2
          go_quiet (fail)
          go_wp2
          go_roundg (gk - 1)
          case measure => omega
          case rel => exact ⟨k + 1, by go_num, by omega, by omega, HQ.out, below_drewN' HB.out _⟩
        · have q1 : ((xo == yo) && (xp == yp)) = false := by
            rw [Bool.eq_false_iff]; intro h; rw [Bool.and_eq_true] at h; exact hq ⟨by simpa using h.1, by simpa using h.2⟩
          have HQ : Hid (b = false) := Lib.hid (by rw [← HA.out, HE.out, decide_eq_false (show ¬ ((xo, xp) : Ent) = (yo, yp) by intro h; injection h with h1 h2; exact hq ⟨h1, h2⟩)]; rfl)
          have hq3 : (xo == yo) = false ∨ (xp == yp) = false := Bool.and_eq_false_iff.1 q1
          clear hq q1
          rcases hq3 with q1 | q1
          all_goals
            go_wp2
            go_quiet (fail)
            go_wp2
            all_goals first
              | (go_ret
                 exact ⟨ret_bool HQ.out.symm, below_drewN' HB.out _⟩)
              | skip
          all_goals trace_state
      · have HE : Hid (b = true) := Lib.hid (by
          rw [← HA.out, List.drop_eq_nil_of_le (by rw [← HN.out]; omega), List.drop_eq_nil_of_le (by rw [← HL.out, ← HN.out]; omega)]; rfl)
        clear hb ha
        go_wp2
        go_ret
        exact ⟨ret_bool HE.out.symm, HB.out⟩
  · have HBF : Hid (b = false) := Lib.hid (by rw [← hb]; exact decide_eq_false (fun h => hl (by rw [h])))
    have g1 : ((l1.length : Int) == (l2.length : Int)) = false := by simp; omega
    generalize l1.length = n1 at g1 H1
    generalize l2.length = n2 at g1 H2
    clear h1 h2 hb hl hn h9
    go_enter Try.func59, Try.ntmps59
    go_wp2
    go_ret
    exact ⟨ret_bool HBF.out.symm, Below.refl _ _⟩

set_option maxRecDepth 100000 in
set_option maxHeartbeats 2000000 in
theorem leqI_any (a b : List (List Int × Value)) (v1 v2 : Value) (w : World) (h1 : AllD w v1 a) (h2 : AllD w v2 b) (hn : a.length ≤ 100000) (hs : ∀ x ∈ a, x.1.length ≤ 100000) (q : Bool) (hq : (decide (a.length = b.length) && eqL a b) = q) :
    Calls Try.prog 57 #[v1, v2, .func (.func 39) #[] #[]] w fun e w' => e = .returned (.bool q) ∧ Below w.heap.size w w' := by
  have H1 := Lib.hid h1
  have H2 := Lib.hid h2
  have HS := Lib.hid hs
  have h9 := h2.bd
  obtain ⟨ad, cap, rfl⟩ := h1.shape0
  obtain ⟨ad2, cap2, rfl⟩ := h2.shape0
  clear hs
  by_cases hl : a.length = b.length
  · have HQ0 : Hid (eqL (a.drop 0) (b.drop 0) = q) := Lib.hid (by rw [← hq, decide_eq_true hl, Bool.true_and]; rfl)
    rw [← hl] at H2 ⊢
    have HL := Lib.hid hl
    obtain ⟨n, hN⟩ : ∃ n, n = a.length := ⟨_, rfl⟩
    rw [← hN] at H1 H2 hn ⊢
    have HN := Lib.hid hN
    clear h1 h2 hq hl hN h9
    go_enter Try.func57, Try.ntmps57
    go_wp2_with fail
    go_loopg [17] n (fun fuel i' wr => ∃ (k : Nat), i' = .int .i64 k ∧ k ≤ n ∧ n - k ≤ fuel ∧ eqL (a.drop k) (b.drop k) = q ∧ Below w.heap.size w wr)
    case atStart => exact ⟨0, rfl, Nat.zero_le _, Nat.le_refl _, HQ0.out, Below.refl _ _⟩
    case round =>
      obtain ⟨k, rfl, hk, hf, ha, hb⟩ := hrel
      have HA := Lib.hid ha
      have HB := Lib.hid hb
      have hww := hb.size
      by_cases hlt : k < n
      · have hk1 : k < a.length := by rw [← HN.out]; exact hlt
        have hk2 : k < b.length := by rw [← HL.out]; exact hk1
        have HE := Lib.hid (eqL_at a b k hk1 hk2)
        obtain ⟨b1, o1, x1, m1, rfl, hb1, y1, z1⟩ := AllD.at2 (H1.out.below HB.out) k hk1
        obtain ⟨b2, o2, x2, m2, rfl, hb2, y2, z2⟩ := AllD.at2 (H2.out.below HB.out) k hk2
        have hs1 := HS.out _ (List.getElem_mem hk1)
        have HC := Lib.hid (fun (W : World) (hw : Below wr.heap.size wr W) => nints_any _ _ _ _ W (IntsD.below z1 hw) (IntsD.below z2 hw) hs1 _ rfl)
        generalize decide ((a[k]).1 = (b[k]).1) = qq at HE HC
        generalize (a[k]).1.length = n1 at y1 HC
        generalize (b[k]).1.length = n2 at y2 HC
        have e1 : (0 : Int) ≤ (k : Int) := Int.natCast_nonneg _
        have e2 : (k : Int) < (n : Int) := by omega
        clear z1 z2 hs1 hk1 hk2 hb ha
        go_wp2_with fail
        have e1 : (0 : Int) ≤ (k : Int) := Int.natCast_nonneg _
        refine (HC.out _ (Below.refl _ _)).mono ?_
        rintro e w5 ⟨rfl, b5⟩
        have BW := Lib.hid (HB.out.trans (b5.mono HB.out.size))
        clear b5 HC y1 y2
        cases qq with
        | false =>
          go_wp2
          go_ret
          exact ⟨ret_bool (by rw [← HA.out, HE.out]; rfl), BW.out⟩
        | true =>
          go_wp2
          go_roundg (gk - 1)
          case measure => omega
          case rel => exact ⟨k + 1, by go_num, by omega, by omega, by have h2 := HA.out; rw [HE.out] at h2; simpa using h2, BW.out⟩
      · have HE : Hid (q = true) := Lib.hid (by
          rw [← HA.out, eqL_over a b k (by rw [← HN.out]; exact hlt)])
        clear hb ha
        go_wp2
        go_ret
        exact ⟨ret_bool HE.out.symm, HB.out⟩
  · have HBF : Hid (q = false) := Lib.hid (by rw [← hq, decide_eq_false hl]; rfl)
    have g1 : ((a.length : Int) == (b.length : Int)) = false := by simp; omega
    generalize a.length = n1 at g1 H1
    generalize b.length = n2 at g1 H2
    clear h1 h2 hq hl hn h9
    go_enter Try.func57, Try.ntmps57
    go_wp2
    go_ret
    exact ⟨ret_bool HBF.out.symm, Below.refl _ _⟩

theorem slI_any (a b : List (List Int × Value)) (v1 v2 : Value) (w : World) (h1 : AllD w v1 a) (h2 : AllD w v2 b) (hn : a.length ≤ 100000) (hs : ∀ x ∈ a, x.1.length ≤ 100000) (q : Bool) (hq : (decide (a.length = b.length) && eqL a b) = q) :
    Calls Try.prog 40 #[v1, v2] w fun e w' => e = .returned (.bool q) ∧ Below w.heap.size w w' := by
  have H := leqI_any a b v1 v2 w h1 h2 hn hs q hq
  obtain ⟨ad, cap, rfl⟩ := h1.shape0
  obtain ⟨ad2, cap2, rfl⟩ := h2.shape0
  clear hs hq h1 h2
  go_enter Try.func40, Try.ntmps40
  go_wp2_with fail
  refine H.mono ?_
  rintro e w2 ⟨rfl, hb2⟩
  go_wp2
  go_ret
  exact ⟨rfl, hb2⟩

set_option maxRecDepth 100000 in
set_option maxHeartbeats 2000000 in
theorem leqE_any (a b : List (List Ent × Value)) (v1 v2 : Value) (w : World) (h1 : BufsD w v1 a) (h2 : BufsD w v2 b) (hn : a.length ≤ 100000) (hs : ∀ x ∈ a, x.1.length ≤ 100000) (q : Bool) (hq : (decide (a.length = b.length) && eqL a b) = q) :
    Calls Try.prog 58 #[v1, v2, .func (.func 59) #[] #[]] w fun e w' => e = .returned (.bool q) ∧ Below w.heap.size w w' := by
  have H1 := Lib.hid h1
  have H2 := Lib.hid h2
  have HS := Lib.hid hs
  have h9 := h2.bd
  obtain ⟨ad, cap, rfl⟩ := h1.shape0
  obtain ⟨ad2, cap2, rfl⟩ := h2.shape0
  clear hs
  by_cases hl : a.length = b.length
  · have HQ0 : Hid (eqL (a.drop 0) (b.drop 0) = q) := Lib.hid (by rw [← hq, decide_eq_true hl, Bool.true_and]; rfl)
    rw [← hl] at H2 ⊢
    have HL := Lib.hid hl
    obtain ⟨n, hN⟩ : ∃ n, n = a.length := ⟨_, rfl⟩
    rw [← hN] at H1 H2 hn ⊢
    have HN := Lib.hid hN
    clear h1 h2 hq hl hN h9
    go_enter Try.func58, Try.ntmps58
    go_wp2_with fail
    go_loopg [17] n (fun fuel i' wr => ∃ (k : Nat), i' = .int .i64 k ∧ k ≤ n ∧ n - k ≤ fuel ∧ eqL (a.drop k) (b.drop k) = q ∧ Below w.heap.size w wr)
    case atStart => exact ⟨0, rfl, Nat.zero_le _, Nat.le_refl _, HQ0.out, Below.refl _ _⟩
    case round =>
      obtain ⟨k, rfl, hk, hf, ha, hb⟩ := hrel
      have HA := Lib.hid ha
      have HB := Lib.hid hb
      have hww := hb.size
      by_cases hlt : k < n
      · have hk1 : k < a.length := by rw [← HN.out]; exact hlt
        have hk2 : k < b.length := by rw [← HL.out]; exact hk1
        have HE := Lib.hid (eqL_at a b k hk1 hk2)
        obtain ⟨b1, o1, x1, m1, rfl, hb1, y1, z1⟩ := BufsD.at2 (H1.out.below HB.out) k hk1
        obtain ⟨b2, o2, x2, m2, rfl, hb2, y2, z2⟩ := BufsD.at2 (H2.out.below HB.out) k hk2
        have hs1 := HS.out _ (List.getElem_mem hk1)
        have HC := Lib.hid (fun (W : World) (hw : Below wr.heap.size wr W) => nents_any _ _ _ _ W (EntsD.below z1 hw) (EntsD.below z2 hw) hs1 _ rfl)
        generalize decide ((a[k]).1 = (b[k]).1) = qq at HE HC
        generalize (a[k]).1.length = n1 at y1 HC
        generalize (b[k]).1.length = n2 at y2 HC
        have e1 : (0 : Int) ≤ (k : Int) := Int.natCast_nonneg _
        have e2 : (k : Int) < (n : Int) := by omega
        clear z1 z2 hs1 hk1 hk2 hb ha
        go_wp2_with fail
        have e1 : (0 : Int) ≤ (k : Int) := Int.natCast_nonneg _
        refine (HC.out _ (Below.refl _ _)).mono ?_
        rintro e w5 ⟨rfl, b5⟩
        have BW := Lib.hid (HB.out.trans (b5.mono HB.out.size))
        clear b5 HC y1 y2
        cases qq with
        | false =>
          go_wp2
          go_ret
          exact ⟨ret_bool (by rw [← HA.out, HE.out]; rfl), BW.out⟩
        | true =>
          go_wp2
          go_roundg (gk - 1)
          case measure => omega
          case rel => exact ⟨k + 1, by go_num, by omega, by omega, by have h2 := HA.out; rw [HE.out] at h2; simpa using h2, BW.out⟩
      · have HE : Hid (q = true) := Lib.hid (by
          rw [← HA.out, eqL_over a b k (by rw [← HN.out]; exact hlt)])
        clear hb ha
        go_wp2
        go_ret
        exact ⟨ret_bool HE.out.symm, HB.out⟩
  · have HBF : Hid (q = false) := Lib.hid (by rw [← hq, decide_eq_false hl]; rfl)
    have g1 : ((a.length : Int) == (b.length : Int)) = false := by simp; omega
    generalize a.length = n1 at g1 H1
    generalize b.length = n2 at g1 H2
    clear h1 h2 hq hl hn h9
    go_enter Try.func58, Try.ntmps58
    go_wp2
    go_ret
    exact ⟨ret_bool HBF.out.symm, Below.refl _ _⟩

theorem slE_any (a b : List (List Ent × Value)) (v1 v2 : Value) (w : World) (h1 : BufsD w v1 a) (h2 : BufsD w v2 b) (hn : a.length ≤ 100000) (hs : ∀ x ∈ a, x.1.length ≤ 100000) (q : Bool) (hq : (decide (a.length = b.length) && eqL a b) = q) :
    Calls Try.prog 41 #[v1, v2] w fun e w' => e = .returned (.bool q) ∧ Below w.heap.size w w' := by
  have H := leqE_any a b v1 v2 w h1 h2 hn hs q hq
  obtain ⟨ad, cap, rfl⟩ := h1.shape0
  obtain ⟨ad2, cap2, rfl⟩ := h2.shape0
  clear hs hq h1 h2
  go_enter Try.func41, Try.ntmps41
  go_wp2_with fail
  refine H.mono ?_
  rintro e w2 ⟨rfl, hb2⟩
  go_wp2
  go_ret
  exact ⟨rfl, hb2⟩

theorem sameC_code (a b : Cf) : sameC a b = (decide (a.pc = b.pc) && ((decide (a.regs.length = b.regs.length) && eqL a.regs b.regs) && (decide (a.mem = b.mem) && (decide (a.buf.length = b.buf.length) && eqL a.buf b.buf)))) := by
  unfold sameC
  have h : decide (a.regs.length = b.regs.length ∧ a.buf.length = b.buf.length) = (decide (a.regs.length = b.regs.length) && decide (a.buf.length = b.buf.length)) := Bool.decide_and ..
  rw [h]
  cases decide (a.pc = b.pc) <;> cases decide (a.mem = b.mem) <;> cases decide (a.regs.length = b.regs.length) <;> cases decide (a.buf.length = b.buf.length) <;> simp

set_option maxRecDepth 100000 in
set_option maxHeartbeats 8000000 in
theorem ncsame_any (a b : Cf) (ap ar am ab bp br bm bb : Value) (w : World) (ha : CfD w ap ar am ab a) (hb : CfD w bp br bm bb b) (hs : ShortC a) (q : Bool) (hq : sameC a b = q) :
    Calls Try.prog 23 #[.agg #[ap, ar, am, ab], .agg #[bp, br, bm, bb]] w fun e w' => e = .returned (.bool q) ∧ Below w.heap.size w w' := by
  have HIP := Lib.hid (fun (W : World) (h : Below w.heap.size w W) => nints_any a.pc b.pc ap bp W (IntsD.below ha.p h) (IntsD.below hb.p h) hs.p _ rfl)
  have HIM := Lib.hid (fun (W : World) (h : Below w.heap.size w W) => nints_any a.mem b.mem am bm W (IntsD.below ha.m h) (IntsD.below hb.m h) hs.m _ rfl)
  have HIR := Lib.hid (fun (W : World) (h : Below w.heap.size w W) => slI_any a.regs b.regs ar br W (AllD.below ha.r h) (AllD.below hb.r h) hs.r hs.rr _ rfl)
  have HIB := Lib.hid (fun (W : World) (h : Below w.heap.size w W) => slE_any a.buf b.buf ab bb W (BufsD.below ha.b h) (BufsD.below hb.b h) hs.b hs.bb _ rfl)
  have HQ := Lib.hid hq
  rw [sameC_code] at HQ
  generalize decide (a.pc = b.pc) = q1 at HIP HQ
  generalize decide (a.mem = b.mem) = q3 at HIM HQ
  generalize (decide (a.regs.length = b.regs.length) && eqL a.regs b.regs) = q2 at HIR HQ
  generalize (decide (a.buf.length = b.buf.length) && eqL a.buf b.buf) = q4 at HIB HQ
  obtain ⟨xp, cp, rfl⟩ := ha.p.shape0
  obtain ⟨xr, cr, rfl⟩ := ha.r.shape0
  obtain ⟨xm, cm, rfl⟩ := ha.m.shape0
  obtain ⟨xb, cb, rfl⟩ := ha.b.shape0
  obtain ⟨yp, dp, rfl⟩ := hb.p.shape0
  obtain ⟨yr, dr, rfl⟩ := hb.r.shape0
  obtain ⟨ym, dm, rfl⟩ := hb.m.shape0
  obtain ⟨yb, db, rfl⟩ := hb.b.shape0
  generalize a.pc.length = na at HIP ⊢
  generalize a.mem.length = nm at HIM ⊢
  generalize a.regs.length = nr at HIR ⊢
  generalize a.buf.length = nb at HIB ⊢
  generalize b.pc.length = ma at HIP ⊢
  generalize b.mem.length = mm at HIM ⊢
  generalize b.regs.length = mr at HIR ⊢
  generalize b.buf.length = mb at HIB ⊢
  clear ha hb hs hq
  have T2 := Lib.hid (two_new w 31 31 #[.slice xp na cp, .slice xr nr cr, .slice xm nm cm, .slice xb nb cb] #[.slice yp ma dp, .slice yr mr dr, .slice ym mm dm, .slice yb mb db])
  go_enter Try.func23, Try.ntmps23
  go_wp2_with fail
  obtain ⟨L0, KA0, KB0⟩ := T2.out
  have LL := Lib.hid L0
  have KA := Lib.hid KA0
  have KB := Lib.hid KB0
  clear L0 KA0 KB0 T2
  generalize (w.alloc _).alloc _ = w0 at LL KA KB ⊢
  have KK := Lib.hid (fun (W : World) (hb : Below w0.heap.size w0 W) => (⟨(KA.out.below hb).cell 0, (KA.out.below hb).cell 1, (KA.out.below hb).cell 2, (KA.out.below hb).cell 3, (KB.out.below hb).cell 0, (KB.out.below hb).cell 1, (KB.out.below hb).cell 2, (KB.out.below hb).cell 3, (KA.out.below hb).lt, (KB.out.below hb).lt, LL.out.trans (hb.mono LL.out.size)⟩ : W.cell? ⟨w.heap.size, 0, none⟩ = some (.slice xp na cp) ∧ W.cell? ⟨w.heap.size, 1, none⟩ = some (.slice xr nr cr) ∧ W.cell? ⟨w.heap.size, 2, none⟩ = some (.slice xm nm cm) ∧ W.cell? ⟨w.heap.size, 3, none⟩ = some (.slice xb nb cb) ∧
    W.cell? ⟨w.heap.size + 1, 0, none⟩ = some (.slice yp ma dp) ∧ W.cell? ⟨w.heap.size + 1, 1, none⟩ = some (.slice yr mr dr) ∧ W.cell? ⟨w.heap.size + 1, 2, none⟩ = some (.slice ym mm dm) ∧ W.cell? ⟨w.heap.size + 1, 3, none⟩ = some (.slice yb mb db) ∧ w.heap.size < W.heap.size ∧ w.heap.size + 1 < W.heap.size ∧ Below w.heap.size w W))
  obtain ⟨c0, c1, c2, c3, d0, d1, d2, d3, l1, l2, _⟩ := KK.out w0 (Below.refl _ _)
  go_wp2_with fail
  refine (HIP.out _ LL.out).mono ?_
  rintro e w1 ⟨rfl, b1⟩
  clear c0 c1 c2 c3 d0 d1 d2 d3 l1 l2
  have B1 := Lib.hid b1
  obtain ⟨c0, c1, c2, c3, d0, d1, d2, d3, l1, l2, m1⟩ := KK.out w1 B1.out
  have M1 := Lib.hid m1
  clear b1 m1
  cases q1 with
  | false =>
    go_wp2
    go_ret
    exact ⟨ret_bool (by rw [← HQ.out]; rfl), M1.out⟩
  | true =>
    go_wp2_with fail
    refine (HIR.out _ M1.out).mono ?_
    rintro e w2 ⟨rfl, b2⟩
    clear c0 c1 c2 c3 d0 d1 d2 d3 l1 l2
    have B2 := Lib.hid (B1.out.trans (b2.mono B1.out.size))
    obtain ⟨c0, c1, c2, c3, d0, d1, d2, d3, l1, l2, m1⟩ := KK.out w2 B2.out
    have M2 := Lib.hid m1
    clear b2 m1
    cases q2 with
    | false =>
      go_wp2
      go_ret
      exact ⟨ret_bool (by rw [← HQ.out]; rfl), M2.out⟩
    | true =>
      go_wp2_with fail
      refine (HIM.out _ M2.out).mono ?_
      rintro e w3 ⟨rfl, b3⟩
      clear c0 c1 c2 c3 d0 d1 d2 d3 l1 l2
      have B3 := Lib.hid (B2.out.trans (b3.mono B2.out.size))
      obtain ⟨c0, c1, c2, c3, d0, d1, d2, d3, l1, l2, m1⟩ := KK.out w3 B3.out
      have M3 := Lib.hid m1
      clear b3 m1
      cases q3 with
      | false =>
        go_wp2
        go_ret
        exact ⟨ret_bool (by rw [← HQ.out]; rfl), M3.out⟩
      | true =>
        go_wp2_with fail
        refine (HIB.out _ M3.out).mono ?_
        rintro e w4 ⟨rfl, b4⟩
        have M4 := Lib.hid (M3.out.trans (b4.mono M3.out.size))
        clear b4
        go_wp2
        go_ret
        exact ⟨ret_bool (by rw [← HQ.out]; rfl), M4.out⟩

end Go.Proofs.Ytdklcjgoomdhkaa
