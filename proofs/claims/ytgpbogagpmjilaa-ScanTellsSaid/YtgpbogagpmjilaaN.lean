/- What the reference's Same tells of lists that are alike. -/
import Derived.Test.YtgpbogagpmjilaaM
import Derived.Deep.QuietTactic
import Derived.BigQuiet
namespace Go.Proofs.Ytgpbogagpmjilaa
open Go.RowKit

/-- A token's cells, at a place of a slice. -/
def CellsAt (w : World) (b off i : Nat) (t : TokV) : Prop :=
  w.cell? ⟨b, off + i * 4, none⟩ = some (.int .i64 t.1) ∧ w.cell? ⟨b, off + i * 4 + 1, none⟩ = some (.string t.2.1) ∧ w.cell? ⟨b, off + i * 4 + 2, none⟩ = some (.int .i64 t.2.2.1) ∧ w.cell? ⟨b, off + i * 4 + 3, none⟩ = some (.int .i64 t.2.2.2)

theorem drewN_plus (w : World) (a b : Nat) : w.drewN (a + b) = (w.drewN a).drewN b := by
  simp [World.drewN, Nat.add_assoc]

/-- Alike but for places. -/
def alike (a b : TokV) : Prop := a.1 = b.1 ∧ a.2.1 = b.2.1 ∧ a.2.2.1 = b.2.2.1

theorem below_end {B : Nat} {w : World} (d : Nat) : Below B w (w.drewN d) := below_drewN (Below.refl _ _) d

set_option maxHeartbeats 2000000 in
theorem same_none (p : Bool) (ad ad' : Option Addr) (cap cap' : Nat) (w : World) :
    Calls Try.prog 11 #[.slice ad 0 cap, .slice ad' 0 cap', .bool p] w fun e w' => e = .returned (.bool true) ∧ Below w.heap.size w w' := by
  go_enter Try.func11, Try.ntmps11
  go_wp2
  go_loopg [7] 0 (fun fuel i wr => i = .int .i64 0 ∧ w = wr)
  case atStart => exact ⟨rfl, rfl⟩
  case round =>
    obtain ⟨rfl, rfl⟩ := hrel
    go_wp2
    go_ret
    exact ⟨rfl, Below.refl _ _⟩

set_option maxHeartbeats 4000000 in
theorem same_true (b off cap b' off' cap' n : Nat) (f g : Nat → TokV) (w : World) (hn : n ≤ 140737488351232)
    (hf : ∀ i, i < n → CellsAt w b off i (f i)) (hg : ∀ i, i < n → CellsAt w b' off' i (g i)) (he : ∀ i, i < n → f i = g i) :
    Calls Try.prog 11 #[.slice (some ⟨b, off, none⟩) n cap, .slice (some ⟨b', off', none⟩) n cap', .bool true] w fun e w' => e = .returned (.bool true) ∧ Below w.heap.size w w' := by
  have HF := Lib.hid hf; clear hf
  have HG := Lib.hid hg; clear hg
  have HE := Lib.hid he; clear he
  go_enter Try.func11, Try.ntmps11
  go_wp2
  go_loopg [7] n (fun fuel i wr => ∃ k d : Nat, k ≤ n ∧ i = .int .i64 k ∧ n - k ≤ fuel ∧ w.drewN d = wr)
  case atStart => exact ⟨0, 0, Nat.zero_le _, rfl, Nat.le_refl _, rfl⟩
  case round =>
    obtain ⟨k, d, hk, rfl, hfu, rfl⟩ := hrel
    by_cases hlt : k < n
    · obtain ⟨x0, x1, x2, x3⟩ := HF.out k hlt
      obtain ⟨y0, y1, y2, y3⟩ := HG.out k hlt
      have e := HE.out k hlt
      obtain ⟨⟨a0, a1, a2, a3⟩, ha⟩ : ∃ t, t = f k := ⟨_, rfl⟩
      obtain ⟨⟨c0, c1, c2, c3⟩, hc⟩ : ∃ t, t = g k := ⟨_, rfl⟩
      rw [← ha] at x0 x1 x2 x3 e
      rw [← hc] at y0 y1 y2 y3 e
      clear ha hc
      simp only [Prod.mk.injEq] at e
      obtain ⟨rfl, rfl, rfl, rfl⟩ := e
      by_cases hk0 : k = 0
      · subst hk0
        simp only [Nat.zero_mul, Nat.add_zero] at x0 x1 x2 x3 y0 y1 y2 y3
        go_wp2
        go_quiet (fail)
        go_wp2
        go_roundg (gk - 1)
        case measure => omega
        case rel => exact ⟨1, d + nq, by omega, by go_num, by omega, by rw [drewN_plus]⟩
      · go_wp2
        go_quiet (fail)
        go_wp2
        go_roundg (gk - 1)
        case measure => omega
        case rel => exact ⟨k + 1, d + nq, by omega, by go_num, by omega, by rw [drewN_plus]⟩
    · go_wp2
      go_ret
      exact ⟨rfl, below_end d⟩

set_option maxHeartbeats 4000000 in
theorem same_false (b off cap b' off' cap' n : Nat) (f g : Nat → TokV) (w : World) (hn : n ≤ 140737488351232)
    (hf : ∀ i, i < n → CellsAt w b off i (f i)) (hg : ∀ i, i < n → CellsAt w b' off' i (g i)) (he : ∀ i, i < n → alike (f i) (g i)) :
    Calls Try.prog 11 #[.slice (some ⟨b, off, none⟩) n cap, .slice (some ⟨b', off', none⟩) n cap', .bool false] w fun e w' => e = .returned (.bool true) ∧ Below w.heap.size w w' := by
  have HF := Lib.hid hf; clear hf
  have HG := Lib.hid hg; clear hg
  have HE := Lib.hid he; clear he
  go_enter Try.func11, Try.ntmps11
  go_wp2
  go_loopg [7] n (fun fuel i wr => ∃ k d : Nat, k ≤ n ∧ i = .int .i64 k ∧ n - k ≤ fuel ∧ w.drewN d = wr)
  case atStart => exact ⟨0, 0, Nat.zero_le _, rfl, Nat.le_refl _, rfl⟩
  case round =>
    obtain ⟨k, d, hk, rfl, hfu, rfl⟩ := hrel
    by_cases hlt : k < n
    · obtain ⟨x0, x1, x2, x3⟩ := HF.out k hlt
      obtain ⟨y0, y1, y2, y3⟩ := HG.out k hlt
      have e := HE.out k hlt
      obtain ⟨⟨a0, a1, a2, a3⟩, ha⟩ : ∃ t, t = f k := ⟨_, rfl⟩
      obtain ⟨⟨c0, c1, c2, c3⟩, hc⟩ : ∃ t, t = g k := ⟨_, rfl⟩
      rw [← ha] at x0 x1 x2 x3 e
      rw [← hc] at y0 y1 y2 y3 e
      clear ha hc
      simp only [alike] at e
      obtain ⟨rfl, rfl, rfl⟩ := e
      by_cases hk0 : k = 0
      · subst hk0
        simp only [Nat.zero_mul, Nat.add_zero] at x0 x1 x2 x3 y0 y1 y2 y3
        go_wp2
        go_quiet (fail)
        go_wp2
        go_roundg (gk - 1)
        case measure => omega
        case rel => exact ⟨1, d + nq, by omega, by go_num, by omega, by rw [drewN_plus]⟩
      · go_wp2
        go_quiet (fail)
        go_wp2
        go_roundg (gk - 1)
        case measure => omega
        case rel => exact ⟨k + 1, d + nq, by omega, by go_num, by omega, by rw [drewN_plus]⟩
    · go_wp2
      go_ret
      exact ⟨rfl, below_end d⟩

theorem Toks.cases {w : World} {v : Value} {ts : List TokV} (h : Toks w v ts) :
    (ts = [] ∧ ∃ ad cap, v = .slice ad 0 cap) ∨ ∃ b off cap, v = .slice (some ⟨b, off, none⟩) ts.length cap ∧ b < w.heap.size ∧ ∀ i, i < ts.length → CellsAt w b off i (ts.getD i (0, ⟨#[]⟩, 0, 0)) := by
  rcases h with h | ⟨b, off, cap, hv, hb, hc⟩
  · exact .inl h
  · refine .inr ⟨b, off, cap, hv, hb, fun i hi => ?_⟩
    have := hc i hi
    have e : ts.getD i (0, ⟨#[]⟩, 0, 0) = ts[i] := by simp [List.getD_eq_getElem?_getD, hi]
    rw [e]
    exact this

theorem Toks.nil {w : World} {v : Value} (h : Toks w v []) : ∃ ad cap, v = .slice ad 0 cap := by
  rcases h with ⟨_, h⟩ | ⟨b, off, cap, hv, _⟩
  · exact h
  · exact ⟨_, cap, hv⟩

theorem same_toks (p : Bool) (v1 v2 : Value) (ts1 ts2 : List TokV) (w : World) (h1 : Toks w v1 ts1) (h2 : Toks w v2 ts2) (hn : ts1.length ≤ 140737488351232) (hl : ts2.length = ts1.length)
    (he : ∀ i, i < ts1.length → if p then ts1.getD i (0, ⟨#[]⟩, 0, 0) = ts2.getD i (0, ⟨#[]⟩, 0, 0) else alike (ts1.getD i (0, ⟨#[]⟩, 0, 0)) (ts2.getD i (0, ⟨#[]⟩, 0, 0))) :
    Calls Try.prog 11 #[v1, v2, .bool p] w fun e w' => e = .returned (.bool true) ∧ Below w.heap.size w w' := by
  by_cases h0 : ts1 = []
  · subst h0
    obtain rfl : ts2 = [] := List.eq_nil_of_length_eq_zero hl
    obtain ⟨ad, cap, rfl⟩ := h1.nil
    obtain ⟨ad', cap', rfl⟩ := h2.nil
    exact same_none p ad ad' cap cap' w
  · have h0' : ts2 ≠ [] := by
      intro e; subst e
      exact h0 (List.eq_nil_of_length_eq_zero hl.symm)
    rcases h1.cases with ⟨e, _⟩ | ⟨b, off, cap, rfl, _, hc⟩
    · exact absurd e h0
    rcases h2.cases with ⟨e, _⟩ | ⟨b', off', cap', rfl, _, hc'⟩
    · exact absurd e h0'
    rw [hl] at hc' ⊢
    cases p with
    | true => exact same_true b off cap b' off' cap' _ _ _ w hn hc hc' he
    | false => exact same_false b off cap b' off' cap' _ _ _ w hn hc hc' he

end Go.Proofs.Ytgpbogagpmjilaa
