/- Scanning and parsing a text. -/
import Derived.Test.YtifbhlgingaahaaDoorTf
import Derived.Test.YtifbhlgingaahaaDoorNl
import Derived.Test.YtifbhlgingaahaaDoorRi
import Derived.Test.YtifbhlgingaahaaDoorP
import Derived.Test.YtifbhlgingaahaaDoorK
namespace Go.Proofs.YtifbhlgingaahaaDoor
open Go.RowKit

theorem rowN_at (l : List Nd) : ∀ i, (h : i < l.length) → (rowN l)[i * 5]? = some (.int .i64 (l[i]).op) ∧ (rowN l)[i * 5 + 1]? = some (.int .i64 (l[i]).n) ∧ (rowN l)[i * 5 + 2]? = some (.string (l[i]).nm) ∧ (rowN l)[i * 5 + 3]? = some (.string (l[i]).inn) ∧ (rowN l)[i * 5 + 4]? = some (.int .i64 (l[i]).pl) := by
  induction l with
  | nil => intro i h; exact absurd h (Nat.not_lt_zero _)
  | cons a l ih =>
    intro i h
    have hr : rowN (a :: l) = a.cells ++ rowN l := rfl
    have hl : a.cells.length = 5 := rfl
    cases i with
    | zero => refine ⟨?_, ?_, ?_, ?_, ?_⟩ <;> rw [hr, List.getElem?_append_left (by rw [hl]; omega)] <;> rfl
    | succ i =>
      have := ih i (by simpa using h)
      rw [hr]
      simp only [List.getElem_cons_succ]
      refine ⟨?_, ?_, ?_, ?_, ?_⟩ <;> rw [List.getElem?_append_right (by rw [hl]; omega), hl]
      · rw [show (i + 1) * 5 - 5 = i * 5 by omega]; exact this.1
      · rw [show (i + 1) * 5 + 1 - 5 = i * 5 + 1 by omega]; exact this.2.1
      · rw [show (i + 1) * 5 + 2 - 5 = i * 5 + 2 by omega]; exact this.2.2.1
      · rw [show (i + 1) * 5 + 3 - 5 = i * 5 + 3 by omega]; exact this.2.2.2.1
      · rw [show (i + 1) * 5 + 4 - 5 = i * 5 + 4 by omega]; exact this.2.2.2.2

/-- Nodes in a row of their own are nodes in a slice. -/
theorem ndsC_of_own {w : World} {B : Nat} {v : Value} {l : List Nd} (h : w.ownsRow B 32 5 v l.length (rowN l)) : NdsC w v l := by
  have hl := h.lt
  have hc := @World.ownsRow.cells _ _ _ _ _ _ _ h
  rcases h.2 with ⟨rfl, h0⟩ | ⟨g, cap, cur, rfl, _, hg, h1, h2, _⟩
  · have := List.eq_nil_of_length_eq_zero h0
    subst this
    exact ⟨none, 0, rfl, Nat.zero_le _, by omega, fun i hi => absurd hi (Nat.not_lt_zero _)⟩
  · refine ⟨_, cap, rfl, h1, by unfold maxLen at h2; omega, fun i hi => ?_⟩
    obtain ⟨r0, r1, r2, r3, r4⟩ := rowN_at l i hi
    have k0 := hc (g := g) rfl _ _ r0
    have k1 := hc (g := g) rfl _ _ r1
    have k2 := hc (g := g) rfl _ _ r2
    have k3 := hc (g := g) rfl _ _ r3
    have k4 := hc (g := g) rfl _ _ r4
    rw [addr_add] at k0 k1 k2 k3 k4
    refine ⟨g, 0, rfl, (hl g rfl).2, ?_⟩
    rw [Nat.zero_add]
    exact ⟨k0, k1, k2, k3, k4⟩

theorem tokens_any (s : ByteArray) (w : World) (hs : s.size ≤ 20000) :
    Calls Tryd.prog 19 #[.string s] w fun e w' => ∃ v, e = .returned v ∧ w'.ownsRow w.heap.size 51 4 v (scanL s.data.toList).1.length (rowOf (scanL s.data.toList).1) ∧ Below w.heap.size w w' := by
  have HS := rscan_any s w (by unfold maxLen; omega)
  obtain ⟨r, hr⟩ : ∃ r, r = scanL s.data.toList := ⟨_, rfl⟩
  rw [← hr] at HS ⊢
  unfold ScanAns at HS
  go_enter Tryd.func19, Tryd.ntmps19
  go_wp2_with fail
  refine HS.mono ?_
  rintro e w1 ⟨v, rfl, ho, hb⟩
  go_wp2
  go_ret
  exact ⟨v, rfl, ho, hb⟩

end Go.Proofs.YtifbhlgingaahaaDoor
