/- What may be written over: numbers and entries of certain blocks. -/
import Derived.Test.YtacbanfnakgecaaGreatWd
namespace Go.Proofs.YtacbanfnakgecaaGreat
set_option linter.unusedSimpArgs false
set_option linter.unusedVariables false
open Go.RowKit

/-- Numbers and entries of blocks from B on, ahead of C, may have been written over: all else stays. -/
structure SC (B C : Nat) (w0 w : World) : Prop where
  f : ∀ g, ¬ (B ≤ g ∧ g < C) → w.heap[g]? = w0.heap[g]?
  k : ∀ (g : Nat) (cs : Array Value) (T : TypeId) (m : Nat × Nat), w0.heap[g]? = some (.cells cs T m) → ∃ cs' : Array Value, w.heap[g]? = some (.cells cs' T m) ∧ cs'.size = cs.size ∧ (T ≠ 3 ∧ T ≠ 70 → cs' = cs)
  sz : w.heap.size = w0.heap.size
  b : Below B w0 w
theorem SC.refl (B C : Nat) (w : World) : SC B C w w := ⟨fun _ _ => rfl, fun g cs T m h => ⟨cs, h, rfl, fun _ => rfl⟩, rfl, Below.refl _ _⟩
theorem SC.set {B C : Nat} {w0 w : World} (h : SC B C w0 w) {g : Nat} {cs : Array Value} {T k : Nat} (u : Value) (hg : w0.heap[g]? = some (.cells cs T (0, 0))) (hT : T = 3 ∨ T = 70) (hB : B ≤ g) (hC : g < C) : SC B C w0 (w.setCell ⟨g, k, none⟩ u) := by
  refine ⟨fun g' hg' => ?_, fun g' cs' T' m hh => ?_, by simp [h.sz], Below.setCell (p := ⟨g, k, none⟩) h.b hB _⟩
  · have hne : g' ≠ g := fun e => hg' (e ▸ ⟨hB, hC⟩)
    exact (heap_setCell_other _ _ _ _ hne).trans (h.f g' hg')
  · by_cases he : g' = g
    · subst he
      rw [hg] at hh
      injection hh with hh
      injection hh with e1 e2 e3
      subst e1 e2 e3
      obtain ⟨cs2, h1, h2, h3⟩ := h.k _ _ _ _ hg
      refine ⟨_, heap_setCell_same w g' k cs2 T u h1, by simp [h2], fun hn => ?_⟩
      rcases hT with hT | hT
      · exact absurd hT hn.1
      · exact absurd hT hn.2
    · obtain ⟨cs2, h1, h2, h3⟩ := h.k _ _ _ _ hh
      exact ⟨cs2, (heap_setCell_other _ _ _ _ he).trans h1, h2, h3⟩
theorem SC.own {B B' C T S n : Nat} {w0 w : World} {v : Value} {xs : List Value} (h : SC B C w0 w) (o : w0.ownsRow B' T S v n xs) (hT : T ≠ 3 ∧ T ≠ 70) : w.ownsRow B' T S v n xs := by
  refine ⟨o.1, ?_⟩
  rcases o.2 with o2 | ⟨g, cap, cur, hv, hg, hh, r⟩
  · exact .inl o2
  · obtain ⟨cs2, h1, h2, h3⟩ := h.k _ _ _ _ hh
    rw [h3 hT] at h1
    exact .inr ⟨g, cap, cur, hv, hg, h1, r⟩
theorem SC.bk {B C T g : Nat} {w0 w : World} {cs : Array Value} (h : SC B C w0 w) (o : Bk w0 g T cs) (hT : T ≠ 3 ∧ T ≠ 70) : Bk w g T cs := by
  obtain ⟨cs2, h1, h2, h3⟩ := h.k _ _ _ _ o
  rw [h3 hT] at h1
  exact h1
theorem SC.row {B C T S n : Nat} {w0 w : World} {v : Value} {xs : List Value} (h : SC B C w0 w) (o : w0.ownsRow B T S v n xs) (hT : T = 3 ∨ T = 70) (hC : w0.heap.size ≤ C ∨ ∀ g, v.ownBlock = some g → g < C) (hn : 0 < n) :
    ∃ g cap, v = .slice (some ⟨g, 0, none⟩) n cap ∧ g < w.heap.size ∧ ∀ k, k < n * S → (∃ x, w.cell? ⟨g, k, none⟩ = some x) ∧ w.frozen? ⟨g, k, none⟩ = false ∧ ∀ u, SC B C w0 (w.setCell ⟨g, k, none⟩ u) := by
  rcases o.2 with ⟨_, o2⟩ | ⟨g, cap, cur, hv, hg, hh, hle, _, hcs, _⟩
  · omega
  · have hgl : g < w0.heap.size := (Array.getElem?_eq_some_iff.1 hh).1
    have hgC : g < C := by
      rcases hC with hC | hC
      · omega
      · exact hC g (by rw [hv]; rfl)
    obtain ⟨cs2, h1, h2, _⟩ := h.k _ _ _ _ hh
    have hb : Bk w g T cs2 := h1
    refine ⟨g, cap, hv, hb.lt, fun k hk => ⟨?_, hb.fz k, fun u => h.set u hh hT hg hgC⟩⟩
    rw [hb.cell k]
    have : k < cs2.size := by rw [h2, hcs]; exact Nat.lt_of_lt_of_le hk (Nat.mul_le_mul_right _ hle)
    exact ⟨_, Array.getElem?_eq_getElem this⟩

theorem SC.head {B C T n i : Nat} {w0 : World} {v : Value} {β : Type} {l : List (β × Value)} (o : w0.ownsRow B T 1 v n (l.map (·.2))) (hT : T ≠ 3 ∧ T ≠ 70) (hi : i < n) (hn : n = l.length) :
    ∃ gh cap, v = .slice (some ⟨gh, 0, none⟩) n cap ∧ ∀ W, SC B C w0 W → W.cell? ⟨gh, i, none⟩ = some (l[i]'(by omega)).2 ∧ gh < W.heap.size := by
  obtain ⟨gh, cap, rfl, _, _⟩ := o.form (by omega)
  refine ⟨gh, cap, rfl, fun W h => ?_⟩
  have o2 := h.own o hT
  refine ⟨?_, (o2.lt gh rfl).2⟩
  rw [o2.cellAt i (by omega), List.getElem?_map, List.getElem?_eq_getElem (by omega)]
  rfl


end Go.Proofs.YtacbanfnakgecaaGreat
