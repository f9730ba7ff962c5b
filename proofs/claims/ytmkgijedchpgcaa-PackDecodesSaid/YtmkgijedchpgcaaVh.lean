/- Layer 9's law: unit. -/
import Derived.Test.YtmkgijedchpgcaaVa
namespace Go.Proofs.Ytmkgijedchpgcaa
set_option linter.unusedSimpArgs false
set_option linter.unusedVariables false
open Go.RowKit

def insF : Ins := ⟨8, 0, 0, [], [], false, 0⟩
def insD : Ins := ⟨22, 0, 0, [], [], false, 0⟩
def codeU : List II := [⟨insF, .slice none 0 0, .slice none 0 0⟩, ⟨insD, .slice none 0 0, .slice none 0 0⟩]
def unitU (v : Value) : Un := ⟨4, [3], [1], [(codeU, v)]⟩
theorem bk_up {w : World} {g T : Nat} {cs : Array Value} (h : Bk w g T cs) (o : Obj) : Bk (w.alloc o) g T cs := by
  have := h.lt
  unfold Bk at *
  rw [show (w.alloc o).heap = w.heap.push o from rfl, Array.getElem?_push_lt this, ← h, Array.getElem?_eq_getElem this]
theorem bk_here {w : World} {g T : Nat} {cs : Array Value} (h : g = w.heap.size) : Bk (w.alloc (.cells cs T)) g T cs := h ▸ Bk.new w T cs
theorem bel_up {a w : World} (h : Below a.heap.size a w) (o : Obj) : Below a.heap.size a (w.alloc o) := h.alloc h.size o
theorem insD_of_bk {w : World} {g T : Nat} {cs : Array Value} {xs : List II} (h : Bk w g T cs) (hcs : cs.toList = xs.flatMap II.cells) (hl : xs.length ≤ 1000000) (he : ∀ t ∈ xs, OpsD w t.ev t.x.e ∧ OpsD w t.fv t.x.f) : InsD w (.slice (some ⟨g, 0, none⟩) xs.length xs.length) xs :=
  slD_of_bk II.cells 7 (fun _ => rfl) h hcs hl fun i hi hk => ⟨hk 0 (by decide), hk 1 (by decide), hk 2 (by decide), hk 3 (by decide), hk 4 (by decide), hk 5 (by decide), hk 6 (by decide), (he _ (List.getElem_mem hi)).1, (he _ (List.getElem_mem hi)).2⟩
theorem codD_of_bk {w : World} {g T : Nat} {cs : Array Value} {xs : List (List II × Value)} (h : Bk w g T cs) (hcs : cs.toList = xs.flatMap fun x => [x.2]) (hl : xs.length ≤ 1000000) (he : ∀ t ∈ xs, InsD w t.2 t.1) : CodD w (.slice (some ⟨g, 0, none⟩) xs.length xs.length) xs :=
  slD_of_bk (fun x : List II × Value => [x.2]) 1 (fun _ => rfl) h hcs hl fun i hi hk => ⟨hk 0 (by decide), he _ (List.getElem_mem hi)⟩

theorem unit_right (v : Value) : rightU (unitU v) = true := by rfl
theorem unit_short (v : Value) : ShortU (unitU v) := by
  refine ⟨by simp [unitU], by simp [unitU], fun r hr => ?_⟩
  rw [show r = (codeU, v) from List.mem_singleton.1 hr]
  refine ⟨by simp [codeU], fun t ht => ?_⟩
  simp only [codeU, List.mem_cons, List.not_mem_nil, or_false] at ht
  rcases ht with rfl | rfl <;> exact ⟨by decide, by decide⟩

end Go.Proofs.Ytmkgijedchpgcaa
