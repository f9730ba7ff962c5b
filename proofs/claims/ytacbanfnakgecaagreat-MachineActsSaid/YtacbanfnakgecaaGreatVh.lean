/- Layer 9's law: unit. Layer 10's law: unit. -/
import Derived.Test.YtacbanfnakgecaaGreatVa
import Derived.Test.YtacbanfnakgecaaGreatYy
namespace Go.Proofs.YtacbanfnakgecaaGreat
set_option linter.unusedSimpArgs false
set_option linter.unusedVariables false
open Go.RowKit
theorem bk_up {w : World} {g T : Nat} {cs : Array Value} (h : Bk w g T cs) (o : Obj) : Bk (w.alloc o) g T cs := by
  have := h.lt
  unfold Bk at *
  rw [show (w.alloc o).heap = w.heap.push o from rfl, Array.getElem?_push_lt this, ← h, Array.getElem?_eq_getElem this]
theorem bk_here {w : World} {g T : Nat} {cs : Array Value} (h : g = w.heap.size) : Bk (w.alloc (.cells cs T)) g T cs := h ▸ Bk.new w T cs
theorem bel_up {a w : World} (h : Below a.heap.size a w) (o : Obj) : Below a.heap.size a (w.alloc o) := h.alloc h.size o
theorem insD_of_bk {w : World} {g T : Nat} {cs : Array Value} {xs : List II} (h : Bk w g T cs) (hcs : cs.toList = xs.flatMap II.cells) (hl : xs.length ≤ 1000000) (he : ∀ t ∈ xs, OpsD w t.ev t.x.e ∧ OpsD w t.fv t.x.f) : InsD w (.slice (some ⟨g, 0, none⟩) xs.length xs.length) xs :=
  slD_of_bk II.cells 7 (fun _ => rfl) h hcs hl fun i hi hk => ⟨hk 0 (by decide), hk 1 (by decide), hk 2 (by decide), hk 3 (by decide), hk 4 (by decide), hk 5 (by decide), hk 6 (by decide), (he _ (List.getElem_mem hi)).1, (he _ (List.getElem_mem hi)).2⟩
theorem codD_of_bk {w : World} {g T : Nat} {cs : Array Value} {xs : List (List II × Value)} (h : Bk w g T cs) (hcs : cs.toList = xs.flatMap fun x => [x.2]) (hl : xs.length ≤ 1000000) (he : ∀ t ∈ xs, InsD w t.2 t.1) : CodD w (.slice (some ⟨g, 0, none⟩) xs.length xs.length) xs :=
  slD_of_bk (fun x : List II × Value => [x.2]) 1 (fun _ => rfl) h hcs hl fun i hi hk => ⟨hk 0 (by decide), he _ (List.getElem_mem hi)⟩
end Go.Proofs.YtacbanfnakgecaaGreat

namespace Go.Proofs.YtacbanfnakgecaaGreat
set_option linter.unusedSimpArgs false
set_option linter.unusedVariables false
open Go.RowKit
def oneL : List Opn := [⟨1, 1, 0⟩]
theorem opsD_of_bk {w : World} {g T : Nat} {cs : Array Value} {xs : List Opn} (h : Bk w g T cs) (hcs : cs.toList = xs.flatMap fun o => [.int .i64 o.op, .int .i64 o.n, .int .i64 o.t]) (hl : xs.length ≤ 1000000) : OpsD w (.slice (some ⟨g, 0, none⟩) xs.length xs.length) xs :=
  slD_of_bk (fun o : Opn => [.int .i64 o.op, .int .i64 o.n, .int .i64 o.t]) 3 (fun _ => rfl) h hcs hl fun i hi hk => ⟨hk 0 (by decide), hk 1 (by decide), hk 2 (by decide)⟩
end Go.Proofs.YtacbanfnakgecaaGreat
