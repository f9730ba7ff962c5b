/- What build, ident, number and token do. -/
import Derived.Test.YtifbhlgingaahaaDoorB
import Derived.Laws.ResultCell
import Derived.Laws.NewBlocks
namespace Go.Proofs.YtifbhlgingaahaaDoor
open Go.RowKit

/-- A block of four cells, open to writes. -/
def Blk4 (W : World) (b : Nat) (x0 x1 x2 x3 : Value) : Prop := W.heap[b]? = some (.cells #[x0, x1, x2, x3] 51 (0, 0))

theorem Blk4.new (w : World) (x0 x1 x2 x3 : Value) : Blk4 (w.alloc (.cells #[x0, x1, x2, x3] 51)) w.heap.size x0 x1 x2 x3 := heap_alloc_new w _

theorem Blk4.below {W W' : World} {b B : Nat} {x0 x1 x2 x3 : Value} (h : Blk4 W b x0 x1 x2 x3) (hb : Below B W W') (hlt : b < B) : Blk4 W' b x0 x1 x2 x3 := by
  unfold Blk4 at *; rw [hb.block b hlt]; exact h

theorem Blk4.lt {W : World} {b : Nat} {x0 x1 x2 x3 : Value} (h : Blk4 W b x0 x1 x2 x3) : b < W.heap.size := (Array.getElem?_eq_some_iff.1 h).1

theorem Blk4.facts {W : World} {b : Nat} {x0 x1 x2 x3 : Value} (h : Blk4 W b x0 x1 x2 x3) :
    (W.cell? ⟨b, 0, none⟩ = some x0 ∧ W.cell? ⟨b, 1, none⟩ = some x1 ∧ W.cell? ⟨b, 2, none⟩ = some x2 ∧ W.cell? ⟨b, 3, none⟩ = some x3) ∧
    W.frozen? ⟨b, 0, none⟩ = false ∧ W.frozen? ⟨b, 1, none⟩ = false ∧ W.frozen? ⟨b, 2, none⟩ = false ∧ W.frozen? ⟨b, 3, none⟩ = false := by
  unfold Blk4 at h
  simp [World.cell?, World.frozen?, h]

theorem below_new {w w' : World} {o : Obj} (h : Below (w.alloc o).heap.size (w.alloc o) w') : Below w.heap.size w w' :=
  ((Below.refl _ w).alloc (Nat.le_refl _) o).trans (h.mono (by simp))

end Go.Proofs.YtifbhlgingaahaaDoor
