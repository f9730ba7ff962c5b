/- Layer 14, the code: Reach. -/
import Derived.Test.YtkdpimifojjhaaaNp
import Derived.StillTailTactics
namespace Go.Proofs.Ytkdpimifojjhaaa
set_option linter.unusedSimpArgs false
set_option linter.unusedVariables false
open Go.RowKit

/-- A row of truths, whole in its block. -/
def truths (l : List Bool) : List Value := l.map Value.bool
abbrev BkT (w : World) (g : Nat) (l : List Bool) : Prop := Bk w g 4 (truths l).toArray
theorem truths_len (l : List Bool) : (truths l).length = l.length := by simp [truths]
theorem truths_rep (n : Nat) : truths (List.replicate n false) = List.replicate n (.bool false) := by simp [truths]
theorem truths_flat (l : List Bool) : truths l = l.flatMap fun x => [Value.bool x] := by
  induction l with
  | nil => rfl
  | cons a l ih => rw [List.flatMap_cons, ← ih]; rfl
section
variable {w : World} {g g' k : Nat} {l : List Bool} {x : Bool}
theorem BkT.at (h : BkT w g l) (hk : l[k]? = some x) : w.cell? ⟨g, k, none⟩ = some (.bool x) := by
  rw [h.cell k]; simp [truths, hk]
theorem BkT.set (h : BkT w g l) (k : Nat) (x : Bool) : BkT (w.setCell ⟨g, k, none⟩ (.bool x)) g (l.set k x) := by
  have e : ((truths l).toArray.setIfInBounds k (.bool x)) = (truths (l.set k x)).toArray := by simp [truths, List.map_set]
  show Bk _ _ _ _
  rw [← e]
  exact heap_setCell_same w g k _ _ _ h
theorem BkT.trus (h : BkT w g l) {n : Nat} (hn : l.length = n) (hl : n ≤ 1000000) : TrusD w (.slice (some ⟨g, 0, none⟩) n n) l := by
  subst hn
  exact slD_of_bk (fun x => [Value.bool x]) 1 (fun _ => rfl) h (truths_flat l) hl fun i hi hk => hk 0 (by decide)
end
theorem info_bool : (Try.prog.info? 4).map (fun i => (i.zero, i.size, i.bytes)) = some (some (.bool false), 1, 1) := by kernel_rfl
theorem bkT_new {w : World} {g : Nat} {n : Nat} {Z : List Value} (hZ : Z = List.replicate n (.bool false)) (h : w.heap[g]? = some (.cells Z.toArray 4 (0, 0))) : BkT w g (List.replicate n false) := by
  unfold BkT Bk
  rw [truths_rep, ← hZ]; exact h

/-- The search's state: what is reached, what is open; each variable in a block of its own. -/
structure RS (w : World) (B g1 gr g2 n : Nat) (R : List Bool) (vo : Value) (S : List Int) : Prop where
  r1 : Bk w g1 32 #[.slice (some ⟨gr, 0, none⟩) n n]
  rr : BkT w gr R
  r2 : Bk w g2 22 #[vo]
  ow : w.ownsRow B 3 1 vo S.length (ints S)
  b1 : g1 < B
  br : gr < B
  b2 : g2 < B
  bw : B ≤ w.heap.size
def Fs (B gr g2 : Nat) (x : Nat) : Prop := x = gr ∨ x = g2 ∨ B ≤ x
theorem RS.drew {w : World} {B g1 gr g2 n : Nat} {R : List Bool} {vo : Value} {S : List Int} (h : RS w B g1 gr g2 n R vo S) : RS w.drew B g1 gr g2 n R vo S := ⟨h.r1, h.rr, h.r2, h.ow, h.b1, h.br, h.b2, h.bw⟩
theorem RS.ne {w : World} {B g1 gr g2 n : Nat} {R : List Bool} {vo : Value} {S : List Int} (h : RS w B g1 gr g2 n R vo S) : g1 ≠ gr ∧ g1 ≠ g2 ∧ gr ≠ g2 := ⟨bk_ne h.r1 h.rr (by decide), bk_ne h.r1 h.r2 (by decide), bk_ne h.rr h.r2 (by decide)⟩
/-- A node is marked. -/
theorem RS.mark {w : World} {B g1 gr g2 n : Nat} {R : List Bool} {vo : Value} {S : List Int} (h : RS w B g1 gr g2 n R vo S) (k : Nat) : RS (w.setCell ⟨gr, k, none⟩ (.bool true)) B g1 gr g2 n (R.set k true) vo S :=
  ⟨h.r1.other h.ne.1 k, h.rr.set k true, h.r2.other (Ne.symm h.ne.2.2) k, own_setT h.ow h.rr (by decide), h.b1, h.br, h.b2, by rw [setCell_size]; exact h.bw⟩
/-- Another row stands in the variable. -/
theorem RS.put {w w2 : World} {B g1 gr g2 n : Nat} {R : List Bool} {vo v' : Value} {S S' : List Int} (h : RS w B g1 gr g2 n R vo S) (hb : Below B w w2) (ho : w2.ownsRow B 3 1 v' S'.length (ints S')) : RS (w2.setCell ⟨g2, 0, none⟩ v') B g1 gr g2 n R v' S' := by
  have k1 : Bk w2 g1 _ _ := (hb.block g1 h.b1).trans h.r1
  have k2 : Bk w2 gr _ _ := (hb.block gr h.br).trans h.rr
  have k3 : Bk w2 g2 _ _ := (hb.block g2 h.b2).trans h.r2
  refine ⟨k1.other h.ne.2.1 0, Bk.other k2 h.ne.2.2 0, ?_, own_setT ho k3 (by decide), h.b1, h.br, h.b2, by rw [setCell_size]; exact Nat.le_trans h.bw hb.size⟩
  exact heap_setCell_same w2 g2 0 _ _ v' k3

end Go.Proofs.Ytkdpimifojjhaaa
