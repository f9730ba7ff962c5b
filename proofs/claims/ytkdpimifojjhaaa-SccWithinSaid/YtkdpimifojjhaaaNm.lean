/- Layer 14, the code: Back. -/
import Derived.Test.YtkdpimifojjhaaaNl
namespace Go.Proofs.Ytkdpimifojjhaaa
set_option linter.unusedSimpArgs false
set_option linter.unusedVariables false
open Go.RowKit

/-- A row whose first k edges are turned. -/
def swpL (A : List Edg) (k : Nat) : List Edg := (A.take k).map swp ++ A.drop k
theorem swpL_len (A : List Edg) (k : Nat) : (swpL A k).length = A.length := by simp [swpL]; omega
theorem swpL_zero (A : List Edg) : swpL A 0 = A := by simp [swpL]
theorem swpL_all (A : List Edg) : swpL A A.length = A.map swp := by simp [swpL]
theorem swpL_at (A : List Edg) (k : Nat) (h : k < A.length) : (swpL A k)[k]? = some A[k] := by
  unfold swpL
  have hl : ((A.take k).map swp).length = k := by rw [List.length_map, List.length_take]; omega
  rw [List.getElem?_append_right (by omega), hl, Nat.sub_self, List.getElem?_drop, Nat.add_zero, List.getElem?_eq_getElem h]
theorem swpL_set (A : List Edg) (k : Nat) (h : k < A.length) : (swpL A k).set k (swp A[k]) = swpL A (k + 1) := by
  unfold swpL
  have hl : ((A.take k).map swp).length = k := by rw [List.length_map, List.length_take]; omega
  rw [List.set_append_right _ _ (by omega), hl, Nat.sub_self, List.drop_eq_getElem_cons h, List.set_cons_zero, List.take_add_one, List.getElem?_eq_getElem h, List.map_append, List.append_assoc]
  rfl
def noG : Gr := ⟨[], [], []⟩
theorem noG_D (w : World) : GrD w (.slice none 0 0) (.slice none 0 0) (.slice none 0 0) noG := ⟨SlD.nil, SlD.nil, SlD.nil⟩
def backZ (g : Gr) : Gr := if rightG g = true then backG g else noG
def keepZ (g : Gr) (l : List Bool) : Gr := if rightG g = true then keepG g l else noG

end Go.Proofs.Ytkdpimifojjhaaa
