/- Layer 14's law: known. -/
import Derived.Test.YtkdpimifojjhaaaNs
import Derived.Test.YtkdpimifojjhaaaNr
import Derived.Test.YtkdpimifojjhaaaNn
namespace Go.Proofs.Ytkdpimifojjhaaa
set_option linter.unusedSimpArgs false
set_option linter.unusedVariables false
open Go.RowKit

abbrev kL : List Edg := [(1, 2, 0), (0, 3, 1), (1, 4, 1)]
abbrev kG : Gr := ⟨[0, 1, 3, 3], [3, 2, 4], [1, 0, 1]⟩
abbrev kB : Gr := ⟨[0, 1, 3, 3], [2, 3, 4], [1, 0, 1]⟩
abbrev kK : Gr := ⟨[0, 0, 1, 1], [4], [1]⟩
theorem k1 : buildG 3 kL = kG ∧ buildE 3 kL = 0 ∧ buildG 1 [(0, 0, 1)] = noG ∧ buildE 1 [(0, 0, 1)] = 1 := ⟨by kernel_rfl, by kernel_rfl, by kernel_rfl, by kernel_rfl⟩
theorem k2 : backZ kG = kB ∧ keepZ kG [false, true] = kK ∧ rightG kG = true ∧ (if rightG kG = true then numN kG else 0) = 3 := ⟨by kernel_rfl, by kernel_rfl, by kernel_rfl, by kernel_rfl⟩
theorem k3 : outZ kG 1 = [(1, 2, 0), (1, 4, 1)] ∧ allZ kG = [(0, 3, 1), (1, 2, 0), (1, 4, 1)] ∧ outZ kB 1 = [(1, 3, 0), (1, 4, 1)] ∧ allZ kK = [(1, 4, 1)] := ⟨by kernel_rfl, by kernel_rfl, by kernel_rfl, by kernel_rfl⟩
theorem k4 : ReachZ kG [0] [true, true, false] := by
  have hR := right_RG kG k2.2.2.1
  have hA : allL kG = [(0, 3, 1), (1, 2, 0), (1, 4, 1)] := by kernel_rfl
  refine ⟨fun _ => isR_of hR.allOk rfl (fun i hi => ?_) (fun x hx h0 h1 => ?_) (fun e he h1 => ?_), fun h => by rw [k2.2.2.1] at h; cases h⟩
  · have r0 : Rch (allL kG) [0] (numN kG) 0 := .base 0 (by simp) (by decide) (by decide)
    have r1 : Rch (allL kG) [0] (numN kG) 1 := .step (0, 3, 1) (by rw [hA]; simp) r0
    match i, hi with
    | 0, _ => exact r0
    | 1, _ => exact r1
    | 2, h => simp at h
    | i + 3, h => simp at h
  · rw [List.mem_singleton] at hx
    subst hx
    rfl
  · rw [hA] at he
    simp at he
    rcases he with rfl | rfl | rfl <;> rfl

theorem GrD.sh {w : World} {vs va vt : Value} {g : Gr} (h : GrD w vs va vt g) : ∃ z1 n1 y1 z2 n2 y2 z3 n3 y3, vs = .slice z1 n1 y1 ∧ va = .slice z2 n2 y2 ∧ vt = .slice z3 n3 y3 := by
  obtain ⟨a1, p1, h1⟩ := h.s.shape0
  obtain ⟨a2, p2, h2⟩ := h.a.shape0
  obtain ⟨a3, p3, h3⟩ := h.t.shape0
  exact ⟨_, _, _, _, _, _, _, _, _, h1, h2, h3⟩
theorem SlD.sh {α : Type} {S : Nat} {R : World → Nat → Nat → α → Prop} {w : World} {v : Value} {xs : List α} (h : SlD S R w v xs) : ∃ z y, v = .slice z xs.length y := h.shape0
theorem trusD_of_bk {w : World} {g : Nat} {xs : List Bool} {n : Nat} (h : BkT w g xs) (hn : xs.length = n) (hl : n ≤ 1000000) : TrusD w (.slice (some ⟨g, 0, none⟩) n n) xs := h.trus hn hl
end Go.Proofs.Ytkdpimifojjhaaa
