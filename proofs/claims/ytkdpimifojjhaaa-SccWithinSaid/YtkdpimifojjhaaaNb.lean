/- Layer 14: the reference's Bools, Same, Light. -/
import Derived.Test.YtkdpimifojjhaaaNa
namespace Go.Proofs.Ytkdpimifojjhaaa
set_option linter.unusedSimpArgs false
set_option linter.unusedVariables false
open Go.RowKit

set_option maxRecDepth 100000 in
set_option maxHeartbeats 2000000 in
theorem light14_any (g : Gr) (vs va vt : Value) (w : World) (hd : GrD w vs va vt g) (q : Bool) (hq : lightG g = q) :
    Calls Try.prog 8 #[.agg #[vs, va, vt]] w fun e w' => e = .returned (.bool q) ∧ Below w.heap.size w w' := by
  obtain ⟨a1, p1, rfl⟩ := hd.s.shape0
  obtain ⟨a2, p2, rfl⟩ := hd.a.shape0
  obtain ⟨a3, p3, rfl⟩ := hd.t.shape0
  unfold lightG at hq
  clear hd
  generalize g.st.length = n1 at hq ⊢
  generalize g.to.length = n2 at hq ⊢
  generalize g.ag.length = n3 at hq ⊢
  by_cases h1 : n1 ≤ 80
  · by_cases h2 : n2 ≤ 400
    · by_cases h3 : n3 ≤ 400
      · have HQ : Hid (q = true) := Lib.hid (by rw [← hq, decide_eq_true h1, decide_eq_true h2, decide_eq_true h3]; rfl)
        have g1 : (n1 : Int) ≤ 80 := by omega
        have g2 : (n2 : Int) ≤ 400 := by omega
        have g3 : (n3 : Int) ≤ 400 := by omega
        clear hq h1 h2 h3
        go_enter Try.func8, Try.ntmps8
        go_wp2_with fail
        go_ret
        exact ⟨ret_bool HQ.out.symm, (Below.refl w.heap.size w).alloc (Nat.le_refl _) _⟩
      · have HQ : Hid (q = false) := Lib.hid (by rw [← hq, decide_eq_false h3, Bool.and_false, Bool.and_false])
        have g1 : (n1 : Int) ≤ 80 := by omega
        have g2 : (n2 : Int) ≤ 400 := by omega
        have g3 : ¬ (n3 : Int) ≤ 400 := by omega
        clear hq h1 h2 h3
        go_enter Try.func8, Try.ntmps8
        go_wp2_with fail
        go_ret
        exact ⟨ret_bool HQ.out.symm, (Below.refl w.heap.size w).alloc (Nat.le_refl _) _⟩
    · have HQ : Hid (q = false) := Lib.hid (by rw [← hq, decide_eq_false h2, Bool.false_and, Bool.and_false])
      have g1 : (n1 : Int) ≤ 80 := by omega
      have g2 : ¬ (n2 : Int) ≤ 400 := by omega
      clear hq h1 h2
      go_enter Try.func8, Try.ntmps8
      go_wp2_with fail
      go_ret
      exact ⟨ret_bool HQ.out.symm, (Below.refl w.heap.size w).alloc (Nat.le_refl _) _⟩
  · have HQ : Hid (q = false) := Lib.hid (by rw [← hq, decide_eq_false h1, Bool.false_and])
    have g1 : ¬ (n1 : Int) ≤ 80 := by omega
    clear hq h1
    go_enter Try.func8, Try.ntmps8
    go_wp2_with fail
    go_ret
    exact ⟨ret_bool HQ.out.symm, (Below.refl w.heap.size w).alloc (Nat.le_refl _) _⟩

end Go.Proofs.Ytkdpimifojjhaaa
