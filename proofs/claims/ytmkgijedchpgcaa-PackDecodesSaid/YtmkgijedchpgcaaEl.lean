/- What is light is short. -/
import Derived.Test.YtmkgijedchpgcaaEz
import Derived.Test.YtmkgijedchpgcaaUm
import Derived.Test.YtmkgijedchpgcaaUo
namespace Go.Proofs.Ytmkgijedchpgcaa
set_option linter.unusedSimpArgs false
set_option linter.unusedVariables false
open Go.RowKit

theorem lightU_short {u : Un} (h : lightU u = true) : ShortU u := by
  unfold lightU at h
  simp only [Bool.and_eq_true, decide_eq_true_eq, List.all_eq_true] at h
  obtain ⟨h1, h2, h3, h4⟩ := h
  refine ⟨by omega, by omega, fun r hr => ?_⟩
  have h5 := h4 r hr
  unfold lightR at h5
  simp only [Bool.and_eq_true, decide_eq_true_eq, List.all_eq_true] at h5
  refine ⟨by omega, fun t ht => ?_⟩
  have h6 := h5.2 t ht
  unfold lightI at h6
  simp only [Bool.and_eq_true, decide_eq_true_eq] at h6
  omega
theorem lightC_short {c : Cf} (h : lightC c = true) : ShortC c := by
  unfold lightC at h
  simp only [Bool.and_eq_true, decide_eq_true_eq, List.all_eq_true] at h
  obtain ⟨⟨h1, h2, h3, h4⟩, h5, h6⟩ := h
  exact ⟨by omega, by omega, by omega, by omega, fun x hx => by have := h5 x hx; omega, fun x hx => by have := h6 x hx; omega⟩
theorem lightU_code {u : Un} (h : lightU u = true) : u.code.length ≤ 100000 := by
  unfold lightU at h
  simp only [Bool.and_eq_true, decide_eq_true_eq] at h
  omega

theorem c_unit : Try.prog.cellsOf 25 = 4 := by kernel_rfl
theorem c_conf : Try.prog.cellsOf 29 = 4 := by kernel_rfl

end Go.Proofs.Ytmkgijedchpgcaa
