/- Layer 10's law: what must come of fixed calls, plainly. -/
import Derived.Test.YtdnjojjbdieacaaVh
import Derived.Test.YtdnjojjbdieacaaWa
namespace Go.Proofs.Ytdnjojjbdieacaa
set_option linter.unusedSimpArgs false
set_option linter.unusedVariables false
open Go.RowKit

def pf0 : Pf := ⟨[0, 0], [[], []], [0], [[], []]⟩
def pf1 : Pf := ⟨[1, 0], [[], []], [0], [[(0, 1)], []]⟩
def pf2 : Pf := ⟨[1, 0], [[], []], [1], [[], []]⟩
theorem startK (v va vb : Value) : startP (unitK v va vb) = pf0 := by rfl
theorem rightK (v va vb : Value) (p : Pf) (model : Int) (h : (p.pc.length = 2 ∧ p.regs.length = 2 ∧ p.buf.length = 2 ∧ p.mem.length = 1) ∧ (p.mem.all fun n => inB n 4) = true ∧ thB 4 model 1 1 (p.pc.getD 0 0) (p.regs.getD 0 []) (p.buf.getD 0 []) 0 3 = true ∧ thB 4 model 1 1 (p.pc.getD 1 0) (p.regs.getD 1 []) (p.buf.getD 1 []) 0 2 = true ∧ rightL [] model 1 4 1 = true) : RightP (unitK v va vb) p model 1 := by
  obtain ⟨⟨h1, h2, h3, h4⟩, h5, h6, h7, h8⟩ := h
  refine ⟨rfl, h1, h2, h3, h4, fun n hn => List.all_eq_true.1 h5 n hn, fun k hk => ?_, h8⟩
  have hk2 : k = 0 ∨ k = 1 := by have : k < 2 := hk; omega
  rcases hk2 with rfl | rfl
  · exact h6
  · exact h7
theorem r0 (v va vb : Value) : RightP (unitK v va vb) pf0 2 1 := rightK v va vb _ _ ⟨⟨rfl, rfl, rfl, rfl⟩, rfl, rfl, rfl, rfl⟩
theorem r0s (v va vb : Value) : RightP (unitK v va vb) pf0 1 1 := rightK v va vb _ _ ⟨⟨rfl, rfl, rfl, rfl⟩, rfl, rfl, rfl, rfl⟩
theorem r1 (v va vb : Value) : RightP (unitK v va vb) pf1 2 1 := rightK v va vb _ _ ⟨⟨rfl, rfl, rfl, rfl⟩, rfl, rfl, rfl, rfl⟩
theorem r2 (v va vb : Value) : RightP (unitK v va vb) pf2 2 1 := rightK v va vb _ _ ⟨⟨rfl, rfl, rfl, rfl⟩, rfl, rfl, rfl, rfl⟩
theorem a0 (v va vb : Value) : enT (unitK v va vb) pf0 2 1 0 = true ∧ actT (unitK v va vb) pf0 2 1 0 = pf1 := ⟨by rfl, by rfl⟩
theorem a0s (v va vb : Value) : enT (unitK v va vb) pf0 1 1 0 = true ∧ actT (unitK v va vb) pf0 1 1 0 = pf2 := ⟨by rfl, by rfl⟩
theorem e01 (v va vb : Value) : enT (unitK v va vb) pf0 2 1 1 = false := by rfl
theorem e11 (v va vb : Value) : enT (unitK v va vb) pf1 2 1 1 = false := by rfl
theorem e10 (v va vb : Value) : enT (unitK v va vb) pf1 2 1 0 = false := by rfl
theorem e21 (v va vb : Value) : enT (unitK v va vb) pf2 2 1 1 = true := by rfl
theorem e02 (v va vb : Value) : enT (unitK v va vb) pf0 1 1 2 = false := by rfl
theorem p10 : popL ((pf1.buf.getD 0 [])) 2 (-1) = ([], (0, 1), true) ∧ popL ((pf1.buf.getD 0 [])) 2 0 = ([], (0, 1), true) := ⟨by rfl, by rfl⟩
theorem p00 : popL ((pf0.buf.getD 0 [])) 2 (-1) = ([], (0, 0), false) ∧ popL ((pf0.buf.getD 0 [])) 2 0 = ([], (0, 0), false) := ⟨by rfl, by rfl⟩
theorem rd1 : readsP pf1 0 0 = 1 ∧ readsP pf1 1 0 = 0 := ⟨by rfl, by rfl⟩
theorem usK (v va vb : Value) : ∀ k pc, (iiAt (unitK v va vb) k pc).x.e.length ≤ 100000 ∧ (iiAt (unitK v va vb) k pc).x.f.length ≤ 100000 := by
  intro k pc
  have key : ∀ (l : List II) (i : Nat), (∀ t ∈ l, t.x.e.length ≤ 100000 ∧ t.x.f.length ≤ 100000) → ((l.getD i noII).x.e.length ≤ 100000 ∧ (l.getD i noII).x.f.length ≤ 100000) := by
    intro l i hl
    rw [List.getD_eq_getElem?_getD]
    cases hg : l[i]? with
    | none => exact ⟨by simp [noII], by simp [noII]⟩
    | some t => exact hl t (List.mem_of_getElem? hg)
  unfold iiAt
  refine key _ _ fun t ht => ?_
  match k, ht with
  | 0, ht =>
    simp [unitK, codeA] at ht
    rcases ht with rfl | rfl | rfl <;> simp [insK, oneL]
  | 1, ht =>
    simp [unitK, codeB] at ht
    rcases ht with rfl | rfl <;> simp [insK, oneL]
  | k + 2, ht => simp [unitK] at ht
theorem shortK (v va vb : Value) : ShortU (unitK v va vb) := by
  refine ⟨by simp [unitK], by simp [unitK], fun r hr => ?_⟩
  simp [unitK] at hr
  rcases hr with rfl | rfl
  · refine ⟨by simp [codeA], fun t ht => ?_⟩
    simp [codeA] at ht
    rcases ht with rfl | rfl | rfl <;> simp [insK, oneL]
  · refine ⟨by simp [codeB], fun t ht => ?_⟩
    simp [codeB] at ht
    rcases ht with rfl | rfl <;> simp [insK, oneL]

/-- What a configuration of these holds. -/
theorem pf_short {c : Cf} (h : c.pf = pf0 ∨ c.pf = pf1 ∨ c.pf = pf2) : ShortC c := by
  have hl : c.pf.pc.length = 2 ∧ c.pf.regs.length = 2 ∧ c.pf.mem.length = 1 ∧ c.pf.buf.length = 2 ∧ (∀ r ∈ c.pf.regs, r.length ≤ 100000) ∧ ∀ r ∈ c.pf.buf, r.length ≤ 100000 := by
    rcases h with h | h | h <;> rw [h] <;> exact ⟨rfl, rfl, rfl, rfl, by decide, by decide⟩
  obtain ⟨h1, h2, h3, h4, h5, h6⟩ := hl
  have h2' : c.regs.length = 2 := by simpa [Cf.pf] using h2
  have h4' : c.buf.length = 2 := by simpa [Cf.pf] using h4
  exact ⟨by have : c.pc.length = 2 := h1; omega, by omega, by have : c.mem.length = 1 := h3; omega, by omega, fun x hx => h5 _ (List.mem_map_of_mem hx), fun x hx => h6 _ (List.mem_map_of_mem hx)⟩

end Go.Proofs.Ytdnjojjbdieacaa
