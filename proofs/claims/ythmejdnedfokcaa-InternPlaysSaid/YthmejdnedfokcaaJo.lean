/- A row of texts that came in. -/
import Derived.Test.YthmejdnedfokcaaJb
import Derived.DataShut
namespace Go.Proofs.Ythmejdnedfokcaa
open Go.ChangeShapes Go.WideShapes Go.ChangeAt Go.RowKit
set_option linter.unusedSimpArgs false
set_option linter.unusedVariables false

theorem open_strsF {H : Type} {enc : TypeId × Value → H} {W : World} {fuel : Nat} {c : Value} {x : DataW H × List MemPlace} (h : DataW.trod enc Try.prog W 0 (fun _ => true) true fuel 22 [c] = some x) : ∃ l, StrsD W c l :=
  open_sl (⟨#[]⟩ : ByteArray) Try.underlying22 (by kernel_rfl) (by decide) StrAt (fun n cs y b off hy hl hc _ => by
    match cs, hl with
    | [c0], _ =>
      obtain ⟨n0, e0, _⟩ := DataW.trod_string Try.underlying9 hy
      have e0' : c0 = _ := (List.cons.inj e0).1
      subst e0'
      exact ⟨n0, hc 0 (by decide)⟩) h
theorem open_strs {H : Type} {enc : TypeId × Value → H} {W : World} {base : Nat} {v : Value} {d : DataW H} {p : List MemPlace} (hv : Value.okWide Try.prog W .any base 22 v) (h : DataW.Trod enc Try.prog W 0 (fun _ => true) true 22 v d p) : ∃ l, StrsD W v l := by
  obtain ⟨fuel, hf⟩ := h
  obtain ⟨a, len, cap, rfl⟩ := okWide_slice Try.underlying22 hv
  exact open_strsF hf
theorem wf_u8 {n : Int} (h : (Lit.int .u8 n).wf = true) : 0 ≤ n ∧ n ≤ 255 := by
  have h2 : IntKind.u8.min ≤ n ∧ n ≤ IntKind.u8.max := by simpa [Lit.wf] using h
  exact h2
theorem wf_u16 {n : Int} (h : (Lit.int .u16 n).wf = true) : 0 ≤ n ∧ n ≤ 65535 := by
  have h2 : IntKind.u16.min ≤ n ∧ n ≤ IntKind.u16.max := by simpa [Lit.wf] using h
  exact h2

end Go.Proofs.Ythmejdnedfokcaa
