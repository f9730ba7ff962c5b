/- Layer 13: the landed table does what the laws ask. -/
import Derived.Test.YthmejdnedfokcaaKg
import Derived.Test.YthmejdnedfokcaaKi
namespace Go.Proofs.Ythmejdnedfokcaa
set_option linter.unusedSimpArgs false
set_option linter.unusedVariables false
open Go.RowKit

theorem tab_ok : ∃ TB, TabOK TB := by
  refine ⟨TBt, ⟨fun h h1 h2 => h.frame h1 h2, fun h => h.lt, new_any, ?_, fun s h h1 h2 => get_any s h h1 h2, fun i h _ => at_any i h, fun h _ => len_any h, fun h _ => slots_any h, fun h h1 => all_any h h1⟩⟩
  intro w t L F s h hfw hs
  cases hq : hasT L s with
  | true =>
    refine (put_old s h hfw hs hq).mono ?_
    rintro e w' ⟨rfl, b⟩
    have e1 : putN L s = posT L s := by unfold putN; rw [hq]; rfl
    have e2 : putL L s = L := by unfold putL; rw [hq]; rfl
    refine ⟨by rw [e1]; rfl, F, by rw [e2]; exact h.frame b.size (fun g hg => b.block g (h.lt g hg)), fun x hx => .inl hx, Oth.of b⟩
  | false =>
    refine (put_new s h hfw hs hq).mono ?_
    rintro e w' ⟨rfl, F', h1, h2, h3⟩
    have e1 : putN L s = L.length := by unfold putN; rw [hq]; rfl
    have e2 : putL L s = L ++ [s] := by unfold putL; rw [hq]; rfl
    refine ⟨by rw [e1]; rfl, F', by rw [e2]; exact h1, h2, h3⟩

end Go.Proofs.Ythmejdnedfokcaa
