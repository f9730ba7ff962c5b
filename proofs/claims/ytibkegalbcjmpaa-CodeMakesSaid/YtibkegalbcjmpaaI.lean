/- What the reference's one does: the token at a place. -/
import Derived.Test.YtibkegalbcjmpaaH
import Derived.Deep.QuietTactic
import Derived.BigQuiet
namespace Go.Proofs.Ytibkegalbcjmpaa
open Go.RowKit

def OneBad (k : Nat) (w : World) (e : Ending) (w' : World) : Prop := e = .returned (.tuple #[.agg #[.int .i64 0, .string ⟨#[]⟩, .int .i64 0, .int .i64 0], .int .i64 k]) ∧ Below w.heap.size w w'
def OneGood (kind v p : Nat) (t : ByteArray) (w : World) (e : Ending) (w' : World) : Prop := e = .returned (.tuple #[.agg #[.int .i64 kind, .string t, .int .i64 v, .int .i64 p], .int .i64 0]) ∧ Below w.heap.size w w'

theorem foldMin (l : List UInt8) (d : Nat) : min (10 * min (numV l) 10000 + d) 10000 = min (10 * numV l + d) 10000 := by omega

theorem numV_at (s : ByteArray) (p q : Nat) (hpq : p ≤ q) (h : q < s.size) : numV ((s.data.toList.drop p).take (q + 1 - p)) = 10 * numV ((s.data.toList.drop p).take (q - p)) + (s[q].toNat - 48) := by
  have hl : q - p < (s.data.toList.drop p).length := by rw [drop_len]; omega
  have e : q + 1 - p = q - p + 1 := by omega
  rw [e, List.take_succ_eq_append_getElem hl]
  unfold numV
  rw [List.foldl_append]
  have : (s.data.toList.drop p)[q - p] = s[q] := by
    rw [List.getElem_drop]
    have e2 : p + (q - p) = q := by omega
    simp only [e2]; rfl
  rw [this]; rfl

end Go.Proofs.Ytibkegalbcjmpaa
