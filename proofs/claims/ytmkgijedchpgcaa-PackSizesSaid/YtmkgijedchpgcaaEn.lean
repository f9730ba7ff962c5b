/- Layer 12: a text with one byte more, with one byte less. -/
import Derived.Test.YtmkgijedchpgcaaEa
namespace Go.Proofs.Ytmkgijedchpgcaa
set_option linter.unusedSimpArgs false
set_option linter.unusedVariables false
open Go.RowKit

theorem num_app (a b : ByteArray) : numZ (a ++ b) = numZ a ++ numZ b := by
  unfold numZ
  rw [ByteArray.data_append, Array.toList_append, List.map_append]
theorem num_cut (s : ByteArray) (n : Nat) : numZ (s.extract 0 n) = (numZ s).take n := by
  unfold numZ
  rw [ByteArray.data_extract, Array.toList_extract, List.map_take]
  simp
theorem dec_longer {u : Un} {p : Pf} {model room : Int} (h : RightP u p model room) (b : ByteArray) (hb : 0 < b.size) : decZ u (bytZ (encP p) ++ b) model room = none := by
  refine decZ_more h _ (numZ b) ?_ ?_
  · rw [num_app, num_byt h.small.byte]
  · intro e
    have := congrArg List.length e
    rw [num_len] at this
    have h0 : b.size = 0 := this
    omega
theorem dec_shorter {u : Un} {p : Pf} {model room : Int} (h : RightP u p model room) (n : Nat) (hn : n < (encP p).length) : decZ u ((bytZ (encP p)).extract 0 n) model room = none := by
  refine decZ_less h _ ((encP p).drop n) ?_ ?_
  · rw [num_cut, num_byt h.small.byte, List.take_append_drop]
  · intro e
    have := congrArg List.length e
    rw [List.length_drop] at this
    simp at this
    omega

end Go.Proofs.Ytmkgijedchpgcaa
