/- What the reference's Scan does: the same tokens. -/
import Derived.Test.YtibkegalbcjmpaaJ
namespace Go.Proofs.Ytibkegalbcjmpaa
open Go.RowKit

theorem scanL_scX (s : ByteArray) (h : ¬ 20000 < s.size) : scanL s.data.toList = scX s 0 [] := by
  unfold scanL scX
  rw [if_neg (by rw [← Lib.size_eq]; exact h), ← Lib.size_eq]; rfl

end Go.Proofs.Ytibkegalbcjmpaa
