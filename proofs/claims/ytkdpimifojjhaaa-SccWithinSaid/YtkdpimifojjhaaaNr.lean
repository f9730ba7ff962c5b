/- Layer 14, the code: Reach. -/
import Derived.Test.YtkdpimifojjhaaaNq
namespace Go.Proofs.Ytkdpimifojjhaaa
set_option linter.unusedSimpArgs false
set_option linter.unusedVariables false
open Go.RowKit

def ReachZ (g : Gr) (F : List Int) (r : List Bool) : Prop := (rightG g = true → IsR (allL g) F (numN g) r) ∧ (rightG g = false → r = [])
theorem reachZ_one {g : Gr} {F : List Int} {r s : List Bool} (h1 : ReachZ g F r) (h2 : ReachZ g F s) : r = s := by
  cases h : rightG g with
  | true => exact isR_one (h1.1 h) (h2.1 h)
  | false => rw [h1.2 h, h2.2 h]
/-- The last one goes. -/
theorem own_pop {w : World} {B k : Nat} {ad : Option Addr} {n cap : Nat} {S : List Int} {x : Int} (h : w.ownsRow B 3 1 (.slice ad n cap) (S ++ [x]).length (ints (S ++ [x]))) (hk : S.length = k) :
    ∃ g, ad = some ⟨g, 0, none⟩ ∧ n = k + 1 ∧ k + 1 ≤ cap ∧ w.cell? ⟨g, k, none⟩ = some (.int .i64 x) ∧ g < w.heap.size ∧ w.ownsRow B 3 1 (.slice ad k cap) S.length (ints S) := by
  subst hk
  have hl : (S ++ [x]).length = S.length + 1 := by simp
  rw [hl] at h
  obtain ⟨h1, h2⟩ := h
  rcases h2 with ⟨hv, h2⟩ | ⟨g, cap', cur, hv, hB, hg, hle, hm, hcs, ht⟩
  · omega
  · injection hv with e1 e2 e3
    subst e1; subst e2; subst e3
    rw [Nat.mul_one] at hcs ht
    have hi : ints (S ++ [x]) = ints S ++ [.int .i64 x] := by simp [ints]
    rw [hi] at ht
    refine ⟨g, rfl, rfl, hle, ?_, (Array.getElem?_eq_some_iff.1 hg).1, by rw [ints_len, Nat.mul_one], .inr ⟨g, cap, cur, rfl, hB, hg, by omega, hm, by rw [Nat.mul_one]; exact hcs, ?_⟩⟩
    · rw [show w.cell? ⟨g, S.length, none⟩ = cur[S.length]? from Bk.cell (show Bk w g _ cur from hg) _]
      have : (cur.toList.take (S.length + 1))[S.length]? = some (.int .i64 x) := by
        rw [ht, List.getElem?_append_right (by rw [ints_len]; exact Nat.le_refl _), ints_len, Nat.sub_self]; rfl
      rw [List.getElem?_take, if_pos (by omega), Array.getElem?_toList] at this
      exact this
    · rw [Nat.mul_one]
      have : (cur.toList.take (S.length + 1)).take S.length = ints S := by
        rw [ht]
        exact List.take_left' (ints_len S)
      rw [List.take_take, Nat.min_eq_left (by omega)] at this
      exact this
theorem to_D {W : World} {ad : Option Addr} {m cap s t : Nat} {l : List Int} (h : IntsD W (.slice ad m cap) l) (hst : s ≤ t) (htm : t ≤ m) (hm : m ≤ cap) : IntsD W (.slice (if cap = s then ad else Option.map (fun x => x.add s) ad) (t - s) (cap - s)) ((l.take t).drop s) := by
  have h1 := SlD.drop (SlD.take h t cap htm (Nat.le_trans htm hm) (Nat.le_refl _)) s 1 rfl hst
  unfold sliced at h1
  rw [Nat.mul_one] at h1
  exact h1
theorem list_snoc {S : List Int} (h : 0 < S.length) : ∃ S0 x, S = S0 ++ [x] := ⟨S.dropLast, S.getLast (List.ne_nil_of_length_pos h), (List.dropLast_concat_getLast _).symm⟩

end Go.Proofs.Ytkdpimifojjhaaa
