/- What build, ident, number and token do. -/
import Derived.Test.YtibkegalbcjmpaaB
import Derived.Test.YtibkegalbcjmpaaShelf
import Derived.Laws.ResultCell
import Derived.Laws.NewBlocks
import Derived.Lib.Strings
import Derived.Lib.IndexBytes
namespace Go.Proofs.Ytibkegalbcjmpaa
open Go.RowKit

theorem below_new {w w' : World} {o : Obj} (h : Below (w.alloc o).heap.size (w.alloc o) w') : Below w.heap.size w w' :=
  ((Below.refl _ w).alloc (Nat.le_refl _) o).trans (h.mono (by simp))

end Go.Proofs.Ytibkegalbcjmpaa

namespace Go.Proofs.Ytibkegalbcjmpaa
open Go.RowKit

/-- The length of the sign at a list's head, 0 without one. -/
def sgnN (l : List UInt8) : Nat :=
  if [[61, 61], [33, 61], [60, 61], [38, 38], [124, 124]].contains (l.take 2) then 2
  else match l with | [] => 0 | c :: _ => if sgn1 (c.toNat : Int) then 1 else 0

/-- The token at a list's head: what is wrong, its kind, its length, its number. -/
def tk : List UInt8 → Nat × Nat × Nat × Nat
  | [] => (3, 0, 0, 0)
  | c :: r => if ltr (c.toNat : Int) then (if 16 < spanN wrd (c :: r) then (2, 0, 0, 0) else (0, 1, spanN wrd (c :: r), 0))
    else if dig (c.toNat : Int) then (if 9999 < numV ((c :: r).take (spanN dig (c :: r))) then (4, 0, 0, 0) else (0, 2, spanN dig (c :: r), numV ((c :: r).take (spanN dig (c :: r)))))
    else if 0 < sgnN (c :: r) then (0, 3, sgnN (c :: r), 0) else (3, 0, 0, 0)

theorem sgn2_eq (s : ByteArray) : sgn2 s = [[61, 61], [33, 61], [60, 61], [38, 38], [124, 124]].contains (s.data.toList.take 2) := by
  simp only [sgn2, Lib.extract_toList, List.drop_zero, Nat.sub_zero, List.contains_cons, List.contains_nil, Bool.or_false, Bool.or_assoc]

theorem sgn2_size (s : ByteArray) (h : sgn2 s = true) : 1 < s.size := by
  have hl : s.size = s.data.toList.length := Lib.size_eq s
  rcases hs : s.data.toList with _ | ⟨a, _ | ⟨b, r⟩⟩ <;> simp [sgn2_eq, hs] at h hl ⊢; omega

theorem mem_takeWhile (p : UInt8 → Bool) (x : UInt8) : ∀ l : List UInt8, x ∈ l.takeWhile p → p x = true
  | [], h => by simp at h
  | c :: l, h => by
    rcases hc : p c with _ | _
    · simp [hc] at h
    · rw [List.takeWhile_cons_of_pos hc, List.mem_cons] at h
      rcases h with rfl | h
      · exact hc
      · exact mem_takeWhile p x l h

theorem ext_zero (s : ByteArray) (a : Nat) : (s.extract 0 a).data.toList = s.data.toList.take a := by
  rw [Lib.extract_data]; simp

theorem head_of (s : ByteArray) (h : 0 < s.size) : ∃ r, s.data.toList = s[0] :: r := ⟨_, drop_at s 0 h⟩

theorem sgnN_le (l : List UInt8) : sgnN l ≤ l.length := by
  unfold sgnN
  rcases l with _ | ⟨a, _ | ⟨b, r⟩⟩
  · simp
  · simp; split <;> omega
  · simp only [List.length_cons]; repeat' split
    all_goals omega

def TokBad (k : Nat) (w : World) (e : Ending) (w' : World) : Prop := e = .returned (.tuple #[.agg #[.int .i64 0, .string ⟨#[]⟩, .int .i64 0, .int .i64 0], .int .i64 k]) ∧ Below w.heap.size w w'
def TokGood (kind n v : Nat) (s : ByteArray) (w : World) (e : Ending) (w' : World) : Prop := e = .returned (.tuple #[.agg #[.int .i64 kind, .string (s.extract 0 n), .int .i64 v, .int .i64 0], .int .i64 0]) ∧ Below w.heap.size w w'

theorem digits_of (s : ByteArray) : ∀ k, (h : k < (s.extract 0 (spanN dig s.data.toList)).size) → 48 ≤ ((s.extract 0 (spanN dig s.data.toList))[k]).toNat ∧ ((s.extract 0 (spanN dig s.data.toList))[k]).toNat ≤ 57 := by
  intro k h
  have hm : (s.extract 0 (spanN dig s.data.toList))[k] ∈ (s.extract 0 (spanN dig s.data.toList)).data.toList := by
    rw [Array.mem_toList_iff]; exact Array.getElem_mem (by exact h)
  rw [ext_zero] at hm
  have ht : s.data.toList.take (spanN dig s.data.toList) = s.data.toList.takeWhile fun c => dig (c.toNat : Int) := by
    unfold spanN
    exact (List.prefix_iff_eq_take.1 (List.takeWhile_prefix _)).symm
  rw [ht] at hm
  have := mem_takeWhile _ _ _ hm
  simp [dig] at this
  omega

end Go.Proofs.Ytibkegalbcjmpaa
