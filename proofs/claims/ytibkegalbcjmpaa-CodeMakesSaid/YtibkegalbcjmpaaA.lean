/- What the small functions of package scan do: letter, digit, wordPart, span, value, sign. -/
import Derived.Test.YtibkegalbcjmpaaRows
import Derived.WalkKit
import Derived.WalkSpells
import Derived.WalkLawsBesides
import Derived.Lib.Hide
import Derived.Lib.OthersKept
namespace Go.Proofs.Ytibkegalbcjmpaa
open Go.RowKit

def ltr (c : Int) : Bool := decide (c = 95 ∨ (97 ≤ c ∧ c ≤ 122) ∨ (65 ≤ c ∧ c ≤ 90))
def dig (c : Int) : Bool := decide (48 ≤ c ∧ c ≤ 57)
def wrd (c : Int) : Bool := ltr c || dig c

theorem ret_bool {a b : Bool} (h : a = b) : Ending.returned (.bool a) = .returned (.bool b) := by rw [h]
theorem ret_int {k : IntKind} {a b : Int} (h : a = b) : Ending.returned (.int k a) = .returned (.int k b) := by rw [h]

set_option maxHeartbeats 400000 in
theorem letter_any (c : Int) (w : World) :
    Calls Try.prog 90 #[.int .i32 c] w fun e w' => e = .returned (.bool (ltr c)) ∧ w = w' := by
  by_cases h1 : c = 95
  · subst h1
    go_enter Try.func90, Try.ntmps90
    go_wp2
    go_ret
    exact ⟨rfl, rfl⟩
  · have h1' : (c == 95) = false := by simpa using h1
    go_enter Try.func90, Try.ntmps90
    go_wp2
    all_goals
      go_ret
      exact ⟨ret_bool (by rw [Bool.eq_iff_iff]; simp [ltr]; omega), rfl⟩

set_option maxHeartbeats 400000 in
theorem digit_any (c : Int) (w : World) :
    Calls Try.prog 94 #[.int .i32 c] w fun e w' => e = .returned (.bool (dig c)) ∧ w = w' := by
  go_enter Try.func94, Try.ntmps94
  go_wp2
  all_goals
    go_ret
    exact ⟨ret_bool (by rw [Bool.eq_iff_iff]; simp [dig]; omega), rfl⟩

set_option maxHeartbeats 400000 in
theorem wordPart_any (c : Int) (w : World) :
    Calls Try.prog 92 #[.int .i32 c] w fun e w' => e = .returned (.bool (wrd c)) ∧ w = w' := by
  by_cases h1 : ltr c = true
  · go_enter Try.func92, Try.ntmps92
    go_wp2_with (go_at_call 90; refine (letter_any _ _).mono ?_; rintro e w' ⟨rfl, rfl⟩)
    all_goals
      go_ret
      exact ⟨ret_bool (by simp [wrd, h1]), rfl⟩
  · have h1' : ltr c = false := by simpa using h1
    go_enter Try.func92, Try.ntmps92
    go_wp2_with (first | (go_at_call 90; refine (letter_any _ _).mono ?_; rintro e w' ⟨rfl, rfl⟩) | (go_at_call 94; refine (digit_any _ _).mono ?_; rintro e w' ⟨rfl, rfl⟩))
    all_goals
      go_ret
      exact ⟨ret_bool (by simp [wrd, h1']), rfl⟩

/-- How many bytes at a list's head are of a kind. -/
def spanN (p : Int → Bool) (l : List UInt8) : Nat := (l.takeWhile fun c => p (c.toNat : Int)).length

theorem spanN_le (p : Int → Bool) (l : List UInt8) : spanN p l ≤ l.length := by
  unfold spanN; exact (List.takeWhile_sublist _).length_le

theorem drop_at (s : ByteArray) (k : Nat) (h : k < s.size) : s.data.toList.drop k = s[k] :: s.data.toList.drop (k + 1) := by
  rw [List.drop_eq_getElem_cons (by simpa using h)]; rfl

theorem spanN_yes (p : Int → Bool) (s : ByteArray) (k : Nat) (h : k < s.size) (hp : p (s[k].toNat : Int) = true) :
    spanN p (s.data.toList.drop k) = spanN p (s.data.toList.drop (k + 1)) + 1 := by
  rw [drop_at s k h]; simp [spanN, hp]

theorem spanN_no (p : Int → Bool) (s : ByteArray) (k : Nat) (h : k < s.size) (hp : p (s[k].toNat : Int) = false) :
    spanN p (s.data.toList.drop k) = 0 := by
  rw [drop_at s k h]; simp [spanN, hp]

theorem spanN_end (p : Int → Bool) (s : ByteArray) (k : Nat) (h : ¬ k < s.size) : spanN p (s.data.toList.drop k) = 0 := by
  rw [List.drop_eq_nil_of_le (by simp; omega)]; rfl

theorem wrd_high (c : Int) (h : 128 ≤ c) : wrd c = false := by
  simp [wrd, ltr, dig]; omega
theorem dig_high (c : Int) (h : 128 ≤ c) : dig c = false := by
  simp [dig]; omega

theorem rune_kind (p : Int → Bool) (hp : ∀ c : Int, 128 ≤ c → p c = false) (s : ByteArray) (k : Nat) (h : k < s.size) : p ((Utf8.decode s k).1 : Int) = p (s[k].toNat : Int) := by
  by_cases ha : (s[k]).toNat < 128
  · rw [decode_ascii s k h ha]
  · have := (decode_high s k h (by omega)).1
    rw [hp _ (by omega), hp _ (by omega)]
theorem rune_one (p : Int → Bool) (hp : ∀ c : Int, 128 ≤ c → p c = false) (s : ByteArray) (k : Nat) (h : k < s.size) (hy : p (s[k].toNat : Int) = true) : (Utf8.decode s k).2 = 1 := by
  by_cases ha : (s[k]).toNat < 128
  · rw [decode_ascii s k h ha]
  · rw [hp _ (by omega)] at hy; cases hy

set_option maxHeartbeats 400000 in
theorem span_word (s : ByteArray) (w : World) :
    Calls Try.prog 91 #[.string s, .func (.func 92) #[] #[]] w fun e w' => e = .returned (.int .i64 (spanN wrd s.data.toList)) ∧ Below w.heap.size w w' := by
  go_enter Try.func91, Try.ntmps91
  go_wp2
  go_loopw [] (fun wr => ∃ pos : Nat, pos ≤ s.size ∧ pos + spanN wrd (s.data.toList.drop pos) = spanN wrd s.data.toList ∧ wr.heap[w.heap.size]? = some (.stringIter s pos) ∧ Below w.heap.size w wr) (fun wr => s.size - wr.iterPos w.heap.size)
  case atStart => exact ⟨0, Nat.zero_le _, by simp, World.iter_heap w s 0, (Below.refl _ w).alloc (Nat.le_refl _) _⟩
  case round =>
    obtain ⟨pos, hpos, hsp, hit, hbw⟩ := hrel
    have HSP := Lib.hid hsp; clear hsp
    by_cases hp : pos < s.size
    · have hnx : ∀ ty, (Instr.next (.pointer (some ⟨w.heap.size, 0, none⟩)) true ty).run Try.prog wr = _ := fun ty => Lib.run_next_any_at wr w.heap.size s pos ty hit hp
      have HK := Lib.hid (rune_kind wrd wrd_high s pos hp)
      by_cases hy : wrd (s[pos].toNat : Int) = true
      · have hy2 : wrd ((Utf8.decode s pos).1 : Int) = true := by rw [HK.out]; exact hy
        have HW := Lib.hid (rune_one wrd wrd_high s pos hp hy)
        have HN := Lib.hid (spanN_yes wrd s pos hp hy)
        have hit2 := Lib.iterAt_heap wr w.heap.size s pos (pos + (Utf8.decode s pos).2) hit
        have hbw2 := Lib.below_iterAt hbw (k := w.heap.size) (Nat.le_refl _) s (pos + (Utf8.decode s pos).2)
        clear hy
        go_wp2_with (go_at_call 92; refine (wordPart_any _ _).mono ?_; rintro e w' ⟨rfl, rfl⟩)
        go_roundw
        case rel =>
          have hw := HW.out
          rw [hw] at hit2 hbw2 ⊢
          exact ⟨pos + 1, by omega, by have := HSP.out; have := HN.out; omega, hit2, hbw2⟩
        case measure =>
          have hw := HW.out
          simp only [World.iterPos, hit2, hit]
          omega
      · have hy' : wrd (s[pos].toNat : Int) = false := by simpa using hy
        have hy2 : wrd ((Utf8.decode s pos).1 : Int) = false := by rw [HK.out]; exact hy'
        have HN := Lib.hid (spanN_no wrd s pos hp hy')
        have hbw2 := Lib.below_iterAt hbw (k := w.heap.size) (Nat.le_refl _) s (pos + (Utf8.decode s pos).2)
        clear hy hy'
        go_wp2_with (go_at_call 92; refine (wordPart_any _ _).mono ?_; rintro e w' ⟨rfl, rfl⟩)
        go_ret
        exact ⟨ret_int (by have := HSP.out; have := HN.out; omega), hbw2⟩
    · have hnx : ∀ ty, (Instr.next (.pointer (some ⟨w.heap.size, 0, none⟩)) true ty).run Try.prog wr = _ := fun ty => Lib.run_next_end_at wr w.heap.size s pos ty hit hp
      have HN := Lib.hid (spanN_end wrd s pos hp)
      go_wp2
      go_ret
      exact ⟨ret_int (by have := HSP.out; have := HN.out; omega), hbw⟩

set_option maxHeartbeats 400000 in
theorem span_digit (s : ByteArray) (w : World) :
    Calls Try.prog 91 #[.string s, .func (.func 94) #[] #[]] w fun e w' => e = .returned (.int .i64 (spanN dig s.data.toList)) ∧ Below w.heap.size w w' := by
  go_enter Try.func91, Try.ntmps91
  go_wp2
  go_loopw [] (fun wr => ∃ pos : Nat, pos ≤ s.size ∧ pos + spanN dig (s.data.toList.drop pos) = spanN dig s.data.toList ∧ wr.heap[w.heap.size]? = some (.stringIter s pos) ∧ Below w.heap.size w wr) (fun wr => s.size - wr.iterPos w.heap.size)
  case atStart => exact ⟨0, Nat.zero_le _, by simp, World.iter_heap w s 0, (Below.refl _ w).alloc (Nat.le_refl _) _⟩
  case round =>
    obtain ⟨pos, hpos, hsp, hit, hbw⟩ := hrel
    have HSP := Lib.hid hsp; clear hsp
    by_cases hp : pos < s.size
    · have hnx : ∀ ty, (Instr.next (.pointer (some ⟨w.heap.size, 0, none⟩)) true ty).run Try.prog wr = _ := fun ty => Lib.run_next_any_at wr w.heap.size s pos ty hit hp
      have HK := Lib.hid (rune_kind dig dig_high s pos hp)
      by_cases hy : dig (s[pos].toNat : Int) = true
      · have hy2 : dig ((Utf8.decode s pos).1 : Int) = true := by rw [HK.out]; exact hy
        have HW := Lib.hid (rune_one dig dig_high s pos hp hy)
        have HN := Lib.hid (spanN_yes dig s pos hp hy)
        have hit2 := Lib.iterAt_heap wr w.heap.size s pos (pos + (Utf8.decode s pos).2) hit
        have hbw2 := Lib.below_iterAt hbw (k := w.heap.size) (Nat.le_refl _) s (pos + (Utf8.decode s pos).2)
        clear hy
        go_wp2_with (go_at_call 94; refine (digit_any _ _).mono ?_; rintro e w' ⟨rfl, rfl⟩)
        go_roundw
        case rel =>
          have hw := HW.out
          rw [hw] at hit2 hbw2 ⊢
          exact ⟨pos + 1, by omega, by have := HSP.out; have := HN.out; omega, hit2, hbw2⟩
        case measure =>
          have hw := HW.out
          simp only [World.iterPos, hit2, hit]
          omega
      · have hy' : dig (s[pos].toNat : Int) = false := by simpa using hy
        have hy2 : dig ((Utf8.decode s pos).1 : Int) = false := by rw [HK.out]; exact hy'
        have HN := Lib.hid (spanN_no dig s pos hp hy')
        have hbw2 := Lib.below_iterAt hbw (k := w.heap.size) (Nat.le_refl _) s (pos + (Utf8.decode s pos).2)
        clear hy hy'
        go_wp2_with (go_at_call 94; refine (digit_any _ _).mono ?_; rintro e w' ⟨rfl, rfl⟩)
        go_ret
        exact ⟨ret_int (by have := HSP.out; have := HN.out; omega), hbw2⟩
    · have hnx : ∀ ty, (Instr.next (.pointer (some ⟨w.heap.size, 0, none⟩)) true ty).run Try.prog wr = _ := fun ty => Lib.run_next_end_at wr w.heap.size s pos ty hit hp
      have HN := Lib.hid (spanN_end dig s pos hp)
      go_wp2
      go_ret
      exact ⟨ret_int (by have := HSP.out; have := HN.out; omega), hbw⟩

/-- The number that digits write. -/
def numV (l : List UInt8) : Nat := l.foldl (fun n c => 10 * n + (c.toNat - 48)) 0

theorem foldl_ge (l : List UInt8) : ∀ n : Nat, n ≤ l.foldl (fun n c => 10 * n + (c.toNat - 48)) n := by
  induction l with
  | nil => intro n; exact Nat.le_refl _
  | cons c l ih => intro n; rw [List.foldl_cons]; have := ih (10 * n + (c.toNat - 48)); omega

theorem numV_take (l : List UInt8) (k : Nat) : numV (l.take k) ≤ numV l := by
  conv => rhs; rw [← List.take_append_drop k l]
  unfold numV
  rw [List.foldl_append]
  exact foldl_ge _ _

theorem numV_snoc (s : ByteArray) (k : Nat) (h : k < s.size) : numV (s.data.toList.take (k + 1)) = 10 * numV (s.data.toList.take k) + (s[k].toNat - 48) := by
  rw [List.take_succ_eq_append_getElem (by simpa using h)]
  unfold numV
  rw [List.foldl_append]
  rfl

def NumAns (s : ByteArray) (w : World) (e : Ending) (w' : World) : Prop := ∃ n : Int, e = .returned (.int .i64 n) ∧ 0 ≤ n ∧ n ≤ 99999 ∧ (numV s.data.toList ≤ 9999 → n = numV s.data.toList) ∧ (9999 < numV s.data.toList → 9999 < n) ∧ Below w.heap.size w w'

end Go.Proofs.Ytibkegalbcjmpaa
