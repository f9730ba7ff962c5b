/- What the small functions of package scan do: letter, digit, wordPart, span, value, sign. What sign and Keyword do. What build, ident, number and token do. -/
import Derived.Test.YtlpgafgiljffhaaGreatDoorRows
import Derived.WalkKit
import Derived.WalkSpells
import Derived.WalkLawsBesides
import Derived.Lib.Hide
import Derived.Lib.OthersKept
import Derived.Shelf.LaysM
import Derived.Shelf.Strconv.Clone
import Derived.Shelf.Strconv.Itoa3
import Derived.Test.YtlpgafgiljffhaaGreatDoorProg
import Derived.Laws.ResultCell
import Derived.Laws.NewBlocks
import Derived.Lib.Strings
import Derived.Lib.IndexBytes
namespace Go.Proofs.YtlpgafgiljffhaaGreatDoor
open Go.RowKit
def ltr (c : Int) : Bool := decide (c = 95 ∨ (97 ≤ c ∧ c ≤ 122) ∨ (65 ≤ c ∧ c ≤ 90))
def dig (c : Int) : Bool := decide (48 ≤ c ∧ c ≤ 57)
def wrd (c : Int) : Bool := ltr c || dig c
theorem ret_bool {a b : Bool} (h : a = b) : Ending.returned (.bool a) = .returned (.bool b) := by rw [h]
theorem ret_int {k : IntKind} {a b : Int} (h : a = b) : Ending.returned (.int k a) = .returned (.int k b) := by rw [h]
set_option maxHeartbeats 400000 in
theorem letter_any (c : Int) (w : World) :
    Calls Tryz.prog 99 #[.int .i32 c] w fun e w' => e = .returned (.bool (ltr c)) ∧ w = w' := by
  by_cases h1 : c = 95
  · subst h1
    go_enter Tryz.func99, Tryz.ntmps99
    go_wp2
    go_ret
    exact ⟨rfl, rfl⟩
  · have h1' : (c == 95) = false := by simpa using h1
    go_enter Tryz.func99, Tryz.ntmps99
    go_wp2
    all_goals
      go_ret
      exact ⟨ret_bool (by rw [Bool.eq_iff_iff]; simp [ltr]; omega), rfl⟩
set_option maxHeartbeats 400000 in
theorem digit_any (c : Int) (w : World) :
    Calls Tryz.prog 116 #[.int .i32 c] w fun e w' => e = .returned (.bool (dig c)) ∧ w = w' := by
  go_enter Tryz.func116, Tryz.ntmps116
  go_wp2
  all_goals
    go_ret
    exact ⟨ret_bool (by rw [Bool.eq_iff_iff]; simp [dig]; omega), rfl⟩
set_option maxHeartbeats 400000 in
theorem wordPart_any (c : Int) (w : World) :
    Calls Tryz.prog 101 #[.int .i32 c] w fun e w' => e = .returned (.bool (wrd c)) ∧ w = w' := by
  by_cases h1 : ltr c = true
  · go_enter Tryz.func101, Tryz.ntmps101
    go_wp2_with (go_at_call 99; refine (letter_any _ _).mono ?_; rintro e w' ⟨rfl, rfl⟩)
    all_goals
      go_ret
      exact ⟨ret_bool (by simp [wrd, h1]), rfl⟩
  · have h1' : ltr c = false := by simpa using h1
    go_enter Tryz.func101, Tryz.ntmps101
    go_wp2_with (first | (go_at_call 99; refine (letter_any _ _).mono ?_; rintro e w' ⟨rfl, rfl⟩) | (go_at_call 116; refine (digit_any _ _).mono ?_; rintro e w' ⟨rfl, rfl⟩))
    all_goals
      go_ret
      exact ⟨ret_bool (by simp [wrd, h1']), rfl⟩
def spanN (p : Int → Bool) (l : List UInt8) : Nat := (l.takeWhile fun c => p (c.toNat : Int)).length
theorem spanN_le (p : Int → Bool) (l : List UInt8) : spanN p l ≤ l.length := by
  unfold spanN; exact (List.takeWhile_sublist _).length_le
theorem drop_at (s : ByteArray) (k : Nat) (h : k < s.size) : s.data.toList.drop k = s[k] :: s.data.toList.drop (k + 1) := by
  rw [List.drop_eq_getElem_cons (by simpa using h)]; rfl
theorem spanN_yes (p : Int → Bool) (s : ByteArray) (k : Nat) (h : k < s.size) (hp : p (s[k].toNat : Int) = true) :
    spanN p (s.data.toList.drop k) = spanN p (s.data.toList.drop (k + 1)) + 1 := by
  rw [drop_at s k h]; simp [spanN, hp]
theorem spanN_no (p : Int → Bool) (s : ByteArray) (k : Nat) (h : k < s.size) (hp : p (s[k].toNat : Int) = false) :
    spanN p (s.data.toList.drop k) = 0 := by
  rw [drop_at s k h]; simp [spanN, hp]
theorem spanN_end (p : Int → Bool) (s : ByteArray) (k : Nat) (h : ¬ k < s.size) : spanN p (s.data.toList.drop k) = 0 := by
  rw [List.drop_eq_nil_of_le (by simp; omega)]; rfl
theorem wrd_high (c : Int) (h : 128 ≤ c) : wrd c = false := by
  simp [wrd, ltr, dig]; omega
theorem rune_kind (p : Int → Bool) (hp : ∀ c : Int, 128 ≤ c → p c = false) (s : ByteArray) (k : Nat) (h : k < s.size) : p ((Utf8.decode s k).1 : Int) = p (s[k].toNat : Int) := by
  by_cases ha : (s[k]).toNat < 128
  · rw [decode_ascii s k h ha]
  · have := (decode_high s k h (by omega)).1
    rw [hp _ (by omega), hp _ (by omega)]
theorem rune_one (p : Int → Bool) (hp : ∀ c : Int, 128 ≤ c → p c = false) (s : ByteArray) (k : Nat) (h : k < s.size) (hy : p (s[k].toNat : Int) = true) : (Utf8.decode s k).2 = 1 := by
  by_cases ha : (s[k]).toNat < 128
  · rw [decode_ascii s k h ha]
  · rw [hp _ (by omega)] at hy; cases hy
set_option maxHeartbeats 400000 in
theorem span_word (s : ByteArray) (w : World) :
    Calls Tryz.prog 100 #[.string s, .func (.func 101) #[] #[]] w fun e w' => e = .returned (.int .i64 (spanN wrd s.data.toList)) ∧ Below w.heap.size w w' := by
  go_enter Tryz.func100, Tryz.ntmps100
  go_wp2
  go_loopw [] (fun wr => ∃ pos : Nat, pos ≤ s.size ∧ pos + spanN wrd (s.data.toList.drop pos) = spanN wrd s.data.toList ∧ wr.heap[w.heap.size]? = some (.stringIter s pos) ∧ Below w.heap.size w wr) (fun wr => s.size - wr.iterPos w.heap.size)
  case atStart => exact ⟨0, Nat.zero_le _, by simp, World.iter_heap w s 0, (Below.refl _ w).alloc (Nat.le_refl _) _⟩
  case round =>
    obtain ⟨pos, hpos, hsp, hit, hbw⟩ := hrel
    have HSP := Lib.hid hsp; clear hsp
    by_cases hp : pos < s.size
    · have hnx : ∀ ty, (Instr.next (.pointer (some ⟨w.heap.size, 0, none⟩)) true ty).run Tryz.prog wr = _ := fun ty => Lib.run_next_any_at wr w.heap.size s pos ty hit hp
      have HK := Lib.hid (rune_kind wrd wrd_high s pos hp)
      by_cases hy : wrd (s[pos].toNat : Int) = true
      · have hy2 : wrd ((Utf8.decode s pos).1 : Int) = true := by rw [HK.out]; exact hy
        have HW := Lib.hid (rune_one wrd wrd_high s pos hp hy)
        have HN := Lib.hid (spanN_yes wrd s pos hp hy)
        have hit2 := Lib.iterAt_heap wr w.heap.size s pos (pos + (Utf8.decode s pos).2) hit
        have hbw2 := Lib.below_iterAt hbw (k := w.heap.size) (Nat.le_refl _) s (pos + (Utf8.decode s pos).2)
        clear hy
        go_wp2_with (go_at_call 101; refine (wordPart_any _ _).mono ?_; rintro e w' ⟨rfl, rfl⟩)
        go_roundw
        case rel =>
          have hw := HW.out
          rw [hw] at hit2 hbw2 ⊢
          exact ⟨pos + 1, by omega, by have := HSP.out; have := HN.out; omega, hit2, hbw2⟩
        case measure =>
          have hw := HW.out
          simp only [World.iterPos, hit2, hit]
          omega
      · have hy' : wrd (s[pos].toNat : Int) = false := by simpa using hy
        have hy2 : wrd ((Utf8.decode s pos).1 : Int) = false := by rw [HK.out]; exact hy'
        have HN := Lib.hid (spanN_no wrd s pos hp hy')
        have hbw2 := Lib.below_iterAt hbw (k := w.heap.size) (Nat.le_refl _) s (pos + (Utf8.decode s pos).2)
        clear hy hy'
        go_wp2_with (go_at_call 101; refine (wordPart_any _ _).mono ?_; rintro e w' ⟨rfl, rfl⟩)
        go_ret
        exact ⟨ret_int (by have := HSP.out; have := HN.out; omega), hbw2⟩
    · have hnx : ∀ ty, (Instr.next (.pointer (some ⟨w.heap.size, 0, none⟩)) true ty).run Tryz.prog wr = _ := fun ty => Lib.run_next_end_at wr w.heap.size s pos ty hit hp
      have HN := Lib.hid (spanN_end wrd s pos hp)
      go_wp2
      go_ret
      exact ⟨ret_int (by have := HSP.out; have := HN.out; omega), hbw⟩
def numV (l : List UInt8) : Nat := l.foldl (fun n c => 10 * n + (c.toNat - 48)) 0
end Go.Proofs.YtlpgafgiljffhaaGreatDoor

namespace Go.Proofs.YtlpgafgiljffhaaGreatDoor
open Go.RowKit
def sgn1 (c : Int) : Bool := (c == 59) || (c == 44) || (c == 123) || (c == 125) || (c == 40) || (c == 41) || (c == 46) || (c == 61) || (c == 43) || (c == 45) || (c == 42) || (c == 33) || (c == 60)
def kw (s : ByteArray) : Bool := (s.toList == [109, 111, 100]) || (s.toList == [108, 111, 99]) || (s.toList == [116, 104, 114, 101, 97, 100]) || (s.toList == [114, 101, 103]) || (s.toList == [115, 107, 105, 112]) || (s.toList == [115, 101, 116]) || (s.toList == [108, 111, 97, 100]) || (s.toList == [115, 116, 111, 114, 101]) || (s.toList == [99, 97, 115]) || (s.toList == [102, 97, 100, 100]) || (s.toList == [120, 99, 104, 103]) || (s.toList == [102, 101, 110, 99, 101]) || (s.toList == [97, 119, 97, 105, 116]) || (s.toList == [105, 102]) || (s.toList == [101, 108, 115, 101]) || (s.toList == [119, 104, 105, 108, 101]) || (s.toList == [108, 111, 111, 112]) || (s.toList == [98, 114, 101, 97, 107]) || (s.toList == [102, 111, 114, 97, 108, 108]) || (s.toList == [101, 120, 105, 115, 116, 115]) || (s.toList == [97, 108, 119, 97, 121, 115])
set_option maxHeartbeats 4000000 in
theorem keyword_yes (s : ByteArray) (w : World) (h1 : kw s = true) :
    Calls Tryz.prog 98 #[.string s] w fun e w' => e = .returned (.bool true) ∧ w = w' := by
  unfold kw at h1
  rcases q0 : (s.toList == [109, 111, 100]) with _ | _
  rotate_left
  · clear h1
    go_enter Tryz.func98, Tryz.ntmps98
    go_wp2
    go_ret
    exact ⟨rfl, rfl⟩
  rcases q1 : (s.toList == [108, 111, 99]) with _ | _
  rotate_left
  · clear h1
    go_enter Tryz.func98, Tryz.ntmps98
    go_wp2
    go_ret
    exact ⟨rfl, rfl⟩
  rcases q2 : (s.toList == [116, 104, 114, 101, 97, 100]) with _ | _
  rotate_left
  · clear h1
    go_enter Tryz.func98, Tryz.ntmps98
    go_wp2
    go_ret
    exact ⟨rfl, rfl⟩
  rcases q3 : (s.toList == [114, 101, 103]) with _ | _
  rotate_left
  · clear h1
    go_enter Tryz.func98, Tryz.ntmps98
    go_wp2
    go_ret
    exact ⟨rfl, rfl⟩
  rcases q4 : (s.toList == [115, 107, 105, 112]) with _ | _
  rotate_left
  · clear h1
    go_enter Tryz.func98, Tryz.ntmps98
    go_wp2
    go_ret
    exact ⟨rfl, rfl⟩
  rcases q5 : (s.toList == [115, 101, 116]) with _ | _
  rotate_left
  · clear h1
    go_enter Tryz.func98, Tryz.ntmps98
    go_wp2
    go_ret
    exact ⟨rfl, rfl⟩
  rcases q6 : (s.toList == [108, 111, 97, 100]) with _ | _
  rotate_left
  · clear h1
    go_enter Tryz.func98, Tryz.ntmps98
    go_wp2
    go_ret
    exact ⟨rfl, rfl⟩
  rcases q7 : (s.toList == [115, 116, 111, 114, 101]) with _ | _
  rotate_left
  · clear h1
    go_enter Tryz.func98, Tryz.ntmps98
    go_wp2
    go_ret
    exact ⟨rfl, rfl⟩
  rcases q8 : (s.toList == [99, 97, 115]) with _ | _
  rotate_left
  · clear h1
    go_enter Tryz.func98, Tryz.ntmps98
    go_wp2
    go_ret
    exact ⟨rfl, rfl⟩
  rcases q9 : (s.toList == [102, 97, 100, 100]) with _ | _
  rotate_left
  · clear h1
    go_enter Tryz.func98, Tryz.ntmps98
    go_wp2
    go_ret
    exact ⟨rfl, rfl⟩
  rcases q10 : (s.toList == [120, 99, 104, 103]) with _ | _
  rotate_left
  · clear h1
    go_enter Tryz.func98, Tryz.ntmps98
    go_wp2
    go_ret
    exact ⟨rfl, rfl⟩
  rcases q11 : (s.toList == [102, 101, 110, 99, 101]) with _ | _
  rotate_left
  · clear h1
    go_enter Tryz.func98, Tryz.ntmps98
    go_wp2
    go_ret
    exact ⟨rfl, rfl⟩
  rcases q12 : (s.toList == [97, 119, 97, 105, 116]) with _ | _
  rotate_left
  · clear h1
    go_enter Tryz.func98, Tryz.ntmps98
    go_wp2
    go_ret
    exact ⟨rfl, rfl⟩
  rcases q13 : (s.toList == [105, 102]) with _ | _
  rotate_left
  · clear h1
    go_enter Tryz.func98, Tryz.ntmps98
    go_wp2
    go_ret
    exact ⟨rfl, rfl⟩
  rcases q14 : (s.toList == [101, 108, 115, 101]) with _ | _
  rotate_left
  · clear h1
    go_enter Tryz.func98, Tryz.ntmps98
    go_wp2
    go_ret
    exact ⟨rfl, rfl⟩
  rcases q15 : (s.toList == [119, 104, 105, 108, 101]) with _ | _
  rotate_left
  · clear h1
    go_enter Tryz.func98, Tryz.ntmps98
    go_wp2
    go_ret
    exact ⟨rfl, rfl⟩
  rcases q16 : (s.toList == [108, 111, 111, 112]) with _ | _
  rotate_left
  · clear h1
    go_enter Tryz.func98, Tryz.ntmps98
    go_wp2
    go_ret
    exact ⟨rfl, rfl⟩
  rcases q17 : (s.toList == [98, 114, 101, 97, 107]) with _ | _
  rotate_left
  · clear h1
    go_enter Tryz.func98, Tryz.ntmps98
    go_wp2
    go_ret
    exact ⟨rfl, rfl⟩
  rcases q18 : (s.toList == [102, 111, 114, 97, 108, 108]) with _ | _
  rotate_left
  · clear h1
    go_enter Tryz.func98, Tryz.ntmps98
    go_wp2
    go_ret
    exact ⟨rfl, rfl⟩
  rcases q19 : (s.toList == [101, 120, 105, 115, 116, 115]) with _ | _
  rotate_left
  · clear h1
    go_enter Tryz.func98, Tryz.ntmps98
    go_wp2
    go_ret
    exact ⟨rfl, rfl⟩
  rcases q20 : (s.toList == [97, 108, 119, 97, 121, 115]) with _ | _
  rotate_left
  · clear h1
    go_enter Tryz.func98, Tryz.ntmps98
    go_wp2
    go_ret
    exact ⟨rfl, rfl⟩
  exfalso
  simp only [q0, q1, q2, q3, q4, q5, q6, q7, q8, q9, q10, q11, q12, q13, q14, q15, q16, q17, q18, q19, q20, Bool.or_self, Bool.false_eq_true] at h1
set_option maxHeartbeats 2000000 in
theorem keyword_no (s : ByteArray) (w : World) (h1 : kw s = false) :
    Calls Tryz.prog 98 #[.string s] w fun e w' => e = .returned (.bool false) ∧ w = w' := by
  simp only [kw, Bool.or_eq_false_iff] at h1
  obtain ⟨⟨⟨⟨⟨⟨⟨⟨⟨⟨⟨⟨⟨⟨⟨⟨⟨⟨⟨⟨q0, q1⟩, q2⟩, q3⟩, q4⟩, q5⟩, q6⟩, q7⟩, q8⟩, q9⟩, q10⟩, q11⟩, q12⟩, q13⟩, q14⟩, q15⟩, q16⟩, q17⟩, q18⟩, q19⟩, q20⟩ := h1
  go_enter Tryz.func98, Tryz.ntmps98
  go_wp2
  go_ret
  exact ⟨rfl, rfl⟩
end Go.Proofs.YtlpgafgiljffhaaGreatDoor

namespace Go.Proofs.YtlpgafgiljffhaaGreatDoor
open Go.RowKit
def Blk4 (W : World) (b : Nat) (x0 x1 x2 x3 : Value) : Prop := W.heap[b]? = some (.cells #[x0, x1, x2, x3] 89 (0, 0))
theorem Blk4.new (w : World) (x0 x1 x2 x3 : Value) : Blk4 (w.alloc (.cells #[x0, x1, x2, x3] 89)) w.heap.size x0 x1 x2 x3 := heap_alloc_new w _
theorem Blk4.below {W W' : World} {b B : Nat} {x0 x1 x2 x3 : Value} (h : Blk4 W b x0 x1 x2 x3) (hb : Below B W W') (hlt : b < B) : Blk4 W' b x0 x1 x2 x3 := by
  unfold Blk4 at *; rw [hb.block b hlt]; exact h
theorem Blk4.lt {W : World} {b : Nat} {x0 x1 x2 x3 : Value} (h : Blk4 W b x0 x1 x2 x3) : b < W.heap.size := (Array.getElem?_eq_some_iff.1 h).1
theorem Blk4.facts {W : World} {b : Nat} {x0 x1 x2 x3 : Value} (h : Blk4 W b x0 x1 x2 x3) :
    (W.cell? ⟨b, 0, none⟩ = some x0 ∧ W.cell? ⟨b, 1, none⟩ = some x1 ∧ W.cell? ⟨b, 2, none⟩ = some x2 ∧ W.cell? ⟨b, 3, none⟩ = some x3) ∧
    W.frozen? ⟨b, 0, none⟩ = false ∧ W.frozen? ⟨b, 1, none⟩ = false ∧ W.frozen? ⟨b, 2, none⟩ = false ∧ W.frozen? ⟨b, 3, none⟩ = false := by
  unfold Blk4 at h
  simp [World.cell?, World.frozen?, h]
theorem below_new {w w' : World} {o : Obj} (h : Below (w.alloc o).heap.size (w.alloc o) w') : Below w.heap.size w w' :=
  ((Below.refl _ w).alloc (Nat.le_refl _) o).trans (h.mono (by simp))
end Go.Proofs.YtlpgafgiljffhaaGreatDoor
namespace Go.Proofs.YtlpgafgiljffhaaGreatDoor
open Go.RowKit
def sgnN (l : List UInt8) : Nat :=
  if [[61, 61], [33, 61], [60, 61], [38, 38], [124, 124]].contains (l.take 2) then 2
  else match l with | [] => 0 | c :: _ => if sgn1 (c.toNat : Int) then 1 else 0
def tk : List UInt8 → Nat × Nat × Nat × Nat
  | [] => (3, 0, 0, 0)
  | c :: r => if ltr (c.toNat : Int) then (if 16 < spanN wrd (c :: r) then (2, 0, 0, 0) else (0, 1, spanN wrd (c :: r), 0))
    else if dig (c.toNat : Int) then (if 9999 < numV ((c :: r).take (spanN dig (c :: r))) then (4, 0, 0, 0) else (0, 2, spanN dig (c :: r), numV ((c :: r).take (spanN dig (c :: r)))))
    else if 0 < sgnN (c :: r) then (0, 3, sgnN (c :: r), 0) else (3, 0, 0, 0)
theorem head_of (s : ByteArray) (h : 0 < s.size) : ∃ r, s.data.toList = s[0] :: r := ⟨_, drop_at s 0 h⟩
theorem sgnN_le (l : List UInt8) : sgnN l ≤ l.length := by
  unfold sgnN
  rcases l with _ | ⟨a, _ | ⟨b, r⟩⟩
  · simp
  · simp; split <;> omega
  · simp only [List.length_cons]; repeat' split
    all_goals omega
end Go.Proofs.YtlpgafgiljffhaaGreatDoor
