/- What the small functions of package scan do: letter, digit, wordPart, span, value, sign. What sign and Keyword do. What build, ident, number and token do. What token does. What Scan of package scan does: the tokens that a plain function of lists tells. What the reference's letter, digit, words, signs and Keyword do. What Name of package scan and the reference's Name do. -/
import Derived.Test.YtmlcdnfejebhoaaGreatDoorRows
import Derived.WalkKit
import Derived.WalkSpells
import Derived.WalkLawsBesides
import Derived.Lib.Hide
import Derived.Lib.OthersKept
import Derived.Laws.ResultCell
import Derived.Laws.NewBlocks
import Derived.Lib.Strings
import Derived.Lib.IndexBytes
import Derived.Deep.LoopGhost
namespace Go.Proofs.YtmlcdnfejebhoaaGreatDoor
open Go.RowKit
def ltr (c : Int) : Bool := decide (c = 95 ∨ (97 ≤ c ∧ c ≤ 122) ∨ (65 ≤ c ∧ c ≤ 90))
def dig (c : Int) : Bool := decide (48 ≤ c ∧ c ≤ 57)
def wrd (c : Int) : Bool := ltr c || dig c
theorem ret_bool {a b : Bool} (h : a = b) : Ending.returned (.bool a) = .returned (.bool b) := by rw [h]
theorem ret_int {k : IntKind} {a b : Int} (h : a = b) : Ending.returned (.int k a) = .returned (.int k b) := by rw [h]
set_option maxRecDepth 100000 in
set_option maxHeartbeats 400000 in
theorem letter_any (c : Int) (w : World) :
    Calls Tryz.prog 176 #[.int .i32 c] w fun e w' => e = .returned (.bool (ltr c)) ∧ w = w' := by
  by_cases h1 : c = 95
  · subst h1
    go_enter Tryz.func176, Tryz.ntmps176
    go_wp2
    go_ret
    exact ⟨rfl, rfl⟩
  · have h1' : (c == 95) = false := by simpa using h1
    go_enter Tryz.func176, Tryz.ntmps176
    go_wp2
    all_goals
      go_ret
      exact ⟨ret_bool (by rw [Bool.eq_iff_iff]; simp [ltr]; omega), rfl⟩
set_option maxRecDepth 100000 in
set_option maxHeartbeats 400000 in
theorem digit_any (c : Int) (w : World) :
    Calls Tryz.prog 180 #[.int .i32 c] w fun e w' => e = .returned (.bool (dig c)) ∧ w = w' := by
  go_enter Tryz.func180, Tryz.ntmps180
  go_wp2
  all_goals
    go_ret
    exact ⟨ret_bool (by rw [Bool.eq_iff_iff]; simp [dig]; omega), rfl⟩
set_option maxRecDepth 100000 in
set_option maxHeartbeats 400000 in
theorem wordPart_any (c : Int) (w : World) :
    Calls Tryz.prog 179 #[.int .i32 c] w fun e w' => e = .returned (.bool (wrd c)) ∧ w = w' := by
  by_cases h1 : ltr c = true
  · go_enter Tryz.func179, Tryz.ntmps179
    go_wp2_with (go_at_call 176; refine (letter_any _ _).mono ?_; rintro e w' ⟨rfl, rfl⟩)
    all_goals
      go_ret
      exact ⟨ret_bool (by simp [wrd, h1]), rfl⟩
  · have h1' : ltr c = false := by simpa using h1
    go_enter Tryz.func179, Tryz.ntmps179
    go_wp2_with (first | (go_at_call 176; refine (letter_any _ _).mono ?_; rintro e w' ⟨rfl, rfl⟩) | (go_at_call 180; refine (digit_any _ _).mono ?_; rintro e w' ⟨rfl, rfl⟩))
    all_goals
      go_ret
      exact ⟨ret_bool (by simp [wrd, h1']), rfl⟩
def spanN (p : Int → Bool) (l : List UInt8) : Nat := (l.takeWhile fun c => p (c.toNat : Int)).length
theorem spanN_le (p : Int → Bool) (l : List UInt8) : spanN p l ≤ l.length := by
  unfold spanN; exact (List.takeWhile_sublist _).length_le
theorem drop_at (s : ByteArray) (k : Nat) (h : k < s.size) : s.data.toList.drop k = s[k] :: s.data.toList.drop (k + 1) := by
  rw [List.drop_eq_getElem_cons (by simpa using h)]; rfl
theorem spanN_yes (p : Int → Bool) (s : ByteArray) (k : Nat) (h : k < s.size) (hp : p (s[k].toNat : Int) = true) :
    spanN p (s.data.toList.drop k) = spanN p (s.data.toList.drop (k + 1)) + 1 := by
  rw [drop_at s k h]; simp [spanN, hp]
theorem spanN_no (p : Int → Bool) (s : ByteArray) (k : Nat) (h : k < s.size) (hp : p (s[k].toNat : Int) = false) :
    spanN p (s.data.toList.drop k) = 0 := by
  rw [drop_at s k h]; simp [spanN, hp]
theorem spanN_end (p : Int → Bool) (s : ByteArray) (k : Nat) (h : ¬ k < s.size) : spanN p (s.data.toList.drop k) = 0 := by
  rw [List.drop_eq_nil_of_le (by simp; omega)]; rfl
theorem wrd_high (c : Int) (h : 128 ≤ c) : wrd c = false := by
  simp [wrd, ltr, dig]; omega
theorem rune_kind (p : Int → Bool) (hp : ∀ c : Int, 128 ≤ c → p c = false) (s : ByteArray) (k : Nat) (h : k < s.size) : p ((Utf8.decode s k).1 : Int) = p (s[k].toNat : Int) := by
  by_cases ha : (s[k]).toNat < 128
  · rw [decode_ascii s k h ha]
  · have := (decode_high s k h (by omega)).1
    rw [hp _ (by omega), hp _ (by omega)]
theorem rune_one (p : Int → Bool) (hp : ∀ c : Int, 128 ≤ c → p c = false) (s : ByteArray) (k : Nat) (h : k < s.size) (hy : p (s[k].toNat : Int) = true) : (Utf8.decode s k).2 = 1 := by
  by_cases ha : (s[k]).toNat < 128
  · rw [decode_ascii s k h ha]
  · rw [hp _ (by omega)] at hy; cases hy
set_option maxRecDepth 100000 in
set_option maxHeartbeats 400000 in
theorem span_word (s : ByteArray) (w : World) :
    Calls Tryz.prog 178 #[.string s, .func (.func 179) #[] #[]] w fun e w' => e = .returned (.int .i64 (spanN wrd s.data.toList)) ∧ Below w.heap.size w w' := by
  go_enter Tryz.func178, Tryz.ntmps178
  go_wp2
  go_loopw [] (fun wr => ∃ pos : Nat, pos ≤ s.size ∧ pos + spanN wrd (s.data.toList.drop pos) = spanN wrd s.data.toList ∧ wr.heap[w.heap.size]? = some (.stringIter s pos) ∧ Below w.heap.size w wr) (fun wr => s.size - wr.iterPos w.heap.size)
  case atStart => exact ⟨0, Nat.zero_le _, by simp, World.iter_heap w s 0, (Below.refl _ w).alloc (Nat.le_refl _) _⟩
  case round =>
    obtain ⟨pos, hpos, hsp, hit, hbw⟩ := hrel
    have HSP := Lib.hid hsp; clear hsp
    by_cases hp : pos < s.size
    · have hnx : ∀ ty, (Instr.next (.pointer (some ⟨w.heap.size, 0, none⟩)) true ty).run Tryz.prog wr = _ := fun ty => Lib.run_next_any_at wr w.heap.size s pos ty hit hp
      have HK := Lib.hid (rune_kind wrd wrd_high s pos hp)
      by_cases hy : wrd (s[pos].toNat : Int) = true
      · have hy2 : wrd ((Utf8.decode s pos).1 : Int) = true := by rw [HK.out]; exact hy
        have HW := Lib.hid (rune_one wrd wrd_high s pos hp hy)
        have HN := Lib.hid (spanN_yes wrd s pos hp hy)
        have hit2 := Lib.iterAt_heap wr w.heap.size s pos (pos + (Utf8.decode s pos).2) hit
        have hbw2 := Lib.below_iterAt hbw (k := w.heap.size) (Nat.le_refl _) s (pos + (Utf8.decode s pos).2)
        clear hy
        go_wp2_with (go_at_call 179; refine (wordPart_any _ _).mono ?_; rintro e w' ⟨rfl, rfl⟩)
        go_roundw
        case rel =>
          have hw := HW.out
          rw [hw] at hit2 hbw2 ⊢
          exact ⟨pos + 1, by omega, by have := HSP.out; have := HN.out; omega, hit2, hbw2⟩
        case measure =>
          have hw := HW.out
          simp only [World.iterPos, hit2, hit]
          omega
      · have hy' : wrd (s[pos].toNat : Int) = false := by simpa using hy
        have hy2 : wrd ((Utf8.decode s pos).1 : Int) = false := by rw [HK.out]; exact hy'
        have HN := Lib.hid (spanN_no wrd s pos hp hy')
        have hbw2 := Lib.below_iterAt hbw (k := w.heap.size) (Nat.le_refl _) s (pos + (Utf8.decode s pos).2)
        clear hy hy'
        go_wp2_with (go_at_call 179; refine (wordPart_any _ _).mono ?_; rintro e w' ⟨rfl, rfl⟩)
        go_ret
        exact ⟨ret_int (by have := HSP.out; have := HN.out; omega), hbw2⟩
    · have hnx : ∀ ty, (Instr.next (.pointer (some ⟨w.heap.size, 0, none⟩)) true ty).run Tryz.prog wr = _ := fun ty => Lib.run_next_end_at wr w.heap.size s pos ty hit hp
      have HN := Lib.hid (spanN_end wrd s pos hp)
      go_wp2
      go_ret
      exact ⟨ret_int (by have := HSP.out; have := HN.out; omega), hbw⟩
def numV (l : List UInt8) : Nat := l.foldl (fun n c => 10 * n + (c.toNat - 48)) 0
end Go.Proofs.YtmlcdnfejebhoaaGreatDoor

namespace Go.Proofs.YtmlcdnfejebhoaaGreatDoor
open Go.RowKit
def sgn1 (c : Int) : Bool := (c == 59) || (c == 44) || (c == 123) || (c == 125) || (c == 40) || (c == 41) || (c == 46) || (c == 61) || (c == 43) || (c == 45) || (c == 42) || (c == 33) || (c == 60)
def kw (s : ByteArray) : Bool := (s.toList == [109, 111, 100]) || (s.toList == [108, 111, 99]) || (s.toList == [116, 104, 114, 101, 97, 100]) || (s.toList == [114, 101, 103]) || (s.toList == [115, 107, 105, 112]) || (s.toList == [115, 101, 116]) || (s.toList == [108, 111, 97, 100]) || (s.toList == [115, 116, 111, 114, 101]) || (s.toList == [99, 97, 115]) || (s.toList == [102, 97, 100, 100]) || (s.toList == [120, 99, 104, 103]) || (s.toList == [102, 101, 110, 99, 101]) || (s.toList == [97, 119, 97, 105, 116]) || (s.toList == [105, 102]) || (s.toList == [101, 108, 115, 101]) || (s.toList == [119, 104, 105, 108, 101]) || (s.toList == [108, 111, 111, 112]) || (s.toList == [98, 114, 101, 97, 107]) || (s.toList == [102, 111, 114, 97, 108, 108]) || (s.toList == [101, 120, 105, 115, 116, 115]) || (s.toList == [97, 108, 119, 97, 121, 115])
set_option maxRecDepth 100000 in
set_option maxHeartbeats 4000000 in
theorem keyword_yes (s : ByteArray) (w : World) (h1 : kw s = true) :
    Calls Tryz.prog 194 #[.string s] w fun e w' => e = .returned (.bool true) ∧ w = w' := by
  unfold kw at h1
  rcases q0 : (s.toList == [109, 111, 100]) with _ | _
  rotate_left
  · clear h1
    go_enter Tryz.func194, Tryz.ntmps194
    go_wp2
    go_ret
    exact ⟨rfl, rfl⟩
  rcases q1 : (s.toList == [108, 111, 99]) with _ | _
  rotate_left
  · clear h1
    go_enter Tryz.func194, Tryz.ntmps194
    go_wp2
    go_ret
    exact ⟨rfl, rfl⟩
  rcases q2 : (s.toList == [116, 104, 114, 101, 97, 100]) with _ | _
  rotate_left
  · clear h1
    go_enter Tryz.func194, Tryz.ntmps194
    go_wp2
    go_ret
    exact ⟨rfl, rfl⟩
  rcases q3 : (s.toList == [114, 101, 103]) with _ | _
  rotate_left
  · clear h1
    go_enter Tryz.func194, Tryz.ntmps194
    go_wp2
    go_ret
    exact ⟨rfl, rfl⟩
  rcases q4 : (s.toList == [115, 107, 105, 112]) with _ | _
  rotate_left
  · clear h1
    go_enter Tryz.func194, Tryz.ntmps194
    go_wp2
    go_ret
    exact ⟨rfl, rfl⟩
  rcases q5 : (s.toList == [115, 101, 116]) with _ | _
  rotate_left
  · clear h1
    go_enter Tryz.func194, Tryz.ntmps194
    go_wp2
    go_ret
    exact ⟨rfl, rfl⟩
  rcases q6 : (s.toList == [108, 111, 97, 100]) with _ | _
  rotate_left
  · clear h1
    go_enter Tryz.func194, Tryz.ntmps194
    go_wp2
    go_ret
    exact ⟨rfl, rfl⟩
  rcases q7 : (s.toList == [115, 116, 111, 114, 101]) with _ | _
  rotate_left
  · clear h1
    go_enter Tryz.func194, Tryz.ntmps194
    go_wp2
    go_ret
    exact ⟨rfl, rfl⟩
  rcases q8 : (s.toList == [99, 97, 115]) with _ | _
  rotate_left
  · clear h1
    go_enter Tryz.func194, Tryz.ntmps194
    go_wp2
    go_ret
    exact ⟨rfl, rfl⟩
  rcases q9 : (s.toList == [102, 97, 100, 100]) with _ | _
  rotate_left
  · clear h1
    go_enter Tryz.func194, Tryz.ntmps194
    go_wp2
    go_ret
    exact ⟨rfl, rfl⟩
  rcases q10 : (s.toList == [120, 99, 104, 103]) with _ | _
  rotate_left
  · clear h1
    go_enter Tryz.func194, Tryz.ntmps194
    go_wp2
    go_ret
    exact ⟨rfl, rfl⟩
  rcases q11 : (s.toList == [102, 101, 110, 99, 101]) with _ | _
  rotate_left
  · clear h1
    go_enter Tryz.func194, Tryz.ntmps194
    go_wp2
    go_ret
    exact ⟨rfl, rfl⟩
  rcases q12 : (s.toList == [97, 119, 97, 105, 116]) with _ | _
  rotate_left
  · clear h1
    go_enter Tryz.func194, Tryz.ntmps194
    go_wp2
    go_ret
    exact ⟨rfl, rfl⟩
  rcases q13 : (s.toList == [105, 102]) with _ | _
  rotate_left
  · clear h1
    go_enter Tryz.func194, Tryz.ntmps194
    go_wp2
    go_ret
    exact ⟨rfl, rfl⟩
  rcases q14 : (s.toList == [101, 108, 115, 101]) with _ | _
  rotate_left
  · clear h1
    go_enter Tryz.func194, Tryz.ntmps194
    go_wp2
    go_ret
    exact ⟨rfl, rfl⟩
  rcases q15 : (s.toList == [119, 104, 105, 108, 101]) with _ | _
  rotate_left
  · clear h1
    go_enter Tryz.func194, Tryz.ntmps194
    go_wp2
    go_ret
    exact ⟨rfl, rfl⟩
  rcases q16 : (s.toList == [108, 111, 111, 112]) with _ | _
  rotate_left
  · clear h1
    go_enter Tryz.func194, Tryz.ntmps194
    go_wp2
    go_ret
    exact ⟨rfl, rfl⟩
  rcases q17 : (s.toList == [98, 114, 101, 97, 107]) with _ | _
  rotate_left
  · clear h1
    go_enter Tryz.func194, Tryz.ntmps194
    go_wp2
    go_ret
    exact ⟨rfl, rfl⟩
  rcases q18 : (s.toList == [102, 111, 114, 97, 108, 108]) with _ | _
  rotate_left
  · clear h1
    go_enter Tryz.func194, Tryz.ntmps194
    go_wp2
    go_ret
    exact ⟨rfl, rfl⟩
  rcases q19 : (s.toList == [101, 120, 105, 115, 116, 115]) with _ | _
  rotate_left
  · clear h1
    go_enter Tryz.func194, Tryz.ntmps194
    go_wp2
    go_ret
    exact ⟨rfl, rfl⟩
  rcases q20 : (s.toList == [97, 108, 119, 97, 121, 115]) with _ | _
  rotate_left
  · clear h1
    go_enter Tryz.func194, Tryz.ntmps194
    go_wp2
    go_ret
    exact ⟨rfl, rfl⟩
  exfalso
  simp only [q0, q1, q2, q3, q4, q5, q6, q7, q8, q9, q10, q11, q12, q13, q14, q15, q16, q17, q18, q19, q20, Bool.or_self, Bool.false_eq_true] at h1
set_option maxRecDepth 100000 in
set_option maxHeartbeats 2000000 in
theorem keyword_no (s : ByteArray) (w : World) (h1 : kw s = false) :
    Calls Tryz.prog 194 #[.string s] w fun e w' => e = .returned (.bool false) ∧ w = w' := by
  simp only [kw, Bool.or_eq_false_iff] at h1
  obtain ⟨⟨⟨⟨⟨⟨⟨⟨⟨⟨⟨⟨⟨⟨⟨⟨⟨⟨⟨⟨q0, q1⟩, q2⟩, q3⟩, q4⟩, q5⟩, q6⟩, q7⟩, q8⟩, q9⟩, q10⟩, q11⟩, q12⟩, q13⟩, q14⟩, q15⟩, q16⟩, q17⟩, q18⟩, q19⟩, q20⟩ := h1
  go_enter Tryz.func194, Tryz.ntmps194
  go_wp2
  go_ret
  exact ⟨rfl, rfl⟩
end Go.Proofs.YtmlcdnfejebhoaaGreatDoor

namespace Go.Proofs.YtmlcdnfejebhoaaGreatDoor
open Go.RowKit
def Blk4 (W : World) (b : Nat) (x0 x1 x2 x3 : Value) : Prop := W.heap[b]? = some (.cells #[x0, x1, x2, x3] 35 (0, 0))
theorem Blk4.new (w : World) (x0 x1 x2 x3 : Value) : Blk4 (w.alloc (.cells #[x0, x1, x2, x3] 35)) w.heap.size x0 x1 x2 x3 := heap_alloc_new w _
theorem Blk4.below {W W' : World} {b B : Nat} {x0 x1 x2 x3 : Value} (h : Blk4 W b x0 x1 x2 x3) (hb : Below B W W') (hlt : b < B) : Blk4 W' b x0 x1 x2 x3 := by
  unfold Blk4 at *; rw [hb.block b hlt]; exact h
theorem Blk4.lt {W : World} {b : Nat} {x0 x1 x2 x3 : Value} (h : Blk4 W b x0 x1 x2 x3) : b < W.heap.size := (Array.getElem?_eq_some_iff.1 h).1
theorem Blk4.facts {W : World} {b : Nat} {x0 x1 x2 x3 : Value} (h : Blk4 W b x0 x1 x2 x3) :
    (W.cell? ⟨b, 0, none⟩ = some x0 ∧ W.cell? ⟨b, 1, none⟩ = some x1 ∧ W.cell? ⟨b, 2, none⟩ = some x2 ∧ W.cell? ⟨b, 3, none⟩ = some x3) ∧
    W.frozen? ⟨b, 0, none⟩ = false ∧ W.frozen? ⟨b, 1, none⟩ = false ∧ W.frozen? ⟨b, 2, none⟩ = false ∧ W.frozen? ⟨b, 3, none⟩ = false := by
  unfold Blk4 at h
  simp [World.cell?, World.frozen?, h]
theorem below_new {w w' : World} {o : Obj} (h : Below (w.alloc o).heap.size (w.alloc o) w') : Below w.heap.size w w' :=
  ((Below.refl _ w).alloc (Nat.le_refl _) o).trans (h.mono (by simp))
end Go.Proofs.YtmlcdnfejebhoaaGreatDoor
namespace Go.Proofs.YtmlcdnfejebhoaaGreatDoor
open Go.RowKit
def sgnN (l : List UInt8) : Nat :=
  if [[61, 61], [33, 61], [60, 61], [38, 38], [124, 124]].contains (l.take 2) then 2
  else match l with | [] => 0 | c :: _ => if sgn1 (c.toNat : Int) then 1 else 0
def tk : List UInt8 → Nat × Nat × Nat × Nat
  | [] => (3, 0, 0, 0)
  | c :: r => if ltr (c.toNat : Int) then (if 16 < spanN wrd (c :: r) then (2, 0, 0, 0) else (0, 1, spanN wrd (c :: r), 0))
    else if dig (c.toNat : Int) then (if 9999 < numV ((c :: r).take (spanN dig (c :: r))) then (4, 0, 0, 0) else (0, 2, spanN dig (c :: r), numV ((c :: r).take (spanN dig (c :: r)))))
    else if 0 < sgnN (c :: r) then (0, 3, sgnN (c :: r), 0) else (3, 0, 0, 0)
theorem head_of (s : ByteArray) (h : 0 < s.size) : ∃ r, s.data.toList = s[0] :: r := ⟨_, drop_at s 0 h⟩
theorem sgnN_le (l : List UInt8) : sgnN l ≤ l.length := by
  unfold sgnN
  rcases l with _ | ⟨a, _ | ⟨b, r⟩⟩
  · simp
  · simp; split <;> omega
  · simp only [List.length_cons]; repeat' split
    all_goals omega
end Go.Proofs.YtmlcdnfejebhoaaGreatDoor

namespace Go.Proofs.YtmlcdnfejebhoaaGreatDoor
open Go.RowKit
abbrev Tok := Nat × List UInt8 × Nat × Nat
def cellsOf (t : Tok) : List Value := [.int .i64 t.1, .string ⟨t.2.1.toArray⟩, .int .i64 t.2.2.1, .int .i64 t.2.2.2]
def rowOf (l : List Tok) : List Value := l.flatMap cellsOf
def blank (c : Int) : Bool := decide (c = 32 ∨ c = 10 ∨ c = 9 ∨ c = 13)
def noNl (c : Int) : Bool := decide (c ≠ 10)
def sc : Nat → List UInt8 → Nat → List Tok → List Tok × Nat × Nat
  | 0, _, _, acc => (acc, 0, 0)
  | _ + 1, [], _, acc => (acc, 0, 0)
  | f + 1, c :: r, p, acc =>
    if blank (c.toNat : Int) then sc f r (p + 1) acc
    else if (c.toNat : Int) = 35 then sc f ((c :: r).drop (spanN noNl (c :: r))) (p + spanN noNl (c :: r)) acc
    else if (tk (c :: r)).1 ≠ 0 then ([], (tk (c :: r)).1, p)
    else sc f ((c :: r).drop (tk (c :: r)).2.2.1) (p + (tk (c :: r)).2.2.1) (acc ++ [((tk (c :: r)).2.1, (c :: r).take (tk (c :: r)).2.2.1, (tk (c :: r)).2.2.2, p)])
def scanL (l : List UInt8) : List Tok × Nat × Nat := if 20000 < l.length then ([], 2, 20000) else sc l.length l 0 []
def ScanAns (B : Nat) (r : List Tok × Nat × Nat) (w : World) (e : Ending) (w' : World) : Prop :=
  ∃ v, e = .returned (.tuple #[v, .int .i64 r.2.1, .int .i64 r.2.2]) ∧ w'.ownsRow B 35 4 v r.1.length (rowOf r.1) ∧ Below w.heap.size w w'
theorem sc_nil (f p : Nat) (acc : List Tok) : sc f [] p acc = (acc, 0, 0) := by cases f <;> rfl
theorem sc_end (s : ByteArray) (p q f : Nat) (acc : List Tok) (h : ¬ p < s.size) : sc f (s.data.toList.drop p) q acc = (acc, 0, 0) := by
  rw [List.drop_eq_nil_of_le (by rw [← Lib.size_eq]; omega), sc_nil]
theorem sc_blank (s : ByteArray) (p f : Nat) (acc : List Tok) (h : p < s.size) (hb : blank (s[p].toNat : Int) = true) :
    sc (f + 1) (s.data.toList.drop p) p acc = sc f (s.data.toList.drop (p + 1)) (p + 1) acc := by
  rw [drop_at s p h, sc, if_pos hb]
theorem sc_hash (s : ByteArray) (p f : Nat) (acc : List Tok) (h : p < s.size) (hb : blank (s[p].toNat : Int) = false) (hc : (s[p].toNat : Int) = 35) :
    sc (f + 1) (s.data.toList.drop p) p acc = sc f (s.data.toList.drop (p + spanN noNl (s.data.toList.drop p))) (p + spanN noNl (s.data.toList.drop p)) acc := by
  rw [← List.drop_drop]
  conv => lhs; rw [drop_at s p h, sc, if_neg (by rw [hb]; decide), if_pos hc, ← drop_at s p h]
theorem sc_bad (s : ByteArray) (p f : Nat) (acc : List Tok) (h : p < s.size) (hb : blank (s[p].toNat : Int) = false) (hc : (s[p].toNat : Int) ≠ 35) (ht : (tk (s.data.toList.drop p)).1 ≠ 0) :
    sc (f + 1) (s.data.toList.drop p) p acc = ([], (tk (s.data.toList.drop p)).1, p) := by
  rw [drop_at s p h] at ht ⊢
  rw [sc, if_neg (by rw [hb]; decide), if_neg hc, if_pos ht]
theorem sc_tok (s : ByteArray) (p f : Nat) (acc : List Tok) (h : p < s.size) (hb : blank (s[p].toNat : Int) = false) (hc : (s[p].toNat : Int) ≠ 35) (ht : (tk (s.data.toList.drop p)).1 = 0) :
    sc (f + 1) (s.data.toList.drop p) p acc = sc f (s.data.toList.drop (p + (tk (s.data.toList.drop p)).2.2.1)) (p + (tk (s.data.toList.drop p)).2.2.1) (acc ++ [((tk (s.data.toList.drop p)).2.1, (s.data.toList.drop p).take (tk (s.data.toList.drop p)).2.2.1, (tk (s.data.toList.drop p)).2.2.2, p)]) := by
  rw [← List.drop_drop]
  rw [drop_at s p h] at ht ⊢
  conv => lhs; rw [sc, if_neg (by rw [hb]; decide), if_neg hc, if_neg (by rw [ht]; decide)]
theorem tk_len (l : List UInt8) (h : (tk l).1 = 0) : 0 < (tk l).2.2.1 ∧ (tk l).2.2.1 ≤ l.length := by
  cases l with
  | nil => cases h
  | cons c r =>
    have hw := spanN_le wrd (c :: r)
    have hd := spanN_le dig (c :: r)
    have hg := sgnN_le (c :: r)
    have hw1 : ltr (c.toNat : Int) = true → 0 < spanN wrd (c :: r) := fun h => by simp [spanN, wrd, h]
    have hd1 : dig (c.toNat : Int) = true → 0 < spanN dig (c :: r) := fun h => by simp [spanN, h]
    unfold tk at *
    rcases h1 : ltr (c.toNat : Int) with _ | _
    · rcases h2 : dig (c.toNat : Int) with _ | _
      · by_cases h3 : 0 < sgnN (c :: r)
        · simp only [h1, h2, if_pos h3]; simp; exact ⟨h3, by simpa using hg⟩
        · simp [h1, h2, if_neg h3] at h
      · by_cases h3 : 9999 < numV ((c :: r).take (spanN dig (c :: r)))
        · simp [h1, h2, if_pos h3] at h
        · simp only [h1, h2, if_neg h3]; simp; exact ⟨hd1 h2, by simpa using hd⟩
    · by_cases h3 : 16 < spanN wrd (c :: r)
      · simp [h1, if_pos h3] at h
      · simp only [h1, if_neg h3]; simp; exact ⟨hw1 h1, by simpa using hw⟩
theorem own_below {w w' : World} {B e size n : Nat} {v : Value} {xs : List Value} (h : w.ownsRow B e size v n xs) (hb : Below w.heap.size w w') : w'.ownsRow B e size v n xs := by
  obtain ⟨h1, h2⟩ := h
  refine ⟨h1, ?_⟩
  rcases h2 with h2 | ⟨g, cap, cur, hv, hg, hh, r⟩
  · exact .inl h2
  · exact .inr ⟨g, cap, cur, hv, hg, by rw [hb.block g (Array.getElem?_eq_some_iff.1 hh).1]; exact hh, r⟩
theorem cell_four_new (w : World) (a b c d : Value) (t n : Nat) (hn : n = w.heap.size) : ∀ j u, [a, b, c, d][j]? = some u → (w.alloc (.cells #[a, b, c, d] t)).cell? ((⟨n, 0, none⟩ : Addr).add j) = some u := by
  subst hn
  intro j u h
  match j, h with
  | 0, h => simp at h; subst h; simp [Addr.add]
  | 1, h => simp at h; subst h; simp [Addr.add]
  | 2, h => simp at h; subst h; simp [Addr.add]
  | 3, h => simp at h; subst h; simp [Addr.add]
theorem four_oneCell (k v p : Int) (s : ByteArray) : ∀ u ∈ [Value.int .i64 k, .string s, .int .i64 v, .int .i64 p], u.oneCell' = true := by
  intro u h; simp at h; rcases h with rfl | rfl | rfl | rfl <;> rfl
theorem info29 : (Tryz.prog.info? 35).map (fun i => (i.zero, i.size, i.bytes)) = some (some (.agg #[.int .i64 0, .string ⟨#[]⟩, .int .i64 0, .int .i64 0]), 4, 40) := by kernel_rfl
end Go.Proofs.YtmlcdnfejebhoaaGreatDoor

namespace Go.Proofs.YtmlcdnfejebhoaaGreatDoor
open Go.RowKit
set_option maxRecDepth 100000 in
set_option maxHeartbeats 400000 in
theorem rletter_any (c : Int) (w : World) :
    Calls Tryz.prog 149 #[.int .u8 c] w fun e w' => e = .returned (.bool (ltr c)) ∧ w = w' := by
  go_enter Tryz.func149, Tryz.ntmps149
  go_wp2
  all_goals
    go_ret
    exact ⟨ret_bool (by rw [Bool.eq_iff_iff]; simp [ltr]; omega), rfl⟩
set_option maxRecDepth 100000 in
set_option maxHeartbeats 400000 in
theorem rdigit_any (c : Int) (w : World) :
    Calls Tryz.prog 151 #[.int .u8 c] w fun e w' => e = .returned (.bool (dig c)) ∧ w = w' := by
  go_enter Tryz.func151, Tryz.ntmps151
  go_wp2
  all_goals
    go_ret
    exact ⟨ret_bool (by rw [Bool.eq_iff_iff]; simp [dig]; omega), rfl⟩
def wordsB : List (List UInt8) := [[109, 111, 100], [108, 111, 99], [116, 104, 114, 101, 97, 100], [114, 101, 103], [115, 107, 105, 112], [115, 101, 116], [108, 111, 97, 100], [115, 116, 111, 114, 101], [99, 97, 115], [102, 97, 100, 100], [120, 99, 104, 103], [102, 101, 110, 99, 101], [97, 119, 97, 105, 116], [105, 102], [101, 108, 115, 101], [119, 104, 105, 108, 101], [108, 111, 111, 112], [98, 114, 101, 97, 107], [102, 111, 114, 97, 108, 108], [101, 120, 105, 115, 116, 115], [97, 108, 119, 97, 121, 115]]
def signsB : List (List UInt8) := [[61, 61], [33, 61], [60, 61], [38, 38], [124, 124], [59], [44], [123], [125], [40], [41], [46], [61], [43], [45], [42], [33], [60]]
def cellsS (l : List (List UInt8)) : Array Value := (l.map fun x => Value.string ⟨x.toArray⟩).toArray
set_option maxRecDepth 100000 in
set_option maxHeartbeats 400000 in
theorem words_any (w : World) :
    Calls Tryz.prog 200 #[] w fun e w' => e = .returned (.slice (some ⟨w.heap.size, 0, none⟩) 21 21) ∧ w' = w.alloc (.cells (cellsS wordsB) 9) := by
  go_enter Tryz.func200, Tryz.ntmps200
  go_wp2
  go_ret
  exact ⟨rfl, rfl⟩
set_option maxRecDepth 100000 in
set_option maxHeartbeats 400000 in
theorem signs_any (w : World) :
    Calls Tryz.prog 163 #[] w fun e w' => e = .returned (.slice (some ⟨w.heap.size, 0, none⟩) 18 18) ∧ w' = w.alloc (.cells (cellsS signsB) 9) := by
  go_enter Tryz.func163, Tryz.ntmps163
  go_wp2
  go_ret
  exact ⟨rfl, rfl⟩
theorem cellsS_at (w : World) (l : List (List UInt8)) (k : Nat) (h : k < l.length) : (w.alloc (.cells (cellsS l) 9)).cell? ⟨w.heap.size, k, none⟩ = some (.string ⟨(l[k]).toArray⟩) := by
  simp [cellsS, h]
theorem kw_mem (s : ByteArray) : kw s = wordsB.contains s.data.toList := by
  simp only [kw, Lib.toList_data, wordsB, List.contains_cons, List.contains_nil, Bool.or_false, Bool.or_assoc]
set_option maxRecDepth 100000 in
set_option maxHeartbeats 1000000 in
theorem rkeyword_any (s : ByteArray) (w : World) :
    Calls Tryz.prog 150 #[.string s] w fun e w' => e = .returned (.bool (kw s)) ∧ Below w.heap.size w w' := by
  have HK := Lib.hid (kw_mem s)
  go_enter Tryz.func150, Tryz.ntmps150
  go_wp2_with (go_at_call 200; refine (words_any _).mono ?_; rintro e w1 ⟨rfl, rfl⟩)
  go_loop [4] (fun i => ∃ k : Nat, k ≤ 21 ∧ i = .int .i64 k ∧ wordsB.contains s.data.toList = (wordsB.drop k).contains s.data.toList) (fun i => 21 - (intOf i).toNat)
  case atStart => exact ⟨0, by omega, rfl, rfl⟩
  case round =>
    obtain ⟨k, hk, rfl, hc⟩ := hrel
    have HC := Lib.hid hc; clear hc
    by_cases hlt : k < 21
    · have hlt' : k < wordsB.length := hlt
      have hcell := cellsS_at w wordsB k hlt'
      have hdr := List.drop_eq_getElem_cons hlt'
      obtain ⟨x, hx⟩ : ∃ x : ByteArray, x = ⟨(wordsB[k]).toArray⟩ := ⟨_, rfl⟩
      rw [← hx] at hcell
      have hxl : x.toList = wordsB[k] := by rw [Lib.toList_data, hx]
      rw [← hxl] at hdr
      have HD := Lib.hid hdr
      clear hdr hx hxl hlt'
      rcases hq : (x.toList == s.toList) with _ | _
      · go_wp2
        go_round
        case rel =>
          refine ⟨k + 1, by omega, by go_num, ?_⟩
          rw [HC.out, HD.out, List.contains_cons]
          rw [Lib.toList_data s] at hq
          have : (s.data.toList == x.toList) = false := by rw [BEq.comm]; exact hq
          rw [this, Bool.false_or]
        case measure => simp [intOf]; omega
      · go_wp2
        go_ret
        refine ⟨ret_bool ?_, ?_⟩
        · rw [HK.out, HC.out, HD.out, List.contains_cons]
          rw [Lib.toList_data s] at hq
          have : (s.data.toList == x.toList) = true := by rw [BEq.comm]; exact hq
          rw [this, Bool.true_or]
        · exact (Below.refl _ _).alloc (Nat.le_refl _) _
    · obtain rfl : k = 21 := by omega
      go_wp2
      go_ret
      exact ⟨ret_bool (by rw [HK.out, HC.out]; rfl), (Below.refl _ _).alloc (Nat.le_refl _) _⟩
end Go.Proofs.YtmlcdnfejebhoaaGreatDoor
namespace Go.Proofs.YtmlcdnfejebhoaaGreatDoor
open Go.RowKit
def allW (l : List UInt8) : Bool := l.all fun c => wrd (c.toNat : Int)
def headL : List UInt8 → Bool | [] => false | c :: _ => ltr (c.toNat : Int)
def nameB (s : ByteArray) : Bool := decide (0 < s.size ∧ s.size ≤ 16) && (!kw s && (headL s.data.toList && allW s.data.toList))
theorem spanN_all (l : List UInt8) : decide ((spanN wrd l : Int) = (l.length : Int)) = allW l := by
  unfold spanN allW
  induction l with
  | nil => rfl
  | cons c r ih =>
    rcases h : wrd (c.toNat : Int) with _ | _
    · simp [h]; omega
    · simp only [List.takeWhile_cons, h, if_true, List.length_cons, List.all_cons, Bool.true_and]
      rw [← ih]; congr 1; simp
theorem nameB_zero (s : ByteArray) (h : s.size = 0) : nameB s = false := by simp [nameB, h]
theorem nameB_big (s : ByteArray) (h : 16 < s.size) : nameB s = false := by simp [nameB]; omega
theorem nameB_kw (s : ByteArray) (h : kw s = true) : nameB s = false := by simp [nameB, h]
theorem headL_at (s : ByteArray) (hz : 0 < s.size) : headL s.data.toList = ltr (s[0].toNat : Int) := by
  obtain ⟨r, hr⟩ := head_of s hz
  rw [hr]; rfl
theorem nameB_head (s : ByteArray) (hz : 0 < s.size) (h : ltr (s[0].toNat : Int) = false) : nameB s = false := by
  simp [nameB, headL_at s hz, h]
theorem nameB_rest (s : ByteArray) (hz : 0 < s.size) (h16 : s.size ≤ 16) (hk : kw s = false) (h : ltr (s[0].toNat : Int) = true) : nameB s = allW s.data.toList := by
  simp [nameB, headL_at s hz, h, hk, hz, h16]
set_option maxRecDepth 100000 in
set_option maxHeartbeats 1000000 in
theorem name_any (s : ByteArray) (w : World) (hs : s.size ≤ maxLen) :
    Calls Tryz.prog 141 #[.string s] w fun e w' => e = .returned (.bool (nameB s)) ∧ Below w.heap.size w w' := by
  unfold maxLen at hs
  by_cases hz : 0 < s.size
  · have e0 : s.toList ≠ [] := by
      rw [Lib.toList_data]; intro h
      have := Lib.size_eq s
      rw [h] at this; have h0 : s.size = 0 := this; omega
    have e1 : (!s.toList.isEmpty) = true := by simpa using e0
    have e2 : s.toList.isEmpty = false := by simpa using e0
    have hc := s[0].toNat_lt
    by_cases h16 : 16 < s.size
    · rw [nameB_big s h16]
      go_enter Tryz.func141, Tryz.ntmps141
      go_wp2
      go_ret
      exact ⟨rfl, Below.refl _ _⟩
    · rcases hk : kw s with _ | _
      · rcases hl : ltr (s[0].toNat : Int) with _ | _
        · rw [nameB_head s hz hl]
          go_enter Tryz.func141, Tryz.ntmps141
          go_wp2_with (first
            | (go_at_call 194; refine (keyword_no _ _ hk).mono ?_; rintro e w1 ⟨rfl, rfl⟩)
            | (go_at_call 176; refine (letter_any _ _).mono ?_; rintro e w1 ⟨rfl, rfl⟩))
          go_ret
          exact ⟨rfl, Below.refl _ _⟩
        · rw [nameB_rest s hz (by omega) hk hl]
          have HA := Lib.hid (spanN_all s.data.toList)
          have HL := Lib.hid (Lib.size_eq s)
          go_enter Tryz.func141, Tryz.ntmps141
          go_wp2_with (first
            | (go_at_call 194; refine (keyword_no _ _ hk).mono ?_; rintro e w1 ⟨rfl, rfl⟩)
            | (go_at_call 176; refine (letter_any _ _).mono ?_; rintro e w1 ⟨rfl, rfl⟩)
            | (go_at_call 178; refine (span_word _ _).mono ?_; rintro e w1 ⟨rfl, hb⟩))
          go_ret
          exact ⟨ret_bool (by rw [← HA.out, ← HL.out, Bool.eq_iff_iff]; simp), hb⟩
      · rw [nameB_kw s hk]
        go_enter Tryz.func141, Tryz.ntmps141
        go_wp2_with (go_at_call 194; refine (keyword_yes _ _ hk).mono ?_; rintro e w1 ⟨rfl, rfl⟩)
        go_ret
        exact ⟨rfl, Below.refl _ _⟩
  · have hz' : s.size = 0 := by omega
    obtain rfl : s = ⟨#[]⟩ := ByteArray.ext (Array.eq_empty_of_size_eq_zero hz')
    rw [nameB_zero _ rfl]
    go_enter Tryz.func141, Tryz.ntmps141
    go_wp2
    go_ret
    exact ⟨rfl, Below.refl _ _⟩
theorem allW_yes (s : ByteArray) (k : Nat) (h : k < s.size) (hw : wrd (s[k].toNat : Int) = true) : allW (s.data.toList.drop k) = allW (s.data.toList.drop (k + 1)) := by
  rw [drop_at s k h]; simp [allW, hw]
theorem allW_no (s : ByteArray) (k : Nat) (h : k < s.size) (hw : wrd (s[k].toNat : Int) = false) : allW (s.data.toList.drop k) = false := by
  rw [drop_at s k h]; simp [allW, hw]
theorem allW_end (s : ByteArray) (k : Nat) (h : ¬ k < s.size) : allW (s.data.toList.drop k) = true := by
  rw [List.drop_eq_nil_of_le (by rw [← Lib.size_eq]; omega)]; rfl
set_option maxRecDepth 100000 in
set_option maxHeartbeats 1000000 in
theorem rname_any (s : ByteArray) (w : World) (hs : s.size ≤ maxLen) :
    Calls Tryz.prog 71 #[.string s] w fun e w' => e = .returned (.bool (nameB s)) ∧ Below w.heap.size w w' := by
  unfold maxLen at hs
  by_cases hz : 0 < s.size
  · by_cases h16 : 16 < s.size
    · rw [nameB_big s h16]
      go_enter Tryz.func71, Tryz.ntmps71
      go_wp2
      go_ret
      exact ⟨rfl, Below.refl _ _⟩
    · rcases hl : ltr (s[0].toNat : Int) with _ | _
      · rw [nameB_head s hz hl]
        go_enter Tryz.func71, Tryz.ntmps71
        go_wp2_with (go_at_call 149; refine (rletter_any _ _).mono ?_; rintro e w1 ⟨rfl, rfl⟩)
        go_ret
        exact ⟨rfl, Below.refl _ _⟩
      · rcases hk : kw s with _ | _
        · rw [nameB_rest s hz (by omega) hk hl]
          go_enter Tryz.func71, Tryz.ntmps71
          go_wp2_with (first
            | (go_at_call 149; refine (rletter_any _ _).mono ?_; rintro e w1 ⟨rfl, rfl⟩)
            | (go_at_call 150; refine (rkeyword_any _ _).mono ?_; rw [hk]; rintro e w1 ⟨rfl, hb⟩))
          clear hl hk
          go_loop [3] (fun i => ∃ k : Nat, k ≤ s.size ∧ i = .int .i64 k ∧ allW s.data.toList = allW (s.data.toList.drop k)) (fun i => s.size - (intOf i).toNat)
          case atStart => exact ⟨0, by omega, rfl, rfl⟩
          case round =>
            obtain ⟨k, hk, rfl, ha⟩ := hrel
            have HA := Lib.hid ha; clear ha
            by_cases hlt : k < s.size
            · have hw : wrd (s[k].toNat : Int) = (ltr (s[k].toNat : Int) || dig (s[k].toNat : Int)) := rfl
              rcases h1 : ltr (s[k].toNat : Int) with _ | _
              · rcases h2 : dig (s[k].toNat : Int) with _ | _
                · have HN := Lib.hid (allW_no s k hlt (by rw [hw, h1, h2]; rfl))
                  clear hw
                  go_wp2_with (first
                    | (go_at_call 149; refine (rletter_any _ _).mono ?_; rintro e w2 ⟨rfl, rfl⟩)
                    | (go_at_call 151; refine (rdigit_any _ _).mono ?_; rintro e w2 ⟨rfl, rfl⟩))
                  go_ret
                  exact ⟨ret_bool (by rw [HA.out, HN.out]), hb⟩
                · have HN := Lib.hid (allW_yes s k hlt (by rw [hw, h1, h2]; rfl))
                  clear hw
                  go_wp2_with (first
                    | (go_at_call 149; refine (rletter_any _ _).mono ?_; rintro e w2 ⟨rfl, rfl⟩)
                    | (go_at_call 151; refine (rdigit_any _ _).mono ?_; rintro e w2 ⟨rfl, rfl⟩))
                  go_round
                  case rel => exact ⟨k + 1, by omega, by go_num, by rw [HA.out, HN.out]⟩
                  case measure => simp [intOf]; omega
              · have HN := Lib.hid (allW_yes s k hlt (by rw [hw, h1]; rfl))
                clear hw
                go_wp2_with (go_at_call 149; refine (rletter_any _ _).mono ?_; rintro e w2 ⟨rfl, rfl⟩)
                go_round
                case rel => exact ⟨k + 1, by omega, by go_num, by rw [HA.out, HN.out]⟩
                case measure => simp [intOf]; omega
            · have HN := Lib.hid (allW_end s k hlt)
              go_wp2
              go_ret
              exact ⟨ret_bool (by rw [HA.out, HN.out]), hb⟩
        · rw [nameB_kw s hk]
          go_enter Tryz.func71, Tryz.ntmps71
          go_wp2_with (first
            | (go_at_call 149; refine (rletter_any _ _).mono ?_; rintro e w1 ⟨rfl, rfl⟩)
            | (go_at_call 150; refine (rkeyword_any _ _).mono ?_; rw [hk]; rintro e w1 ⟨rfl, hb⟩))
          go_ret
          exact ⟨rfl, hb⟩
  · rw [nameB_zero s (by omega)]
    go_enter Tryz.func71, Tryz.ntmps71
    go_wp2
    go_ret
    exact ⟨rfl, Below.refl _ _⟩
end Go.Proofs.YtmlcdnfejebhoaaGreatDoor
