/- Facts. -/
import Derived.Test.YtcghccjnadagcaaGreatDoorRows
import Derived.WalkKit
import Derived.WalkSpells
import Derived.WalkLawsBesides
import Derived.Lib.Hide
import Derived.Lib.OthersKept
import Derived.Test.YtcghccjnadagcaaGreatDoorShelf
import Derived.Laws.ResultCell
import Derived.Laws.NewBlocks
import Derived.Lib.Strings
import Derived.Lib.IndexBytes
import Derived.Deep.LoopGhost
set_option maxRecDepth 100000
set_option maxHeartbeats 32000000
namespace Go.Proofs.YtcghccjnadagcaaGreatDoor
open Go.RowKit
def ltr (c : Int) : Bool:=decide (c = 95 ∨ (97 ≤ c ∧ c ≤ 122) ∨ (65 ≤ c ∧ c ≤ 90))
def dig (c : Int) : Bool:=decide (48 ≤ c ∧ c ≤ 57)
def wrd (c : Int) : Bool:=ltr c || dig c
theorem ret_bool {a b : Bool} (h : a = b) : Ending.returned (.bool a) = .returned (.bool b):=by rw [h]
theorem ret_int {k : IntKind} {a b : Int} (h : a = b) : Ending.returned (.int k a) = .returned (.int k b):=by rw [h]
theorem letter_any (c : Int) (w : World) :
  Calls Tryz.prog 114 #[.int .i32 c] w fun e w' => e = .returned (.bool (ltr c)) ∧ w = w':=by
 by_cases h1 : c = 95
 ·subst h1
  go_enter Tryz.func114,Tryz.ntmps114
  go_wp2
  go_ret
  exact ⟨rfl,rfl⟩
 ·have h1' : (c == 95) = false:=by simpa using h1
  go_enter Tryz.func114,Tryz.ntmps114
  go_wp2
  all_goals
   go_ret
   exact ⟨ret_bool (by rw [Bool.eq_iff_iff]; simp [ltr]; omega),rfl⟩
theorem digit_any (c : Int) (w : World) :
  Calls Tryz.prog 118 #[.int .i32 c] w fun e w' => e = .returned (.bool (dig c)) ∧ w = w':=by
 go_enter Tryz.func118,Tryz.ntmps118
 go_wp2
 all_goals
  go_ret
  exact ⟨ret_bool (by rw [Bool.eq_iff_iff]; simp [dig]; omega),rfl⟩
theorem wordPart_any (c : Int) (w : World) :
  Calls Tryz.prog 117 #[.int .i32 c] w fun e w' => e = .returned (.bool (wrd c)) ∧ w = w':=by
 by_cases h1 : ltr c = true
 ·go_enter Tryz.func117,Tryz.ntmps117
  go_wp2_with (go_at_call 114; refine (letter_any _ _).mono ?_; rintro e w' ⟨rfl,rfl⟩)
  all_goals
   go_ret
   exact ⟨ret_bool (by simp [wrd,h1]),rfl⟩
 ·have h1' : ltr c = false:=by simpa using h1
  go_enter Tryz.func117,Tryz.ntmps117
  go_wp2_with (first | (go_at_call 114; refine (letter_any _ _).mono ?_; rintro e w' ⟨rfl,rfl⟩) | (go_at_call 118; refine (digit_any _ _).mono ?_; rintro e w' ⟨rfl,rfl⟩))
  all_goals
   go_ret
   exact ⟨ret_bool (by simp [wrd,h1']),rfl⟩
def spanN (p : Int → Bool) (l : List UInt8) : Nat:=(l.takeWhile fun c => p (c.toNat : Int)).length
theorem spanN_le (p : Int → Bool) (l : List UInt8) : spanN p l ≤ l.length:=by
 unfold spanN; exact (List.takeWhile_sublist _).length_le
theorem drop_at (s : ByteArray) (k : Nat) (h : k < s.size) : s.data.toList.drop k = s[k] :: s.data.toList.drop (k + 1):=by
 rw [List.drop_eq_getElem_cons (by simpa using h)]; rfl
theorem spanN_yes (p : Int → Bool) (s : ByteArray) (k : Nat) (h : k < s.size) (hp : p (s[k].toNat : Int) = true) :
  spanN p (s.data.toList.drop k) = spanN p (s.data.toList.drop (k + 1)) + 1:=by
 rw [drop_at s k h]; simp [spanN,hp]
theorem spanN_no (p : Int → Bool) (s : ByteArray) (k : Nat) (h : k < s.size) (hp : p (s[k].toNat : Int) = false) :
  spanN p (s.data.toList.drop k) = 0:=by
 rw [drop_at s k h]; simp [spanN,hp]
theorem spanN_end (p : Int → Bool) (s : ByteArray) (k : Nat) (h : ¬ k < s.size) : spanN p (s.data.toList.drop k) = 0:=by
 rw [List.drop_eq_nil_of_le (by simp; omega)]; rfl
theorem wrd_high (c : Int) (h : 128 ≤ c) : wrd c = false:=by
 simp [wrd,ltr,dig]; omega
theorem dig_high (c : Int) (h : 128 ≤ c) : dig c = false:=by
 simp [dig]; omega
theorem rune_kind (p : Int → Bool) (hp : ∀ c : Int,128 ≤ c → p c = false) (s : ByteArray) (k : Nat) (h : k < s.size) : p ((Utf8.decode s k).1 : Int) = p (s[k].toNat : Int):=by
 by_cases ha : (s[k]).toNat < 128
 ·rw [decode_ascii s k h ha]
 ·have:=(decode_high s k h (by omega)).1
  rw [hp _ (by omega),hp _ (by omega)]
theorem rune_one (p : Int → Bool) (hp : ∀ c : Int,128 ≤ c → p c = false) (s : ByteArray) (k : Nat) (h : k < s.size) (hy : p (s[k].toNat : Int) = true) : (Utf8.decode s k).2 = 1:=by
 by_cases ha : (s[k]).toNat < 128
 ·rw [decode_ascii s k h ha]
 ·rw [hp _ (by omega)] at hy; cases hy
theorem span_word (s : ByteArray) (w : World) :
  Calls Tryz.prog 116 #[.string s,.func (.func 117) #[] #[]] w fun e w' => e = .returned (.int .i64 (spanN wrd s.data.toList)) ∧ Below w.heap.size w w':=by
 go_enter Tryz.func116,Tryz.ntmps116
 go_wp2
 go_loopw [] (fun wr => ∃ pos : Nat,pos ≤ s.size ∧ pos + spanN wrd (s.data.toList.drop pos) = spanN wrd s.data.toList ∧ wr.heap[w.heap.size]? = some (.stringIter s pos) ∧ Below w.heap.size w wr) (fun wr => s.size - wr.iterPos w.heap.size)
 case atStart => exact ⟨0,Nat.zero_le _,by simp,World.iter_heap w s 0,(Below.refl _ w).alloc (Nat.le_refl _) _⟩
 case round =>
  obtain ⟨pos,hpos,hsp,hit,hbw⟩:=hrel
  have HSP:=Lib.hid hsp; clear hsp
  by_cases hp : pos < s.size
  ·have hnx : ∀ ty,(Instr.next (.pointer (some ⟨w.heap.size,0,none⟩)) true ty).run Tryz.prog wr = _:=fun ty => Lib.run_next_any_at wr w.heap.size s pos ty hit hp
   have HK:=Lib.hid (rune_kind wrd wrd_high s pos hp)
   by_cases hy : wrd (s[pos].toNat : Int) = true
   ·have hy2 : wrd ((Utf8.decode s pos).1 : Int) = true:=by rw [HK.out]; exact hy
    have HW:=Lib.hid (rune_one wrd wrd_high s pos hp hy)
    have HN:=Lib.hid (spanN_yes wrd s pos hp hy)
    have hit2:=Lib.iterAt_heap wr w.heap.size s pos (pos + (Utf8.decode s pos).2) hit
    have hbw2:=Lib.below_iterAt hbw (k:=w.heap.size) (Nat.le_refl _) s (pos + (Utf8.decode s pos).2)
    clear hy
    go_wp2_with (go_at_call 117; refine (wordPart_any _ _).mono ?_; rintro e w' ⟨rfl,rfl⟩)
    go_roundw
    case rel =>
     have hw:=HW.out
     rw [hw] at hit2 hbw2 ⊢
     exact ⟨pos + 1,by omega,by have:=HSP.out; have:=HN.out; omega,hit2,hbw2⟩
    case measure =>
     have hw:=HW.out
     simp only [World.iterPos,hit2,hit]
     omega
   ·have hy' : wrd (s[pos].toNat : Int) = false:=by simpa using hy
    have hy2 : wrd ((Utf8.decode s pos).1 : Int) = false:=by rw [HK.out]; exact hy'
    have HN:=Lib.hid (spanN_no wrd s pos hp hy')
    have hbw2:=Lib.below_iterAt hbw (k:=w.heap.size) (Nat.le_refl _) s (pos + (Utf8.decode s pos).2)
    clear hy hy'
    go_wp2_with (go_at_call 117; refine (wordPart_any _ _).mono ?_; rintro e w' ⟨rfl,rfl⟩)
    go_ret
    exact ⟨ret_int (by have:=HSP.out; have:=HN.out; omega),hbw2⟩
  ·have hnx : ∀ ty,(Instr.next (.pointer (some ⟨w.heap.size,0,none⟩)) true ty).run Tryz.prog wr = _:=fun ty => Lib.run_next_end_at wr w.heap.size s pos ty hit hp
   have HN:=Lib.hid (spanN_end wrd s pos hp)
   go_wp2
   go_ret
   exact ⟨ret_int (by have:=HSP.out; have:=HN.out; omega),hbw⟩
theorem span_digit (s : ByteArray) (w : World) :
  Calls Tryz.prog 116 #[.string s,.func (.func 118) #[] #[]] w fun e w' => e = .returned (.int .i64 (spanN dig s.data.toList)) ∧ Below w.heap.size w w':=by
 go_enter Tryz.func116,Tryz.ntmps116
 go_wp2
 go_loopw [] (fun wr => ∃ pos : Nat,pos ≤ s.size ∧ pos + spanN dig (s.data.toList.drop pos) = spanN dig s.data.toList ∧ wr.heap[w.heap.size]? = some (.stringIter s pos) ∧ Below w.heap.size w wr) (fun wr => s.size - wr.iterPos w.heap.size)
 case atStart => exact ⟨0,Nat.zero_le _,by simp,World.iter_heap w s 0,(Below.refl _ w).alloc (Nat.le_refl _) _⟩
 case round =>
  obtain ⟨pos,hpos,hsp,hit,hbw⟩:=hrel
  have HSP:=Lib.hid hsp; clear hsp
  by_cases hp : pos < s.size
  ·have hnx : ∀ ty,(Instr.next (.pointer (some ⟨w.heap.size,0,none⟩)) true ty).run Tryz.prog wr = _:=fun ty => Lib.run_next_any_at wr w.heap.size s pos ty hit hp
   have HK:=Lib.hid (rune_kind dig dig_high s pos hp)
   by_cases hy : dig (s[pos].toNat : Int) = true
   ·have hy2 : dig ((Utf8.decode s pos).1 : Int) = true:=by rw [HK.out]; exact hy
    have HW:=Lib.hid (rune_one dig dig_high s pos hp hy)
    have HN:=Lib.hid (spanN_yes dig s pos hp hy)
    have hit2:=Lib.iterAt_heap wr w.heap.size s pos (pos + (Utf8.decode s pos).2) hit
    have hbw2:=Lib.below_iterAt hbw (k:=w.heap.size) (Nat.le_refl _) s (pos + (Utf8.decode s pos).2)
    clear hy
    go_wp2_with (go_at_call 118; refine (digit_any _ _).mono ?_; rintro e w' ⟨rfl,rfl⟩)
    go_roundw
    case rel =>
     have hw:=HW.out
     rw [hw] at hit2 hbw2 ⊢
     exact ⟨pos + 1,by omega,by have:=HSP.out; have:=HN.out; omega,hit2,hbw2⟩
    case measure =>
     have hw:=HW.out
     simp only [World.iterPos,hit2,hit]
     omega
   ·have hy' : dig (s[pos].toNat : Int) = false:=by simpa using hy
    have hy2 : dig ((Utf8.decode s pos).1 : Int) = false:=by rw [HK.out]; exact hy'
    have HN:=Lib.hid (spanN_no dig s pos hp hy')
    have hbw2:=Lib.below_iterAt hbw (k:=w.heap.size) (Nat.le_refl _) s (pos + (Utf8.decode s pos).2)
    clear hy hy'
    go_wp2_with (go_at_call 118; refine (digit_any _ _).mono ?_; rintro e w' ⟨rfl,rfl⟩)
    go_ret
    exact ⟨ret_int (by have:=HSP.out; have:=HN.out; omega),hbw2⟩
  ·have hnx : ∀ ty,(Instr.next (.pointer (some ⟨w.heap.size,0,none⟩)) true ty).run Tryz.prog wr = _:=fun ty => Lib.run_next_end_at wr w.heap.size s pos ty hit hp
   have HN:=Lib.hid (spanN_end dig s pos hp)
   go_wp2
   go_ret
   exact ⟨ret_int (by have:=HSP.out; have:=HN.out; omega),hbw⟩
def numV (l : List UInt8) : Nat:=l.foldl (fun n c => 10 * n + (c.toNat - 48)) 0
theorem foldl_ge (l : List UInt8) : ∀ n : Nat,n ≤ l.foldl (fun n c => 10 * n + (c.toNat - 48)) n:=by
 induction l with
 | nil => intro n; exact Nat.le_refl _
 | cons c l ih => intro n; rw [List.foldl_cons]; have:=ih (10 * n + (c.toNat - 48)); omega
theorem numV_take (l : List UInt8) (k : Nat) : numV (l.take k) ≤ numV l:=by
 conv => rhs; rw [← List.take_append_drop k l]
 unfold numV
 rw [List.foldl_append]
 exact foldl_ge _ _
theorem numV_snoc (s : ByteArray) (k : Nat) (h : k < s.size) : numV (s.data.toList.take (k + 1)) = 10 * numV (s.data.toList.take k) + (s[k].toNat - 48):=by
 rw [List.take_succ_eq_append_getElem (by simpa using h)]
 unfold numV
 rw [List.foldl_append]
 rfl
def NumAns (s : ByteArray) (w : World) (e : Ending) (w' : World) : Prop:=∃ n : Int,e = .returned (.int .i64 n) ∧ 0 ≤ n ∧ n ≤ 99999 ∧ (numV s.data.toList ≤ 9999 → n = numV s.data.toList) ∧ (9999 < numV s.data.toList → 9999 < n) ∧ Below w.heap.size w w'
theorem value_any (s : ByteArray) (w : World) (hd : ∀ k,(h : k < s.size) → 48 ≤ (s[k]).toNat ∧ (s[k]).toNat ≤ 57) :
  Calls Tryz.prog 166 #[.string s] w (NumAns s w):=by
 have HD:=Lib.hid hd; clear hd
 go_enter Tryz.func166,Tryz.ntmps166
 go_wp2
 go_loopw [3] (fun n wr => ∃ pos : Nat,pos ≤ s.size ∧ n = .int .i64 (numV (s.data.toList.take pos) : Nat) ∧ numV (s.data.toList.take pos) ≤ 9999 ∧ wr.heap[w.heap.size]? = some (.stringIter s pos) ∧ Below w.heap.size w wr) (fun _ wr => s.size - wr.iterPos w.heap.size)
 case atStart => exact ⟨0,Nat.zero_le _,rfl,by simp [numV],World.iter_heap w s 0,(Below.refl _ w).alloc (Nat.le_refl _) _⟩
 case round =>
  obtain ⟨pos,hpos,rfl,hle,hit,hbw⟩:=hrel
  by_cases hp : pos < s.size
  ·have hd:=HD.out pos hp
   have hnx : ∀ ty,(Instr.next (.pointer (some ⟨w.heap.size,0,none⟩)) true ty).run Tryz.prog wr = _:=fun ty => Lib.run_next_ascii_at wr w.heap.size s pos ty hit hp (by omega)
   have HN:=Lib.hid (numV_snoc s pos hp)
   have HT:=Lib.hid (numV_take s.data.toList (pos + 1))
   have hit2:=Lib.iterAt_heap wr w.heap.size s pos (pos + 1) hit
   have hbw2:=Lib.below_iterAt hbw (k:=w.heap.size) (Nat.le_refl _) s (pos + 1)
   obtain ⟨n,hn⟩ : ∃ n,n = numV (s.data.toList.take pos):=⟨_,rfl⟩
   rw [← hn] at hle ⊢
   have HE:=Lib.hid hn; clear hn
   obtain ⟨c,hc⟩ : ∃ c,c = s[pos].toNat:=⟨_,rfl⟩
   rw [← hc] at hd hnx
   have HC:=Lib.hid hc; clear hc
   go_wp2
   ·go_ret
    have hn:=HE.out; have hc:=HC.out; have hN:=HN.out; have hT:=HT.out
    rw [hN,← hn,← hc] at hT
    have h9 : (9999 : Int) < 10 * ↑n + (↑c - 48):=by assumption
    exact ⟨_,rfl,by omega,by omega,fun h => by omega,fun _ => by omega,hbw2⟩
   ·have h9 : 10 * (n : Int) + (↑c - 48) ≤ 9999:=by assumption
    go_roundw
    case rel =>
     have hn:=HE.out; have hc:=HC.out; have hN:=HN.out
     rw [← hn,← hc] at hN
     exact ⟨pos + 1,by omega,by rw [hN]; congr 1; omega,by rw [hN]; omega,hit2,hbw2⟩
    case measure =>
     simp only [World.iterPos,hit2,hit]
     omega
  ·have hnx : ∀ ty,(Instr.next (.pointer (some ⟨w.heap.size,0,none⟩)) true ty).run Tryz.prog wr = _:=fun ty => Lib.run_next_end_at wr w.heap.size s pos ty hit hp
   have HP : Hid (numV (s.data.toList.take pos) = numV s.data.toList):=by
    show _ = _
    rw [List.take_of_length_le (by simp; omega)]
   go_wp2
   go_ret
   exact ⟨_,rfl,by omega,by omega,fun _ => by rw [HP.out],fun h => by have:=HP.out; omega,hbw⟩
def sgn2 (s : ByteArray) : Bool:=((s.extract 0 2).toList == [61,61]) || ((s.extract 0 2).toList == [33,61]) || ((s.extract 0 2).toList == [60,61]) || ((s.extract 0 2).toList == [38,38]) || ((s.extract 0 2).toList == [124,124])
def sgn1 (c : Int) : Bool:=(c == 59) || (c == 44) || (c == 123) || (c == 125) || (c == 40) || (c == 41) || (c == 46) || (c == 61) || (c == 43) || (c == 45) || (c == 42) || (c == 33) || (c == 60)
def kw (s : ByteArray) : Bool:=(s.toList == [109,111,100]) || (s.toList == [108,111,99]) || (s.toList == [116,104,114,101,97,100]) || (s.toList == [114,101,103]) || (s.toList == [115,107,105,112]) || (s.toList == [115,101,116]) || (s.toList == [108,111,97,100]) || (s.toList == [115,116,111,114,101]) || (s.toList == [99,97,115]) || (s.toList == [102,97,100,100]) || (s.toList == [120,99,104,103]) || (s.toList == [102,101,110,99,101]) || (s.toList == [97,119,97,105,116]) || (s.toList == [105,102]) || (s.toList == [101,108,115,101]) || (s.toList == [119,104,105,108,101]) || (s.toList == [108,111,111,112]) || (s.toList == [98,114,101,97,107]) || (s.toList == [102,111,114,97,108,108]) || (s.toList == [101,120,105,115,116,115]) || (s.toList == [97,108,119,97,121,115])
theorem sign_two (s : ByteArray) (w : World) (h0 : 1 < s.size) (h2 : sgn2 s = true) :
  Calls Tryz.prog 120 #[.string s] w fun e w' => e = .returned (.int .i64 2) ∧ w = w':=by
 unfold sgn2 at h2
 rcases q0 : ((s.extract 0 2).toList == [61,61]) with _ | _
 rotate_left
 ·clear h2
  go_enter Tryz.func120,Tryz.ntmps120
  go_wp2
  go_ret
  exact ⟨rfl,rfl⟩
 rcases q1 : ((s.extract 0 2).toList == [33,61]) with _ | _
 rotate_left
 ·clear h2
  go_enter Tryz.func120,Tryz.ntmps120
  go_wp2
  go_ret
  exact ⟨rfl,rfl⟩
 rcases q2 : ((s.extract 0 2).toList == [60,61]) with _ | _
 rotate_left
 ·clear h2
  go_enter Tryz.func120,Tryz.ntmps120
  go_wp2
  go_ret
  exact ⟨rfl,rfl⟩
 rcases q3 : ((s.extract 0 2).toList == [38,38]) with _ | _
 rotate_left
 ·clear h2
  go_enter Tryz.func120,Tryz.ntmps120
  go_wp2
  go_ret
  exact ⟨rfl,rfl⟩
 rcases q4 : ((s.extract 0 2).toList == [124,124]) with _ | _
 rotate_left
 ·clear h2
  go_enter Tryz.func120,Tryz.ntmps120
  go_wp2
  go_ret
  exact ⟨rfl,rfl⟩
 exfalso
 simp [q0,q1,q2,q3,q4] at h2
theorem sign_one1 (s : ByteArray) (w : World) (h0 : 1 < s.size) (h2 : sgn2 s = false) (hz : 0 < s.size) (h1 : sgn1 (s[0].toNat : Int) = true) :
  Calls Tryz.prog 120 #[.string s] w fun e w' => e = .returned (.int .i64 1) ∧ w = w':=by
 simp only [sgn2,Bool.or_eq_false_iff] at h2
 obtain ⟨⟨⟨⟨p0,p1⟩,p2⟩,p3⟩,p4⟩:=h2
 unfold sgn1 at h1
 rcases q0 : ((s[0].toNat : Int) == 59) with _ | _
 rotate_left
 ·clear h1
  go_enter Tryz.func120,Tryz.ntmps120
  go_wp2
  go_ret
  exact ⟨rfl,rfl⟩
 rcases q1 : ((s[0].toNat : Int) == 44) with _ | _
 rotate_left
 ·clear h1
  go_enter Tryz.func120,Tryz.ntmps120
  go_wp2
  go_ret
  exact ⟨rfl,rfl⟩
 rcases q2 : ((s[0].toNat : Int) == 123) with _ | _
 rotate_left
 ·clear h1
  go_enter Tryz.func120,Tryz.ntmps120
  go_wp2
  go_ret
  exact ⟨rfl,rfl⟩
 rcases q3 : ((s[0].toNat : Int) == 125) with _ | _
 rotate_left
 ·clear h1
  go_enter Tryz.func120,Tryz.ntmps120
  go_wp2
  go_ret
  exact ⟨rfl,rfl⟩
 rcases q4 : ((s[0].toNat : Int) == 40) with _ | _
 rotate_left
 ·clear h1
  go_enter Tryz.func120,Tryz.ntmps120
  go_wp2
  go_ret
  exact ⟨rfl,rfl⟩
 rcases q5 : ((s[0].toNat : Int) == 41) with _ | _
 rotate_left
 ·clear h1
  go_enter Tryz.func120,Tryz.ntmps120
  go_wp2
  go_ret
  exact ⟨rfl,rfl⟩
 rcases q6 : ((s[0].toNat : Int) == 46) with _ | _
 rotate_left
 ·clear h1
  go_enter Tryz.func120,Tryz.ntmps120
  go_wp2
  go_ret
  exact ⟨rfl,rfl⟩
 rcases q7 : ((s[0].toNat : Int) == 61) with _ | _
 rotate_left
 ·clear h1
  go_enter Tryz.func120,Tryz.ntmps120
  go_wp2
  go_ret
  exact ⟨rfl,rfl⟩
 rcases q8 : ((s[0].toNat : Int) == 43) with _ | _
 rotate_left
 ·clear h1
  go_enter Tryz.func120,Tryz.ntmps120
  go_wp2
  go_ret
  exact ⟨rfl,rfl⟩
 rcases q9 : ((s[0].toNat : Int) == 45) with _ | _
 rotate_left
 ·clear h1
  go_enter Tryz.func120,Tryz.ntmps120
  go_wp2
  go_ret
  exact ⟨rfl,rfl⟩
 rcases q10 : ((s[0].toNat : Int) == 42) with _ | _
 rotate_left
 ·clear h1
  go_enter Tryz.func120,Tryz.ntmps120
  go_wp2
  go_ret
  exact ⟨rfl,rfl⟩
 rcases q11 : ((s[0].toNat : Int) == 33) with _ | _
 rotate_left
 ·clear h1
  go_enter Tryz.func120,Tryz.ntmps120
  go_wp2
  go_ret
  exact ⟨rfl,rfl⟩
 rcases q12 : ((s[0].toNat : Int) == 60) with _ | _
 rotate_left
 ·clear h1
  go_enter Tryz.func120,Tryz.ntmps120
  go_wp2
  go_ret
  exact ⟨rfl,rfl⟩
 exfalso
 simp [q0,q1,q2,q3,q4,q5,q6,q7,q8,q9,q10,q11,q12] at h1
theorem sign_no1 (s : ByteArray) (w : World) (h0 : 1 < s.size) (h2 : sgn2 s = false) (hz : 0 < s.size) (h1 : sgn1 (s[0].toNat : Int) = false) :
  Calls Tryz.prog 120 #[.string s] w fun e w' => e = .returned (.int .i64 0) ∧ w = w':=by
 simp only [sgn2,Bool.or_eq_false_iff] at h2
 obtain ⟨⟨⟨⟨p0,p1⟩,p2⟩,p3⟩,p4⟩:=h2
 simp only [sgn1,Bool.or_eq_false_iff] at h1
 obtain ⟨⟨⟨⟨⟨⟨⟨⟨⟨⟨⟨⟨q0,q1⟩,q2⟩,q3⟩,q4⟩,q5⟩,q6⟩,q7⟩,q8⟩,q9⟩,q10⟩,q11⟩,q12⟩:=h1
 go_enter Tryz.func120,Tryz.ntmps120
 go_wp2
 go_ret
 exact ⟨rfl,rfl⟩
theorem sign_one0 (s : ByteArray) (w : World) (h0 : s.size = 1) (hz : 0 < s.size) (h1 : sgn1 (s[0].toNat : Int) = true) :
  Calls Tryz.prog 120 #[.string s] w fun e w' => e = .returned (.int .i64 1) ∧ w = w':=by
 have h0' : ¬ 1 < s.size:=by omega
 clear h0
 unfold sgn1 at h1
 rcases q0 : ((s[0].toNat : Int) == 59) with _ | _
 rotate_left
 ·clear h1
  go_enter Tryz.func120,Tryz.ntmps120
  go_wp2
  go_ret
  exact ⟨rfl,rfl⟩
 rcases q1 : ((s[0].toNat : Int) == 44) with _ | _
 rotate_left
 ·clear h1
  go_enter Tryz.func120,Tryz.ntmps120
  go_wp2
  go_ret
  exact ⟨rfl,rfl⟩
 rcases q2 : ((s[0].toNat : Int) == 123) with _ | _
 rotate_left
 ·clear h1
  go_enter Tryz.func120,Tryz.ntmps120
  go_wp2
  go_ret
  exact ⟨rfl,rfl⟩
 rcases q3 : ((s[0].toNat : Int) == 125) with _ | _
 rotate_left
 ·clear h1
  go_enter Tryz.func120,Tryz.ntmps120
  go_wp2
  go_ret
  exact ⟨rfl,rfl⟩
 rcases q4 : ((s[0].toNat : Int) == 40) with _ | _
 rotate_left
 ·clear h1
  go_enter Tryz.func120,Tryz.ntmps120
  go_wp2
  go_ret
  exact ⟨rfl,rfl⟩
 rcases q5 : ((s[0].toNat : Int) == 41) with _ | _
 rotate_left
 ·clear h1
  go_enter Tryz.func120,Tryz.ntmps120
  go_wp2
  go_ret
  exact ⟨rfl,rfl⟩
 rcases q6 : ((s[0].toNat : Int) == 46) with _ | _
 rotate_left
 ·clear h1
  go_enter Tryz.func120,Tryz.ntmps120
  go_wp2
  go_ret
  exact ⟨rfl,rfl⟩
 rcases q7 : ((s[0].toNat : Int) == 61) with _ | _
 rotate_left
 ·clear h1
  go_enter Tryz.func120,Tryz.ntmps120
  go_wp2
  go_ret
  exact ⟨rfl,rfl⟩
 rcases q8 : ((s[0].toNat : Int) == 43) with _ | _
 rotate_left
 ·clear h1
  go_enter Tryz.func120,Tryz.ntmps120
  go_wp2
  go_ret
  exact ⟨rfl,rfl⟩
 rcases q9 : ((s[0].toNat : Int) == 45) with _ | _
 rotate_left
 ·clear h1
  go_enter Tryz.func120,Tryz.ntmps120
  go_wp2
  go_ret
  exact ⟨rfl,rfl⟩
 rcases q10 : ((s[0].toNat : Int) == 42) with _ | _
 rotate_left
 ·clear h1
  go_enter Tryz.func120,Tryz.ntmps120
  go_wp2
  go_ret
  exact ⟨rfl,rfl⟩
 rcases q11 : ((s[0].toNat : Int) == 33) with _ | _
 rotate_left
 ·clear h1
  go_enter Tryz.func120,Tryz.ntmps120
  go_wp2
  go_ret
  exact ⟨rfl,rfl⟩
 rcases q12 : ((s[0].toNat : Int) == 60) with _ | _
 rotate_left
 ·clear h1
  go_enter Tryz.func120,Tryz.ntmps120
  go_wp2
  go_ret
  exact ⟨rfl,rfl⟩
 exfalso
 simp [q0,q1,q2,q3,q4,q5,q6,q7,q8,q9,q10,q11,q12] at h1
theorem sign_no0 (s : ByteArray) (w : World) (h0 : s.size = 1) (hz : 0 < s.size) (h1 : sgn1 (s[0].toNat : Int) = false) :
  Calls Tryz.prog 120 #[.string s] w fun e w' => e = .returned (.int .i64 0) ∧ w = w':=by
 have h0' : ¬ 1 < s.size:=by omega
 clear h0
 simp only [sgn1,Bool.or_eq_false_iff] at h1
 obtain ⟨⟨⟨⟨⟨⟨⟨⟨⟨⟨⟨⟨q0,q1⟩,q2⟩,q3⟩,q4⟩,q5⟩,q6⟩,q7⟩,q8⟩,q9⟩,q10⟩,q11⟩,q12⟩:=h1
 go_enter Tryz.func120,Tryz.ntmps120
 go_wp2
 go_ret
 exact ⟨rfl,rfl⟩
theorem keyword_yes (s : ByteArray) (w : World) (h1 : kw s = true) :
  Calls Tryz.prog 135 #[.string s] w fun e w' => e = .returned (.bool true) ∧ w = w':=by
 unfold kw at h1
 rcases q0 : (s.toList == [109,111,100]) with _ | _
 rotate_left
 ·clear h1
  go_enter Tryz.func135,Tryz.ntmps135
  go_wp2
  go_ret
  exact ⟨rfl,rfl⟩
 rcases q1 : (s.toList == [108,111,99]) with _ | _
 rotate_left
 ·clear h1
  go_enter Tryz.func135,Tryz.ntmps135
  go_wp2
  go_ret
  exact ⟨rfl,rfl⟩
 rcases q2 : (s.toList == [116,104,114,101,97,100]) with _ | _
 rotate_left
 ·clear h1
  go_enter Tryz.func135,Tryz.ntmps135
  go_wp2
  go_ret
  exact ⟨rfl,rfl⟩
 rcases q3 : (s.toList == [114,101,103]) with _ | _
 rotate_left
 ·clear h1
  go_enter Tryz.func135,Tryz.ntmps135
  go_wp2
  go_ret
  exact ⟨rfl,rfl⟩
 rcases q4 : (s.toList == [115,107,105,112]) with _ | _
 rotate_left
 ·clear h1
  go_enter Tryz.func135,Tryz.ntmps135
  go_wp2
  go_ret
  exact ⟨rfl,rfl⟩
 rcases q5 : (s.toList == [115,101,116]) with _ | _
 rotate_left
 ·clear h1
  go_enter Tryz.func135,Tryz.ntmps135
  go_wp2
  go_ret
  exact ⟨rfl,rfl⟩
 rcases q6 : (s.toList == [108,111,97,100]) with _ | _
 rotate_left
 ·clear h1
  go_enter Tryz.func135,Tryz.ntmps135
  go_wp2
  go_ret
  exact ⟨rfl,rfl⟩
 rcases q7 : (s.toList == [115,116,111,114,101]) with _ | _
 rotate_left
 ·clear h1
  go_enter Tryz.func135,Tryz.ntmps135
  go_wp2
  go_ret
  exact ⟨rfl,rfl⟩
 rcases q8 : (s.toList == [99,97,115]) with _ | _
 rotate_left
 ·clear h1
  go_enter Tryz.func135,Tryz.ntmps135
  go_wp2
  go_ret
  exact ⟨rfl,rfl⟩
 rcases q9 : (s.toList == [102,97,100,100]) with _ | _
 rotate_left
 ·clear h1
  go_enter Tryz.func135,Tryz.ntmps135
  go_wp2
  go_ret
  exact ⟨rfl,rfl⟩
 rcases q10 : (s.toList == [120,99,104,103]) with _ | _
 rotate_left
 ·clear h1
  go_enter Tryz.func135,Tryz.ntmps135
  go_wp2
  go_ret
  exact ⟨rfl,rfl⟩
 rcases q11 : (s.toList == [102,101,110,99,101]) with _ | _
 rotate_left
 ·clear h1
  go_enter Tryz.func135,Tryz.ntmps135
  go_wp2
  go_ret
  exact ⟨rfl,rfl⟩
 rcases q12 : (s.toList == [97,119,97,105,116]) with _ | _
 rotate_left
 ·clear h1
  go_enter Tryz.func135,Tryz.ntmps135
  go_wp2
  go_ret
  exact ⟨rfl,rfl⟩
 rcases q13 : (s.toList == [105,102]) with _ | _
 rotate_left
 ·clear h1
  go_enter Tryz.func135,Tryz.ntmps135
  go_wp2
  go_ret
  exact ⟨rfl,rfl⟩
 rcases q14 : (s.toList == [101,108,115,101]) with _ | _
 rotate_left
 ·clear h1
  go_enter Tryz.func135,Tryz.ntmps135
  go_wp2
  go_ret
  exact ⟨rfl,rfl⟩
 rcases q15 : (s.toList == [119,104,105,108,101]) with _ | _
 rotate_left
 ·clear h1
  go_enter Tryz.func135,Tryz.ntmps135
  go_wp2
  go_ret
  exact ⟨rfl,rfl⟩
 rcases q16 : (s.toList == [108,111,111,112]) with _ | _
 rotate_left
 ·clear h1
  go_enter Tryz.func135,Tryz.ntmps135
  go_wp2
  go_ret
  exact ⟨rfl,rfl⟩
 rcases q17 : (s.toList == [98,114,101,97,107]) with _ | _
 rotate_left
 ·clear h1
  go_enter Tryz.func135,Tryz.ntmps135
  go_wp2
  go_ret
  exact ⟨rfl,rfl⟩
 rcases q18 : (s.toList == [102,111,114,97,108,108]) with _ | _
 rotate_left
 ·clear h1
  go_enter Tryz.func135,Tryz.ntmps135
  go_wp2
  go_ret
  exact ⟨rfl,rfl⟩
 rcases q19 : (s.toList == [101,120,105,115,116,115]) with _ | _
 rotate_left
 ·clear h1
  go_enter Tryz.func135,Tryz.ntmps135
  go_wp2
  go_ret
  exact ⟨rfl,rfl⟩
 rcases q20 : (s.toList == [97,108,119,97,121,115]) with _ | _
 rotate_left
 ·clear h1
  go_enter Tryz.func135,Tryz.ntmps135
  go_wp2
  go_ret
  exact ⟨rfl,rfl⟩
 exfalso
 simp only [q0,q1,q2,q3,q4,q5,q6,q7,q8,q9,q10,q11,q12,q13,q14,q15,q16,q17,q18,q19,q20,Bool.or_self,Bool.false_eq_true] at h1
theorem keyword_no (s : ByteArray) (w : World) (h1 : kw s = false) :
  Calls Tryz.prog 135 #[.string s] w fun e w' => e = .returned (.bool false) ∧ w = w':=by
 simp only [kw,Bool.or_eq_false_iff] at h1
 obtain ⟨⟨⟨⟨⟨⟨⟨⟨⟨⟨⟨⟨⟨⟨⟨⟨⟨⟨⟨⟨q0,q1⟩,q2⟩,q3⟩,q4⟩,q5⟩,q6⟩,q7⟩,q8⟩,q9⟩,q10⟩,q11⟩,q12⟩,q13⟩,q14⟩,q15⟩,q16⟩,q17⟩,q18⟩,q19⟩,q20⟩:=h1
 go_enter Tryz.func135,Tryz.ntmps135
 go_wp2
 go_ret
 exact ⟨rfl,rfl⟩
theorem clone_any (s : ByteArray) (w : World) (h : s.size ≤ 281474976710656) :
  Calls Tryz.prog 167 #[.string s] w fun e w' => e = .returned (.string s) ∧ Below w.heap.size w w':=by
 go_enter Tryz.func167,Tryz.ntmps167
 go_wp2_with (go_at_call 193; refine (Tryz.stringslite_Clone _ _ h).mono ?_; rintro e w' ⟨rfl,hb⟩)
 go_ret
 exact ⟨rfl,hb⟩
def Blk4 (W : World) (b : Nat) (x0 x1 x2 x3 : Value) : Prop:=W.heap[b]? = some (.cells #[x0,x1,x2,x3] 62 (0,0))
theorem Blk4.new (w : World) (x0 x1 x2 x3 : Value) : Blk4 (w.alloc (.cells #[x0,x1,x2,x3] 62)) w.heap.size x0 x1 x2 x3:=heap_alloc_new w _
theorem Blk4.below {W W' : World} {b B : Nat} {x0 x1 x2 x3 : Value} (h : Blk4 W b x0 x1 x2 x3) (hb : Below B W W') (hlt : b < B) : Blk4 W' b x0 x1 x2 x3:=by
 unfold Blk4 at *; rw [hb.block b hlt]; exact h
theorem Blk4.lt {W : World} {b : Nat} {x0 x1 x2 x3 : Value} (h : Blk4 W b x0 x1 x2 x3) : b < W.heap.size:=(Array.getElem?_eq_some_iff.1 h).1
theorem Blk4.facts {W : World} {b : Nat} {x0 x1 x2 x3 : Value} (h : Blk4 W b x0 x1 x2 x3) :
  (W.cell? ⟨b,0,none⟩ = some x0 ∧ W.cell? ⟨b,1,none⟩ = some x1 ∧ W.cell? ⟨b,2,none⟩ = some x2 ∧ W.cell? ⟨b,3,none⟩ = some x3) ∧
  W.frozen? ⟨b,0,none⟩ = false ∧ W.frozen? ⟨b,1,none⟩ = false ∧ W.frozen? ⟨b,2,none⟩ = false ∧ W.frozen? ⟨b,3,none⟩ = false:=by
 unfold Blk4 at h
 simp [World.cell?,World.frozen?,h]
theorem below_new {w w' : World} {o : Obj} (h : Below (w.alloc o).heap.size (w.alloc o) w') : Below w.heap.size w w':=
 ((Below.refl _ w).alloc (Nat.le_refl _) o).trans (h.mono (by simp))
theorem build_any (k : Int) (s : ByteArray) (w : World) (h : s.size ≤ 281474976710656) :
  Calls Tryz.prog 121 #[.int .i64 k,.string s] w fun e w' => e = .returned (.agg #[.int .i64 k,.string s,.int .i64 0,.int .i64 0]) ∧ Below w.heap.size w w':=by
 go_enter Tryz.func121,Tryz.ntmps121
 go_wp2_with (go_at_call 167; refine (clone_any _ _ h).mono ?_; rintro e w' ⟨rfl,hb⟩; obtain ⟨⟨c0,c1,c2,c3⟩,f0,f1,f2,f3⟩:=((Blk4.new w _ _ _ _).below hb (by simp)).facts)
 exact bodyPost_ret (v:=.agg #[.int .i64 k,.string s,.int .i64 0,.int .i64 0]) (by simp [results,Tryz.results121,go_sem,c0,c1,c2,c3]) rfl ⟨rfl,((((below_new hb).setCell (Nat.le_refl _) _).setCell (Nat.le_refl _) _).setCell (Nat.le_refl _) _).setCell (Nat.le_refl _) _⟩
theorem ident_big (s : ByteArray) (w : World) (h : 16 < s.size) :
  Calls Tryz.prog 115 #[.string s] w fun e w' => e = .returned (.tuple #[.agg #[.int .i64 0,.string ⟨#[]⟩,.int .i64 0,.int .i64 0],.int .i64 2]) ∧ Below w.heap.size w w':=by
 go_enter Tryz.func115,Tryz.ntmps115
 go_wp2
 exact bodyPost_ret (v:=.tuple #[.agg #[.int .i64 0,.string ⟨#[]⟩,.int .i64 0,.int .i64 0],.int .i64 2]) (by simp [results,Tryz.results115,go_sem]) rfl ⟨rfl,(Below.refl _ _).alloc (Nat.le_refl _) _⟩
theorem ident_ok (s : ByteArray) (w : World) (h : s.size ≤ 16) :
  Calls Tryz.prog 115 #[.string s] w fun e w' => e = .returned (.tuple #[.agg #[.int .i64 1,.string s,.int .i64 0,.int .i64 0],.int .i64 0]) ∧ Below w.heap.size w w':=by
 go_enter Tryz.func115,Tryz.ntmps115
 go_wp2_with (go_at_call 121; refine (build_any _ _ _ (by omega)).mono ?_; rintro e w' ⟨rfl,hb⟩; obtain ⟨⟨c0,c1,c2,c3⟩,f0,f1,f2,f3⟩:=((Blk4.new w _ _ _ _).below hb (by simp)).facts)
 exact bodyPost_ret (v:=.tuple #[.agg #[.int .i64 1,.string s,.int .i64 0,.int .i64 0],.int .i64 0]) (by simp [results,Tryz.results115,go_sem,c0,c1,c2,c3]) rfl ⟨rfl,((((below_new hb).setCell (Nat.le_refl _) _).setCell (Nat.le_refl _) _).setCell (Nat.le_refl _) _).setCell (Nat.le_refl _) _⟩
theorem number_big (s : ByteArray) (w : World) (hd : ∀ k,(h : k < s.size) → 48 ≤ (s[k]).toNat ∧ (s[k]).toNat ≤ 57) (h : 9999 < numV s.data.toList) :
  Calls Tryz.prog 119 #[.string s] w fun e w' => e = .returned (.tuple #[.agg #[.int .i64 0,.string ⟨#[]⟩,.int .i64 0,.int .i64 0],.int .i64 4]) ∧ Below w.heap.size w w':=by
 have HD:=Lib.hid hd; clear hd
 have HN:=Lib.hid h; clear h
 go_enter Tryz.func119,Tryz.ntmps119
 go_wp2_with (go_at_call 166; refine (value_any _ _ HD.out).mono ?_; rintro e w' ⟨n,rfl,n0,n1,_,n3,hb⟩; have n4:=n3 HN.out; clear n3; obtain ⟨⟨c0,c1,c2,c3⟩,f0,f1,f2,f3⟩:=((Blk4.new w _ _ _ _).below hb (by simp)).facts)
 exact bodyPost_ret (v:=.tuple #[.agg #[.int .i64 0,.string ⟨#[]⟩,.int .i64 0,.int .i64 0],.int .i64 4]) (by simp [results,Tryz.results119,go_sem,c0,c1,c2,c3]) rfl ⟨rfl,((((below_new hb).setCell (Nat.le_refl _) _).setCell (Nat.le_refl _) _).setCell (Nat.le_refl _) _).setCell (Nat.le_refl _) _⟩
theorem number_ok (s : ByteArray) (m : Nat) (w : World) (hd : ∀ k,(h : k < s.size) → 48 ≤ (s[k]).toNat ∧ (s[k]).toNat ≤ 57) (hs : s.size ≤ 281474976710656) (hm : Hid (numV s.data.toList = m)) (h : m ≤ 9999) :
  Calls Tryz.prog 119 #[.string s] w fun e w' => e = .returned (.tuple #[.agg #[.int .i64 2,.string s,.int .i64 m,.int .i64 0],.int .i64 0]) ∧ Below w.heap.size w w':=by
 have HD:=Lib.hid hd; clear hd
 go_enter Tryz.func119,Tryz.ntmps119
 go_wp2_with (first
  | (go_at_call 166; refine (value_any _ _ HD.out).mono ?_; rintro e w1 ⟨n,rfl,n0,n1,n2,_,hb⟩; have hnm : n = (m : Int):=(n2 (by rw [hm.out]; exact h)).trans (by rw [hm.out]); clear n2 n0 n1; subst hnm; have B1:=(Blk4.new w _ _ _ _).below hb (by simp); have hb1:=below_new hb; have hl1:=B1.lt; clear hb)
  | (go_at_call 121; refine (build_any _ _ _ hs).mono ?_; rintro e w2 ⟨rfl,hb2⟩; have B2:=B1.below hb2 hl1; have hb3:=hb1.trans (hb2.mono (Nat.le_of_lt hl1)); have hl2:=B2.lt; clear hb1 B1 hl1 hb2; obtain ⟨⟨c0,c1,c2,c3⟩,f0,f1,f2,f3⟩:=B2.facts))
 refine bodyPost_ret (v:=.tuple #[.agg #[.int .i64 2,.string s,.int .i64 m,.int .i64 0],.int .i64 0]) (by simp [results,Tryz.results119,go_sem,c0,c1,c2,c3,hl2]) rfl ⟨rfl,?_⟩
 exact ((((hb3.setCell (Nat.le_refl _) _).setCell (Nat.le_refl _) _).setCell (Nat.le_refl _) _).setCell (Nat.le_refl _) _).alloc (by simp; omega) _
def sgnN (l : List UInt8) : Nat:=
 if [[61,61],[33,61],[60,61],[38,38],[124,124]].contains (l.take 2) then 2
 else match l with | [] => 0 | c :: _ => if sgn1 (c.toNat : Int) then 1 else 0
def tk : List UInt8 → Nat × Nat × Nat × Nat
 | [] => (3,0,0,0)
 | c :: r => if ltr (c.toNat : Int) then (if 16 < spanN wrd (c :: r) then (2,0,0,0) else (0,1,spanN wrd (c :: r),0))
  else if dig (c.toNat : Int) then (if 9999 < numV ((c :: r).take (spanN dig (c :: r))) then (4,0,0,0) else (0,2,spanN dig (c :: r),numV ((c :: r).take (spanN dig (c :: r)))))
  else if 0 < sgnN (c :: r) then (0,3,sgnN (c :: r),0) else (3,0,0,0)
theorem sgn2_eq (s : ByteArray) : sgn2 s = [[61,61],[33,61],[60,61],[38,38],[124,124]].contains (s.data.toList.take 2):=by
 simp only [sgn2,Lib.extract_toList,List.drop_zero,Nat.sub_zero,List.contains_cons,List.contains_nil,Bool.or_false,Bool.or_assoc]
theorem sgn2_size (s : ByteArray) (h : sgn2 s = true) : 1 < s.size:=by
 have hl : s.size = s.data.toList.length:=Lib.size_eq s
 rcases hs : s.data.toList with _ | ⟨a,_ | ⟨b,r⟩⟩ <;> simp [sgn2_eq,hs] at h hl ⊢; omega
theorem mem_takeWhile (p : UInt8 → Bool) (x : UInt8) : ∀ l : List UInt8,x ∈ l.takeWhile p → p x = true
 | [],h => by simp at h
 | c :: l,h => by
  rcases hc : p c with _ | _
  ·simp [hc] at h
  ·rw [List.takeWhile_cons_of_pos hc,List.mem_cons] at h
   rcases h with rfl | h
   ·exact hc
   ·exact mem_takeWhile p x l h
theorem ext_zero (s : ByteArray) (a : Nat) : (s.extract 0 a).data.toList = s.data.toList.take a:=by
 rw [Lib.extract_data]; simp
theorem head_of (s : ByteArray) (h : 0 < s.size) : ∃ r,s.data.toList = s[0] :: r:=⟨_,drop_at s 0 h⟩
theorem sign_any (s : ByteArray) (w : World) (hz : 0 < s.size) :
  Calls Tryz.prog 120 #[.string s] w fun e w' => e = .returned (.int .i64 (sgnN s.data.toList)) ∧ w = w':=by
 obtain ⟨r,hr⟩:=head_of s hz
 have h2e:=sgn2_eq s
 rcases h2 : sgn2 s with _ | _
 ·have hn : sgnN s.data.toList = if sgn1 (s[0].toNat : Int) then 1 else 0:=by
   rw [h2,hr] at h2e
   rw [hr]
   unfold sgnN
   rw [← h2e]; rfl
  rw [hn]
  by_cases h0 : 1 < s.size
  ·rcases h1 : sgn1 (s[0].toNat : Int) with _ | _
   ·exact sign_no1 s w h0 h2 hz h1
   ·exact sign_one1 s w h0 h2 hz h1
  ·rcases h1 : sgn1 (s[0].toNat : Int) with _ | _
   ·exact sign_no0 s w (by omega) hz h1
   ·exact sign_one0 s w (by omega) hz h1
 ·have hn : sgnN s.data.toList = 2:=by
   unfold sgnN
   rw [← h2e,h2]; rfl
  rw [hn]
  exact sign_two s w (sgn2_size s h2) h2
theorem sgnN_le (l : List UInt8) : sgnN l ≤ l.length:=by
 unfold sgnN
 rcases l with _ | ⟨a,_ | ⟨b,r⟩⟩
 ·simp
 ·simp; split <;> omega
 ·simp only [List.length_cons]; repeat' split
  all_goals omega
def TokBad (k : Nat) (w : World) (e : Ending) (w' : World) : Prop:=e = .returned (.tuple #[.agg #[.int .i64 0,.string ⟨#[]⟩,.int .i64 0,.int .i64 0],.int .i64 k]) ∧ Below w.heap.size w w'
def TokGood (kind n v : Nat) (s : ByteArray) (w : World) (e : Ending) (w' : World) : Prop:=e = .returned (.tuple #[.agg #[.int .i64 kind,.string (s.extract 0 n),.int .i64 v,.int .i64 0],.int .i64 0]) ∧ Below w.heap.size w w'
theorem digits_of (s : ByteArray) : ∀ k,(h : k < (s.extract 0 (spanN dig s.data.toList)).size) → 48 ≤ ((s.extract 0 (spanN dig s.data.toList))[k]).toNat ∧ ((s.extract 0 (spanN dig s.data.toList))[k]).toNat ≤ 57:=by
 intro k h
 have hm : (s.extract 0 (spanN dig s.data.toList))[k] ∈ (s.extract 0 (spanN dig s.data.toList)).data.toList:=by
  rw [Array.mem_toList_iff]; exact Array.getElem_mem (by exact h)
 rw [ext_zero] at hm
 have ht : s.data.toList.take (spanN dig s.data.toList) = s.data.toList.takeWhile fun c => dig (c.toNat : Int):=by
  unfold spanN
  exact (List.prefix_iff_eq_take.1 (List.takeWhile_prefix _)).symm
 rw [ht] at hm
 have:=mem_takeWhile _ _ _ hm
 simp [dig] at this
 omega
theorem token_word_big (s : ByteArray) (w : World) (hz : 0 < s.size) (_hs : s.size ≤ 281474976710656) (h1 : ltr (s[0].toNat : Int) = true) (h2 : 16 < spanN wrd s.data.toList) :
  Calls Tryz.prog 63 #[.string s] w (TokBad 2 w):=by
 obtain ⟨n,hn⟩ : ∃ n,n = spanN wrd s.data.toList:=⟨_,rfl⟩
 have hle : n ≤ s.size:=by rw [hn,Lib.size_eq]; exact spanN_le _ _
 rw [← hn] at h2
 have HN:=Lib.hid hn; clear hn
 have hc:=s[0].toNat_lt
 go_enter Tryz.func63,Tryz.ntmps63
 go_wp2_with (first
  | (go_at_call 114; refine (letter_any _ _).mono ?_; rintro e w1 ⟨rfl,rfl⟩)
  | (go_at_call 118; refine (digit_any _ _).mono ?_; rintro e w1 ⟨rfl,rfl⟩)
  | (go_at_call 116; refine (span_word _ _).mono ?_; rintro e w1 ⟨rfl,hb⟩; rw [← HN.out]; have B1:=(Blk4.new w _ _ _ _).below hb (by simp); have hb1:=below_new hb; have hl1:=B1.lt; clear hb)
  | (go_at_call 115; refine (ident_big _ _ (by simp; omega)).mono ?_; rintro e w2 ⟨rfl,hb2⟩; have B2:=B1.below hb2 hl1; have hb3:=hb1.trans (hb2.mono (Nat.le_of_lt hl1)); clear hb1 B1 hl1 hb2; obtain ⟨⟨c0,c1,c2,c3⟩,f0,f1,f2,f3⟩:=B2.facts))
 refine bodyPost_ret (v:=.tuple #[.agg #[.int .i64 0,.string ⟨#[]⟩,.int .i64 0,.int .i64 0],.int .i64 2]) (by simp [results,Tryz.results63,go_sem,c0,c1,c2,c3]) rfl ⟨rfl,?_⟩
 exact (((hb3.setCell (Nat.le_refl _) _).setCell (Nat.le_refl _) _).setCell (Nat.le_refl _) _).setCell (Nat.le_refl _) _
theorem token_word_ok (s : ByteArray) (w : World) (hz : 0 < s.size) (_hs : s.size ≤ 281474976710656) (h1 : ltr (s[0].toNat : Int) = true) (h2 : spanN wrd s.data.toList ≤ 16) :
  Calls Tryz.prog 63 #[.string s] w (TokGood 1 (spanN wrd s.data.toList) 0 s w):=by
 obtain ⟨n,hn⟩ : ∃ n,n = spanN wrd s.data.toList:=⟨_,rfl⟩
 have hle : n ≤ s.size:=by rw [hn,Lib.size_eq]; exact spanN_le _ _
 rw [← hn] at h2 ⊢
 have HN:=Lib.hid hn; clear hn
 have hc:=s[0].toNat_lt
 go_enter Tryz.func63,Tryz.ntmps63
 go_wp2_with (first
  | (go_at_call 114; refine (letter_any _ _).mono ?_; rintro e w1 ⟨rfl,rfl⟩)
  | (go_at_call 118; refine (digit_any _ _).mono ?_; rintro e w1 ⟨rfl,rfl⟩)
  | (go_at_call 116; refine (span_word _ _).mono ?_; rintro e w1 ⟨rfl,hb⟩; rw [← HN.out]; have B1:=(Blk4.new w _ _ _ _).below hb (by simp); have hb1:=below_new hb; have hl1:=B1.lt; clear hb)
  | (go_at_call 115; refine (ident_ok _ _ (by simp; omega)).mono ?_; rintro e w2 ⟨rfl,hb2⟩; have B2:=B1.below hb2 hl1; have hb3:=hb1.trans (hb2.mono (Nat.le_of_lt hl1)); clear hb1 B1 hl1 hb2; obtain ⟨⟨c0,c1,c2,c3⟩,f0,f1,f2,f3⟩:=B2.facts))
 refine bodyPost_ret (v:=.tuple #[.agg #[.int .i64 1,.string (s.extract 0 n),.int .i64 0,.int .i64 0],.int .i64 0]) (by simp [results,Tryz.results63,go_sem,c0,c1,c2,c3]) rfl ⟨rfl,?_⟩
 exact (((hb3.setCell (Nat.le_refl _) _).setCell (Nat.le_refl _) _).setCell (Nat.le_refl _) _).setCell (Nat.le_refl _) _
theorem token_digit_big (s : ByteArray) (w : World) (hz : 0 < s.size) (_hs : s.size ≤ 281474976710656) (h1 : ltr (s[0].toNat : Int) = false) (h1' : dig (s[0].toNat : Int) = true) (h2 : 9999 < numV (s.data.toList.take (spanN dig s.data.toList))) :
  Calls Tryz.prog 63 #[.string s] w (TokBad 4 w):=by
 obtain ⟨n,hn⟩ : ∃ n,n = spanN dig s.data.toList:=⟨_,rfl⟩
 have hle : n ≤ s.size:=by rw [hn,Lib.size_eq]; exact spanN_le _ _
 have HD : Hid (∀ k,(h : k < (s.extract 0 n).size) → 48 ≤ ((s.extract 0 n)[k]).toNat ∧ ((s.extract 0 n)[k]).toNat ≤ 57):=by
  rw [hn]; exact digits_of s
 have HV : (s.extract 0 n).data.toList = s.data.toList.take n:=ext_zero s n
 rw [← hn,← HV] at h2
 clear HV
 have HN:=Lib.hid hn; clear hn
 have H2:=Lib.hid h2; clear h2
 have hc:=s[0].toNat_lt
 go_enter Tryz.func63,Tryz.ntmps63
 go_wp2_with (first
  | (go_at_call 114; refine (letter_any _ _).mono ?_; rintro e w1 ⟨rfl,rfl⟩)
  | (go_at_call 118; refine (digit_any _ _).mono ?_; rintro e w1 ⟨rfl,rfl⟩)
  | (go_at_call 116; refine (span_digit _ _).mono ?_; rintro e w1 ⟨rfl,hb⟩; rw [← HN.out]; have B1:=(Blk4.new w _ _ _ _).below hb (by simp); have hb1:=below_new hb; have hl1:=B1.lt; clear hb)
  | (go_at_call 119; refine (number_big _ _ HD.out H2.out).mono ?_; rintro e w2 ⟨rfl,hb2⟩; have B2:=B1.below hb2 hl1; have hb3:=hb1.trans (hb2.mono (Nat.le_of_lt hl1)); clear hb1 B1 hl1 hb2; obtain ⟨⟨c0,c1,c2,c3⟩,f0,f1,f2,f3⟩:=B2.facts))
 refine bodyPost_ret (v:=.tuple #[.agg #[.int .i64 0,.string ⟨#[]⟩,.int .i64 0,.int .i64 0],.int .i64 4]) (by simp [results,Tryz.results63,go_sem,c0,c1,c2,c3]) rfl ⟨rfl,?_⟩
 exact (((hb3.setCell (Nat.le_refl _) _).setCell (Nat.le_refl _) _).setCell (Nat.le_refl _) _).setCell (Nat.le_refl _) _
theorem token_digit_ok (s : ByteArray) (w : World) (hz : 0 < s.size) (hs : s.size ≤ 281474976710656) (h1 : ltr (s[0].toNat : Int) = false) (h1' : dig (s[0].toNat : Int) = true) (h2 : numV (s.data.toList.take (spanN dig s.data.toList)) ≤ 9999) :
  Calls Tryz.prog 63 #[.string s] w (TokGood 2 (spanN dig s.data.toList) (numV (s.data.toList.take (spanN dig s.data.toList))) s w):=by
 obtain ⟨n,hn⟩ : ∃ n,n = spanN dig s.data.toList:=⟨_,rfl⟩
 have hle : n ≤ s.size:=by rw [hn,Lib.size_eq]; exact spanN_le _ _
 have HD : Hid (∀ k,(h : k < (s.extract 0 n).size) → 48 ≤ ((s.extract 0 n)[k]).toNat ∧ ((s.extract 0 n)[k]).toNat ≤ 57):=by
  rw [hn]; exact digits_of s
 have HV : (s.extract 0 n).data.toList = s.data.toList.take n:=ext_zero s n
 rw [← hn,← HV] at h2 ⊢
 clear HV
 obtain ⟨m,hm⟩ : ∃ m,numV (s.extract 0 n).data.toList = m:=⟨_,rfl⟩
 rw [hm] at h2 ⊢
 have HM:=Lib.hid hm; clear hm
 have HN:=Lib.hid hn; clear hn
 have hc:=s[0].toNat_lt
 go_enter Tryz.func63,Tryz.ntmps63
 go_wp2_with (first
  | (go_at_call 114; refine (letter_any _ _).mono ?_; rintro e w1 ⟨rfl,rfl⟩)
  | (go_at_call 118; refine (digit_any _ _).mono ?_; rintro e w1 ⟨rfl,rfl⟩)
  | (go_at_call 116; refine (span_digit _ _).mono ?_; rintro e w1 ⟨rfl,hb⟩; rw [← HN.out]; have B1:=(Blk4.new w _ _ _ _).below hb (by simp); have hb1:=below_new hb; have hl1:=B1.lt; clear hb)
  | (go_at_call 119; refine (number_ok _ m _ HD.out (by simp; omega) HM h2).mono ?_; rintro e w2 ⟨rfl,hb2⟩; have B2:=B1.below hb2 hl1; have hb3:=hb1.trans (hb2.mono (Nat.le_of_lt hl1)); clear hb1 B1 hl1 hb2; obtain ⟨⟨c0,c1,c2,c3⟩,f0,f1,f2,f3⟩:=B2.facts))
 refine bodyPost_ret (v:=.tuple #[.agg #[.int .i64 2,.string (s.extract 0 n),.int .i64 m,.int .i64 0],.int .i64 0]) (by simp [results,Tryz.results63,go_sem,c0,c1,c2,c3]) rfl ⟨rfl,?_⟩
 exact (((hb3.setCell (Nat.le_refl _) _).setCell (Nat.le_refl _) _).setCell (Nat.le_refl _) _).setCell (Nat.le_refl _) _
theorem token_sign_ok (s : ByteArray) (w : World) (hz : 0 < s.size) (hs : s.size ≤ 281474976710656) (h1 : ltr (s[0].toNat : Int) = false) (h1' : dig (s[0].toNat : Int) = false) (h2 : 0 < sgnN s.data.toList) :
  Calls Tryz.prog 63 #[.string s] w (TokGood 3 (sgnN s.data.toList) 0 s w):=by
 obtain ⟨n,hn⟩ : ∃ n,n = sgnN s.data.toList:=⟨_,rfl⟩
 have hle : n ≤ s.size:=by rw [hn,Lib.size_eq]; exact sgnN_le _
 rw [← hn] at h2 ⊢
 have HN:=Lib.hid hn; clear hn
 have hc:=s[0].toNat_lt
 go_enter Tryz.func63,Tryz.ntmps63
 go_wp2_with (first
  | (go_at_call 114; refine (letter_any _ _).mono ?_; rintro e w1 ⟨rfl,rfl⟩)
  | (go_at_call 118; refine (digit_any _ _).mono ?_; rintro e w1 ⟨rfl,rfl⟩)
  | (go_at_call 120; refine (sign_any _ _ hz).mono ?_; rintro e w1 ⟨rfl,rfl⟩; rw [← HN.out])
  | (go_at_call 121; refine (build_any _ _ _ (by simp; omega)).mono ?_; rintro e w2 ⟨rfl,hb⟩; have B2:=(Blk4.new w _ _ _ _).below hb (by simp); have hb3:=below_new hb; clear hb; obtain ⟨⟨c0,c1,c2,c3⟩,f0,f1,f2,f3⟩:=B2.facts))
 refine bodyPost_ret (v:=.tuple #[.agg #[.int .i64 3,.string (s.extract 0 n),.int .i64 0,.int .i64 0],.int .i64 0]) (by simp [results,Tryz.results63,go_sem,c0,c1,c2,c3]) rfl ⟨rfl,?_⟩
 exact (((hb3.setCell (Nat.le_refl _) _).setCell (Nat.le_refl _) _).setCell (Nat.le_refl _) _).setCell (Nat.le_refl _) _
theorem token_sign_bad (s : ByteArray) (w : World) (hz : 0 < s.size) (_hs : s.size ≤ 281474976710656) (h1 : ltr (s[0].toNat : Int) = false) (h1' : dig (s[0].toNat : Int) = false) (h2 : ¬ 0 < sgnN s.data.toList) :
  Calls Tryz.prog 63 #[.string s] w (TokBad 3 w):=by
 obtain ⟨n,hn⟩ : ∃ n,n = sgnN s.data.toList:=⟨_,rfl⟩
 have hle : n ≤ s.size:=by rw [hn,Lib.size_eq]; exact sgnN_le _
 rw [← hn] at h2
 have HN:=Lib.hid hn; clear hn
 have hc:=s[0].toNat_lt
 go_enter Tryz.func63,Tryz.ntmps63
 go_wp2_with (first
  | (go_at_call 114; refine (letter_any _ _).mono ?_; rintro e w1 ⟨rfl,rfl⟩)
  | (go_at_call 118; refine (digit_any _ _).mono ?_; rintro e w1 ⟨rfl,rfl⟩)
  | (go_at_call 120; refine (sign_any _ _ hz).mono ?_; rintro e w1 ⟨rfl,rfl⟩; rw [← HN.out]))
 refine bodyPost_ret (v:=.tuple #[.agg #[.int .i64 0,.string ⟨#[]⟩,.int .i64 0,.int .i64 0],.int .i64 3]) (by simp [results,Tryz.results63,go_sem]) rfl ⟨rfl,?_⟩
 exact (Below.refl _ _).alloc (Nat.le_refl _) _
theorem sctoken_any (s : ByteArray) (w : World) (hz : 0 < s.size) (hs : s.size ≤ 281474976710656) :
  ((tk s.data.toList).1 ≠ 0 → Calls Tryz.prog 63 #[.string s] w (TokBad (tk s.data.toList).1 w)) ∧
  ((tk s.data.toList).1 = 0 → Calls Tryz.prog 63 #[.string s] w (TokGood (tk s.data.toList).2.1 (tk s.data.toList).2.2.1 (tk s.data.toList).2.2.2 s w)):=by
 obtain ⟨r,hr⟩:=head_of s hz
 have e : tk s.data.toList = if ltr (s[0].toNat : Int) then (if 16 < spanN wrd s.data.toList then (2,0,0,0) else (0,1,spanN wrd s.data.toList,0))
  else if dig (s[0].toNat : Int) then (if 9999 < numV (s.data.toList.take (spanN dig s.data.toList)) then (4,0,0,0) else (0,2,spanN dig s.data.toList,numV (s.data.toList.take (spanN dig s.data.toList))))
  else if 0 < sgnN s.data.toList then (0,3,sgnN s.data.toList,0) else (3,0,0,0):=by rw [hr]; rfl
 rcases h1 : ltr (s[0].toNat : Int) with _ | _
 ·rcases h2 : dig (s[0].toNat : Int) with _ | _
  ·by_cases h3 : 0 < sgnN s.data.toList
   ·rw [h1,h2,if_pos h3] at e; simp only [e]
    exact ⟨fun h => absurd rfl h,fun _ => token_sign_ok s w hz hs h1 h2 h3⟩
   ·rw [h1,h2,if_neg h3] at e; simp only [e]
    exact ⟨fun _ => token_sign_bad s w hz hs h1 h2 h3,fun h => by cases h⟩
  ·by_cases h3 : 9999 < numV (s.data.toList.take (spanN dig s.data.toList))
   ·rw [h1,h2,if_pos h3] at e; simp only [e]
    exact ⟨fun _ => token_digit_big s w hz hs h1 h2 h3,fun h => by cases h⟩
   ·rw [h1,h2,if_neg h3] at e; simp only [e]
    exact ⟨fun h => absurd rfl h,fun _ => token_digit_ok s w hz hs h1 h2 (by omega)⟩
 ·by_cases h3 : 16 < spanN wrd s.data.toList
  ·rw [h1,if_pos h3] at e; simp only [e]
   exact ⟨fun _ => token_word_big s w hz hs h1 h3,fun h => by cases h⟩
  ·rw [h1,if_neg h3] at e; simp only [e]
   exact ⟨fun h => absurd rfl h,fun _ => token_word_ok s w hz hs h1 (by omega)⟩
abbrev Tok:=Nat × List UInt8 × Nat × Nat
def cellsOf (t : Tok) : List Value:=[.int .i64 t.1,.string ⟨t.2.1.toArray⟩,.int .i64 t.2.2.1,.int .i64 t.2.2.2]
def rowOf (l : List Tok) : List Value:=l.flatMap cellsOf
def blank (c : Int) : Bool:=decide (c = 32 ∨ c = 10 ∨ c = 9 ∨ c = 13)
def noNl (c : Int) : Bool:=decide (c ≠ 10)
def sc : Nat → List UInt8 → Nat → List Tok → List Tok × Nat × Nat
 | 0,_,_,acc => (acc,0,0)
 | _ + 1,[],_,acc => (acc,0,0)
 | f + 1,c :: r,p,acc =>
  if blank (c.toNat : Int) then sc f r (p + 1) acc
  else if (c.toNat : Int) = 35 then sc f ((c :: r).drop (spanN noNl (c :: r))) (p + spanN noNl (c :: r)) acc
  else if (tk (c :: r)).1 ≠ 0 then ([],(tk (c :: r)).1,p)
  else sc f ((c :: r).drop (tk (c :: r)).2.2.1) (p + (tk (c :: r)).2.2.1) (acc ++ [((tk (c :: r)).2.1,(c :: r).take (tk (c :: r)).2.2.1,(tk (c :: r)).2.2.2,p)])
def scanL (l : List UInt8) : List Tok × Nat × Nat:=if 20000 < l.length then ([],2,20000) else sc l.length l 0 []
def ScanAns (B : Nat) (r : List Tok × Nat × Nat) (w : World) (e : Ending) (w' : World) : Prop:=
 ∃ v,e = .returned (.tuple #[v,.int .i64 r.2.1,.int .i64 r.2.2]) ∧ w'.ownsRow B 62 4 v r.1.length (rowOf r.1) ∧ Below w.heap.size w w'
theorem sc_nil (f p : Nat) (acc : List Tok) : sc f [] p acc = (acc,0,0):=by cases f <;> rfl
theorem sc_end (s : ByteArray) (p q f : Nat) (acc : List Tok) (h : ¬ p < s.size) : sc f (s.data.toList.drop p) q acc = (acc,0,0):=by
 rw [List.drop_eq_nil_of_le (by rw [← Lib.size_eq]; omega),sc_nil]
theorem sc_blank (s : ByteArray) (p f : Nat) (acc : List Tok) (h : p < s.size) (hb : blank (s[p].toNat : Int) = true) :
  sc (f + 1) (s.data.toList.drop p) p acc = sc f (s.data.toList.drop (p + 1)) (p + 1) acc:=by
 rw [drop_at s p h,sc,if_pos hb]
theorem sc_hash (s : ByteArray) (p f : Nat) (acc : List Tok) (h : p < s.size) (hb : blank (s[p].toNat : Int) = false) (hc : (s[p].toNat : Int) = 35) :
  sc (f + 1) (s.data.toList.drop p) p acc = sc f (s.data.toList.drop (p + spanN noNl (s.data.toList.drop p))) (p + spanN noNl (s.data.toList.drop p)) acc:=by
 rw [← List.drop_drop]
 conv => lhs; rw [drop_at s p h,sc,if_neg (by rw [hb]; decide),if_pos hc,← drop_at s p h]
theorem sc_bad (s : ByteArray) (p f : Nat) (acc : List Tok) (h : p < s.size) (hb : blank (s[p].toNat : Int) = false) (hc : (s[p].toNat : Int) ≠ 35) (ht : (tk (s.data.toList.drop p)).1 ≠ 0) :
  sc (f + 1) (s.data.toList.drop p) p acc = ([],(tk (s.data.toList.drop p)).1,p):=by
 rw [drop_at s p h] at ht ⊢
 rw [sc,if_neg (by rw [hb]; decide),if_neg hc,if_pos ht]
theorem sc_tok (s : ByteArray) (p f : Nat) (acc : List Tok) (h : p < s.size) (hb : blank (s[p].toNat : Int) = false) (hc : (s[p].toNat : Int) ≠ 35) (ht : (tk (s.data.toList.drop p)).1 = 0) :
  sc (f + 1) (s.data.toList.drop p) p acc = sc f (s.data.toList.drop (p + (tk (s.data.toList.drop p)).2.2.1)) (p + (tk (s.data.toList.drop p)).2.2.1) (acc ++ [((tk (s.data.toList.drop p)).2.1,(s.data.toList.drop p).take (tk (s.data.toList.drop p)).2.2.1,(tk (s.data.toList.drop p)).2.2.2,p)]):=by
 rw [← List.drop_drop]
 rw [drop_at s p h] at ht ⊢
 conv => lhs; rw [sc,if_neg (by rw [hb]; decide),if_neg hc,if_neg (by rw [ht]; decide)]
theorem tk_len (l : List UInt8) (h : (tk l).1 = 0) : 0 < (tk l).2.2.1 ∧ (tk l).2.2.1 ≤ l.length:=by
 cases l with
 | nil => cases h
 | cons c r =>
  have hw:=spanN_le wrd (c :: r)
  have hd:=spanN_le dig (c :: r)
  have hg:=sgnN_le (c :: r)
  have hw1 : ltr (c.toNat : Int) = true → 0 < spanN wrd (c :: r):=fun h => by simp [spanN,wrd,h]
  have hd1 : dig (c.toNat : Int) = true → 0 < spanN dig (c :: r):=fun h => by simp [spanN,h]
  unfold tk at *
  rcases h1 : ltr (c.toNat : Int) with _ | _
  ·rcases h2 : dig (c.toNat : Int) with _ | _
   ·by_cases h3 : 0 < sgnN (c :: r)
    ·simp only [h1,h2,if_pos h3]; simp; exact ⟨h3,by simpa using hg⟩
    ·simp [h1,h2,if_neg h3] at h
   ·by_cases h3 : 9999 < numV ((c :: r).take (spanN dig (c :: r)))
    ·simp [h1,h2,if_pos h3] at h
    ·simp only [h1,h2,if_neg h3]; simp; exact ⟨hd1 h2,by simpa using hd⟩
  ·by_cases h3 : 16 < spanN wrd (c :: r)
   ·simp [h1,if_pos h3] at h
   ·simp only [h1,if_neg h3]; simp; exact ⟨hw1 h1,by simpa using hw⟩
theorem own_below {w w' : World} {B e size n : Nat} {v : Value} {xs : List Value} (h : w.ownsRow B e size v n xs) (hb : Below w.heap.size w w') : w'.ownsRow B e size v n xs:=by
 obtain ⟨h1,h2⟩:=h
 refine ⟨h1,?_⟩
 rcases h2 with h2 | ⟨g,cap,cur,hv,hg,hh,r⟩
 ·exact .inl h2
 ·exact .inr ⟨g,cap,cur,hv,hg,by rw [hb.block g (Array.getElem?_eq_some_iff.1 hh).1]; exact hh,r⟩
theorem cell_four_new (w : World) (a b c d : Value) (t n : Nat) (hn : n = w.heap.size) : ∀ j u,[a,b,c,d][j]? = some u → (w.alloc (.cells #[a,b,c,d] t)).cell? ((⟨n,0,none⟩ : Addr).add j) = some u:=by
 subst hn
 intro j u h
 match j,h with
 | 0,h => simp at h; subst h; simp [Addr.add]
 | 1,h => simp at h; subst h; simp [Addr.add]
 | 2,h => simp at h; subst h; simp [Addr.add]
 | 3,h => simp at h; subst h; simp [Addr.add]
theorem four_oneCell (k v p : Int) (s : ByteArray) : ∀ u ∈ [Value.int .i64 k,.string s,.int .i64 v,.int .i64 p],u.oneCell' = true:=by
 intro u h; simp at h; rcases h with rfl | rfl | rfl | rfl <;> rfl
theorem info29 : (Tryz.prog.info? 62).map (fun i => (i.zero,i.size,i.bytes)) = some (some (.agg #[.int .i64 0,.string ⟨#[]⟩,.int .i64 0,.int .i64 0]),4,40):=by kernel_rfl
theorem token_at (s : ByteArray) (p : Nat) (hlt : p < s.size) (hs : s.size ≤ 20000) :
  ∃ (er k n v : Nat) (t : ByteArray),Hid (tk (s.data.toList.drop p) = (er,k,n,v)) ∧ Hid (t = ⟨((s.data.toList.drop p).take n).toArray⟩) ∧ (er = 0 → t.size = n ∧ 0 < n ∧ n ≤ s.size - p) ∧
   (er ≠ 0 → ∀ w,Calls Tryz.prog 63 #[.string (s.extract p s.size)] w (TokBad er w)) ∧
   (er = 0 → ∀ w,Calls Tryz.prog 63 #[.string (s.extract p s.size)] w fun e w' => e = .returned (.tuple #[.agg #[.int .i64 k,.string t,.int .i64 v,.int .i64 0],.int .i64 0]) ∧ Below w.heap.size w w'):=by
 have hd : (s.extract p s.size).data.toList = s.data.toList.drop p:=Lib.extract_to_end s p
 have hz : (s.extract p s.size).size = s.size - p:=by simp
 obtain ⟨⟨er,k,n,v⟩,hT⟩ : ∃ T,tk (s.data.toList.drop p) = T:=⟨_,rfl⟩
 have hl:=tk_len (s.data.toList.drop p)
 rw [hT] at hl
 simp only [List.length_drop,← Lib.size_eq] at hl
 have hx : (s.extract p s.size).extract 0 n = ⟨((s.data.toList.drop p).take n).toArray⟩:=by
  rw [Lib.extract_eq,hd]; simp
 refine ⟨er,k,n,v,(s.extract p s.size).extract 0 n,hT,hx,?_,?_,?_⟩
 ·intro h
  have:=hl h
  refine ⟨?_,this⟩
  simp; omega
 ·intro h w
  have:=(sctoken_any (s.extract p s.size) w (by omega) (by omega)).1
  rw [hd,hT] at this
  exact this h
 ·intro h w
  have:=(sctoken_any (s.extract p s.size) w (by omega) (by omega)).2
  rw [hd,hT] at this
  exact this h
theorem scan_big (s : ByteArray) (w : World) (h : 20000 < s.size) (hs : s.size ≤ maxLen) :
  Calls Tryz.prog 20 #[.string s] w (ScanAns w.heap.size (scanL s.data.toList) w):=by
 have hR : scanL s.data.toList = ([],2,20000):=by unfold scanL; rw [if_pos (by rw [← Lib.size_eq]; exact h)]
 rw [hR]; clear hR
 unfold maxLen at hs
 go_enter Tryz.func20,Tryz.ntmps20
 go_wp2; go_step3
 go_wp2
 rw [Exit.noGoto_ret]
 go_ret3
 exact ⟨_,rfl,World.ownsRow_nil _ _ _ _,Below.refl _ _⟩
theorem scan_small (s : ByteArray) (w : World) (h : s.size ≤ 20000) :
  Calls Tryz.prog 20 #[.string s] w (ScanAns w.heap.size (scanL s.data.toList) w):=by
 obtain ⟨R,hR⟩ : ∃ R,scanL s.data.toList = R:=⟨_,rfl⟩
 have hR':=hR
 unfold scanL at hR'
 rw [if_neg (by rw [← Lib.size_eq]; omega),← Lib.size_eq] at hR'
 rw [hR]; clear hR
 have HR:=Lib.hid hR'; clear hR'
 go_enter Tryz.func20,Tryz.ntmps20
 go_wp2; go_step3
 go_wp2; go_step3
 go_wp2
 go_loopg [5,6] s.size (fun fuel v at' wr => ∃ (p : Nat) (acc : List Tok),p ≤ s.size ∧ at' = .int .i64 p ∧ s.size - p ≤ fuel ∧ sc fuel (s.data.toList.drop p) p acc = R ∧ wr.ownsRow w.heap.size 62 4 v acc.length (rowOf acc) ∧ Below w.heap.size w wr ∧ acc.length ≤ p)
 case atStart => exact ⟨0,[],Nat.zero_le _,rfl,by omega,HR.out,World.ownsRow_nil _ _ _ _,Below.refl _ _,Nat.le_refl _⟩
 case round =>
  obtain ⟨p,acc,hp,rfl,hf,hsc,hown,hbw,hal⟩:=hrel
  have HS:=Lib.hid hsc; clear hsc
  by_cases hlt : p < s.size
  ·obtain ⟨f,rfl⟩ : ∃ f,gk = f + 1:=⟨gk - 1,by omega⟩
   rcases hb : blank (s[p].toNat : Int) with _ | _
   ·have hb':=hb
    simp only [blank,decide_eq_false_iff_not,not_or] at hb'
    obtain ⟨b0,b1,b2,b3⟩:=hb'
    have q0 : ((s[p].toNat : Int) == 32) = false:=(by simpa using b0)
    have q1 : ((s[p].toNat : Int) == 10) = false:=(by simpa using b1)
    have q2 : ((s[p].toNat : Int) == 9) = false:=(by simpa using b2)
    have q3 : ((s[p].toNat : Int) == 13) = false:=(by simpa using b3)
    by_cases h35 : (s[p].toNat : Int) = 35
    ·have HS':=Lib.hid ((sc_hash s p f acc hlt hb h35).symm.trans HS.out)
     have H1:=Lib.hid (spanN_yes noNl s p hlt (by rw [h35]; decide))
     have q4 : ((s[p].toNat : Int) == 35) = true:=(by simp [h35])
     clear hb b0 b1 b2 b3 h35 HS
     obtain ⟨wo,rfl⟩ : ∃ wo : World,wo = wr:=⟨_,rfl⟩
     obtain ⟨go,rfl⟩ : ∃ go : Nat,go = f:=⟨_,rfl⟩
     go_wp2
     go_loopg [6] (s.size - p) (fun m at' w2 => ∃ q : Nat,p ≤ q ∧ q ≤ s.size ∧ at' = .int .i64 q ∧ s.size - q ≤ m ∧ spanN noNl (s.data.toList.drop p) = (q - p) + spanN noNl (s.data.toList.drop q) ∧ w2 = wo)
     case atStart => exact ⟨p,Nat.le_refl _,by omega,rfl,by omega,by omega,rfl⟩
     case round =>
      obtain ⟨q,hpq,hq,rfl,hm,hsp,rfl⟩:=hrel
      have HSP:=Lib.hid hsp; clear hsp
      by_cases hlq : q < s.size
      ·by_cases h10 : (s[q].toNat : Int) = 10
       ·have HN:=Lib.hid (spanN_no noNl s q hlq (by rw [h10]; decide))
        have q5 : ((s[q].toNat : Int) == 10) = true:=(by simp [h10])
        clear h10
        go_wp2
        go_roundg go
        case measure => omega
        case rel =>
         have e:=HSP.out
         have e1:=HN.out
         have e2:=H1.out
         have e3 : p + spanN noNl (s.data.toList.drop p) = q:=by omega
         exact ⟨q,acc,hq,rfl,by omega,by rw [← HS'.out,e3],hown,hbw,by omega⟩
       ·have HN:=Lib.hid (spanN_yes noNl s q hlq (by simpa [noNl] using h10))
        have q5 : ((s[q].toNat : Int) == 10) = false:=(by simpa using h10)
        clear h10
        go_wp2
        go_roundg (gk - 1)
        case measure => omega
        case rel =>
         have e:=HSP.out
         have e1:=HN.out
         exact ⟨q + 1,by omega,by omega,by go_num,by omega,by omega,rfl⟩
      ·have HN:=Lib.hid (spanN_end noNl s q hlq)
       go_wp2
       rw [Exit.noGoto_ret]
       go_ret3
       have hR : R = (acc,0,0):=by
        rw [← HS'.out,sc_end]
        have e:=HSP.out
        have e1:=HN.out
        omega
       rw [hR]
       exact ⟨_,rfl,hown,hbw⟩
    ·have q4 : ((s[p].toNat : Int) == 35) = false:=(by simpa using h35)
     obtain ⟨er,k,n,v,tx,HT,HX,hnn,hbad,hgood⟩:=token_at s p hlt h
     by_cases her : er = 0
     ·subst her
      obtain ⟨hn0,hn1,hn2⟩:=hnn rfl
      have hsc:=sc_tok s p f acc hlt hb h35 (by rw [HT.out])
      rw [HT.out,HS.out] at hsc
      have HR':=Lib.hid hsc
      have HC:=hgood rfl
      obtain ⟨i0,hi,hz0,hz1,hz2⟩:=info_parts info29
      clear hb b0 b1 b2 b3 h35 HS hnn hbad hgood hsc HT
      go_wp2_with (first
       | (go_at_call 63; refine (HC _).mono ?_; rintro e w1 ⟨rfl,hb1⟩; have hown1:=own_below hown hb1; have hbw1:=hbw.trans (hb1.mono hbw.size); have hz:=hbw1.size; clear hown hbw hb1)
       | (at_builtin; refine wpList_append_own _ rfl (.tmp 56) (.tmp 58) 50 rfl w.heap.size 62 i0 (.agg #[.int .i64 0,.string ⟨#[]⟩,.int .i64 0,.int .i64 0]) 4 40 Tryz.underlying50 hi hz0 hz1 hz2 rfl (by decide) _ _ _ rfl ((hown1.alloc _).alloc _) ⟨w1.heap.size + 1,0,none⟩ 1 1 [.int .i64 k,.string tx,.int .i64 v,.int .i64 p] ?hx rfl ?c1 ?c2 ?c3 ?c4 ?c5 ?_; rotate_right; intro v' w2 hown2 hgrow _))
      case hx => rfl
      case c1 => exact cell_four_new _ _ _ _ _ _ _ (by simp)
      case c2 => exact four_oneCell _ _ _ _
      case c3 => unfold maxLen; omega
      case c4 => omega
      case c5 => simp; omega
      go_roundg f
      case measure => omega
      case rel =>
       have hr : rowOf (acc ++ [(k,List.take n (List.drop p s.data.toList),v,p)]) = rowOf acc ++ [.int .i64 k,.string tx,.int .i64 v,.int .i64 p]:=by
        rw [HX.out]; simp [rowOf,cellsOf]
       refine ⟨p + n,acc ++ [(k,List.take n (List.drop p s.data.toList),v,p)],by omega,by go_num,by omega,HR'.out.symm,?_,?_,by simp; omega⟩
       ·rw [hr,List.length_append]; exact hown2
       ·exact ((hbw1.alloc hz _).alloc (by simp; omega) _).grown hgrow (by simp; omega) (fun k hk => (hown1.lt k hk).1)
     ·have HC:=hbad her
      have hsc:=sc_bad s p f acc hlt hb h35 (by rw [HT.out]; exact her)
      rw [HT.out,HS.out] at hsc
      have HR':=Lib.hid hsc
      have hne : ((er : Int) == 0) = false:=(by simp [her])
      clear hb b0 b1 b2 b3 h35 HS hnn hbad hgood hsc her HT HX
      go_wp2_with (go_at_call 63; refine (HC _).mono ?_; rintro e w1 ⟨rfl,hb1⟩)
      rw [Exit.noGoto_ret]
      go_ret3
      rw [HR'.out]
      have hb2:=hbw.trans (hb1.mono hbw.size)
      exact ⟨_,rfl,World.ownsRow_nil _ _ _ _,hb2.alloc hb2.size _⟩
   ·have HS':=Lib.hid ((sc_blank s p f acc hlt hb).symm.trans HS.out)
    have hb':=hb
    simp only [blank,decide_eq_true_eq] at hb'
    clear hb HS
    rcases hb' with hq | hq | hq | hq
    ·have q0 : ((s[p].toNat : Int) == 32) = true:=(by simp [hq])
     clear hq
     go_wp2
     go_roundg f
     case measure => omega
     case rel => exact ⟨p + 1,acc,by omega,by go_num,by omega,HS'.out,hown,hbw,by omega⟩
    ·have q0 : ((s[p].toNat : Int) == 32) = false:=(by simp [hq])
     have q1 : ((s[p].toNat : Int) == 10) = true:=(by simp [hq])
     clear hq
     go_wp2
     go_roundg f
     case measure => omega
     case rel => exact ⟨p + 1,acc,by omega,by go_num,by omega,HS'.out,hown,hbw,by omega⟩
    ·have q0 : ((s[p].toNat : Int) == 32) = false:=(by simp [hq])
     have q1 : ((s[p].toNat : Int) == 10) = false:=(by simp [hq])
     have q2 : ((s[p].toNat : Int) == 9) = true:=(by simp [hq])
     clear hq
     go_wp2
     go_roundg f
     case measure => omega
     case rel => exact ⟨p + 1,acc,by omega,by go_num,by omega,HS'.out,hown,hbw,by omega⟩
    ·have q0 : ((s[p].toNat : Int) == 32) = false:=(by simp [hq])
     have q1 : ((s[p].toNat : Int) == 10) = false:=(by simp [hq])
     have q2 : ((s[p].toNat : Int) == 9) = false:=(by simp [hq])
     have q3 : ((s[p].toNat : Int) == 13) = true:=(by simp [hq])
     clear hq
     go_wp2
     go_roundg f
     case measure => omega
     case rel => exact ⟨p + 1,acc,by omega,by go_num,by omega,HS'.out,hown,hbw,by omega⟩
  ·have HE:=Lib.hid (sc_end s p p gk acc hlt)
   go_wp2
   rw [Exit.noGoto_ret]
   go_ret3
   have hR : R = (acc,0,0):=by rw [← HS.out,HE.out]
   rw [hR]
   exact ⟨_,rfl,hown,hbw⟩
theorem scan_any (s : ByteArray) (w : World) (hs : s.size ≤ maxLen) :
  Calls Tryz.prog 20 #[.string s] w (ScanAns w.heap.size (scanL s.data.toList) w):=by
 by_cases h : 20000 < s.size
 ·exact scan_big s w h hs
 ·exact scan_small s w (by omega)
def allW (l : List UInt8) : Bool:=l.all fun c => wrd (c.toNat : Int)
def headL : List UInt8 → Bool | [] => false | c :: _ => ltr (c.toNat : Int)
def nameB (s : ByteArray) : Bool:=decide (0 < s.size ∧ s.size ≤ 16) && (!kw s && (headL s.data.toList && allW s.data.toList))
theorem spanN_all (l : List UInt8) : decide ((spanN wrd l : Int) = (l.length : Int)) = allW l:=by
 unfold spanN allW
 induction l with
 | nil => rfl
 | cons c r ih =>
  rcases h : wrd (c.toNat : Int) with _ | _
  ·simp [h]; omega
  ·simp only [List.takeWhile_cons,h,if_true,List.length_cons,List.all_cons,Bool.true_and]
   rw [← ih]; congr 1; simp
theorem nameB_zero (s : ByteArray) (h : s.size = 0) : nameB s = false:=by simp [nameB,h]
theorem nameB_big (s : ByteArray) (h : 16 < s.size) : nameB s = false:=by simp [nameB]; omega
theorem nameB_kw (s : ByteArray) (h : kw s = true) : nameB s = false:=by simp [nameB,h]
theorem headL_at (s : ByteArray) (hz : 0 < s.size) : headL s.data.toList = ltr (s[0].toNat : Int):=by
 obtain ⟨r,hr⟩:=head_of s hz
 rw [hr]; rfl
theorem nameB_head (s : ByteArray) (hz : 0 < s.size) (h : ltr (s[0].toNat : Int) = false) : nameB s = false:=by
 simp [nameB,headL_at s hz,h]
theorem nameB_rest (s : ByteArray) (hz : 0 < s.size) (h16 : s.size ≤ 16) (hk : kw s = false) (h : ltr (s[0].toNat : Int) = true) : nameB s = allW s.data.toList:=by
 simp [nameB,headL_at s hz,h,hk,hz,h16]
theorem name_any (s : ByteArray) (w : World) (hs : s.size ≤ maxLen) :
  Calls Tryz.prog 90 #[.string s] w fun e w' => e = .returned (.bool (nameB s)) ∧ Below w.heap.size w w':=by
 unfold maxLen at hs
 by_cases hz : 0 < s.size
 ·have e0 : s.toList ≠ []:=by
   rw [Lib.toList_data]; intro h
   have:=Lib.size_eq s
   rw [h] at this; have h0 : s.size = 0:=this; omega
  have e1 : (!s.toList.isEmpty) = true:=by simpa using e0
  have e2 : s.toList.isEmpty = false:=by simpa using e0
  have hc:=s[0].toNat_lt
  by_cases h16 : 16 < s.size
  ·rw [nameB_big s h16]
   go_enter Tryz.func90,Tryz.ntmps90
   go_wp2
   go_ret
   exact ⟨rfl,Below.refl _ _⟩
  ·rcases hk : kw s with _ | _
   ·rcases hl : ltr (s[0].toNat : Int) with _ | _
    ·rw [nameB_head s hz hl]
     go_enter Tryz.func90,Tryz.ntmps90
     go_wp2_with (first
      | (go_at_call 135; refine (keyword_no _ _ hk).mono ?_; rintro e w1 ⟨rfl,rfl⟩)
      | (go_at_call 114; refine (letter_any _ _).mono ?_; rintro e w1 ⟨rfl,rfl⟩))
     go_ret
     exact ⟨rfl,Below.refl _ _⟩
    ·rw [nameB_rest s hz (by omega) hk hl]
     have HA:=Lib.hid (spanN_all s.data.toList)
     have HL:=Lib.hid (Lib.size_eq s)
     go_enter Tryz.func90,Tryz.ntmps90
     go_wp2_with (first
      | (go_at_call 135; refine (keyword_no _ _ hk).mono ?_; rintro e w1 ⟨rfl,rfl⟩)
      | (go_at_call 114; refine (letter_any _ _).mono ?_; rintro e w1 ⟨rfl,rfl⟩)
      | (go_at_call 116; refine (span_word _ _).mono ?_; rintro e w1 ⟨rfl,hb⟩))
     go_ret
     exact ⟨ret_bool (by rw [← HA.out,← HL.out,Bool.eq_iff_iff]; simp),hb⟩
   ·rw [nameB_kw s hk]
    go_enter Tryz.func90,Tryz.ntmps90
    go_wp2_with (go_at_call 135; refine (keyword_yes _ _ hk).mono ?_; rintro e w1 ⟨rfl,rfl⟩)
    go_ret
    exact ⟨rfl,Below.refl _ _⟩
 ·have hz' : s.size = 0:=by omega
  obtain rfl : s = ⟨#[]⟩:=ByteArray.ext (Array.eq_empty_of_size_eq_zero hz')
  rw [nameB_zero _ rfl]
  go_enter Tryz.func90,Tryz.ntmps90
  go_wp2
  go_ret
  exact ⟨rfl,Below.refl _ _⟩
end Go.Proofs.YtcghccjnadagcaaGreatDoor
