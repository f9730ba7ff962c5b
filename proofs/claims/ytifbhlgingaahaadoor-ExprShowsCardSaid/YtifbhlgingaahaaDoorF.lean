/- What the reference's letter, digit, words, signs and Keyword do. -/
import Derived.Test.YtifbhlgingaahaaDoorE
namespace Go.Proofs.YtifbhlgingaahaaDoor
open Go.RowKit

set_option maxHeartbeats 400000 in
theorem rletter_any (c : Int) (w : World) :
    Calls Tryd.prog 49 #[.int .u8 c] w fun e w' => e = .returned (.bool (ltr c)) ∧ w = w' := by
  go_enter Tryd.func49, Tryd.ntmps49
  go_wp2
  all_goals
    go_ret
    exact ⟨ret_bool (by rw [Bool.eq_iff_iff]; simp [ltr]; omega), rfl⟩

set_option maxHeartbeats 400000 in
theorem rdigit_any (c : Int) (w : World) :
    Calls Tryd.prog 51 #[.int .u8 c] w fun e w' => e = .returned (.bool (dig c)) ∧ w = w' := by
  go_enter Tryd.func51, Tryd.ntmps51
  go_wp2
  all_goals
    go_ret
    exact ⟨ret_bool (by rw [Bool.eq_iff_iff]; simp [dig]; omega), rfl⟩

def wordsB : List (List UInt8) := [[109, 111, 100], [108, 111, 99], [116, 104, 114, 101, 97, 100], [114, 101, 103], [115, 107, 105, 112], [115, 101, 116], [108, 111, 97, 100], [115, 116, 111, 114, 101], [99, 97, 115], [102, 97, 100, 100], [120, 99, 104, 103], [102, 101, 110, 99, 101], [97, 119, 97, 105, 116], [105, 102], [101, 108, 115, 101], [119, 104, 105, 108, 101], [108, 111, 111, 112], [98, 114, 101, 97, 107], [102, 111, 114, 97, 108, 108], [101, 120, 105, 115, 116, 115], [97, 108, 119, 97, 121, 115]]
def signsB : List (List UInt8) := [[61, 61], [33, 61], [60, 61], [38, 38], [124, 124], [59], [44], [123], [125], [40], [41], [46], [61], [43], [45], [42], [33], [60]]
def cellsS (l : List (List UInt8)) : Array Value := (l.map fun x => Value.string ⟨x.toArray⟩).toArray

set_option maxHeartbeats 400000 in
theorem words_any (w : World) :
    Calls Tryd.prog 58 #[] w fun e w' => e = .returned (.slice (some ⟨w.heap.size, 0, none⟩) 21 21) ∧ w' = w.alloc (.cells (cellsS wordsB) 9) := by
  go_enter Tryd.func58, Tryd.ntmps58
  go_wp2
  go_ret
  exact ⟨rfl, rfl⟩

set_option maxHeartbeats 400000 in
theorem signs_any (w : World) :
    Calls Tryd.prog 53 #[] w fun e w' => e = .returned (.slice (some ⟨w.heap.size, 0, none⟩) 18 18) ∧ w' = w.alloc (.cells (cellsS signsB) 9) := by
  go_enter Tryd.func53, Tryd.ntmps53
  go_wp2
  go_ret
  exact ⟨rfl, rfl⟩

theorem cellsS_at (w : World) (l : List (List UInt8)) (k : Nat) (h : k < l.length) : (w.alloc (.cells (cellsS l) 9)).cell? ⟨w.heap.size, k, none⟩ = some (.string ⟨(l[k]).toArray⟩) := by
  simp [cellsS, h]

theorem kw_mem (s : ByteArray) : kw s = wordsB.contains s.data.toList := by
  simp only [kw, Lib.toList_data, wordsB, List.contains_cons, List.contains_nil, Bool.or_false, Bool.or_assoc]

set_option maxHeartbeats 1000000 in
theorem rkeyword_any (s : ByteArray) (w : World) :
    Calls Tryd.prog 50 #[.string s] w fun e w' => e = .returned (.bool (kw s)) ∧ Below w.heap.size w w' := by
  have HK := Lib.hid (kw_mem s)
  go_enter Tryd.func50, Tryd.ntmps50
  go_wp2_with (go_at_call 58; refine (words_any _).mono ?_; rintro e w1 ⟨rfl, rfl⟩)
  go_loop [4] (fun i => ∃ k : Nat, k ≤ 21 ∧ i = .int .i64 k ∧ wordsB.contains s.data.toList = (wordsB.drop k).contains s.data.toList) (fun i => 21 - (intOf i).toNat)
  case atStart => exact ⟨0, by omega, rfl, rfl⟩
  case round =>
    obtain ⟨k, hk, rfl, hc⟩ := hrel
    have HC := Lib.hid hc; clear hc
    by_cases hlt : k < 21
    · have hlt' : k < wordsB.length := hlt
      have hcell := cellsS_at w wordsB k hlt'
      have hdr := List.drop_eq_getElem_cons hlt'
      obtain ⟨x, hx⟩ : ∃ x : ByteArray, x = ⟨(wordsB[k]).toArray⟩ := ⟨_, rfl⟩
      rw [← hx] at hcell
      have hxl : x.toList = wordsB[k] := by rw [Lib.toList_data, hx]
      rw [← hxl] at hdr
      have HD := Lib.hid hdr
      clear hdr hx hxl hlt'
      rcases hq : (x.toList == s.toList) with _ | _
      · go_wp2
        go_round
        case rel =>
          refine ⟨k + 1, by omega, by go_num, ?_⟩
          rw [HC.out, HD.out, List.contains_cons]
          rw [Lib.toList_data s] at hq
          have : (s.data.toList == x.toList) = false := by rw [BEq.comm]; exact hq
          rw [this, Bool.false_or]
        case measure => simp [intOf]; omega
      · go_wp2
        go_ret
        refine ⟨ret_bool ?_, ?_⟩
        · rw [HK.out, HC.out, HD.out, List.contains_cons]
          rw [Lib.toList_data s] at hq
          have : (s.data.toList == x.toList) = true := by rw [BEq.comm]; exact hq
          rw [this, Bool.true_or]
        · exact (Below.refl _ _).alloc (Nat.le_refl _) _
    · obtain rfl : k = 21 := by omega
      go_wp2
      go_ret
      exact ⟨ret_bool (by rw [HK.out, HC.out]; rfl), (Below.refl _ _).alloc (Nat.le_refl _) _⟩

end Go.Proofs.YtifbhlgingaahaaDoor
