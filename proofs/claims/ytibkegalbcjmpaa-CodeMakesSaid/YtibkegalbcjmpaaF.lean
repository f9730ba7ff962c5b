/- What the reference's letter, digit, words, signs and Keyword do. -/
import Derived.Test.YtibkegalbcjmpaaE
namespace Go.Proofs.Ytibkegalbcjmpaa
open Go.RowKit

set_option maxHeartbeats 400000 in
theorem rletter_any (c : Int) (w : World) :
    Calls Try.prog 86 #[.int .u8 c] w fun e w' => e = .returned (.bool (ltr c)) ∧ w = w' := by
  go_enter Try.func86, Try.ntmps86
  go_wp2
  all_goals
    go_ret
    exact ⟨ret_bool (by rw [Bool.eq_iff_iff]; simp [ltr]; omega), rfl⟩

set_option maxHeartbeats 400000 in
theorem rdigit_any (c : Int) (w : World) :
    Calls Try.prog 88 #[.int .u8 c] w fun e w' => e = .returned (.bool (dig c)) ∧ w = w' := by
  go_enter Try.func88, Try.ntmps88
  go_wp2
  all_goals
    go_ret
    exact ⟨ret_bool (by rw [Bool.eq_iff_iff]; simp [dig]; omega), rfl⟩

def wordsB : List (List UInt8) := [[109, 111, 100], [108, 111, 99], [116, 104, 114, 101, 97, 100], [114, 101, 103], [115, 107, 105, 112], [115, 101, 116], [108, 111, 97, 100], [115, 116, 111, 114, 101], [99, 97, 115], [102, 97, 100, 100], [120, 99, 104, 103], [102, 101, 110, 99, 101], [97, 119, 97, 105, 116], [105, 102], [101, 108, 115, 101], [119, 104, 105, 108, 101], [108, 111, 111, 112], [98, 114, 101, 97, 107], [102, 111, 114, 97, 108, 108], [101, 120, 105, 115, 116, 115], [97, 108, 119, 97, 121, 115]]
def signsB : List (List UInt8) := [[61, 61], [33, 61], [60, 61], [38, 38], [124, 124], [59], [44], [123], [125], [40], [41], [46], [61], [43], [45], [42], [33], [60]]
def cellsS (l : List (List UInt8)) : Array Value := (l.map fun x => Value.string ⟨x.toArray⟩).toArray

set_option maxHeartbeats 400000 in
theorem words_any (w : World) :
    Calls Try.prog 93 #[] w fun e w' => e = .returned (.slice (some ⟨w.heap.size, 0, none⟩) 21 21) ∧ w' = w.alloc (.cells (cellsS wordsB) 9) := by
  go_enter Try.func93, Try.ntmps93
  go_wp2
  go_ret
  exact ⟨rfl, rfl⟩

theorem cellsS_at (w : World) (l : List (List UInt8)) (k : Nat) (h : k < l.length) : (w.alloc (.cells (cellsS l) 9)).cell? ⟨w.heap.size, k, none⟩ = some (.string ⟨(l[k]).toArray⟩) := by
  simp [cellsS, h]

theorem kw_mem (s : ByteArray) : kw s = wordsB.contains s.data.toList := by
  simp only [kw, Lib.toList_data, wordsB, List.contains_cons, List.contains_nil, Bool.or_false, Bool.or_assoc]

set_option maxHeartbeats 1000000 in
theorem rkeyword_any (s : ByteArray) (w : World) :
    Calls Try.prog 87 #[.string s] w fun e w' => e = .returned (.bool (kw s)) ∧ Below w.heap.size w w' := by
  have HK := Lib.hid (kw_mem s)
  go_enter Try.func87, Try.ntmps87
  go_wp2_with (go_at_call 93; refine (words_any _).mono ?_; rintro e w1 ⟨rfl, rfl⟩)
  go_loop [4] (fun i => ∃ k : Nat, k ≤ 21 ∧ i = .int .i64 k ∧ wordsB.contains s.data.toList = (wordsB.drop k).contains s.data.toList) (fun i => 21 - (intOf i).toNat)
  case atStart => exact ⟨0, by omega, rfl, rfl⟩
  case round =>
    obtain ⟨k, hk, rfl, hc⟩ := hrel
    have HC := Lib.hid hc; clear hc
    by_cases hlt : k < 21
    · have hlt' : k < wordsB.length := hlt
      have hcell := cellsS_at w wordsB k hlt'
      have hdr := List.drop_eq_getElem_cons hlt'
      obtain ⟨x, hx⟩ : ∃ x : ByteArray, x = ⟨(wordsB[k]).toArray⟩ := ⟨_, rfl⟩
      rw [← hx] at hcell
      have hxl : x.toList = wordsB[k] := by rw [Lib.toList_data, hx]
      rw [← hxl] at hdr
      have HD := Lib.hid hdr
      clear hdr hx hxl hlt'
      rcases hq : (x.toList == s.toList) with _ | _
      · go_wp2
        go_round
        case rel =>
          refine ⟨k + 1, by omega, by go_num, ?_⟩
          rw [HC.out, HD.out, List.contains_cons]
          rw [Lib.toList_data s] at hq
          have : (s.data.toList == x.toList) = false := by rw [BEq.comm]; exact hq
          rw [this, Bool.false_or]
        case measure => simp [intOf]; omega
      · go_wp2
        go_ret
        refine ⟨ret_bool ?_, ?_⟩
        · rw [HK.out, HC.out, HD.out, List.contains_cons]
          rw [Lib.toList_data s] at hq
          have : (s.data.toList == x.toList) = true := by rw [BEq.comm]; exact hq
          rw [this, Bool.true_or]
        · exact (Below.refl _ _).alloc (Nat.le_refl _) _
    · obtain rfl : k = 21 := by omega
      go_wp2
      go_ret
      exact ⟨ret_bool (by rw [HK.out, HC.out]; rfl), (Below.refl _ _).alloc (Nat.le_refl _) _⟩

end Go.Proofs.Ytibkegalbcjmpaa

namespace Go.Proofs.Ytibkegalbcjmpaa
open Go.RowKit

def allW (l : List UInt8) : Bool := l.all fun c => wrd (c.toNat : Int)
def headL : List UInt8 → Bool | [] => false | c :: _ => ltr (c.toNat : Int)
/-- Whether a text is a name. -/
def nameB (s : ByteArray) : Bool := decide (0 < s.size ∧ s.size ≤ 16) && (!kw s && (headL s.data.toList && allW s.data.toList))

theorem spanN_all (l : List UInt8) : decide ((spanN wrd l : Int) = (l.length : Int)) = allW l := by
  unfold spanN allW
  induction l with
  | nil => rfl
  | cons c r ih =>
    rcases h : wrd (c.toNat : Int) with _ | _
    · simp [h]; omega
    · simp only [List.takeWhile_cons, h, if_true, List.length_cons, List.all_cons, Bool.true_and]
      rw [← ih]; congr 1; simp

theorem nameB_zero (s : ByteArray) (h : s.size = 0) : nameB s = false := by simp [nameB, h]
theorem nameB_big (s : ByteArray) (h : 16 < s.size) : nameB s = false := by simp [nameB]; omega
theorem nameB_kw (s : ByteArray) (h : kw s = true) : nameB s = false := by simp [nameB, h]
theorem headL_at (s : ByteArray) (hz : 0 < s.size) : headL s.data.toList = ltr (s[0].toNat : Int) := by
  obtain ⟨r, hr⟩ := head_of s hz
  rw [hr]; rfl
theorem nameB_head (s : ByteArray) (hz : 0 < s.size) (h : ltr (s[0].toNat : Int) = false) : nameB s = false := by
  simp [nameB, headL_at s hz, h]
theorem nameB_rest (s : ByteArray) (hz : 0 < s.size) (h16 : s.size ≤ 16) (hk : kw s = false) (h : ltr (s[0].toNat : Int) = true) : nameB s = allW s.data.toList := by
  simp [nameB, headL_at s hz, h, hk, hz, h16]

set_option maxHeartbeats 1000000 in
theorem name_any (s : ByteArray) (w : World) (hs : s.size ≤ maxLen) :
    Calls Try.prog 85 #[.string s] w fun e w' => e = .returned (.bool (nameB s)) ∧ Below w.heap.size w w' := by
  unfold maxLen at hs
  by_cases hz : 0 < s.size
  · have e0 : s.toList ≠ [] := by
      rw [Lib.toList_data]; intro h
      have := Lib.size_eq s
      rw [h] at this; have h0 : s.size = 0 := this; omega
    have e1 : (!s.toList.isEmpty) = true := by simpa using e0
    have e2 : s.toList.isEmpty = false := by simpa using e0
    have hc := s[0].toNat_lt
    by_cases h16 : 16 < s.size
    · rw [nameB_big s h16]
      go_enter Try.func85, Try.ntmps85
      go_wp2
      go_ret
      exact ⟨rfl, Below.refl _ _⟩
    · rcases hk : kw s with _ | _
      · rcases hl : ltr (s[0].toNat : Int) with _ | _
        · rw [nameB_head s hz hl]
          go_enter Try.func85, Try.ntmps85
          go_wp2_with (first
            | (go_at_call 89; refine (keyword_no _ _ hk).mono ?_; rintro e w1 ⟨rfl, rfl⟩)
            | (go_at_call 90; refine (letter_any _ _).mono ?_; rintro e w1 ⟨rfl, rfl⟩))
          go_ret
          exact ⟨rfl, Below.refl _ _⟩
        · rw [nameB_rest s hz (by omega) hk hl]
          have HA := Lib.hid (spanN_all s.data.toList)
          have HL := Lib.hid (Lib.size_eq s)
          go_enter Try.func85, Try.ntmps85
          go_wp2_with (first
            | (go_at_call 89; refine (keyword_no _ _ hk).mono ?_; rintro e w1 ⟨rfl, rfl⟩)
            | (go_at_call 90; refine (letter_any _ _).mono ?_; rintro e w1 ⟨rfl, rfl⟩)
            | (go_at_call 91; refine (span_word _ _).mono ?_; rintro e w1 ⟨rfl, hb⟩))
          go_ret
          exact ⟨ret_bool (by rw [← HA.out, ← HL.out, Bool.eq_iff_iff]; simp), hb⟩
      · rw [nameB_kw s hk]
        go_enter Try.func85, Try.ntmps85
        go_wp2_with (go_at_call 89; refine (keyword_yes _ _ hk).mono ?_; rintro e w1 ⟨rfl, rfl⟩)
        go_ret
        exact ⟨rfl, Below.refl _ _⟩
  · have hz' : s.size = 0 := by omega
    obtain rfl : s = ⟨#[]⟩ := ByteArray.ext (Array.eq_empty_of_size_eq_zero hz')
    rw [nameB_zero _ rfl]
    go_enter Try.func85, Try.ntmps85
    go_wp2
    go_ret
    exact ⟨rfl, Below.refl _ _⟩

theorem allW_yes (s : ByteArray) (k : Nat) (h : k < s.size) (hw : wrd (s[k].toNat : Int) = true) : allW (s.data.toList.drop k) = allW (s.data.toList.drop (k + 1)) := by
  rw [drop_at s k h]; simp [allW, hw]
theorem allW_no (s : ByteArray) (k : Nat) (h : k < s.size) (hw : wrd (s[k].toNat : Int) = false) : allW (s.data.toList.drop k) = false := by
  rw [drop_at s k h]; simp [allW, hw]
theorem allW_end (s : ByteArray) (k : Nat) (h : ¬ k < s.size) : allW (s.data.toList.drop k) = true := by
  rw [List.drop_eq_nil_of_le (by rw [← Lib.size_eq]; omega)]; rfl

set_option maxHeartbeats 1000000 in
theorem rname_any (s : ByteArray) (w : World) (hs : s.size ≤ maxLen) :
    Calls Try.prog 68 #[.string s] w fun e w' => e = .returned (.bool (nameB s)) ∧ Below w.heap.size w w' := by
  unfold maxLen at hs
  by_cases hz : 0 < s.size
  · by_cases h16 : 16 < s.size
    · rw [nameB_big s h16]
      go_enter Try.func68, Try.ntmps68
      go_wp2
      go_ret
      exact ⟨rfl, Below.refl _ _⟩
    · rcases hl : ltr (s[0].toNat : Int) with _ | _
      · rw [nameB_head s hz hl]
        go_enter Try.func68, Try.ntmps68
        go_wp2_with (go_at_call 86; refine (rletter_any _ _).mono ?_; rintro e w1 ⟨rfl, rfl⟩)
        go_ret
        exact ⟨rfl, Below.refl _ _⟩
      · rcases hk : kw s with _ | _
        · rw [nameB_rest s hz (by omega) hk hl]
          go_enter Try.func68, Try.ntmps68
          go_wp2_with (first
            | (go_at_call 86; refine (rletter_any _ _).mono ?_; rintro e w1 ⟨rfl, rfl⟩)
            | (go_at_call 87; refine (rkeyword_any _ _).mono ?_; rw [hk]; rintro e w1 ⟨rfl, hb⟩))
          clear hl hk
          go_loop [3] (fun i => ∃ k : Nat, k ≤ s.size ∧ i = .int .i64 k ∧ allW s.data.toList = allW (s.data.toList.drop k)) (fun i => s.size - (intOf i).toNat)
          case atStart => exact ⟨0, by omega, rfl, rfl⟩
          case round =>
            obtain ⟨k, hk, rfl, ha⟩ := hrel
            have HA := Lib.hid ha; clear ha
            by_cases hlt : k < s.size
            · have hw : wrd (s[k].toNat : Int) = (ltr (s[k].toNat : Int) || dig (s[k].toNat : Int)) := rfl
              rcases h1 : ltr (s[k].toNat : Int) with _ | _
              · rcases h2 : dig (s[k].toNat : Int) with _ | _
                · have HN := Lib.hid (allW_no s k hlt (by rw [hw, h1, h2]; rfl))
                  clear hw
                  go_wp2_with (first
                    | (go_at_call 86; refine (rletter_any _ _).mono ?_; rintro e w2 ⟨rfl, rfl⟩)
                    | (go_at_call 88; refine (rdigit_any _ _).mono ?_; rintro e w2 ⟨rfl, rfl⟩))
                  go_ret
                  exact ⟨ret_bool (by rw [HA.out, HN.out]), hb⟩
                · have HN := Lib.hid (allW_yes s k hlt (by rw [hw, h1, h2]; rfl))
                  clear hw
                  go_wp2_with (first
                    | (go_at_call 86; refine (rletter_any _ _).mono ?_; rintro e w2 ⟨rfl, rfl⟩)
                    | (go_at_call 88; refine (rdigit_any _ _).mono ?_; rintro e w2 ⟨rfl, rfl⟩))
                  go_round
                  case rel => exact ⟨k + 1, by omega, by go_num, by rw [HA.out, HN.out]⟩
                  case measure => simp [intOf]; omega
              · have HN := Lib.hid (allW_yes s k hlt (by rw [hw, h1]; rfl))
                clear hw
                go_wp2_with (go_at_call 86; refine (rletter_any _ _).mono ?_; rintro e w2 ⟨rfl, rfl⟩)
                go_round
                case rel => exact ⟨k + 1, by omega, by go_num, by rw [HA.out, HN.out]⟩
                case measure => simp [intOf]; omega
            · have HN := Lib.hid (allW_end s k hlt)
              go_wp2
              go_ret
              exact ⟨ret_bool (by rw [HA.out, HN.out]), hb⟩
        · rw [nameB_kw s hk]
          go_enter Try.func68, Try.ntmps68
          go_wp2_with (first
            | (go_at_call 86; refine (rletter_any _ _).mono ?_; rintro e w1 ⟨rfl, rfl⟩)
            | (go_at_call 87; refine (rkeyword_any _ _).mono ?_; rw [hk]; rintro e w1 ⟨rfl, hb⟩))
          go_ret
          exact ⟨rfl, hb⟩
  · rw [nameB_zero s (by omega)]
    go_enter Try.func68, Try.ntmps68
    go_wp2
    go_ret
    exact ⟨rfl, Below.refl _ _⟩

end Go.Proofs.Ytibkegalbcjmpaa
