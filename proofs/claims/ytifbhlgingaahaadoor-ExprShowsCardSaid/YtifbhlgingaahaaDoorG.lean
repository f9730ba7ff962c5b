/- What Name of package scan and the reference's Name do. -/
import Derived.Test.YtifbhlgingaahaaDoorF
namespace Go.Proofs.YtifbhlgingaahaaDoor
open Go.RowKit

def allW (l : List UInt8) : Bool := l.all fun c => wrd (c.toNat : Int)
def headL : List UInt8 → Bool | [] => false | c :: _ => ltr (c.toNat : Int)
/-- Whether a text is a name. -/
def nameB (s : ByteArray) : Bool := decide (0 < s.size ∧ s.size ≤ 16) && (!kw s && (headL s.data.toList && allW s.data.toList))

theorem spanN_all (l : List UInt8) : decide ((spanN wrd l : Int) = (l.length : Int)) = allW l := by
  unfold spanN allW
  induction l with
  | nil => rfl
  | cons c r ih =>
    rcases h : wrd (c.toNat : Int) with _ | _
    · simp [h]; omega
    · simp only [List.takeWhile_cons, h, if_true, List.length_cons, List.all_cons, Bool.true_and]
      rw [← ih]; congr 1; simp

theorem nameB_zero (s : ByteArray) (h : s.size = 0) : nameB s = false := by simp [nameB, h]
theorem nameB_big (s : ByteArray) (h : 16 < s.size) : nameB s = false := by simp [nameB]; omega
theorem nameB_kw (s : ByteArray) (h : kw s = true) : nameB s = false := by simp [nameB, h]
theorem headL_at (s : ByteArray) (hz : 0 < s.size) : headL s.data.toList = ltr (s[0].toNat : Int) := by
  obtain ⟨r, hr⟩ := head_of s hz
  rw [hr]; rfl
theorem nameB_head (s : ByteArray) (hz : 0 < s.size) (h : ltr (s[0].toNat : Int) = false) : nameB s = false := by
  simp [nameB, headL_at s hz, h]
theorem nameB_rest (s : ByteArray) (hz : 0 < s.size) (h16 : s.size ≤ 16) (hk : kw s = false) (h : ltr (s[0].toNat : Int) = true) : nameB s = allW s.data.toList := by
  simp [nameB, headL_at s hz, h, hk, hz, h16]

set_option maxHeartbeats 1000000 in
theorem name_any (s : ByteArray) (w : World) (hs : s.size ≤ maxLen) :
    Calls Tryd.prog 34 #[.string s] w fun e w' => e = .returned (.bool (nameB s)) ∧ Below w.heap.size w w' := by
  unfold maxLen at hs
  by_cases hz : 0 < s.size
  · have e0 : s.toList ≠ [] := by
      rw [Lib.toList_data]; intro h
      have := Lib.size_eq s
      rw [h] at this; have h0 : s.size = 0 := this; omega
    have e1 : (!s.toList.isEmpty) = true := by simpa using e0
    have e2 : s.toList.isEmpty = false := by simpa using e0
    have hc := s[0].toNat_lt
    by_cases h16 : 16 < s.size
    · rw [nameB_big s h16]
      go_enter Tryd.func34, Tryd.ntmps34
      go_wp2
      go_ret
      exact ⟨rfl, Below.refl _ _⟩
    · rcases hk : kw s with _ | _
      · rcases hl : ltr (s[0].toNat : Int) with _ | _
        · rw [nameB_head s hz hl]
          go_enter Tryd.func34, Tryd.ntmps34
          go_wp2_with (first
            | (go_at_call 45; refine (keyword_no _ _ hk).mono ?_; rintro e w1 ⟨rfl, rfl⟩)
            | (go_at_call 46; refine (letter_any _ _).mono ?_; rintro e w1 ⟨rfl, rfl⟩))
          go_ret
          exact ⟨rfl, Below.refl _ _⟩
        · rw [nameB_rest s hz (by omega) hk hl]
          have HA := Lib.hid (spanN_all s.data.toList)
          have HL := Lib.hid (Lib.size_eq s)
          go_enter Tryd.func34, Tryd.ntmps34
          go_wp2_with (first
            | (go_at_call 45; refine (keyword_no _ _ hk).mono ?_; rintro e w1 ⟨rfl, rfl⟩)
            | (go_at_call 46; refine (letter_any _ _).mono ?_; rintro e w1 ⟨rfl, rfl⟩)
            | (go_at_call 47; refine (span_word _ _).mono ?_; rintro e w1 ⟨rfl, hb⟩))
          go_ret
          exact ⟨ret_bool (by rw [← HA.out, ← HL.out, Bool.eq_iff_iff]; simp), hb⟩
      · rw [nameB_kw s hk]
        go_enter Tryd.func34, Tryd.ntmps34
        go_wp2_with (go_at_call 45; refine (keyword_yes _ _ hk).mono ?_; rintro e w1 ⟨rfl, rfl⟩)
        go_ret
        exact ⟨rfl, Below.refl _ _⟩
  · have hz' : s.size = 0 := by omega
    obtain rfl : s = ⟨#[]⟩ := ByteArray.ext (Array.eq_empty_of_size_eq_zero hz')
    rw [nameB_zero _ rfl]
    go_enter Tryd.func34, Tryd.ntmps34
    go_wp2
    go_ret
    exact ⟨rfl, Below.refl _ _⟩

theorem allW_yes (s : ByteArray) (k : Nat) (h : k < s.size) (hw : wrd (s[k].toNat : Int) = true) : allW (s.data.toList.drop k) = allW (s.data.toList.drop (k + 1)) := by
  rw [drop_at s k h]; simp [allW, hw]
theorem allW_no (s : ByteArray) (k : Nat) (h : k < s.size) (hw : wrd (s[k].toNat : Int) = false) : allW (s.data.toList.drop k) = false := by
  rw [drop_at s k h]; simp [allW, hw]
theorem allW_end (s : ByteArray) (k : Nat) (h : ¬ k < s.size) : allW (s.data.toList.drop k) = true := by
  rw [List.drop_eq_nil_of_le (by rw [← Lib.size_eq]; omega)]; rfl

set_option maxHeartbeats 1000000 in
theorem rname_any (s : ByteArray) (w : World) (hs : s.size ≤ maxLen) :
    Calls Tryd.prog 35 #[.string s] w fun e w' => e = .returned (.bool (nameB s)) ∧ Below w.heap.size w w' := by
  unfold maxLen at hs
  by_cases hz : 0 < s.size
  · by_cases h16 : 16 < s.size
    · rw [nameB_big s h16]
      go_enter Tryd.func35, Tryd.ntmps35
      go_wp2
      go_ret
      exact ⟨rfl, Below.refl _ _⟩
    · rcases hl : ltr (s[0].toNat : Int) with _ | _
      · rw [nameB_head s hz hl]
        go_enter Tryd.func35, Tryd.ntmps35
        go_wp2_with (go_at_call 49; refine (rletter_any _ _).mono ?_; rintro e w1 ⟨rfl, rfl⟩)
        go_ret
        exact ⟨rfl, Below.refl _ _⟩
      · rcases hk : kw s with _ | _
        · rw [nameB_rest s hz (by omega) hk hl]
          go_enter Tryd.func35, Tryd.ntmps35
          go_wp2_with (first
            | (go_at_call 49; refine (rletter_any _ _).mono ?_; rintro e w1 ⟨rfl, rfl⟩)
            | (go_at_call 50; refine (rkeyword_any _ _).mono ?_; rw [hk]; rintro e w1 ⟨rfl, hb⟩))
          clear hl hk
          go_loop [3] (fun i => ∃ k : Nat, k ≤ s.size ∧ i = .int .i64 k ∧ allW s.data.toList = allW (s.data.toList.drop k)) (fun i => s.size - (intOf i).toNat)
          case atStart => exact ⟨0, by omega, rfl, rfl⟩
          case round =>
            obtain ⟨k, hk, rfl, ha⟩ := hrel
            have HA := Lib.hid ha; clear ha
            by_cases hlt : k < s.size
            · have hw : wrd (s[k].toNat : Int) = (ltr (s[k].toNat : Int) || dig (s[k].toNat : Int)) := rfl
              rcases h1 : ltr (s[k].toNat : Int) with _ | _
              · rcases h2 : dig (s[k].toNat : Int) with _ | _
                · have HN := Lib.hid (allW_no s k hlt (by rw [hw, h1, h2]; rfl))
                  clear hw
                  go_wp2_with (first
                    | (go_at_call 49; refine (rletter_any _ _).mono ?_; rintro e w2 ⟨rfl, rfl⟩)
                    | (go_at_call 51; refine (rdigit_any _ _).mono ?_; rintro e w2 ⟨rfl, rfl⟩))
                  go_ret
                  exact ⟨ret_bool (by rw [HA.out, HN.out]), hb⟩
                · have HN := Lib.hid (allW_yes s k hlt (by rw [hw, h1, h2]; rfl))
                  clear hw
                  go_wp2_with (first
                    | (go_at_call 49; refine (rletter_any _ _).mono ?_; rintro e w2 ⟨rfl, rfl⟩)
                    | (go_at_call 51; refine (rdigit_any _ _).mono ?_; rintro e w2 ⟨rfl, rfl⟩))
                  go_round
                  case rel => exact ⟨k + 1, by omega, by go_num, by rw [HA.out, HN.out]⟩
                  case measure => simp [intOf]; omega
              · have HN := Lib.hid (allW_yes s k hlt (by rw [hw, h1]; rfl))
                clear hw
                go_wp2_with (go_at_call 49; refine (rletter_any _ _).mono ?_; rintro e w2 ⟨rfl, rfl⟩)
                go_round
                case rel => exact ⟨k + 1, by omega, by go_num, by rw [HA.out, HN.out]⟩
                case measure => simp [intOf]; omega
            · have HN := Lib.hid (allW_end s k hlt)
              go_wp2
              go_ret
              exact ⟨ret_bool (by rw [HA.out, HN.out]), hb⟩
        · rw [nameB_kw s hk]
          go_enter Tryd.func35, Tryd.ntmps35
          go_wp2_with (first
            | (go_at_call 49; refine (rletter_any _ _).mono ?_; rintro e w1 ⟨rfl, rfl⟩)
            | (go_at_call 50; refine (rkeyword_any _ _).mono ?_; rw [hk]; rintro e w1 ⟨rfl, hb⟩))
          go_ret
          exact ⟨rfl, hb⟩
  · rw [nameB_zero s (by omega)]
    go_enter Tryd.func35, Tryd.ntmps35
    go_wp2
    go_ret
    exact ⟨rfl, Below.refl _ _⟩

end Go.Proofs.YtifbhlgingaahaaDoor
