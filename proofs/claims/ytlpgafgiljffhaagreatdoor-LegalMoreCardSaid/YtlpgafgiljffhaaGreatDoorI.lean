/- What the reference's one does: the token at a place. -/
import Derived.Test.YtlpgafgiljffhaaGreatDoorE
import Derived.Deep.QuietTactic
import Derived.BigQuiet
namespace Go.Proofs.YtlpgafgiljffhaaGreatDoor
open Go.RowKit
def OneBad (k : Nat) (w : World) (e : Ending) (w' : World) : Prop := e = .returned (.tuple #[.agg #[.int .i64 0, .string ⟨#[]⟩, .int .i64 0, .int .i64 0], .int .i64 k]) ∧ Below w.heap.size w w'
def OneGood (kind v p : Nat) (t : ByteArray) (w : World) (e : Ending) (w' : World) : Prop := e = .returned (.tuple #[.agg #[.int .i64 kind, .string t, .int .i64 v, .int .i64 p], .int .i64 0]) ∧ Below w.heap.size w w'
set_option maxRecDepth 100000 in
set_option maxHeartbeats 1000000 in
theorem one_word_big (s : ByteArray) (p : Nat) (w : World) (hp : p < s.size) (hs : s.size ≤ 20000) (h1 : ltr (s[p].toNat : Int) = true) (h2 : 16 < spanN wrd (s.data.toList.drop p)) :
    Calls Tryz.prog 81 #[.string s, .int .i64 p] w (OneBad 2 w) := by
  have hpos := spanN_yes wrd s p hp (by simp [wrd, h1])
  obtain ⟨n, hn⟩ : ∃ n, n = spanN wrd (s.data.toList.drop p) := ⟨_, rfl⟩
  have hn1 : 0 < n := by omega
  clear hpos
  rw [← hn] at h2 
  have HN := Lib.hid hn; clear hn
  have H1 := Lib.hid h1; clear h1
  go_enter Tryz.func81, Tryz.ntmps81
  go_wp2
  go_loopg [6] (s.size - p) (fun fuel to' wr => ∃ q : Nat, p ≤ q ∧ q ≤ s.size ∧ to' = .int .i64 q ∧ s.size - q ≤ fuel ∧ spanN wrd (s.data.toList.drop p) = (q - p) + spanN wrd (s.data.toList.drop q) ∧ w.alloc (.cells #[.int .i64 0, .string ⟨#[]⟩, .int .i64 0, .int .i64 0] 89) = wr)
  case atStart => exact ⟨p, Nat.le_refl _, by omega, rfl, Nat.le_refl _, by omega, rfl⟩
  case round =>
    obtain ⟨q, hpq, hqs, rfl, hf, hsp, rfl⟩ := hrel
    have HSP := Lib.hid hsp; clear hsp
    by_cases hlt : q < s.size
    · have hc := s[q].toNat_lt
      have hw : wrd (s[q].toNat : Int) = (ltr (s[q].toNat : Int) || dig (s[q].toNat : Int)) := rfl
      rcases h3 : ltr (s[q].toNat : Int) with _ | _
      · have hpq' : p < q := by
          rcases Nat.lt_or_eq_of_le hpq with h | rfl
          · exact h
          · rw [H1.out] at h3; cases h3
        rcases h4 : dig (s[q].toNat : Int) with _ | _
        · have HE := Lib.hid (spanN_no wrd s q hlt (by rw [hw, h3, h4]; rfl))
          clear hw
          have hn2 : n = q - p := by have := HSP.out; have := HE.out; have := HN.out; omega
          have HQ : Hid (p + n = q) := by show _ = _; omega
          have h3' : p + 16 < q := by omega
          clear hn2
          go_wp2_with (first
            | (go_at_call 59; refine (rletter_any _ _).mono ?_; rintro e w2 ⟨rfl, rfl⟩)
            | (go_at_call 61; refine (rdigit_any _ _).mono ?_; rintro e w2 ⟨rfl, rfl⟩))
          exact bodyPost_ret (v := .tuple #[.agg #[.int .i64 0, .string ⟨#[]⟩, .int .i64 0, .int .i64 0], .int .i64 2]) (by simp [results, Tryz.results81, go_sem]) rfl ⟨rfl, (Below.refl _ _).alloc (Nat.le_refl _) _⟩
        · have HE := Lib.hid (spanN_yes wrd s q hlt (by rw [hw, h3, h4]; rfl))
          clear hw
          go_wp2_with (first
            | (go_at_call 59; refine (rletter_any _ _).mono ?_; rintro e w2 ⟨rfl, rfl⟩)
            | (go_at_call 61; refine (rdigit_any _ _).mono ?_; rintro e w2 ⟨rfl, rfl⟩))
          go_roundg (gk - 1)
          case measure => omega
          case rel => exact ⟨q + 1, by omega, by omega, by go_num, by omega, by have := HSP.out; have := HE.out; omega, rfl⟩
      · have HE := Lib.hid (spanN_yes wrd s q hlt (by rw [hw, h3]; rfl))
        clear hw
        go_wp2_with (first
          | (go_at_call 59; refine (rletter_any _ _).mono ?_; rintro e w2 ⟨rfl, rfl⟩)
          | (go_at_call 61; refine (rdigit_any _ _).mono ?_; rintro e w2 ⟨rfl, rfl⟩))
        go_roundg (gk - 1)
        case measure => omega
        case rel => exact ⟨q + 1, by omega, by omega, by go_num, by omega, by have := HSP.out; have := HE.out; omega, rfl⟩
    · have HE := Lib.hid (spanN_end wrd s q hlt)
      have hn2 : n = q - p := by have := HSP.out; have := HE.out; have := HN.out; omega
      have HQ : Hid (p + n = q) := by show _ = _; omega
      have h3' : p + 16 < q := by omega
      clear hn2
      go_wp2_with (first
        | (go_at_call 59; refine (rletter_any _ _).mono ?_; rintro e w2 ⟨rfl, rfl⟩)
        | (go_at_call 61; refine (rdigit_any _ _).mono ?_; rintro e w2 ⟨rfl, rfl⟩))
      exact bodyPost_ret (v := .tuple #[.agg #[.int .i64 0, .string ⟨#[]⟩, .int .i64 0, .int .i64 0], .int .i64 2]) (by simp [results, Tryz.results81, go_sem]) rfl ⟨rfl, (Below.refl _ _).alloc (Nat.le_refl _) _⟩
set_option maxRecDepth 100000 in
set_option maxHeartbeats 1000000 in
theorem one_word_ok (s : ByteArray) (p : Nat) (w : World) (hp : p < s.size) (hs : s.size ≤ 20000) (h1 : ltr (s[p].toNat : Int) = true) (h2 : spanN wrd (s.data.toList.drop p) ≤ 16) :
    Calls Tryz.prog 81 #[.string s, .int .i64 p] w (OneGood 1 0 p (s.extract p (p + spanN wrd (s.data.toList.drop p))) w) := by
  have hpos := spanN_yes wrd s p hp (by simp [wrd, h1])
  obtain ⟨n, hn⟩ : ∃ n, n = spanN wrd (s.data.toList.drop p) := ⟨_, rfl⟩
  have hn1 : 0 < n := by omega
  clear hpos
  rw [← hn] at h2 ⊢
  have HN := Lib.hid hn; clear hn
  have H1 := Lib.hid h1; clear h1
  go_enter Tryz.func81, Tryz.ntmps81
  go_wp2
  go_loopg [6] (s.size - p) (fun fuel to' wr => ∃ q : Nat, p ≤ q ∧ q ≤ s.size ∧ to' = .int .i64 q ∧ s.size - q ≤ fuel ∧ spanN wrd (s.data.toList.drop p) = (q - p) + spanN wrd (s.data.toList.drop q) ∧ w.alloc (.cells #[.int .i64 0, .string ⟨#[]⟩, .int .i64 0, .int .i64 0] 89) = wr)
  case atStart => exact ⟨p, Nat.le_refl _, by omega, rfl, Nat.le_refl _, by omega, rfl⟩
  case round =>
    obtain ⟨q, hpq, hqs, rfl, hf, hsp, rfl⟩ := hrel
    have HSP := Lib.hid hsp; clear hsp
    by_cases hlt : q < s.size
    · have hc := s[q].toNat_lt
      have hw : wrd (s[q].toNat : Int) = (ltr (s[q].toNat : Int) || dig (s[q].toNat : Int)) := rfl
      rcases h3 : ltr (s[q].toNat : Int) with _ | _
      · have hpq' : p < q := by
          rcases Nat.lt_or_eq_of_le hpq with h | rfl
          · exact h
          · rw [H1.out] at h3; cases h3
        rcases h4 : dig (s[q].toNat : Int) with _ | _
        · have HE := Lib.hid (spanN_no wrd s q hlt (by rw [hw, h3, h4]; rfl))
          clear hw
          have hn2 : n = q - p := by have := HSP.out; have := HE.out; have := HN.out; omega
          have HQ : Hid (p + n = q) := by show _ = _; omega
          have h3' : q ≤ p + 16 := by omega
          clear hn2
          go_wp2_with (first
            | (go_at_call 59; refine (rletter_any _ _).mono ?_; rintro e w2 ⟨rfl, rfl⟩)
            | (go_at_call 61; refine (rdigit_any _ _).mono ?_; rintro e w2 ⟨rfl, rfl⟩))
          exact bodyPost_ret (v := .tuple #[.agg #[.int .i64 1, .string (s.extract p q), .int .i64 0, .int .i64 p], .int .i64 0]) (by simp [results, Tryz.results81, go_sem]) rfl ⟨by rw [HQ.out]; rfl, (Below.refl _ _).alloc (Nat.le_refl _) _⟩
        · have HE := Lib.hid (spanN_yes wrd s q hlt (by rw [hw, h3, h4]; rfl))
          clear hw
          go_wp2_with (first
            | (go_at_call 59; refine (rletter_any _ _).mono ?_; rintro e w2 ⟨rfl, rfl⟩)
            | (go_at_call 61; refine (rdigit_any _ _).mono ?_; rintro e w2 ⟨rfl, rfl⟩))
          go_roundg (gk - 1)
          case measure => omega
          case rel => exact ⟨q + 1, by omega, by omega, by go_num, by omega, by have := HSP.out; have := HE.out; omega, rfl⟩
      · have HE := Lib.hid (spanN_yes wrd s q hlt (by rw [hw, h3]; rfl))
        clear hw
        go_wp2_with (first
          | (go_at_call 59; refine (rletter_any _ _).mono ?_; rintro e w2 ⟨rfl, rfl⟩)
          | (go_at_call 61; refine (rdigit_any _ _).mono ?_; rintro e w2 ⟨rfl, rfl⟩))
        go_roundg (gk - 1)
        case measure => omega
        case rel => exact ⟨q + 1, by omega, by omega, by go_num, by omega, by have := HSP.out; have := HE.out; omega, rfl⟩
    · have HE := Lib.hid (spanN_end wrd s q hlt)
      have hn2 : n = q - p := by have := HSP.out; have := HE.out; have := HN.out; omega
      have HQ : Hid (p + n = q) := by show _ = _; omega
      have h3' : q ≤ p + 16 := by omega
      clear hn2
      go_wp2_with (first
        | (go_at_call 59; refine (rletter_any _ _).mono ?_; rintro e w2 ⟨rfl, rfl⟩)
        | (go_at_call 61; refine (rdigit_any _ _).mono ?_; rintro e w2 ⟨rfl, rfl⟩))
      exact bodyPost_ret (v := .tuple #[.agg #[.int .i64 1, .string (s.extract p q), .int .i64 0, .int .i64 p], .int .i64 0]) (by simp [results, Tryz.results81, go_sem]) rfl ⟨by rw [HQ.out]; rfl, (Below.refl _ _).alloc (Nat.le_refl _) _⟩
theorem numV_at (s : ByteArray) (p q : Nat) (hpq : p ≤ q) (h : q < s.size) : numV ((s.data.toList.drop p).take (q + 1 - p)) = 10 * numV ((s.data.toList.drop p).take (q - p)) + (s[q].toNat - 48) := by
  have hl : q - p < (s.data.toList.drop p).length := by rw [drop_len]; omega
  have e : q + 1 - p = q - p + 1 := by omega
  rw [e, List.take_succ_eq_append_getElem hl]
  unfold numV
  rw [List.foldl_append]
  have : (s.data.toList.drop p)[q - p] = s[q] := by
    rw [List.getElem_drop]
    have e2 : p + (q - p) = q := by omega
    simp only [e2]; rfl
  rw [this]; rfl
set_option maxRecDepth 100000 in
set_option maxHeartbeats 1000000 in
theorem one_digit_big (s : ByteArray) (p : Nat) (w : World) (hp : p < s.size) (hs : s.size ≤ 20000) (h0 : ltr (s[p].toNat : Int) = false) (h1 : dig (s[p].toNat : Int) = true) (h2 : 9999 < numV ((s.data.toList.drop p).take (spanN dig (s.data.toList.drop p)))) :
    Calls Tryz.prog 81 #[.string s, .int .i64 p] w (OneBad 4 w) := by
  have HP : Hid (0 < spanN dig (s.data.toList.drop p)) := by
    have := spanN_yes dig s p hp h1
    show 0 < _; omega
  have hc := s[p].toNat_lt
  have H2 := Lib.hid h2; clear h2
  go_enter Tryz.func81, Tryz.ntmps81
  go_wp2
  go_loopg [6] 0 (fun fuel to' wr => to' = .int .i64 p ∧ w.alloc (.cells #[.int .i64 0, .string ⟨#[]⟩, .int .i64 0, .int .i64 0] 89) = wr)
  case atStart => exact ⟨rfl, rfl⟩
  case round =>
    obtain ⟨rfl, rfl⟩ := hrel
    go_wp2_with (first
      | (go_at_call 59; refine (rletter_any _ _).mono ?_; rintro e w2 ⟨rfl, rfl⟩)
      | (go_at_call 61; refine (rdigit_any _ _).mono ?_; rintro e w2 ⟨rfl, rfl⟩))
    go_loopg [6, 7] (s.size - p) (fun fuel to' n' wr => ∃ q m : Nat, p ≤ q ∧ q ≤ s.size ∧ to' = .int .i64 q ∧ n' = .int .i64 m ∧ m = min (numV ((s.data.toList.drop p).take (q - p))) 10000 ∧ s.size - q ≤ fuel ∧ spanN dig (s.data.toList.drop p) = (q - p) + spanN dig (s.data.toList.drop q) ∧ w.alloc (.cells #[.int .i64 0, .string ⟨#[]⟩, .int .i64 0, .int .i64 0] 89) = wr)
    case atStart => exact ⟨p, 0, Nat.le_refl _, by omega, rfl, rfl, by simp [numV], Nat.le_refl _, by omega, rfl⟩
    case round =>
      obtain ⟨q, m, hpq, hqs, rfl, rfl, hm, hf, hsp, rfl⟩ := hrel
      have HSP := Lib.hid hsp; clear hsp
      by_cases hlt : q < s.size
      · have hc2 := s[q].toNat_lt
        rcases h4 : dig (s[q].toNat : Int) with _ | _
        · have HE := Lib.hid (spanN_no dig s q hlt h4)
          have h2 := H2.out; clear H2
          have hn2 : spanN dig (s.data.toList.drop p) = q - p := by have := HSP.out; have := HE.out; omega
          have HQ : Hid (p + spanN dig (s.data.toList.drop p) = q) := by show _ = _; omega
          have hpq2 : p < q := by have := HP.out; omega
          rw [← hn2] at hm
          have HM : Hid (m = min (numV ((s.data.toList.drop p).take (spanN dig (s.data.toList.drop p)))) 10000) := hm
          have hm4 : 9999 < m := by omega
          have HV : Hid (m ≤ 9999 → m = numV ((s.data.toList.drop p).take (spanN dig (s.data.toList.drop p)))) := fun h => by have := HM.out; omega
          clear hn2 hm h2
          go_wp2_with (first
            | (go_at_call 59; refine (rletter_any _ _).mono ?_; rintro e w2 ⟨rfl, rfl⟩)
            | (go_at_call 61; refine (rdigit_any _ _).mono ?_; rintro e w2 ⟨rfl, rfl⟩))
          exact bodyPost_ret (v := .tuple #[.agg #[.int .i64 0, .string ⟨#[]⟩, .int .i64 0, .int .i64 0], .int .i64 4]) (by simp [results, Tryz.results81, go_sem]) rfl ⟨rfl, (Below.refl _ _).alloc (Nat.le_refl _) _⟩
        · have HE := Lib.hid (spanN_yes dig s q hlt h4)
          have hd : 48 ≤ s[q].toNat ∧ s[q].toNat ≤ 57 := by simp [dig] at h4; omega
          have HM : Hid (min (10 * m + (s[q].toNat - 48)) 10000 = min (numV ((s.data.toList.drop p).take (q + 1 - p))) 10000) := by
            show _ = _
            rw [numV_at s p q hpq hlt, hm]; omega
          have hm3 : m ≤ 10000 := by omega
          clear hm
          go_wp2_with (first
            | (go_at_call 59; refine (rletter_any _ _).mono ?_; rintro e w2 ⟨rfl, rfl⟩)
            | (go_at_call 61; refine (rdigit_any _ _).mono ?_; rintro e w2 ⟨rfl, rfl⟩))
          all_goals
            go_roundg (gk - 1)
            case measure => omega
            case rel =>
              refine ⟨q + 1, min (10 * m + (s[q].toNat - 48)) 10000, by omega, by omega, by go_num, ?_, HM.out, by omega, by have := HSP.out; have := HE.out; omega, rfl⟩
              congr 1; omega
      · have HE := Lib.hid (spanN_end dig s q hlt)
        have h2 := H2.out; clear H2
        have hn2 : spanN dig (s.data.toList.drop p) = q - p := by have := HSP.out; have := HE.out; omega
        have HQ : Hid (p + spanN dig (s.data.toList.drop p) = q) := by show _ = _; omega
        have hpq2 : p < q := by have := HP.out; omega
        rw [← hn2] at hm
        have HM : Hid (m = min (numV ((s.data.toList.drop p).take (spanN dig (s.data.toList.drop p)))) 10000) := hm
        have hm4 : 9999 < m := by omega
        have HV : Hid (m ≤ 9999 → m = numV ((s.data.toList.drop p).take (spanN dig (s.data.toList.drop p)))) := fun h => by have := HM.out; omega
        clear hn2 hm h2
        go_wp2_with (first
          | (go_at_call 59; refine (rletter_any _ _).mono ?_; rintro e w2 ⟨rfl, rfl⟩)
          | (go_at_call 61; refine (rdigit_any _ _).mono ?_; rintro e w2 ⟨rfl, rfl⟩))
        exact bodyPost_ret (v := .tuple #[.agg #[.int .i64 0, .string ⟨#[]⟩, .int .i64 0, .int .i64 0], .int .i64 4]) (by simp [results, Tryz.results81, go_sem]) rfl ⟨rfl, (Below.refl _ _).alloc (Nat.le_refl _) _⟩
set_option maxRecDepth 100000 in
set_option maxHeartbeats 1000000 in
theorem one_digit_ok (s : ByteArray) (p : Nat) (w : World) (hp : p < s.size) (hs : s.size ≤ 20000) (h0 : ltr (s[p].toNat : Int) = false) (h1 : dig (s[p].toNat : Int) = true) (h2 : numV ((s.data.toList.drop p).take (spanN dig (s.data.toList.drop p))) ≤ 9999) :
    Calls Tryz.prog 81 #[.string s, .int .i64 p] w (OneGood 2 (numV ((s.data.toList.drop p).take (spanN dig (s.data.toList.drop p)))) p (s.extract p (p + spanN dig (s.data.toList.drop p))) w) := by
  have HP : Hid (0 < spanN dig (s.data.toList.drop p)) := by
    have := spanN_yes dig s p hp h1
    show 0 < _; omega
  have hc := s[p].toNat_lt
  have H2 := Lib.hid h2; clear h2
  go_enter Tryz.func81, Tryz.ntmps81
  go_wp2
  go_loopg [6] 0 (fun fuel to' wr => to' = .int .i64 p ∧ w.alloc (.cells #[.int .i64 0, .string ⟨#[]⟩, .int .i64 0, .int .i64 0] 89) = wr)
  case atStart => exact ⟨rfl, rfl⟩
  case round =>
    obtain ⟨rfl, rfl⟩ := hrel
    go_wp2_with (first
      | (go_at_call 59; refine (rletter_any _ _).mono ?_; rintro e w2 ⟨rfl, rfl⟩)
      | (go_at_call 61; refine (rdigit_any _ _).mono ?_; rintro e w2 ⟨rfl, rfl⟩))
    go_loopg [6, 7] (s.size - p) (fun fuel to' n' wr => ∃ q m : Nat, p ≤ q ∧ q ≤ s.size ∧ to' = .int .i64 q ∧ n' = .int .i64 m ∧ m = min (numV ((s.data.toList.drop p).take (q - p))) 10000 ∧ s.size - q ≤ fuel ∧ spanN dig (s.data.toList.drop p) = (q - p) + spanN dig (s.data.toList.drop q) ∧ w.alloc (.cells #[.int .i64 0, .string ⟨#[]⟩, .int .i64 0, .int .i64 0] 89) = wr)
    case atStart => exact ⟨p, 0, Nat.le_refl _, by omega, rfl, rfl, by simp [numV], Nat.le_refl _, by omega, rfl⟩
    case round =>
      obtain ⟨q, m, hpq, hqs, rfl, rfl, hm, hf, hsp, rfl⟩ := hrel
      have HSP := Lib.hid hsp; clear hsp
      by_cases hlt : q < s.size
      · have hc2 := s[q].toNat_lt
        rcases h4 : dig (s[q].toNat : Int) with _ | _
        · have HE := Lib.hid (spanN_no dig s q hlt h4)
          have h2 := H2.out; clear H2
          have hn2 : spanN dig (s.data.toList.drop p) = q - p := by have := HSP.out; have := HE.out; omega
          have HQ : Hid (p + spanN dig (s.data.toList.drop p) = q) := by show _ = _; omega
          have hpq2 : p < q := by have := HP.out; omega
          rw [← hn2] at hm
          have HM : Hid (m = min (numV ((s.data.toList.drop p).take (spanN dig (s.data.toList.drop p)))) 10000) := hm
          have hm4 : m ≤ 9999 := by omega
          have HV : Hid (m ≤ 9999 → m = numV ((s.data.toList.drop p).take (spanN dig (s.data.toList.drop p)))) := fun h => by have := HM.out; omega
          clear hn2 hm h2
          go_wp2_with (first
            | (go_at_call 59; refine (rletter_any _ _).mono ?_; rintro e w2 ⟨rfl, rfl⟩)
            | (go_at_call 61; refine (rdigit_any _ _).mono ?_; rintro e w2 ⟨rfl, rfl⟩))
          exact bodyPost_ret (v := .tuple #[.agg #[.int .i64 2, .string (s.extract p q), .int .i64 m, .int .i64 p], .int .i64 0]) (by simp [results, Tryz.results81, go_sem]) rfl ⟨by rw [HQ.out, ← HV.out hm4]; rfl, (Below.refl _ _).alloc (Nat.le_refl _) _⟩
        · have HE := Lib.hid (spanN_yes dig s q hlt h4)
          have hd : 48 ≤ s[q].toNat ∧ s[q].toNat ≤ 57 := by simp [dig] at h4; omega
          have HM : Hid (min (10 * m + (s[q].toNat - 48)) 10000 = min (numV ((s.data.toList.drop p).take (q + 1 - p))) 10000) := by
            show _ = _
            rw [numV_at s p q hpq hlt, hm]; omega
          have hm3 : m ≤ 10000 := by omega
          clear hm
          go_wp2_with (first
            | (go_at_call 59; refine (rletter_any _ _).mono ?_; rintro e w2 ⟨rfl, rfl⟩)
            | (go_at_call 61; refine (rdigit_any _ _).mono ?_; rintro e w2 ⟨rfl, rfl⟩))
          all_goals
            go_roundg (gk - 1)
            case measure => omega
            case rel =>
              refine ⟨q + 1, min (10 * m + (s[q].toNat - 48)) 10000, by omega, by omega, by go_num, ?_, HM.out, by omega, by have := HSP.out; have := HE.out; omega, rfl⟩
              congr 1; omega
      · have HE := Lib.hid (spanN_end dig s q hlt)
        have h2 := H2.out; clear H2
        have hn2 : spanN dig (s.data.toList.drop p) = q - p := by have := HSP.out; have := HE.out; omega
        have HQ : Hid (p + spanN dig (s.data.toList.drop p) = q) := by show _ = _; omega
        have hpq2 : p < q := by have := HP.out; omega
        rw [← hn2] at hm
        have HM : Hid (m = min (numV ((s.data.toList.drop p).take (spanN dig (s.data.toList.drop p)))) 10000) := hm
        have hm4 : m ≤ 9999 := by omega
        have HV : Hid (m ≤ 9999 → m = numV ((s.data.toList.drop p).take (spanN dig (s.data.toList.drop p)))) := fun h => by have := HM.out; omega
        clear hn2 hm h2
        go_wp2_with (first
          | (go_at_call 59; refine (rletter_any _ _).mono ?_; rintro e w2 ⟨rfl, rfl⟩)
          | (go_at_call 61; refine (rdigit_any _ _).mono ?_; rintro e w2 ⟨rfl, rfl⟩))
        exact bodyPost_ret (v := .tuple #[.agg #[.int .i64 2, .string (s.extract p q), .int .i64 m, .int .i64 p], .int .i64 0]) (by simp [results, Tryz.results81, go_sem]) rfl ⟨by rw [HQ.out, ← HV.out hm4]; rfl, (Below.refl _ _).alloc (Nat.le_refl _) _⟩
end Go.Proofs.YtlpgafgiljffhaaGreatDoor
