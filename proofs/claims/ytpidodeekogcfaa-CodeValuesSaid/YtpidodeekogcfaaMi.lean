/- Layer 6: the reference's value of code: its parts. -/
import Derived.Test.YtpidodeekogcfaaMa
namespace Go.Proofs.Ytpidodeekogcfaa
open Go.RowKit

theorem tru_beq (a b : Int) : tru (a == b) = tru (decide (a = b)) := rfl
theorem tru_bne (a b : Int) : tru (a != b) = tru (decide (a ≠ b)) := by
  congr 1
  by_cases h : a = b <;> simp [h]

set_option maxRecDepth 100000 in
set_option maxHeartbeats 1000000 in
set_option linter.unusedVariables false in
theorem rtwo6 (a b m : Int) (w : World) (hm1 : 2 ≤ m) (hm2 : m ≤ 16) (ha1 : 0 ≤ a) (ha2 : a < m) (hb1 : 0 ≤ b) (hb2 : b < m) :
    Calls Try.prog 42 #[.int .i64 6, .int .i64 a, .int .i64 b, .int .i64 m] w fun e w' => e = .returned (.int .i64 (twoO 6 a b m)) ∧ w = w' := by
  have hmz : ¬ m = 0 := by omega
  go_enter Try.func42, Try.ntmps42
  go_wp2
  go_ret
  exact ⟨rfl, rfl⟩

set_option maxRecDepth 100000 in
set_option maxHeartbeats 1000000 in
set_option linter.unusedVariables false in
theorem rtwo7 (a b m : Int) (w : World) (hm1 : 2 ≤ m) (hm2 : m ≤ 16) (ha1 : 0 ≤ a) (ha2 : a < m) (hb1 : 0 ≤ b) (hb2 : b < m) :
    Calls Try.prog 42 #[.int .i64 7, .int .i64 a, .int .i64 b, .int .i64 m] w fun e w' => e = .returned (.int .i64 (twoO 7 a b m)) ∧ w = w' := by
  have hx1 : 0 ≤ a - b + m := by omega
  have hmz : ¬ m = 0 := by omega
  go_enter Try.func42, Try.ntmps42
  go_wp2
  go_ret
  exact ⟨rfl, rfl⟩

set_option maxRecDepth 100000 in
set_option maxHeartbeats 1000000 in
set_option linter.unusedVariables false in
theorem rtwo8 (a b m : Int) (w : World) (hm1 : 2 ≤ m) (hm2 : m ≤ 16) (ha1 : 0 ≤ a) (ha2 : a < m) (hb1 : 0 ≤ b) (hb2 : b < m) :
    Calls Try.prog 42 #[.int .i64 8, .int .i64 a, .int .i64 b, .int .i64 m] w fun e w' => e = .returned (.int .i64 (twoO 8 a b m)) ∧ w = w' := by
  have hx1 : 0 ≤ a * b := Int.mul_nonneg ha1 hb1
  have hx2 : a * b ≤ 15 * 15 := Int.mul_le_mul (by omega) (by omega) hb1 (by omega)
  have hmz : ¬ m = 0 := by omega
  go_enter Try.func42, Try.ntmps42
  go_wp2
  go_ret
  exact ⟨rfl, rfl⟩

set_option maxRecDepth 100000 in
set_option maxHeartbeats 1000000 in
set_option linter.unusedVariables false in
theorem rtwo9 (a b m : Int) (w : World) (hm1 : 2 ≤ m) (hm2 : m ≤ 16) (ha1 : 0 ≤ a) (ha2 : a < m) (hb1 : 0 ≤ b) (hb2 : b < m) :
    Calls Try.prog 42 #[.int .i64 9, .int .i64 a, .int .i64 b, .int .i64 m] w fun e w' => e = .returned (.int .i64 (twoO 9 a b m)) ∧ w = w' := by
  go_enter Try.func42, Try.ntmps42
  go_wp2_with (go_at_call 41; refine (rtruth_any _ _).mono ?_; rintro e w2 ⟨rfl, rfl⟩)
  go_ret
  exact ⟨ret_int (by first | rfl | exact tru_beq _ _ | exact tru_bne _ _), rfl⟩

set_option maxRecDepth 100000 in
set_option maxHeartbeats 1000000 in
set_option linter.unusedVariables false in
theorem rtwo10 (a b m : Int) (w : World) (hm1 : 2 ≤ m) (hm2 : m ≤ 16) (ha1 : 0 ≤ a) (ha2 : a < m) (hb1 : 0 ≤ b) (hb2 : b < m) :
    Calls Try.prog 42 #[.int .i64 10, .int .i64 a, .int .i64 b, .int .i64 m] w fun e w' => e = .returned (.int .i64 (twoO 10 a b m)) ∧ w = w' := by
  go_enter Try.func42, Try.ntmps42
  go_wp2_with (go_at_call 41; refine (rtruth_any _ _).mono ?_; rintro e w2 ⟨rfl, rfl⟩)
  go_ret
  exact ⟨ret_int (by first | rfl | exact tru_beq _ _ | exact tru_bne _ _), rfl⟩

set_option maxRecDepth 100000 in
set_option maxHeartbeats 1000000 in
set_option linter.unusedVariables false in
theorem rtwo11 (a b m : Int) (w : World) (hm1 : 2 ≤ m) (hm2 : m ≤ 16) (ha1 : 0 ≤ a) (ha2 : a < m) (hb1 : 0 ≤ b) (hb2 : b < m) :
    Calls Try.prog 42 #[.int .i64 11, .int .i64 a, .int .i64 b, .int .i64 m] w fun e w' => e = .returned (.int .i64 (twoO 11 a b m)) ∧ w = w' := by
  go_enter Try.func42, Try.ntmps42
  go_wp2_with (go_at_call 41; refine (rtruth_any _ _).mono ?_; rintro e w2 ⟨rfl, rfl⟩)
  go_ret
  exact ⟨ret_int (by first | rfl | exact tru_beq _ _ | exact tru_bne _ _), rfl⟩

set_option maxRecDepth 100000 in
set_option maxHeartbeats 1000000 in
set_option linter.unusedVariables false in
theorem rtwo12 (a b m : Int) (w : World) (hm1 : 2 ≤ m) (hm2 : m ≤ 16) (ha1 : 0 ≤ a) (ha2 : a < m) (hb1 : 0 ≤ b) (hb2 : b < m) :
    Calls Try.prog 42 #[.int .i64 12, .int .i64 a, .int .i64 b, .int .i64 m] w fun e w' => e = .returned (.int .i64 (twoO 12 a b m)) ∧ w = w' := by
  go_enter Try.func42, Try.ntmps42
  go_wp2_with (go_at_call 41; refine (rtruth_any _ _).mono ?_; rintro e w2 ⟨rfl, rfl⟩)
  go_ret
  exact ⟨ret_int (by first | rfl | exact tru_beq _ _ | exact tru_bne _ _), rfl⟩

set_option maxRecDepth 100000 in
set_option maxHeartbeats 1000000 in
set_option linter.unusedVariables false in
theorem rtwo13 (a b m : Int) (w : World) (hm1 : 2 ≤ m) (hm2 : m ≤ 16) (ha1 : 0 ≤ a) (ha2 : a < m) (hb1 : 0 ≤ b) (hb2 : b < m) :
    Calls Try.prog 42 #[.int .i64 13, .int .i64 a, .int .i64 b, .int .i64 m] w fun e w' => e = .returned (.int .i64 (twoO 13 a b m)) ∧ w = w' := by
  by_cases h3 : a = 0
  · subst h3
    go_enter Try.func42, Try.ntmps42
    go_wp2_with (go_at_call 41; refine (rtruth_any _ _).mono ?_; rintro e w2 ⟨rfl, rfl⟩)
    all_goals
      go_ret
      exact ⟨ret_int (by unfold twoO; simp <;> rfl), rfl⟩
  · have h4 : (a == 0) = false := by simpa using h3
    have h5 : (a != 0) = true := by simpa using h3
    have H3 := Lib.hid h3
    clear h3
    go_enter Try.func42, Try.ntmps42
    go_wp2_with (go_at_call 41; refine (rtruth_any _ _).mono ?_; rintro e w2 ⟨rfl, rfl⟩)
    all_goals
      go_ret
      exact ⟨ret_int (by have := H3.out; unfold twoO; simp [this] <;> rfl), rfl⟩

set_option maxRecDepth 100000 in
set_option maxHeartbeats 1000000 in
set_option linter.unusedVariables false in
theorem rtwo14 (a b m : Int) (w : World) (hm1 : 2 ≤ m) (hm2 : m ≤ 16) (ha1 : 0 ≤ a) (ha2 : a < m) (hb1 : 0 ≤ b) (hb2 : b < m) :
    Calls Try.prog 42 #[.int .i64 14, .int .i64 a, .int .i64 b, .int .i64 m] w fun e w' => e = .returned (.int .i64 (twoO 14 a b m)) ∧ w = w' := by
  by_cases h3 : a = 0
  · subst h3
    go_enter Try.func42, Try.ntmps42
    go_wp2_with (go_at_call 41; refine (rtruth_any _ _).mono ?_; rintro e w2 ⟨rfl, rfl⟩)
    all_goals
      go_ret
      exact ⟨ret_int (by unfold twoO; simp <;> rfl), rfl⟩
  · have h4 : (a == 0) = false := by simpa using h3
    have h5 : (a != 0) = true := by simpa using h3
    have H3 := Lib.hid h3
    clear h3
    go_enter Try.func42, Try.ntmps42
    go_wp2_with (go_at_call 41; refine (rtruth_any _ _).mono ?_; rintro e w2 ⟨rfl, rfl⟩)
    all_goals
      go_ret
      exact ⟨ret_int (by have := H3.out; unfold twoO; simp [this] <;> rfl), rfl⟩

theorem rtwo_any (op : Int) (h1 : 6 ≤ op) (h2 : op ≤ 14) (a b m : Int) (w : World) (hm : 2 ≤ m ∧ m ≤ 16) (ha : 0 ≤ a ∧ a < m) (hb : 0 ≤ b ∧ b < m) :
    Calls Try.prog 42 #[.int .i64 op, .int .i64 a, .int .i64 b, .int .i64 m] w fun e w' => e = .returned (.int .i64 (twoO op a b m)) ∧ w = w' := by
  rcases op_cases op h1 h2 with rfl | rfl | rfl | rfl | rfl | rfl | rfl | rfl | rfl
  · exact rtwo6 a b m w hm.1 hm.2 ha.1 ha.2 hb.1 hb.2
  · exact rtwo7 a b m w hm.1 hm.2 ha.1 ha.2 hb.1 hb.2
  · exact rtwo8 a b m w hm.1 hm.2 ha.1 ha.2 hb.1 hb.2
  · exact rtwo9 a b m w hm.1 hm.2 ha.1 ha.2 hb.1 hb.2
  · exact rtwo10 a b m w hm.1 hm.2 ha.1 ha.2 hb.1 hb.2
  · exact rtwo11 a b m w hm.1 hm.2 ha.1 ha.2 hb.1 hb.2
  · exact rtwo12 a b m w hm.1 hm.2 ha.1 ha.2 hb.1 hb.2
  · exact rtwo13 a b m w hm.1 hm.2 ha.1 ha.2 hb.1 hb.2
  · exact rtwo14 a b m w hm.1 hm.2 ha.1 ha.2 hb.1 hb.2

set_option maxRecDepth 100000 in
set_option maxHeartbeats 2000000 in
theorem rall_any (l : List Int) (v : Value) (m : Int) (w : World) (hv : IntsD w v l) (hn : l.length ≤ 100000) (b : Bool) (hb : allB m l = b) :
    Calls Try.prog 40 #[v, .int .i64 m] w fun e w' => e = .returned (.bool b) ∧ w = w' := by
  have HB0 : Hid ((l.drop 0).all (okI m) = b) := Lib.hid hb
  obtain ⟨ad, cap, rfl, _, _, hc⟩ := hv
  have HC := Lib.hid hc
  obtain ⟨n, hN⟩ : ∃ n, n = l.length := ⟨_, rfl⟩
  rw [← hN] at hn ⊢
  have HN := Lib.hid hN
  clear hN hc hb
  go_enter Try.func40, Try.ntmps40
  go_wp2_with fail
  go_loopg [5] n (fun fuel i' wr => ∃ k : Nat, i' = .int .i64 k ∧ k ≤ n ∧ n - k ≤ fuel ∧ ((l.drop k).all (okI m)) = b ∧ w = wr)
  case atStart => exact ⟨0, rfl, Nat.zero_le _, Nat.le_refl _, HB0.out, rfl⟩
  case round =>
    obtain ⟨k, rfl, hk, hf, ha, rfl⟩ := hrel
    have HA := Lib.hid ha
    clear ha
    by_cases hlt : k < n
    · have hk' : k < l.length := by have := HN.out; omega
      have HD := Lib.hid (List.drop_eq_getElem_cons hk')
      obtain ⟨g, off, rfl, hbl, x0⟩ := HC.out k hk'
      obtain ⟨x, hx⟩ : ∃ x, x = l[k] := ⟨_, rfl⟩
      rw [← hx] at x0 HD
      have c0 : w.cell? ⟨g, off + k, none⟩ = some (.int .i64 x) := by unfold IntAt at x0; rw [Nat.mul_one] at x0; exact x0
      clear x0 hx
      obtain ⟨q, hq⟩ : ∃ q, okI m x = q := ⟨_, rfl⟩
      have H := Lib.hid (rin_is x m q hq)
      have HQ := Lib.hid hq
      clear hq
      cases q with
      | true =>
        go_wp2_with (go_at_call 48; refine (H.out _).mono ?_; rintro e w2 ⟨rfl, rfl⟩)
        go_roundg (gk - 1)
        case measure => omega
        case rel =>
          refine ⟨k + 1, by go_num, by omega, by omega, ?_, rfl⟩
          have h2 := HA.out
          rw [HD.out, List.all_cons, HQ.out] at h2
          simpa using h2
      | false =>
        go_wp2_with (go_at_call 48; refine (H.out _).mono ?_; rintro e w2 ⟨rfl, rfl⟩)
        go_ret
        refine ⟨ret_bool ?_, rfl⟩
        rw [← HA.out, HD.out, List.all_cons, HQ.out]; rfl
    · have HE := Lib.hid (drop_over l k (by have := HN.out; omega))
      go_wp2
      go_ret
      exact ⟨ret_bool (by rw [← HA.out, HE.out]; rfl), rfl⟩

end Go.Proofs.Ytpidodeekogcfaa
