/- Layer 7: the reference's Right of a unit: its parts. -/
import Derived.Test.YtmkgijedchpgcaaUh
namespace Go.Proofs.Ytmkgijedchpgcaa
set_option linter.unusedSimpArgs false
set_option linter.unusedVariables false
open Go.RowKit

theorem rin7_is (i n : Int) (b : Bool) (h : inB i n = b) (w : World) : Calls Try.prog 55 #[.int .i64 i, .int .i64 n] w fun e w' => e = .returned (.bool b) ∧ w = w' := by
  subst h
  go_enter Try.func55, Try.ntmps55
  go_wp2
  all_goals
    go_ret
    exact ⟨ret_bool (by simp_all [inB] <;> omega), rfl⟩

theorem rin6_is (i n : Int) (b : Bool) (h : inB i n = b) (w : World) : Calls Try.prog 42 #[.int .i64 i, .int .i64 n] w fun e w' => e = .returned (.bool b) ∧ w = w' := rin_is i n b h w

/-- Is a byte among a text's, from a place on? -/
def chF (s : ByteArray) (c : Int) : Nat → Nat → Bool
  | 0, _ => false
  | f + 1, k => if h : k < s.size then ((s[k].toNat : Int) == c) || chF s c f (k + 1) else false

set_option maxRecDepth 100000 in
set_option maxHeartbeats 2000000 in
theorem has_any (s : ByteArray) (c : Int) (n : Nat) (hn : n = s.size) (hs : n ≤ 100) (b : Bool) (hb : chF s c n 0 = b) (w : World) : Calls Try.prog 54 #[.string s, .int .u8 c] w fun e w' => e = .returned (.bool b) ∧ w = w' := by
  have HB0 := Lib.hid hb
  have HN := Lib.hid hn
  clear hb hn
  go_enter Try.func54, Try.ntmps54
  go_wp2_with fail
  go_loopg [5] n (fun fuel i' wr => ∃ (k : Nat), i' = .int .i64 k ∧ k ≤ n ∧ n - k ≤ fuel ∧ chF s c (n - k) k = b ∧ w = wr)
  case atStart => exact ⟨0, rfl, Nat.zero_le _, Nat.le_refl _, HB0.out, rfl⟩
  case round =>
    obtain ⟨k, rfl, hk, hf, ha, rfl⟩ := hrel
    have HA := Lib.hid ha
    clear ha
    by_cases hlt : k < s.size
    · have hlt' : k < n := by rw [HN.out]; exact hlt
      have HE : Hid (chF s c (n - k) k = (((s[k].toNat : Int) == c) || chF s c (n - (k + 1)) (k + 1))) := Lib.hid (by
        obtain ⟨f, hf⟩ : ∃ f, n - k = f + 1 := ⟨n - k - 1, by omega⟩
        rw [hf, show n - (k + 1) = f by omega]
        show (if h : k < s.size then _ else false) = _
        rw [dif_pos hlt])
      have g1 : (k : Int) < (s.size : Int) := by omega
      have g0 : (0 : Int) ≤ (k : Int) := Int.natCast_nonneg _
      obtain ⟨q, hq⟩ : ∃ q, ((s[k].toNat : Int) == c) = q := ⟨_, rfl⟩
      rw [hq] at HE
      cases q with
      | false =>
        go_wp2
        go_roundg (gk - 1)
        case measure => omega
        case rel => exact ⟨k + 1, by go_num, by omega, by omega, by have h2 := HA.out; rw [HE.out] at h2; simpa using h2, rfl⟩
      | true =>
        go_wp2
        go_ret
        exact ⟨ret_bool (by rw [← HA.out, HE.out]; rfl), rfl⟩
    · have g1 : ¬ (k : Int) < (s.size : Int) := by omega
      have hkn : k = n := by have := HN.out; omega
      have HE : Hid (chF s c (n - k) k = false) := Lib.hid (by rw [hkn, Nat.sub_self]; rfl)
      clear hkn
      go_wp2
      go_ret
      exact ⟨ret_bool (by rw [← HA.out, HE.out]), rfl⟩

/-- The parts of a kind, as the reference writes them. -/
def prtS (op : Int) : ByteArray :=
  if op = 2 then ⟨#[114, 101]⟩ else if op = 3 then ⟨#[114, 108]⟩ else if op = 4 then ⟨#[108, 101]⟩ else if op = 5 then ⟨#[114, 108, 101, 102]⟩ else if op = 6 ∨ op = 7 then ⟨#[114, 108, 101]⟩
  else if op = 9 then ⟨#[108, 101, 110]⟩ else if op = 20 then ⟨#[116]⟩ else if op = 21 then ⟨#[101, 116]⟩ else ⟨#[]⟩
def isK2 (op : Int) : Bool := decide ((2 ≤ op ∧ op ≤ 9) ∨ op = 20 ∨ op = 21)
set_option maxRecDepth 100000 in
set_option maxHeartbeats 2000000 in
theorem rparts_any (op : Int) (w : World) : Calls Try.prog 53 #[.int .i64 op] w fun e w' => e = .returned (.tuple #[.string (prtS op), .bool (isK2 op)]) ∧ w = w' := by
  go_enter Try.func53, Try.ntmps53
  go_wp2
  all_goals
    refine bodyPost_ret (by simp [results, Try.results53, go_sem]; rfl) rfl ⟨?_, rfl⟩
    refine congrArg Ending.returned (congrArg Value.tuple ?_)
    first | (have ho := eq_of_beq (by assumption : (op == _) = true); subst ho; rfl) | skip
  all_goals
    have hn : ¬ op = 2 ∧ ¬ op = 3 ∧ ¬ op = 4 ∧ ¬ op = 5 ∧ ¬ op = 6 ∧ ¬ op = 7 ∧ ¬ op = 8 ∧ ¬ op = 9 ∧ ¬ op = 20 ∧ ¬ op = 21 := by simp_all
    have h1 : isK2 op = false := by unfold isK2; exact decide_eq_false (by omega)
    have h2 : prtS op = ⟨#[]⟩ := by
      unfold prtS
      rw [if_neg (by omega), if_neg (by omega), if_neg (by omega), if_neg (by omega), if_neg (by omega), if_neg (by omega), if_neg (by omega), if_neg (by omega)]
    rw [h1, h2]

/-- What a kind has, by the letters of its parts. -/
theorem has_of (op : Int) (h : isK2 op = true) : chF (prtS op) 114 (prtS op).size 0 = hasR op ∧ chF (prtS op) 108 (prtS op).size 0 = hasL op ∧ chF (prtS op) 101 (prtS op).size 0 = hasE op ∧ chF (prtS op) 102 (prtS op).size 0 = hasF op ∧ chF (prtS op) 110 (prtS op).size 0 = hasN op ∧ chF (prtS op) 116 (prtS op).size 0 = hasT op ∧ (prtS op).size ≤ 100 := by
  have h1 := of_decide_eq_true h
  have h2 : op = 2 ∨ op = 3 ∨ op = 4 ∨ op = 5 ∨ op = 6 ∨ op = 7 ∨ op = 8 ∨ op = 9 ∨ op = 20 ∨ op = 21 := by omega
  rcases h2 with rfl | rfl | rfl | rfl | rfl | rfl | rfl | rfl | rfl | rfl
  all_goals decide +kernel

/-- The combinations that there are. -/
def cmbB (h1 h2 h3 h4 h5 h6 : Bool) : Bool :=
  match h1, h2, h3, h4, h5, h6 with
  | true, false, true, false, false, false => true
  | true, true, false, false, false, false => true
  | false, true, true, false, false, false => true
  | true, true, true, true, false, false => true
  | true, true, true, false, false, false => true
  | false, false, false, false, false, false => true
  | false, true, true, false, true, false => true
  | false, false, false, false, false, true => true
  | false, false, true, false, false, true => true
  | _, _, _, _, _, _ => false
theorem cmb_of (op : Int) (h : isK2 op = true) : cmbB (hasR op) (hasL op) (hasE op) (hasF op) (hasN op) (hasT op) = true := by
  have h1 := of_decide_eq_true h
  have h2 : op = 2 ∨ op = 3 ∨ op = 4 ∨ op = 5 ∨ op = 6 ∨ op = 7 ∨ op = 8 ∨ op = 9 ∨ op = 20 ∨ op = 21 := by omega
  rcases h2 with rfl | rfl | rfl | rfl | rfl | rfl | rfl | rfl | rfl | rfl
  all_goals rfl

end Go.Proofs.Ytmkgijedchpgcaa
