/- What both End do. -/
import Derived.Test.YtifbhlgingaahaaDoorNa
namespace Go.Proofs.YtifbhlgingaahaaDoor
open Go.RowKit

/-- Where the operands that are missing end, in what is left of the nodes. -/
def endF : List Nd → Int → Nat → Option Nat
  | [], _, _ => none
  | x :: r, m, k => if ar x.op < 0 then none else if m + (ar x.op - 1) = 0 then some (k + 1) else endF r (m + (ar x.op - 1)) (k + 1)

def endI (o : Option Nat) : Int := match o with | none => -1 | some j => j
def endL (l : List Nd) (i : Int) : Int := if i < 0 then -1 else endI (endF (l.drop i.toNat) 1 i.toNat)

theorem endF_at (l : List Nd) (k : Nat) (h : k < l.length) (m : Int) : endF (l.drop k) m k = if ar l[k].op < 0 then none else if m + (ar l[k].op - 1) = 0 then some (k + 1) else endF (l.drop (k + 1)) (m + (ar l[k].op - 1)) (k + 1) := by
  rw [List.drop_eq_getElem_cons h, endF]
theorem endF_over (l : List Nd) (k : Nat) (h : ¬ k < l.length) (m : Int) : endF (l.drop k) m k = none := by
  rw [List.drop_eq_nil_of_le (by omega), endF]

theorem endL_neg (l : List Nd) (i : Int) (h : i < 0) : endL l i = -1 := by unfold endL; rw [if_pos h]
theorem endL_nat (l : List Nd) (k : Nat) : endL l (k : Int) = endI (endF (l.drop k) 1 k) := by
  unfold endL; rw [if_neg (by omega)]; rfl

set_option maxHeartbeats 1000000 in
theorem end_nat (l : List Nd) (v : Value) (i : Nat) (w : World) (hv : Nds w v l) (hn : l.length ≤ 100000) :
    Calls Tryd.prog 12 #[v, .int .i64 i] w fun e w' => e = .returned (.int .i64 (endL l i)) ∧ w = w' := by
  rw [endL_nat]

  obtain ⟨ad, cap, rfl, hc⟩ := hv.cases
  obtain ⟨n, hN⟩ : ∃ n, n = l.length := ⟨_, rfl⟩
  rw [← hN] at hn ⊢
  have HC := Lib.hid hc
  have HN := Lib.hid hN
  clear hc hN hv
  obtain ⟨R, hR⟩ : ∃ R, endF (l.drop i) 1 i = R := ⟨_, rfl⟩
  rw [hR]
  have HR := Lib.hid hR; clear hR
  go_enter Tryd.func12, Tryd.ntmps12
  go_wp2
  go_loopg [1, 5] (n - i) (fun fuel i' m' wr => ∃ (k : Nat) (m : Int), i' = .int .i64 k ∧ m' = .int .i64 m ∧ n - k ≤ fuel ∧ 0 < m ∧ m ≤ 1 + k ∧ endF (l.drop k) m k = R ∧ w = wr)
  case atStart => exact ⟨i, 1, rfl, rfl, Nat.le_refl _, by omega, by omega, HR.out, rfl⟩
  case round =>
    obtain ⟨k, m, rfl, rfl, hf, hm0, hm1, hr, rfl⟩ := hrel
    have HR2 := Lib.hid hr; clear hr
    by_cases hlt : k < n
    · have hk' : k < l.length := by have := HN.out; omega
      have HE := Lib.hid (endF_at l k hk' m)
      obtain ⟨b, off, rfl, _, c0, _⟩ := HC.out k hk'
      obtain ⟨o, ho⟩ : ∃ o, o = l[k].op := ⟨_, rfl⟩
      have HO := Lib.hid ho
      rw [← ho] at c0
      clear ho
      obtain ⟨a, ha⟩ : ∃ a, a = ar o := ⟨_, rfl⟩
      have hab : -1 ≤ a ∧ a ≤ 2 := by have := ar_cases o; omega
      obtain ⟨hab1, hab2⟩ := hab
      have HA : ∀ w, Calls Tryd.prog 26 #[.int .i64 o] w fun e w' => e = .returned (.int .i64 a) ∧ w = w' := fun w => ha ▸ operands_any o w
      have HAA := Lib.hid ha
      clear ha
      have HL := Lib.hid hlt
      have hm2 : m ≤ 1000000000000000 := by omega
      have hm3 : -1 ≤ m + (a - 1) := by omega
      have hm4 : m + (a - 1) ≤ 1000000000000000 := by omega
      by_cases h1 : a < 0
      · go_wp2_with (go_at_call 26; refine (HA _).mono ?_; rintro e w2 ⟨rfl, rfl⟩)
        go_ret
        refine ⟨ret_int ?_, rfl⟩
        have := HR2.out
        rw [HE.out, ← HO.out, ← HAA.out, if_pos h1] at this
        subst this; rfl
      · by_cases h2 : m + (a - 1) = 0
        · have q2 : ((m + (a - 1)) == 0) = true := by simpa using h2
          have H2 := Lib.hid h2; clear h2
          go_wp2_with (go_at_call 26; refine (HA _).mono ?_; rintro e w2 ⟨rfl, rfl⟩)
          go_ret
          refine ⟨ret_int ?_, rfl⟩
          have := HR2.out
          rw [HE.out, ← HO.out, ← HAA.out, if_neg (by omega), if_pos H2.out] at this
          subst this; simp [endI]
        · have q2 : ((m + (a - 1)) == 0) = false := by simpa using h2
          have H2 := Lib.hid h2; clear h2
          go_wp2_with (go_at_call 26; refine (HA _).mono ?_; rintro e w2 ⟨rfl, rfl⟩)
          go_roundg (gk - 1)
          case measure => have := HL.out; omega
          case rel =>
            have h2 := H2.out
            refine ⟨k + 1, m + (a - 1), by go_num, rfl, by omega, by omega, by omega, ?_, rfl⟩
            have := HR2.out
            rw [HE.out, ← HO.out, ← HAA.out, if_neg (by omega), if_neg h2] at this
            exact this
    · have HE := Lib.hid (endF_over l k (by have := HN.out; omega) m)
      go_wp2
      go_ret
      exact ⟨ret_int (by rw [← HR2.out, HE.out]; rfl), rfl⟩

set_option maxHeartbeats 400000 in
theorem end_neg (v : Value) (i : Int) (w : World) (h : i < 0) :
    Calls Tryd.prog 12 #[v, .int .i64 i] w fun e w' => e = .returned (.int .i64 (-1)) ∧ w = w' := by
  go_enter Tryd.func12, Tryd.ntmps12
  go_wp2
  go_ret
  exact ⟨rfl, rfl⟩

theorem end_any (l : List Nd) (v : Value) (i : Int) (w : World) (hv : Nds w v l) (hn : l.length ≤ 100000) :
    Calls Tryd.prog 12 #[v, .int .i64 i] w fun e w' => e = .returned (.int .i64 (endL l i)) ∧ w = w' := by
  by_cases h : i < 0
  · rw [endL_neg l i h]; exact end_neg v i w h
  · obtain ⟨k, rfl⟩ : ∃ k : Nat, i = k := ⟨i.toNat, by omega⟩
    exact end_nat l v k w hv hn

set_option maxHeartbeats 1000000 in
theorem rend_nat (l : List Nd) (v : Value) (i : Nat) (w : World) (hv : Nds w v l) (hn : l.length ≤ 100000) :
    Calls Tryd.prog 13 #[v, .int .i64 i] w fun e w' => e = .returned (.int .i64 (endL l i)) ∧ w = w' := by
  rw [endL_nat]

  obtain ⟨ad, cap, rfl, hc⟩ := hv.cases
  obtain ⟨n, hN⟩ : ∃ n, n = l.length := ⟨_, rfl⟩
  rw [← hN] at hn ⊢
  have HC := Lib.hid hc
  have HN := Lib.hid hN
  clear hc hN hv
  obtain ⟨R, hR⟩ : ∃ R, endF (l.drop i) 1 i = R := ⟨_, rfl⟩
  rw [hR]
  have HR := Lib.hid hR; clear hR
  go_enter Tryd.func13, Tryd.ntmps13
  go_wp2
  go_loopg [5, 6] (n - i) (fun fuel m' i' wr => ∃ (k : Nat) (m : Int), i' = .int .i64 k ∧ m' = .int .i64 m ∧ n - k ≤ fuel ∧ 0 < m ∧ m ≤ 1 + k ∧ endF (l.drop k) m k = R ∧ w = wr)
  case atStart => exact ⟨i, 1, rfl, rfl, Nat.le_refl _, by omega, by omega, HR.out, rfl⟩
  case round =>
    obtain ⟨k, m, rfl, rfl, hf, hm0, hm1, hr, rfl⟩ := hrel
    have HR2 := Lib.hid hr; clear hr
    by_cases hlt : k < n
    · have hk' : k < l.length := by have := HN.out; omega
      have HE := Lib.hid (endF_at l k hk' m)
      obtain ⟨b, off, rfl, _, c0, _⟩ := HC.out k hk'
      obtain ⟨o, ho⟩ : ∃ o, o = l[k].op := ⟨_, rfl⟩
      have HO := Lib.hid ho
      rw [← ho] at c0
      clear ho
      obtain ⟨a, ha⟩ : ∃ a, a = ar o := ⟨_, rfl⟩
      have hab : -1 ≤ a ∧ a ≤ 2 := by have := ar_cases o; omega
      obtain ⟨hab1, hab2⟩ := hab
      have HA : ∀ w, Calls Tryd.prog 27 #[.int .i64 o] w fun e w' => e = .returned (.int .i64 a) ∧ w = w' := fun w => ha ▸ kids_any o w
      have HAA := Lib.hid ha
      clear ha
      have HL := Lib.hid hlt
      have hm2 : m ≤ 1000000000000000 := by omega
      have hm3 : -1 ≤ m - 1 + a := by omega
      have hm4 : m - 1 + a ≤ 1000000000000000 := by omega
      by_cases h1 : a < 0
      · go_wp2_with (go_at_call 27; refine (HA _).mono ?_; rintro e w2 ⟨rfl, rfl⟩)
        go_ret
        refine ⟨ret_int ?_, rfl⟩
        have := HR2.out
        rw [HE.out, ← HO.out, ← HAA.out, if_pos h1] at this
        subst this; rfl
      · by_cases h2 : m + (a - 1) = 0
        · have q2 : ((m - 1 + a) == 0) = true := by simp; omega
          have H2 := Lib.hid h2; clear h2
          go_wp2_with (go_at_call 27; refine (HA _).mono ?_; rintro e w2 ⟨rfl, rfl⟩)
          go_ret
          refine ⟨ret_int ?_, rfl⟩
          have := HR2.out
          rw [HE.out, ← HO.out, ← HAA.out, if_neg (by omega), if_pos H2.out] at this
          subst this; simp [endI]
        · have q2 : ((m - 1 + a) == 0) = false := by simp; omega
          have H2 := Lib.hid h2; clear h2
          go_wp2_with (go_at_call 27; refine (HA _).mono ?_; rintro e w2 ⟨rfl, rfl⟩)
          go_roundg (gk - 1)
          case measure => have := HL.out; omega
          case rel =>
            have h2 := H2.out
            refine ⟨k + 1, m + (a - 1), by go_num, by rw [show m + (a - 1) = m - 1 + a by omega], by omega, by omega, by omega, ?_, rfl⟩
            have := HR2.out
            rw [HE.out, ← HO.out, ← HAA.out, if_neg (by omega), if_neg h2] at this
            exact this
    · have HE := Lib.hid (endF_over l k (by have := HN.out; omega) m)
      go_wp2
      go_ret
      exact ⟨ret_int (by rw [← HR2.out, HE.out]; rfl), rfl⟩

set_option maxHeartbeats 400000 in
theorem rend_neg (v : Value) (i : Int) (w : World) (h : i < 0) :
    Calls Tryd.prog 13 #[v, .int .i64 i] w fun e w' => e = .returned (.int .i64 (-1)) ∧ w = w' := by
  go_enter Tryd.func13, Tryd.ntmps13
  go_wp2
  go_ret
  exact ⟨rfl, rfl⟩

theorem rend_any (l : List Nd) (v : Value) (i : Int) (w : World) (hv : Nds w v l) (hn : l.length ≤ 100000) :
    Calls Tryd.prog 13 #[v, .int .i64 i] w fun e w' => e = .returned (.int .i64 (endL l i)) ∧ w = w' := by
  by_cases h : i < 0
  · rw [endL_neg l i h]; exact rend_neg v i w h
  · obtain ⟨k, rfl⟩ : ∃ k : Nat, i = k := ⟨i.toNat, by omega⟩
    exact rend_nat l v k w hv hn

end Go.Proofs.YtifbhlgingaahaaDoor
