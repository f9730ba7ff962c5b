/- Layer 13: the landed table: slot. -/
import Derived.Test.YthmejdnedfokcaaKc
namespace Go.Proofs.Ythmejdnedfokcaa
set_option linter.unusedSimpArgs false
set_option linter.unusedVariables false
open Go.RowKit

/-- What a search comes to: a slot, d steps behind the start; ahead of it all are full, of other texts. -/
structure Fnd (n : Nat) (val : Nat → Option Nat) (L : List ByteArray) (s : ByteArray) (d a : Nat) : Prop where
  dl : d < n
  ae : (hsN n s + d) % n = a
  al : a < n
  pre : ∀ e, e < d → val ((hsN n s + e) % n) ≠ none ∧ ∀ j, val ((hsN n s + e) % n) = some j → L.getD j emptyT ≠ s
  at' : val a = none ∨ ∃ j, val a = some j ∧ L.getD j emptyT = s

attribute [local go_sem ↓] Go.wp_at_zero Go.wp_at_succ
set_option maxRecDepth 100000 in
set_option maxHeartbeats 4000000 in
theorem slot_any {w : World} {g sl n : Nat} {vt : Value} {L : List ByteArray} {val : Nat → Option Nat} (s : ByteArray) (ht : Tb w g sl n vt L val) (hv : ∀ a j, a < n → val a = some j → j < L.length)
    (hroom : ∃ d, d < n ∧ val ((hsN n s + d) % n) = none) (hs : s.size ≤ 300) (hL : L.length ≤ 100000) :
    Calls Try.prog 21 #[.pointer (some ⟨g, 0, none⟩), .string s] w fun e w' => ∃ d a, Fnd n val L s d a ∧ e = .returned (.int .i64 (a : Int)) ∧ Below w.heap.size w w' := by
  obtain ⟨d0, hd0, hr⟩ := hroom
  obtain ⟨p, hp1, hp2⟩ := ht.pw
  obtain ⟨ad, cap, rfl⟩ := ht.shape
  have HT := Lib.hid ht
  have HV := Lib.hid hv
  have HR := Lib.hid hr
  have HLL := Lib.hid hL
  have HPW : Hid (n = 2 ^ p ∧ p ≤ 20) := Lib.hid ⟨hp1, hp2⟩
  have hn1 : 1 ≤ n := by rw [hp1]; exact Nat.two_pow_pos p
  have hn2 : n ≤ 1048576 := by rw [hp1]; exact Nat.le_trans (Nat.pow_le_pow_right (by decide) hp2) (by decide)
  have HN1 : Hid (1 ≤ n ∧ n ≤ 1048576) := Lib.hid ⟨hn1, hn2⟩
  have HH := Lib.hid fun w => hash_any s hs w
  have c2 := ht.cells.2.2
  have hw1 : IntKind.i64.wrap ((n : Int) - 1) = (n : Int) - 1 := IntWalk.i64_in _ (by omega)
  have hw2 : IntKind.u64.wrap ((n : Int) - 1) = (n : Int) - 1 := IntWalk.u64_in _ (by omega)
  clear hv hr hL hp1 hp2
  go_enter Try.func21, Try.ntmps21
  go_wp2_with fail
  refine (HH.out w).mono ?_
  rintro e w1 ⟨rfl, b1⟩
  have HB1 := Lib.hid b1
  clear b1 HH
  have ha1 : bits .and .u64 (hashP s) ((n : Int) - 1) = ((hsN n s : Nat) : Int) := and_u64 _ HPW.out.1 HPW.out.2
  have hsl : hsN n s < n := Nat.mod_lt _ (by omega)
  have hw3 : IntKind.i64.wrap ((hsN n s : Nat) : Int) = ((hsN n s : Nat) : Int) := IntWalk.i64_in _ (by omega)
  have HSL := Lib.hid hsl
  have HW3 : Hid (∀ x : Nat, x < n → x % n = x) := Lib.hid fun x hx => Nat.mod_eq_of_lt hx
  go_wp2_with fail
  clear c2 hw1 hw2 ha1 hsl
  go_loopg [6] d0 (fun fuel i' wr => ∃ (d a : Nat), i' = .int .i64 (a : Int) ∧ (hsN n s + d) % n = a ∧ d ≤ d0 ∧ d0 - d ≤ fuel ∧ (∀ e, e < d → val ((hsN n s + e) % n) ≠ none ∧ ∀ j, val ((hsN n s + e) % n) = some j → L.getD j emptyT ≠ s) ∧ Below w.heap.size w wr)
  case atStart => exact ⟨0, hsN n s, rfl, HW3.out _ HSL.out, Nat.zero_le _, Nat.le_refl _, fun e he => by omega, HB1.out⟩
  case round =>
    obtain ⟨d, a, rfl, ha, hd, hf, hpre, hb⟩ := hrel
    have hal : a < n := by rw [← ha]; exact Nat.mod_lt _ (by have := HN1.out; omega)
    have HA := Lib.hid ha
    have HP := Lib.hid hpre
    have HB := Lib.hid hb
    have HAL := Lib.hid hal
    have HD := Lib.hid hd
    have HF := Lib.hid hf
    have T2 := HT.out.below HB.out
    have c1 := T2.cells.2.1
    have c2 := T2.cells.2.2
    have c3 := T2.slot hal
    obtain ⟨ov, hov⟩ : ∃ o, val a = o := ⟨_, rfl⟩
    rw [hov] at c3
    have HOV := Lib.hid hov
    have e1 : (0 : Int) ≤ (a : Int) := by omega
    have e2 : (a : Int) < (n : Int) := by omega
    clear ha hpre hb hov hd hf HB1
    cases ov with
    | none =>
      clear c1
      unfold encV at c3
      go_wp2_with fail
      go_quiet (fail)
      go_wp2_with fail
      go_ret
      exact ⟨d, a, ⟨by have := HD.out; omega, HA.out, HAL.out, HP.out, .inl HOV.out⟩, rfl, below_drewN HB.out _⟩
    | some j =>
      have hj : j < L.length := HV.out a j hal HOV.out
      obtain ⟨b, off, rfl, hbl, y⟩ := StrsD.at2 (strsD_of_own T2.own) j hj
      have HG : Hid (L.getD j emptyT = L[j]) := Lib.hid (by rw [List.getD_eq_getElem?_getD, List.getElem?_eq_getElem hj]; rfl)
      obtain ⟨q, hq⟩ : ∃ q, eqT L[j] s = q := ⟨_, rfl⟩
      have HQ := Lib.hid hq
      unfold eqT at hq
      generalize L[j] = x at y hq HQ HG
      have HJ := Lib.hid hj
      have e3 : ((j : Int) + 1 != 0) = true := by rw [bne_iff_ne]; omega
      have e4 : (0 : Int) ≤ (j : Int) := by omega
      have e5 : (j : Int) < (L.length : Int) := by omega
      have e6 : wrap64 (j : Int) = (j : Int) := IntWalk.wrap64_in _ (by have := HLL.out; omega)
      unfold encV at c3
      clear hj
      have e7 : bits .and .i64 ((a : Int) + 1) ((n : Int) - 1) = (((hsN n s + (d + 1)) % n : Nat) : Int) := by
        have := and_i64 (x := a + 1) HPW.out.1 HPW.out.2 (by have := HN1.out; omega)
        rw [show ((a : Int) + 1) = ((a + 1 : Nat) : Int) by omega, this, ← HA.out, Nat.mod_add_mod, Nat.add_assoc]
      have e8 : IntKind.i64.wrap ((a : Int) + 1) = (a : Int) + 1 := IntWalk.i64_in _ (by have := HN1.out; omega)
      have E7 := Lib.hid e7
      clear e7
      cases q
      · go_wp2_with fail
        go_quiet (fail)
        go_wp2_with fail
        have hdd : d < d0 := by
          have h1 := HD.out
          rcases Nat.lt_or_ge d d0 with h | h
          · exact h
          · have h2 : d = d0 := by omega
            have h3 := HR.out
            rw [← h2, HA.out, HOV.out] at h3
            cases h3
        have hf := HF.out
        go_roundg (gk - 1)
        case measure => omega
        case rel =>
          refine ⟨d + 1, _, by rw [E7.out], rfl, by omega, by omega, fun e he => ?_, below_drewN HB.out _⟩
          rcases Nat.lt_or_ge e d with h | h
          · exact HP.out e h
          · have h2 : e = d := by omega
            subst h2
            rw [HA.out, HOV.out]
            refine ⟨fun h => (by cases h), fun j' hj' => ?_⟩
            injection hj' with hj'
            subst hj'
            rw [HG.out]
            intro hx
            rw [hx, (eqT_iff s s).2 rfl] at HQ
            exact absurd HQ.out (by decide)
      · go_wp2_with fail
        go_quiet (fail)
        go_wp2_with fail
        go_ret
        exact ⟨d, a, ⟨by have := HD.out; omega, HA.out, HAL.out, HP.out, .inr ⟨j, HOV.out, HG.out.trans ((eqT_iff _ _).1 HQ.out)⟩⟩, rfl, below_drewN HB.out _⟩

end Go.Proofs.Ythmejdnedfokcaa
