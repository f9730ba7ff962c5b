/- Layer 17, the code: slices.IndexFunc, ContainsFunc of numbers; Cyclic's closure. -/
import Derived.Test.YtkdpimifojjhaaaQp
import Derived.Deep.QuietTactic
namespace Go.Proofs.Ytkdpimifojjhaaa
set_option linter.unusedSimpArgs false
set_option linter.unusedVariables false
open Go.RowKit

set_option maxRecDepth 100000 in
theorem isIn_any (M : List Bool) (gI gi n : Nat) (w : World) (hM : BkT w gI M) (hl : M.length = n) (hk : Bk w gi 32 #[.slice (some ⟨gI, 0, none⟩) n n]) (k : Nat) (hkn : k < n) (q : Bool) (hq : M[k]? = some q) :
    Calls Try.prog 35 #[.int .i64 k, .pointer (some ⟨gi, 0, none⟩)] w fun e w' => e = .returned (.bool q) ∧ w' = w := by
  have c0 := hk.cell 0
  have x0 := hM.at hq
  have l0 := hk.lt
  have l1 := (show Bk w gI _ _ from hM).lt
  have i1 : (0 : Int) ≤ (k : Int) := by omega
  have i2 : (k : Int) < (n : Int) := by omega
  clear hM hk hl hq hkn
  go_enter Try.func35, Try.ntmps35
  go_wp2_with fail
  go_ret
  exact ⟨rfl, rfl⟩
set_option maxRecDepth 100000 in
set_option maxHeartbeats 4000000 in
theorem indexI_any (P : Int → Bool) (gi : Nat) (l : List Int) (v : Value) (w : World) (hz : IntsD w v l) (hn : l.length ≤ 1000000)
    (hP : ∀ x ∈ l, Calls Try.prog 35 #[.int .i64 x, .pointer (some ⟨gi, 0, none⟩)] w fun e w' => e = .returned (.bool (P x)) ∧ w' = w) (q : Bool) (hq : l.any P = q) :
    Calls Try.prog 52 #[v, .func (.func 35) #[] #[.pointer (some ⟨gi, 0, none⟩)]] w fun e w' => ∃ r, e = .returned (.int .i64 r) ∧ (decide (0 ≤ r)) = q ∧ w' = w := by
  obtain ⟨ad, cap, rfl⟩ := hz.shape0
  obtain ⟨n, hN⟩ : ∃ n, n = l.length := ⟨_, rfl⟩
  rw [← hN] at hz hn ⊢
  have HN := Lib.hid hN
  have HZ := Lib.hid hz
  have HP := Lib.hid hP
  have HNN := Lib.hid hn
  have HQ0 := Lib.hid hq
  clear hN hz hP hn hq
  go_enter Try.func52, Try.ntmps52
  go_wp2_with fail
  go_loopg [5, 8] n (fun fuel s5 s8 wr => ∃ k : Nat, s8 = .int .i64 k ∧ k ≤ n ∧ n - k ≤ fuel ∧ wr = w ∧ ∀ j, j < k → ∀ z, l[j]? = some z → P z = false)
  case atStart => exact ⟨0, rfl, Nat.zero_le _, Nat.le_refl _, rfl, fun j hj => absurd hj (Nat.not_lt_zero _)⟩
  case round =>
    obtain ⟨k, rfl, hk, hf, rfl, hj⟩ := hrel
    have HJ := Lib.hid hj
    clear hj
    by_cases hlt : k < n
    · have hkl : k < l.length := by rw [← HN.out]; exact hlt
      obtain ⟨b, off, e, hl, x0⟩ := IntsD.at2 HZ.out k hkl
      subst e
      have HC := Lib.hid (HP.out l[k] (List.getElem_mem hkl))
      obtain ⟨q1, hq⟩ : ∃ q, P l[k] = q := ⟨_, rfl⟩
      rw [hq] at HC
      have HQ : Hid (∀ z, l[k]? = some z → P z = q1) := Lib.hid (fun z h => by rw [List.getElem?_eq_getElem hkl] at h; injection h with h; rw [← h]; exact hq)
      have HMM : Hid (l[k] ∈ l) := Lib.hid (List.getElem_mem hkl)
      have HQL := Lib.hid hq
      have i1 : (0 : Int) ≤ (k : Int) := by omega
      have i2 : (k : Int) < (n : Int) := by omega
      have i5 : IntKind.i64.wrap ((k : Int) + 1) = (k : Int) + 1 := IntWalk.i64_in _ (by have := HNN.out; omega)
      clear hq
      generalize l[k] = x at x0 HC HMM HQL
      clear hkl
      cases q1 with
      | true =>
        go_wp2_with (go_at_call 35; refine Calls.mono HC.out ?_; rintro e w' ⟨rfl, rfl⟩)
        go_ret
        refine ⟨_, rfl, ?_, rfl⟩
        rw [← HQ0.out, List.any_eq_true.2 ⟨x, HMM.out, HQL.out⟩]
        exact decide_eq_true (by omega)
      | false =>
        go_wp2_with (go_at_call 35; refine Calls.mono HC.out ?_; rintro e w' ⟨rfl, rfl⟩)
        go_roundg (gk - 1)
        case measure => omega
        case rel => exact ⟨k + 1, by go_num, by omega, by omega, rfl, fun j hj z hz => by
          by_cases hjk : j = k
          · subst hjk; exact HQ.out z hz
          · exact HJ.out j (by omega) z hz⟩
    · obtain rfl : k = n := by omega
      go_wp2_with fail
      go_ret
      refine ⟨_, rfl, ?_, rfl⟩
      rw [← HQ0.out, List.any_eq_false.2 (fun z hz => by
        obtain ⟨j, hj, e⟩ := List.getElem_of_mem hz
        rw [HJ.out j (by rw [HN.out]; exact hj) z (by rw [List.getElem?_eq_getElem hj, e])]; decide)]
      rfl
set_option maxRecDepth 100000 in
theorem contains_any (P : Int → Bool) (gi : Nat) (l : List Int) (v : Value) (w : World) (hz : IntsD w v l) (hn : l.length ≤ 1000000)
    (hP : ∀ x ∈ l, Calls Try.prog 35 #[.int .i64 x, .pointer (some ⟨gi, 0, none⟩)] w fun e w' => e = .returned (.bool (P x)) ∧ w' = w) (q : Bool) (hq : l.any P = q) :
    Calls Try.prog 36 #[v, .func (.func 35) #[] #[.pointer (some ⟨gi, 0, none⟩)]] w fun e w' => e = .returned (.bool q) ∧ w' = w := by
  have HI := Lib.hid (indexI_any P gi l v w hz hn hP q hq)
  clear hz hn hP hq
  go_enter Try.func36, Try.ntmps36
  go_wp2_with (go_at_call 52; refine Calls.mono HI.out ?_; rintro e w' ⟨r, rfl, hr, rfl⟩; have HR := Lib.hid hr; clear hr)
  go_ret
  exact ⟨ret_bool HR.out, rfl⟩

end Go.Proofs.Ytkdpimifojjhaaa
