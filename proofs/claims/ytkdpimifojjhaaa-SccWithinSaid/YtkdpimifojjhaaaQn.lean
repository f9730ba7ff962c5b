/- Layer 17, the code: what is out; slices.IndexFunc and slices.DeleteFunc of rows. -/
import Derived.Test.YtkdpimifojjhaaaQm
import Derived.Laws.IdiomCopy
namespace Go.Proofs.Ytkdpimifojjhaaa
set_option linter.unusedSimpArgs false
set_option linter.unusedVariables false
open Go.RowKit

def outB (li : List Bool) (z : List Int × Value) : Bool := !(isIn li (z.1.headD 0))
set_option maxRecDepth 100000 in
set_option maxHeartbeats 4000000 in
theorem isOut_any (li : List Bool) (vi : Value) (gi : Nat) (z : List Int × Value) (w : World) (hz : IntsD w z.2 z.1) (h1 : 0 < z.1.length) (h0 : ∀ x ∈ z.1, 0 ≤ x) (hd : TrusD w vi li) (hn : li.length ≤ 1000000) (hk : Bk w gi 32 #[vi]) (q : Bool) (hq : outB li z = q) :
    Calls Try.prog 30 #[z.2, .pointer (some ⟨gi, 0, none⟩)] w fun e w' => e = .returned (.bool q) ∧ w' = w := by
  obtain ⟨l, v⟩ := z
  cases l with
  | nil => exact absurd h1 (Nat.not_lt_zero _)
  | cons x r =>
    have hx := h0 x (List.mem_cons_self ..)
    obtain ⟨k, rfl⟩ : ∃ k : Nat, x = (k : Int) := ⟨x.toNat, by omega⟩
    have hz' : IntsD w v ((k : Int) :: r) := hz
    obtain ⟨az, cz, rfl⟩ := hz'.shape0
    obtain ⟨bz, oz, rfl, lz, xz⟩ := IntsD.at2 hz' 0 (Nat.succ_pos _)
    have xz' : w.cell? ⟨bz, oz, none⟩ = some (.int .i64 (k : Int)) := xz
    have hq' : (!(isIn li (k : Int))) = q := hq
    have hl : 0 < ((k : Int) :: r).length := Nat.succ_pos _
    show Calls Try.prog _ #[.slice (some ⟨bz, oz, none⟩) ((k : Int) :: r).length cz, _] w _
    generalize ((k : Int) :: r).length = m at hl
    obtain ⟨ad, cap, rfl⟩ := hd.shape0
    have c0 := hk.cell 0
    have lk := hk.lt
    have i0 : ((0 : Int) < (m : Int)) := by omega
    unfold isIn at hq'
    by_cases hlt : k < li.length
    · obtain ⟨b, off, rfl, hbl, y⟩ := TrusD.at2 hd k hlt
      rw [decide_eq_true (by omega), Bool.true_and, Int.toNat_natCast, List.getD_eq_getElem?_getD, List.getElem?_eq_getElem hlt] at hq'
      have hq2 : (!li[k]) = q := hq'
      generalize li[k] = t at y hq2
      clear hq'
      have i1 : (0 : Int) ≤ (k : Int) := by omega
      have i2 : (k : Int) < (li.length : Int) := by omega
      have i3 : ¬ ((li.length : Int) ≤ (k : Int)) := by omega
      clear hz hz' xz hd hk hx hn hq h0 h1
      generalize li.length = n at c0 i2 i3 ⊢
      clear hlt
      subst hq2
      go_enter Try.func30, Try.ntmps30
      go_wp2_with fail
      go_ret
      exact ⟨rfl, rfl⟩
    · rw [decide_eq_false (by omega), Bool.false_and] at hq'
      have i2 : ((li.length : Int) ≤ (k : Int)) := by omega
      subst hq'
      clear hz hz' xz hd hk hx hn hq h0 h1 hlt
      generalize li.length = n at c0 i2 ⊢
      go_enter Try.func30, Try.ntmps30
      go_wp2_with fail
      go_ret
      exact ⟨rfl, rfl⟩

/-- The first one that is out. -/
def FirstOut (P : List Int × Value → Bool) (zs : List (List Int × Value)) (r : Int) : Prop := (r = -1 ∧ ∀ z ∈ zs, P z = false) ∨ ∃ i : Nat, r = i ∧ i < zs.length ∧ (∀ z, zs[i]? = some z → P z = true) ∧ ∀ j, j < i → ∀ z, zs[j]? = some z → P z = false
set_option maxRecDepth 100000 in
set_option maxHeartbeats 4000000 in
theorem index_any (P : List Int × Value → Bool) (gi : Nat) (zs : List (List Int × Value)) (vg : Value) (w : World) (hz : AllD w vg zs) (hn : zs.length ≤ 1000000)
    (hP : ∀ z ∈ zs, Calls Try.prog 30 #[z.2, .pointer (some ⟨gi, 0, none⟩)] w fun e w' => e = .returned (.bool (P z)) ∧ w' = w) :
    Calls Try.prog 47 #[vg, .func (.func 30) #[] #[.pointer (some ⟨gi, 0, none⟩)]] w fun e w' => ∃ r, e = .returned (.int .i64 r) ∧ FirstOut P zs r ∧ w' = w := by
  obtain ⟨ad, cap, rfl⟩ := hz.shape0
  obtain ⟨n, hN⟩ : ∃ n, n = zs.length := ⟨_, rfl⟩
  rw [← hN] at hz hn ⊢
  have HN := Lib.hid hN
  have HZ := Lib.hid hz
  have HP := Lib.hid hP
  have HNN := Lib.hid hn
  clear hN hz hP hn
  go_enter Try.func47, Try.ntmps47
  go_wp2_with fail
  go_loopg [5, 8] n (fun fuel s5 s8 wr => ∃ k : Nat, s8 = .int .i64 k ∧ k ≤ n ∧ n - k ≤ fuel ∧ wr = w ∧ ∀ j, j < k → ∀ z, zs[j]? = some z → P z = false)
  case atStart => exact ⟨0, rfl, Nat.zero_le _, Nat.le_refl _, rfl, fun j hj => absurd hj (Nat.not_lt_zero _)⟩
  case round =>
    obtain ⟨k, rfl, hk, hf, rfl, hj⟩ := hrel
    have HJ := Lib.hid hj
    clear hj
    by_cases hlt : k < n
    · have hkl : k < zs.length := by rw [← HN.out]; exact hlt
      obtain ⟨b, off, av, cap', e, hav, hl, x0, hjk⟩ := AllD.at1 HZ.out k hkl
      injection e with e1 e2 e3
      subst e1
      clear e2 e3
      have HC := Lib.hid (HP.out zs[k] (List.getElem_mem hkl))
      rw [← hav] at HC
      obtain ⟨q, hq⟩ : ∃ q, P zs[k] = q := ⟨_, rfl⟩
      rw [hq] at HC
      have HQ : Hid (∀ z, zs[k]? = some z → P z = q) := Lib.hid (fun z h => by rw [List.getElem?_eq_getElem hkl] at h; injection h with h; rw [← h]; exact hq)
      have HKL := Lib.hid hkl
      have i1 : (0 : Int) ≤ (k : Int) := by omega
      have i2 : (k : Int) < (n : Int) := by omega
      have i5 : IntKind.i64.wrap ((k : Int) + 1) = (k : Int) + 1 := IntWalk.i64_in _ (by have := HNN.out; omega)
      clear hq hav hkl hjk
      cases q with
      | true =>
        go_wp2_with (go_at_call 30; refine Calls.mono HC.out ?_; rintro e w' ⟨rfl, rfl⟩)
        go_ret
        exact ⟨_, rfl, .inr ⟨k, rfl, HKL.out, HQ.out, HJ.out⟩, rfl⟩
      | false =>
        go_wp2_with (go_at_call 30; refine Calls.mono HC.out ?_; rintro e w' ⟨rfl, rfl⟩)
        go_roundg (gk - 1)
        case measure => omega
        case rel => exact ⟨k + 1, by go_num, by omega, by omega, rfl, fun j hj z hz => by
          by_cases hjk : j = k
          · subst hjk; exact HQ.out z hz
          · exact HJ.out j (by omega) z hz⟩
    · obtain rfl : k = n := by omega
      go_wp2_with fail
      go_ret
      refine ⟨_, rfl, .inl ⟨rfl, fun z hz => ?_⟩, rfl⟩
      obtain ⟨j, hj, e⟩ := List.getElem_of_mem hz
      exact HJ.out j (by rw [HN.out]; exact hj) z (by rw [List.getElem?_eq_getElem hj, e])

end Go.Proofs.Ytkdpimifojjhaaa
