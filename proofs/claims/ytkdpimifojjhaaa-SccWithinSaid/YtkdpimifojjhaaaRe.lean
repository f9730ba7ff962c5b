/- Layer 17, the reference: has, Cyclic. -/
import Derived.Test.YtkdpimifojjhaaaQr
import Derived.Test.YtkdpimifojjhaaaPe
namespace Go.Proofs.Ytkdpimifojjhaaa
set_option linter.unusedSimpArgs false
set_option linter.unusedVariables false
open Go.RowKit

set_option maxRecDepth 100000 in
set_option maxHeartbeats 4000000 in
theorem has_any (l : List Int) (v : Value) (x : Int) (w : World) (hd : IntsD w v l) (hn : l.length ≤ 1000000) (q : Bool) (hq : decide (x ∈ l) = q) :
    Calls Try.prog 37 #[v, .int .i64 x] w fun e w' => e = .returned (.bool q) ∧ w' = w := by
  obtain ⟨ad, cap, rfl⟩ := hd.shape0
  obtain ⟨n, hN⟩ : ∃ n, n = l.length := ⟨_, rfl⟩
  rw [← hN] at hd hn ⊢
  have HN := Lib.hid hN
  have HD := Lib.hid hd
  have HNN := Lib.hid hn
  have HQ := Lib.hid hq
  clear hN hd hn hq
  go_enter Try.func37, Try.ntmps37
  go_wp2_with fail
  go_loopg [5] n (fun fuel s5 wr => ∃ k : Nat, s5 = .int .i64 k ∧ k ≤ n ∧ n - k ≤ fuel ∧ wr = w ∧ ∀ j, j < k → ∀ z, l[j]? = some z → z ≠ x)
  case atStart => exact ⟨0, rfl, Nat.zero_le _, Nat.le_refl _, rfl, fun j hj => absurd hj (Nat.not_lt_zero _)⟩
  case round =>
    obtain ⟨k, rfl, hk, hf, rfl, hj⟩ := hrel
    have HJ := Lib.hid hj
    clear hj
    by_cases hlt : k < n
    · have hkl : k < l.length := by rw [← HN.out]; exact hlt
      obtain ⟨b, off, e, hl, x0⟩ := IntsD.at2 HD.out k hkl
      subst e
      have HM : Hid (l[k] ∈ l) := Lib.hid (List.getElem_mem hkl)
      have HQK : Hid (∀ z, l[k]? = some z → z = l[k]) := Lib.hid (fun z h => by rw [List.getElem?_eq_getElem hkl] at h; injection h with h; exact h.symm)
      have i1 : (0 : Int) ≤ (k : Int) := by omega
      have i2 : (k : Int) < (n : Int) := by omega
      have i5 : IntKind.i64.wrap ((k : Int) + 1) = (k : Int) + 1 := IntWalk.i64_in _ (by have := HNN.out; omega)
      generalize l[k] = y at x0 HM HQK
      clear hkl
      by_cases hyx : y = x
      · subst hyx
        go_wp2_with fail
        go_ret
        exact ⟨ret_bool (by rw [← HQ.out]; exact (decide_eq_true HM.out).symm), rfl⟩
      · have HNE := Lib.hid hyx
        go_wp2_with fail
        go_roundg (gk - 1)
        case measure => omega
        case rel => exact ⟨k + 1, by go_num, by omega, by omega, rfl, fun j hj z hz => by
          by_cases hjk : j = k
          · subst hjk; rw [HQK.out z hz]; exact HNE.out
          · exact HJ.out j (by omega) z hz⟩
    · obtain rfl : k = n := by omega
      go_wp2_with fail
      go_ret
      refine ⟨ret_bool ?_, rfl⟩
      rw [← HQ.out]
      exact (decide_eq_false fun hm => by
        obtain ⟨j, hj, e⟩ := List.getElem_of_mem hm
        exact HJ.out j (by rw [HN.out]; exact hj) x (by rw [List.getElem?_eq_getElem hj, e]) rfl).symm
set_option maxRecDepth 100000 in
set_option maxHeartbeats 4000000 in
theorem rcyc_any (g : Gr) (l : List Int) (vs va vt vl : Value) (w : World) (hd : GrD w vs va vt g) (hl : IntsD w vl l) (hn : g.st.length ≤ 1001 ∧ g.to.length ≤ 1000) (hll : l.length ≤ 1000) (q : Bool) (hq : cycG g l = q) :
    Calls Try.prog 19 #[.agg #[vs, va, vt], vl] w fun e w' => e = .returned (.bool q) ∧ Below w.heap.size w w' := by
  have HAL := Lib.hid fun (W : World) (h : Below w.heap.size w W) => rall_any g vs va vt W (hd.below h) hn
  have HH := Lib.hid fun (W : World) (h : Below w.heap.size w W) (x : Int) (q : Bool) (hq : decide (x ∈ l) = q) => has_any l vl x W (hl.below h) (by omega) q hq
  have HQ : Hid ((allZ g).any (bothIn l) = q) := Lib.hid (by
    rw [← hq]; unfold allZ cycG
    cases rightG g with
    | true => rfl
    | false => rfl)
  have HLE : Hid ((allZ g).length ≤ 1000) := Lib.hid (by
    unfold allZ
    by_cases h : rightG g = true
    · rw [if_pos h, (right_RG g h).allLen]; exact hn.2
    · rw [if_neg h]; exact Nat.zero_le _)
  have BX := Lib.hid (bal (Below.refl w.heap.size w) (.cells #[vs, va, vt] 24))
  have KX := Lib.hid (Bk.new w 24 #[vs, va, vt])
  clear hd hl hn hll hq
  go_enter Try.func19, Try.ntmps19
  go_wp2_with fail
  generalize (w.alloc _) = w0 at BX KX ⊢
  refine Calls.mono (HAL.out w0 BX.out) ?_
  rintro e w1 ⟨v1, rfl, ol, b1⟩
  have BY := Lib.hid (BX.out.trans (b1.mono BX.out.size))
  have HL := Lib.hid (edgsD_of_own ol)
  obtain ⟨zl, yl, rfl, hj⟩ := own_shape' ol
  obtain ⟨E, hE⟩ : ∃ E, E = allZ g := ⟨_, rfl⟩
  rw [← hE] at HL HQ HLE ⊢
  obtain ⟨m, hm⟩ : ∃ m, m = E.length := ⟨_, rfl⟩
  rw [← hm] at HL HLE ⊢
  have HM := Lib.hid hm
  clear hj b1 ol BX KX HAL hE hm
  go_wp2_with fail
  go_loopg [6] m (fun fuel s6 wr => ∃ k : Nat, s6 = .int .i64 k ∧ k ≤ m ∧ m - k ≤ fuel ∧ wr = w1 ∧ ∀ j, j < k → ∀ z, E[j]? = some z → bothIn l z = false)
  case atStart => exact ⟨0, rfl, Nat.zero_le _, Nat.le_refl _, rfl, fun j hj => absurd hj (Nat.not_lt_zero _)⟩
  case round =>
    obtain ⟨k, rfl, hk, hf, rfl, hj⟩ := hrel
    have HJ := Lib.hid hj
    clear hj
    by_cases hlt : k < m
    · have hkl : k < E.length := by rw [← HM.out]; exact hlt
      obtain ⟨b, off, e, hbl, x0, x1, x2⟩ := EdgsD.at2 HL.out k hkl
      subst e
      obtain ⟨ed, hed⟩ : ∃ e, e = E[k] := ⟨_, rfl⟩
      have HMEM : Hid (ed ∈ E) := Lib.hid (by rw [hed]; exact List.getElem_mem hkl)
      have HQK : Hid (∀ z, E[k]? = some z → z = ed) := Lib.hid (fun z h => by rw [List.getElem?_eq_getElem hkl] at h; injection h with h; rw [hed]; exact h.symm)
      rw [← hed] at x0 x1 x2
      obtain ⟨ev, ea, eu⟩ := ed
      have y0 : wr.cell? ⟨b, off + k * 3, none⟩ = some (.int .i64 ev) := x0
      have y2 : wr.cell? ⟨b, off + k * 3 + 2, none⟩ = some (.int .i64 eu) := x2
      have i1 : (0 : Int) ≤ (k : Int) := by omega
      have i2 : (k : Int) < (m : Int) := by omega
      have i5 : IntKind.i64.wrap ((k : Int) + 1) = (k : Int) + 1 := IntWalk.i64_in _ (by have := HLE.out; omega)
      obtain ⟨q1, hq1⟩ : ∃ q1, decide (ev ∈ l) = q1 := ⟨_, rfl⟩
      obtain ⟨q2, hq2⟩ : ∃ q2, decide (eu ∈ l) = q2 := ⟨_, rfl⟩
      have H1 := Lib.hid (HH.out wr BY.out ev q1 hq1)
      have H2 := Lib.hid (HH.out wr BY.out eu q2 hq2)
      have HB12 : Hid (bothIn l (ev, ea, eu) = (q1 && q2)) := Lib.hid (by unfold bothIn; rw [← hq1, ← hq2])
      clear x0 x1 x2 hed hkl hq1 hq2
      cases q1 with
      | false =>
        go_wp2_with (go_at_call 37; refine Calls.mono H1.out ?_; rintro e w' ⟨rfl, rfl⟩)
        go_roundg (gk - 1)
        case measure => omega
        case rel => exact ⟨k + 1, by go_num, by omega, by omega, rfl, fun j hj z hz => by
          by_cases hjk : j = k
          · subst hjk; rw [HQK.out z hz, HB12.out]; rfl
          · exact HJ.out j (by omega) z hz⟩
      | true =>
        cases q2 with
        | false =>
          go_wp2_with fail
          refine Calls.mono H1.out ?_
          rintro e w' ⟨rfl, rfl⟩
          go_wp2_with fail
          refine Calls.mono H2.out ?_
          rintro e w' ⟨rfl, rfl⟩
          go_wp2_with fail
          go_roundg (gk - 1)
          case measure => omega
          case rel => exact ⟨k + 1, by go_num, by omega, by omega, rfl, fun j hj z hz => by
            by_cases hjk : j = k
            · subst hjk; rw [HQK.out z hz, HB12.out]; rfl
            · exact HJ.out j (by omega) z hz⟩
        | true =>
          go_wp2_with fail
          refine Calls.mono H1.out ?_
          rintro e w' ⟨rfl, rfl⟩
          go_wp2_with fail
          refine Calls.mono H2.out ?_
          rintro e w' ⟨rfl, rfl⟩
          go_wp2_with fail
          go_ret
          exact ⟨ret_bool (by rw [← HQ.out]; exact (List.any_eq_true.2 ⟨_, HMEM.out, HB12.out⟩).symm), BY.out⟩
    · obtain rfl : k = m := by omega
      go_wp2_with fail
      go_ret
      refine ⟨ret_bool ?_, BY.out⟩
      rw [← HQ.out]
      exact (List.any_eq_false.2 fun z hz => by
        obtain ⟨j, hj, e⟩ := List.getElem_of_mem hz
        rw [HJ.out j (by rw [HM.out]; exact hj) z (by rw [List.getElem?_eq_getElem hj, e])]; decide).symm

end Go.Proofs.Ytkdpimifojjhaaa
