/- The reference's Right of code. -/
import Derived.Test.YtmkgijedchpgcaaUc
namespace Go.Proofs.Ytmkgijedchpgcaa
set_option linter.unusedSimpArgs false
set_option linter.unusedVariables false
open Go.RowKit

set_option maxRecDepth 100000 in
set_option maxHeartbeats 8000000 in
theorem rright_code (l : List Opn) (regs : List Int) (v rv : Value) (own locs : Int) (w : World) (hv : OpsD w v l) (hr : IntsD w rv regs) (hn : l.length ≤ 100000) (b : Bool) (hb : rightO l regs own locs = b) :
    Calls Try.prog 56 #[v, rv, .int .i64 own, .int .i64 locs] w fun e w' => e = .returned (.bool b) ∧ Below w.heap.size w w' := by
  have HR := Lib.hid hr
  obtain ⟨⟨m0, k0⟩, hk⟩ : ∃ r, r = htsL l 0 0 := ⟨_, rfl⟩
  obtain ⟨bq, hbq⟩ : ∃ bq, ((l.drop 0).all (okO regs own locs)) = bq := ⟨_, rfl⟩
  have hb2 : (decide (k0 = 1) && bq) = b := by rw [← hb, ← hbq]; unfold rightO; rw [← hk]; rfl
  have HL := Lib.hid (fun (W : World) (h : Below w.heap.size w W) => lies_any l v W (OpsD.below hv h) hn m0 k0 hk.symm)
  have HB0 := Lib.hid hbq
  have HBB := Lib.hid hb2
  obtain ⟨ad, cap, rfl, hcap1, hcap2, hc⟩ := hv
  have HC := Lib.hid hc
  obtain ⟨ad2, cap2, rfl⟩ := hr.shape0
  obtain ⟨n2, hN2⟩ : ∃ n2, n2 = regs.length := ⟨_, rfl⟩
  have HN2 := Lib.hid hN2
  rw [← hN2] at HR ⊢
  obtain ⟨n, hN⟩ : ∃ n, n = l.length := ⟨_, rfl⟩
  rw [← hN] at hn HL ⊢
  have HN := Lib.hid hN
  clear hN hc hcap1 hcap2 hr hk hbq hb2 hb hN2
  go_enter Try.func56, Try.ntmps56
  go_wp2_with fail
  go_loopg [9] n (fun fuel i' wr => ∃ (k : Nat), i' = .int .i64 k ∧ k ≤ n ∧ n - k ≤ fuel ∧ ((l.drop k).all (okO regs own locs)) = bq ∧ Below w.heap.size w wr)
  case atStart => exact ⟨0, rfl, Nat.zero_le _, Nat.le_refl _, HB0.out, Below.refl _ _⟩
  case round =>
    obtain ⟨k, rfl, hkn, hf, ha, hb⟩ := hrel
    have HA := Lib.hid ha
    have HB := Lib.hid hb
    have hww := hb.size
    clear ha hb
    by_cases hlt : k < n
    · have hk' : k < l.length := by have := HN.out; omega
      have HD := Lib.hid (List.drop_eq_getElem_cons hk')
      obtain ⟨vb, off, rfl, hbl, x0, x1, x2⟩ := HC.out k hk'
      obtain ⟨q, hq⟩ : ∃ q, okO regs own locs l[k] = q := ⟨_, rfl⟩
      have HQ := Lib.hid hq
      obtain ⟨⟨xo, xn, xt⟩, hx⟩ : ∃ x, x = l[k] := ⟨_, rfl⟩
      rw [← hx] at x0 x1 x2 hq
      simp only [] at x0 x1 x2
      have c0 : wr.cell? ⟨vb, off + k * 3, none⟩ = some (.int .i64 xo) := (HB.out.cell (p := ⟨vb, _, none⟩) hbl).trans x0
      have c1 : wr.cell? ⟨vb, off + k * 3 + 1, none⟩ = some (.int .i64 xn) := (HB.out.cell (p := ⟨vb, _, none⟩) hbl).trans x1
      have c2 : wr.cell? ⟨vb, off + k * 3 + 2, none⟩ = some (.int .i64 xt) := (HB.out.cell (p := ⟨vb, _, none⟩) hbl).trans x2
      clear x0 x1 x2 hx
      by_cases g1 : xo = 1
      · subst g1
        have H := Lib.hid (rin_is xn 10000 q (by rw [← hq]; rfl))
        clear hq
        cases q with
        | false =>
          go_wp2_with (go_at_call 42; refine (H.out _).mono ?_; rintro e w2 ⟨rfl, rfl⟩)
          go_ret
          refine ⟨ret_bool ?_, HB.out.alloc hww _⟩
          have h2 := HA.out
          rw [HD.out, List.all_cons, HQ.out] at h2
          rw [← HBB.out, ← h2]; simp
        | true =>
          go_wp2_with (go_at_call 42; refine (H.out _).mono ?_; rintro e w2 ⟨rfl, rfl⟩)
          go_roundg (gk - 1)
          case measure => omega
          case rel =>
            refine ⟨k + 1, by go_num, by omega, by omega, ?_, HB.out.alloc hww _⟩
            have h2 := HA.out
            rw [HD.out, List.all_cons, HQ.out] at h2
            simpa using h2
      · by_cases g2 : xo = 2
        · subst g2
          clear g1
          have H := Lib.hid (rin_is xn own q (by rw [← hq]; rfl))
          clear hq
          cases q with
          | false =>
            go_wp2_with (go_at_call 42; refine (H.out _).mono ?_; rintro e w2 ⟨rfl, rfl⟩)
            go_ret
            refine ⟨ret_bool ?_, HB.out.alloc hww _⟩
            have h2 := HA.out
            rw [HD.out, List.all_cons, HQ.out] at h2
            rw [← HBB.out, ← h2]; simp
          | true =>
            go_wp2_with (go_at_call 42; refine (H.out _).mono ?_; rintro e w2 ⟨rfl, rfl⟩)
            go_roundg (gk - 1)
            case measure => omega
            case rel =>
              refine ⟨k + 1, by go_num, by omega, by omega, ?_, HB.out.alloc hww _⟩
              have h2 := HA.out
              rw [HD.out, List.all_cons, HQ.out] at h2
              simpa using h2
        · by_cases g3 : xo = 3
          · subst g3
            clear g1 g2
            have H := Lib.hid (rin_is xn locs q (by rw [← hq]; rfl))
            clear hq
            cases q with
            | false =>
              go_wp2_with (go_at_call 42; refine (H.out _).mono ?_; rintro e w2 ⟨rfl, rfl⟩)
              go_ret
              refine ⟨ret_bool ?_, HB.out.alloc hww _⟩
              have h2 := HA.out
              rw [HD.out, List.all_cons, HQ.out] at h2
              rw [← HBB.out, ← h2]; simp
            | true =>
              go_wp2_with (go_at_call 42; refine (H.out _).mono ?_; rintro e w2 ⟨rfl, rfl⟩)
              go_roundg (gk - 1)
              case measure => omega
              case rel =>
                refine ⟨k + 1, by go_num, by omega, by omega, ?_, HB.out.alloc hww _⟩
                have h2 := HA.out
                rw [HD.out, List.all_cons, HQ.out] at h2
                simpa using h2
          · by_cases g4 : xo = 4
            · subst g4
              clear g1 g2 g3
              have hq2 : (inB xt regs.length && inB xn (regs.getD xt.toNat 0)) = q := hq
              cases ht : inB xt regs.length with
              | false =>
                rw [ht, Bool.false_and] at hq2
                subst hq2
                have H := Lib.hid (rin_q xt regs.length false ht)
                rw [← HN2.out] at H
                clear hq ht
                go_wp2_with fail
                go_quiet ((go_at_call 42; with_reducible exact H.out _ _))
                go_wp2
                go_ret
                refine ⟨ret_bool ?_, (HB.out.alloc hww _).trans (below_end _)⟩
                have h2 := HA.out
                rw [HD.out, List.all_cons, HQ.out] at h2
                rw [← HBB.out, ← h2]; simp
              | true =>
                rw [ht, Bool.true_and] at hq2
                have hrr := HR.out
                rw [HN2.out] at hrr
                obtain ⟨rb, ro, rc, hrv, hrl, hrc⟩ := IntsD.at hrr xt ht
                obtain ⟨rfl, _, rfl⟩ := Value.slice.inj hrv
                have g0 := (of_decide_eq_true ht).1
                have g1 := (of_decide_eq_true ht).2
                have H := Lib.hid (rin_q xt regs.length true ht)
                rw [← HN2.out] at H
                have H2 := Lib.hid (rin_q xn _ q hq2)
                obtain ⟨t, rfl⟩ : ∃ t : Nat, xt = t := ⟨xt.toNat, by omega⟩
                rw [Int.toNat_natCast] at hrc H2
                have cr : wr.cell? ⟨rb, ro + t, none⟩ = some (.int .i64 (regs.getD t 0)) := (HB.out.cell (p := ⟨rb, _, none⟩) hrl).trans hrc
                have hrl2 : rb < wr.heap.size := Nat.lt_of_lt_of_le hrl hww
                have g2 : t < n2 := by have := HN2.out; omega
                generalize regs.getD t 0 = rg at cr H2
                clear hq ht hq2 hrc hrr hrv g0 g1 hrl
                cases q with
                | false =>
                  go_wp2_with fail
                  go_quiet ((go_at_call 42; first | with_reducible exact H.out _ _ | with_reducible exact H2.out _ _))
                  go_wp2
                  go_ret
                  refine ⟨ret_bool ?_, (HB.out.alloc hww _).trans (below_end _)⟩
                  have h2 := HA.out
                  rw [HD.out, List.all_cons, HQ.out] at h2
                  rw [← HBB.out, ← h2]; simp
                | true =>
                  go_wp2_with fail
                  go_quiet ((go_at_call 42; first | with_reducible exact H.out _ _ | with_reducible exact H2.out _ _))
                  go_wp2
                  go_roundg (gk - 1)
                  case measure => omega
                  case rel =>
                    refine ⟨k + 1, by go_num, by omega, by omega, ?_, (HB.out.alloc hww _).trans (below_end _)⟩
                    have h2 := HA.out
                    rw [HD.out, List.all_cons, HQ.out] at h2
                    simpa using h2
            · obtain rfl : q = true := by
                rw [← hq]; unfold okO; simp only []
                rw [if_neg g1, if_neg g2, if_neg g3, if_neg g4]
              clear hq
              go_wp2
              go_roundg (gk - 1)
              case measure => omega
              case rel =>
                refine ⟨k + 1, by go_num, by omega, by omega, ?_, HB.out.alloc hww _⟩
                have h2 := HA.out
                rw [HD.out, List.all_cons, HQ.out] at h2
                simpa using h2
    · have HE := Lib.hid (drop_over l k (by have := HN.out; omega))
      go_wp2_with fail
      refine (HL.out _ HB.out).mono ?_
      rintro e w2 ⟨rfl, rfl⟩
      go_wp2
      go_ret
      refine ⟨ret_bool ?_, HB.out⟩
      have h2 := HA.out
      rw [HE.out, List.all_nil] at h2
      rw [← HBB.out, ← h2, Bool.and_true]; rfl

end Go.Proofs.Ytmkgijedchpgcaa
