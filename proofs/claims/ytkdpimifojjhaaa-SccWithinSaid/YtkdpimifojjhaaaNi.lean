/- Layer 14, the code: Right. -/
import Derived.Test.YtkdpimifojjhaaaNh
namespace Go.Proofs.Ytkdpimifojjhaaa
set_option linter.unusedSimpArgs false
set_option linter.unusedVariables false
open Go.RowKit

theorem nonDec_cons (a b : Int) (l : List Int) : nonDec (a :: b :: l) = (decide (a ≤ b) && nonDec (b :: l)) := rfl
theorem nonDec_zero (l : List Int) (h : 0 < l.length) (h0 : l[0] = 0) : nonDec (0 :: l) = nonDec l := by
  cases l with
  | nil => exact absurd h (Nat.not_lt_zero _)
  | cons a l =>
    rw [nonDec_cons]
    have : a = 0 := h0
    subst this
    rfl
theorem nonDec_one (a : Int) : nonDec [a] = true := rfl

set_option maxRecDepth 100000 in
set_option maxHeartbeats 8000000 in
theorem right14_any (g : Gr) (vs va vt : Value) (w : World) (hd : GrD w vs va vt g) (hn : g.st.length ≤ 1001 ∧ g.to.length ≤ 1000 ∧ g.ag.length ≤ 1000) (b : Bool) (hb : rightG g = b) :
    Calls Try.prog 26 #[.agg #[vs, va, vt]] w fun e w' => e = .returned (.bool b) ∧ Below w.heap.size w w' := by
  have HD := Lib.hid hd
  obtain ⟨n1, n2, n3⟩ := hn
  obtain ⟨a1, p1, rfl⟩ := hd.s.shape0
  obtain ⟨a2, p2, rfl⟩ := hd.t.shape0
  obtain ⟨a3, p3, rfl⟩ := hd.a.shape0
  clear hd
  unfold rightG at hb
  obtain ⟨n, hn⟩ : ∃ n, n = g.st.length := ⟨_, rfl⟩
  obtain ⟨m, hm⟩ : ∃ n, n = g.to.length := ⟨_, rfl⟩
  obtain ⟨l, hl⟩ : ∃ n, n = g.ag.length := ⟨_, rfl⟩
  rw [← hn, ← hm, ← hl] at hb HD
  rw [← hn, ← hm, ← hl]
  rw [← hn] at n1
  rw [← hm] at n2
  rw [← hl] at n3
  have HN := Lib.hid hn
  have HM := Lib.hid hm
  have HL := Lib.hid hl
  have BX := Lib.hid (bal (Below.refl w.heap.size w) (.cells #[.slice a1 n p1, .slice a3 l p3, .slice a2 m p2] 24))
  have KX := Lib.hid (Bk.new w 24 #[.slice a1 n p1, .slice a3 l p3, .slice a2 m p2])
  by_cases h0 : n = 0
  · have HBF : Hid (b = false) := Lib.hid (by rw [← hb, decide_eq_false (by omega)]; rfl)
    subst h0
    clear hb hn hm hl HD HN HM HL n1 n2 n3
    go_enter Try.func26, Try.ntmps26
    go_wp2_with fail
    go_ret
    exact ⟨ret_bool HBF.out.symm, BX.out⟩
  · have hs0 : 0 < g.st.length := by omega
    rw [decide_eq_true (show 1 ≤ n by omega), Bool.true_and, getD_get _ 0 hs0] at hb
    obtain ⟨g1, o1, rfl, gl, x0⟩ := IntsD.at2 HD.out.s 0 hs0
    have HNZ : Hid (g.st[0] = 0 → nonDec (0 :: g.st) = nonDec g.st) := Lib.hid (nonDec_zero g.st hs0)
    generalize g.st[0] = f at hb x0 HNZ
    rw [Nat.add_zero] at x0
    have hnz : ((n : Int) == 0) = false := by simpa using h0
    have hnp : (0 : Int) < (n : Int) := by omega
    have HR := Lib.hid hb
    have HSZ : Hid (n ≤ 1001 ∧ m ≤ 1000 ∧ l ≤ 1000) := Lib.hid ⟨n1, n2, n3⟩
    clear hb hn hm hl n1 n2 n3 hs0
    by_cases hf : f = 0
    · subst hf
      have HR2 : Hid ((decide (g.st.getD (n - 1) 0 = (m : Int)) && (decide (l = m) && (nonDec g.st && okT ((n : Int) - 1) g.to g.ag))) = b) := Lib.hid HR.out
      have HNZ2 := Lib.hid (HNZ.out rfl)
      clear HR HNZ
      obtain ⟨q1, hq1⟩ : ∃ q, nonDec g.st = q := ⟨_, rfl⟩
      rw [hq1] at HR2 HNZ2
      clear hq1
      go_enter Try.func26, Try.ntmps26
      go_wp2_with fail
      generalize hw0 : (w.alloc _) = w0 at BX KX ⊢
      clear hw0 x0
      go_loopg [3, 22] n (fun fuel la' i' wr => ∃ (k : Nat) (la : Int), la' = .int .i64 la ∧ i' = .int .i64 k ∧ k ≤ n ∧ n - k ≤ fuel ∧ nonDec (la :: g.st.drop k) = q1 ∧ (0 < k → la = g.st.getD (k - 1) 0) ∧ Below w.heap.size w wr ∧ Below w0.heap.size w0 wr)
      case atStart => exact ⟨0, 0, rfl, rfl, Nat.zero_le _, Nat.le_refl _, HNZ2.out, fun h => absurd h (Nat.lt_irrefl _), BX.out, Below.refl _ _⟩
      case round =>
        obtain ⟨k, la, rfl, rfl, hk, hf, ha, hla, hb, hc⟩ := hrel
        have HA := Lib.hid ha
        have BZ := Lib.hid hb
        have BY := Lib.hid hc
        have HLA := Lib.hid hla
        clear ha hb hc hla HNZ2
        have i5 : IntKind.i64.wrap ((k : Int) + 1) = (k : Int) + 1 := IntWalk.i64_in _ (by have := HSZ.out; omega)
        by_cases hlt : k < n
        · have hk1 : k < g.st.length := by rw [← HN.out]; exact hlt
          have HF : Hid (nonDec (la :: g.st.drop k) = (decide (la ≤ g.st[k]) && nonDec (g.st[k] :: g.st.drop (k + 1)))) := Lib.hid (by rw [List.drop_eq_getElem_cons hk1, nonDec_cons])
          have HG : Hid (g.st.getD k 0 = g.st[k]) := Lib.hid (getD_get _ _ hk1)
          obtain ⟨x1, off, hbe, hbl, x0⟩ := IntsD.at2 (HD.out.s.below BZ.out) k hk1
          injection hbe with hbe
          injection hbe with hb1 hb2
          subst hb1 hb2
          generalize g.st[k] = xo at x0 HF HG
          have i1 : (0 : Int) ≤ (k : Int) := by omega
          have i2 : (k : Int) < (n : Int) := by omega
          clear hk1 hbl
          by_cases hq : xo < la
          · have HQ : Hid (q1 = false) := Lib.hid (by rw [← HA.out, HF.out, decide_eq_false (by omega)]; rfl)
            go_wp2_with fail
            go_ret
            exact ⟨ret_bool (by rw [← HR2.out, HQ.out]; simp), BZ.out⟩
          · have HQ : Hid (nonDec (xo :: g.st.drop (k + 1)) = q1) := Lib.hid (by rw [← HA.out, HF.out, decide_eq_true (by omega)]; rfl)
            go_wp2_with fail
            go_roundg (gk - 1)
            case measure => omega
            case rel => exact ⟨k + 1, xo, rfl, by go_num, by omega, by omega, HQ.out, fun _ => HG.out.symm, BZ.out, BY.out⟩
        · obtain rfl : k = n := by omega
          have HT : Hid (q1 = true) := Lib.hid (by rw [← HA.out, List.drop_eq_nil_of_le (by rw [← HN.out]; exact Nat.le_refl _)]; rfl)
          have HLL := Lib.hid (HLA.out (Nat.pos_of_ne_zero h0))
          rw [← HLL.out] at HR2
          have c1 := (KX.out.below BY.out).cell 1
          have c2 := (KX.out.below BY.out).cell 2
          have lw := (KX.out.below BY.out).lt
          clear HA hk hf HLA hlt i5
          by_cases hz : la = (l : Int)
          · subst hz
            have q2 : ((l : Int) != (l : Int)) = false := by simp
            by_cases hlm : l = m
            · subst hlm
              have HR3 : Hid (okT ((k : Int) - 1) g.to g.ag = b) := Lib.hid (by rw [← HR2.out, HT.out]; simp)
              go_wp2_with fail
              obtain ⟨q2', hq2⟩ : ∃ q, okT ((k : Int) - 1) g.to g.ag = q := ⟨_, rfl⟩
              have HQ2 := Lib.hid hq2
              rw [hq2] at HR3
              clear hq2 c1 c2 q2 lw
              have hw1 : IntKind.i64.wrap ((k : Int) - 1) = (k : Int) - 1 := IntWalk.i64_in _ (by have := HSZ.out; omega)
              obtain ⟨n, rfl⟩ : ∃ x, x = k := ⟨_, rfl⟩
              obtain ⟨w5, rfl⟩ : ∃ x, x = wr := ⟨_, rfl⟩
              obtain ⟨j5, rfl⟩ : ∃ x, x = gk := ⟨_, rfl⟩
              have HCT := Lib.hid fun (W : World) (h : Below w.heap.size w W) => count_any _ (.slice a3 l p3) (.slice a2 l p2) g W (HD.out.below h).s (by rw [← HN.out]; omega) (by rw [← HN.out]; have := HSZ.out; omega)
              have HNN : Hid ((numN g : Int) = (n : Int) - 1) := Lib.hid (by unfold numN; rw [← HN.out]; omega)
              go_loopg [6, 7, 46] l (fun fuel s6 s7 i' wr => ∃ (k : Nat), i' = .int .i64 k ∧ k ≤ l ∧ l - k ≤ fuel ∧ okT ((n : Int) - 1) (g.to.drop k) (g.ag.drop k) = q2' ∧ Below w.heap.size w wr ∧ Below w0.heap.size w0 wr)
              case atStart => exact ⟨0, rfl, Nat.zero_le _, Nat.le_refl _, HQ2.out, BZ.out, BY.out⟩
              case round =>
                clear BZ BY
                obtain ⟨k, rfl, hk, hf, ha, hb, hc⟩ := hrel
                have HA := Lib.hid ha
                have BZ := Lib.hid hb
                have BY := Lib.hid hc
                clear ha hb hc
                have K1 := KX.out.below BY.out
                have c0 := K1.cell 0
                have c1 := K1.cell 1
                have c2 := K1.cell 2
                have lk := K1.lt
                by_cases hlt : k < l
                · have hk1 : k < g.to.length := by rw [← HM.out]; exact hlt
                  have hk2 : k < g.ag.length := by rw [← HL.out]; exact hlt
                  have HF := Lib.hid (okT_at ((n : Int) - 1) g.to g.ag k hk1 hk2)
                  obtain ⟨x1, off, rfl, hbl, x0⟩ := IntsD.at2 (HD.out.t.below BZ.out) k hk1
                  obtain ⟨x2, off2, rfl, hbl2, y0⟩ := IntsD.at2 (HD.out.a.below BZ.out) k hk2
                  generalize g.to[k] = t0 at x0 HF
                  generalize g.ag[k] = ao at y0 HF
                  have i1 : (0 : Int) ≤ (k : Int) := by omega
                  have i2 : (k : Int) < (l : Int) := by omega
                  have hwk : IntKind.i64.wrap ((k : Int) + 1) = (k : Int) + 1 := IntWalk.i64_in _ (by have := HSZ.out; omega)
                  clear hk1 hk2 K1
                  by_cases p2 : ao < 0
                  · have HQ : Hid (q2' = false) := Lib.hid (by rw [← HA.out, HF.out, decide_eq_false (by omega)]; rfl)
                    go_wp2_with fail
                    go_ret
                    exact ⟨ret_bool (by rw [← HR3.out, HQ.out]), BZ.out⟩
                  · obtain ⟨q3, hq3⟩ : ∃ q, decide (0 ≤ t0 ∧ t0 < (numN g : Int)) = q := ⟨_, rfl⟩
                    have HQ3 := Lib.hid hq3
                    have HAO : Hid (¬ ao < 0) := Lib.hid p2
                    go_wp2_with fail
                    refine (HCT.out _ BZ.out).mono ?_
                    rintro e w6 ⟨rfl, b6⟩
                    clear c0 c1 c2 x0 y0
                    go_wp2_with fail
                    refine (within_any _ _ q3 HQ3.out _).mono ?_
                    rintro e w7 ⟨rfl, rfl⟩
                    have BZ6 := Lib.hid (BZ.out.trans (b6.mono BZ.out.size))
                    have BY6 := Lib.hid (BY.out.trans (b6.mono BY.out.size))
                    cases q3 with
                    | false =>
                      have HQ : Hid (q2' = false) := Lib.hid (by rw [← HA.out, HF.out, decide_eq_false (fun h => by have h1 := of_decide_eq_false HQ3.out; have := HNN.out; omega)]; rfl)
                      go_wp2_with fail
                      go_ret
                      exact ⟨ret_bool (by rw [← HR3.out, HQ.out]), BZ6.out⟩
                    | true =>
                      have HQ : Hid (okT ((n : Int) - 1) (g.to.drop (k + 1)) (g.ag.drop (k + 1)) = q2') := Lib.hid (by rw [← HA.out, HF.out, decide_eq_true (by have h1 := of_decide_eq_true HQ3.out; have := HNN.out; omega)]; rfl)
                      go_wp2_with fail
                      go_roundg (gk - 1)
                      case measure => omega
                      case rel => exact ⟨k + 1, by go_num, by omega, by omega, HQ.out, BZ6.out, BY6.out⟩
                · have HT2 : Hid (q2' = true) := Lib.hid (by rw [← HA.out]; exact okT_end _ _ _ _ (by rw [← HM.out]; omega))
                  go_wp2_with fail
                  go_ret
                  exact ⟨ret_bool (by rw [← HR3.out, HT2.out]), BZ.out⟩
            · have q3 : ((l : Int) != (m : Int)) = true := by simp; omega
              have HBF : Hid (b = false) := Lib.hid (by rw [← HR2.out, decide_eq_false hlm]; simp)
              have q3' : ¬ (l : Int) = (m : Int) := fun h => hlm (Int.ofNat.inj h)
              clear hlm
              go_wp2_with fail
              go_ret
              exact ⟨ret_bool HBF.out.symm, BZ.out⟩
          · have q2 : (la != (l : Int)) = true := by simpa using hz
            have HBF : Hid (b = false) := Lib.hid (by
              rw [← HR2.out]
              by_cases h1 : la = (m : Int)
              · rw [decide_eq_false (show ¬ l = m by omega)]; simp
              · rw [decide_eq_false h1]; rfl)
            clear hz
            go_wp2_with fail
            go_ret
            exact ⟨ret_bool HBF.out.symm, BZ.out⟩
    · have q1 : (f != 0) = true := by simpa using hf
      have HBF : Hid (b = false) := Lib.hid (by rw [← HR.out, decide_eq_false hf]; rfl)
      clear hf
      go_enter Try.func26, Try.ntmps26
      go_wp2_with fail
      go_ret
      exact ⟨ret_bool HBF.out.symm, BX.out⟩

end Go.Proofs.Ytkdpimifojjhaaa
