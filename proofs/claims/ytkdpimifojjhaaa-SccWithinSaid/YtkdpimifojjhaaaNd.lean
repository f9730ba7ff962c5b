/- Layer 14: the reference's Right. -/
import Derived.Test.YtkdpimifojjhaaaNc
namespace Go.Proofs.Ytkdpimifojjhaaa
set_option linter.unusedSimpArgs false
set_option linter.unusedVariables false
open Go.RowKit

def nonDec : List Int → Bool
  | x :: y :: l => decide (x ≤ y) && nonDec (y :: l)
  | _ => true
def okT (m : Int) : List Int → List Int → Bool
  | t :: to, a :: ag => decide ((0 ≤ t ∧ t < m) ∧ 0 ≤ a) && okT m to ag
  | _, _ => true
/-- A graph that can be. -/
def rightG (g : Gr) : Bool := decide (1 ≤ g.st.length) && (decide (g.st.getD 0 0 = 0) && (decide (g.st.getD (g.st.length - 1) 0 = (g.to.length : Int)) && (decide (g.ag.length = g.to.length) && (nonDec g.st && okT ((g.st.length : Int) - 1) g.to g.ag))))
theorem nonDec_at (l : List Int) (k : Nat) (h : k + 1 < l.length) : nonDec (l.drop k) = (decide (l[k] ≤ l[k + 1]) && nonDec (l.drop (k + 1))) := by
  rw [List.drop_eq_getElem_cons (by omega : k < l.length), List.drop_eq_getElem_cons h]
  rfl
theorem nonDec_end (l : List Int) (k : Nat) (h : l.length ≤ k + 1) : nonDec (l.drop k) = true := by
  rcases Nat.lt_or_ge k l.length with h1 | h1
  · rw [List.drop_eq_getElem_cons h1, List.drop_eq_nil_of_le (by omega)]; rfl
  · rw [List.drop_eq_nil_of_le h1]; rfl
theorem okT_at (m : Int) (to ag : List Int) (k : Nat) (h : k < to.length) (h2 : k < ag.length) : okT m (to.drop k) (ag.drop k) = (decide ((0 ≤ to[k] ∧ to[k] < m) ∧ 0 ≤ ag[k]) && okT m (to.drop (k + 1)) (ag.drop (k + 1))) := by
  rw [List.drop_eq_getElem_cons h, List.drop_eq_getElem_cons h2]; rfl
theorem okT_end (m : Int) (to ag : List Int) (k : Nat) (h : to.length ≤ k) : okT m (to.drop k) (ag.drop k) = true := by
  rw [List.drop_eq_nil_of_le h]; rfl
theorem getD_get (l : List Int) (k : Nat) (h : k < l.length) : l.getD k 0 = l[k] := by rw [List.getD_eq_getElem?_getD, List.getElem?_eq_getElem h]; rfl

theorem wr64 {N : Nat} (h : N ≤ 1000) : wrap64 (N : Int) = (N : Int) ∧ IntKind.i64.wrap (((N + 1 : Nat) : Int) - 1) = (N : Int) :=
  ⟨IntWalk.wrap64_in _ (by omega), by rw [show ((N + 1 : Nat) : Int) - 1 = N by omega]; exact IntWalk.i64_in _ (by omega)⟩
set_option maxRecDepth 100000 in
set_option maxHeartbeats 8000000 in
theorem rright14_any (g : Gr) (vs va vt : Value) (w : World) (hd : GrD w vs va vt g) (hn : g.st.length ≤ 1001 ∧ g.to.length ≤ 1000) (b : Bool) (hb : rightG g = b) :
    Calls Try.prog 20 #[.agg #[vs, va, vt]] w fun e w' => e = .returned (.bool b) ∧ Below w.heap.size w w' := by
  have HD := Lib.hid hd
  obtain ⟨n1, n2⟩ := hn
  obtain ⟨a1, p1, rfl⟩ := hd.s.shape0
  obtain ⟨a2, p2, rfl⟩ := hd.t.shape0
  obtain ⟨a3, p3, rfl⟩ := hd.a.shape0
  clear hd
  unfold rightG at hb
  obtain ⟨n, hn⟩ : ∃ n, n = g.st.length := ⟨_, rfl⟩
  obtain ⟨m, hm⟩ : ∃ n, n = g.to.length := ⟨_, rfl⟩
  obtain ⟨l, hl⟩ : ∃ n, n = g.ag.length := ⟨_, rfl⟩
  rw [← hn, ← hm, ← hl] at hb HD
  rw [← hn, ← hm, ← hl]
  rw [← hn] at n1
  rw [← hm] at n2
  have HN := Lib.hid hn
  have HM := Lib.hid hm
  have HL := Lib.hid hl
  have BX := Lib.hid (bal (Below.refl w.heap.size w) (.cells #[.slice a1 n p1, .slice a3 l p3, .slice a2 m p2] 24))
  by_cases h0 : n = 0
  · have HBF : Hid (b = false) := Lib.hid (by rw [← hb, decide_eq_false (by omega)]; rfl)
    subst h0
    clear hb hn hm hl HD HN HM HL n1 n2
    go_enter Try.func20, Try.ntmps20
    go_wp2_with fail
    go_quiet (fail)
    go_wp2_with fail
    go_ret
    exact ⟨ret_bool HBF.out.symm, below_drewN' BX.out _⟩
  · have hs0 : 0 < g.st.length := by omega
    have hs1 : g.st.length - 1 < g.st.length := by omega
    rw [decide_eq_true (show 1 ≤ n by omega), Bool.true_and, hn, getD_get _ 0 hs0, getD_get _ _ hs1] at hb
    have HSD := HD.out.s
    obtain ⟨g1, o1, rfl, gl, x0⟩ := IntsD.at2 HSD 0 hs0
    obtain ⟨g1', o1', he, _, x1⟩ := IntsD.at2 HSD _ hs1
    injection he with he
    injection he with he1 he2
    subst he1 he2
    have HNZ := Lib.hid h0
    generalize hf : g.st[0] = f at hb x0
    generalize hz : g.st[g.st.length - 1] = z at hb x1
    rw [Nat.add_zero] at x0
    rw [← hn] at x1 hb
    obtain ⟨N, rfl⟩ : ∃ N, n = N + 1 := ⟨n - 1, by omega⟩
    rw [Nat.add_sub_cancel] at x1
    have bx := BX.out
    have c0 : (w.alloc (.cells #[.slice (some ⟨g1, o1, none⟩) (N + 1) p1, .slice a3 l p3, .slice a2 m p2] 24)).cell? ⟨g1, o1, none⟩ = some (.int .i64 f) := (bx.cell (p := ⟨g1, _, none⟩) gl).trans x0
    have c1 : (w.alloc (.cells #[.slice (some ⟨g1, o1, none⟩) (N + 1) p1, .slice a3 l p3, .slice a2 m p2] 24)).cell? ⟨g1, o1 + N, none⟩ = some (.int .i64 z) := (bx.cell (p := ⟨g1, _, none⟩) gl).trans x1
    have hN1 : N ≤ 1000 := Nat.le_of_succ_le_succ n1
    obtain ⟨h64, hwN⟩ := wr64 hN1
    have K1 := Lib.hid (Bk.new w 24 #[.slice (some ⟨g1, o1, none⟩) (N + 1) p1, .slice a3 l p3, .slice a2 m p2])
    have N1 := Lib.hid hN1
    have N2 := Lib.hid n2
    have HR := Lib.hid hb
    clear HNZ h0 hn hm hl hs0 hs1 hf hz x0 x1 bx n1 n2 hb HSD hN1
    have ne0 : ¬ (N : Int) < 0 := Int.not_lt.2 (Int.natCast_nonneg N)
    have e2 : (0 : Int) ≤ (N : Int) := Int.natCast_nonneg N
    have e3 : (N : Int) < (N : Int) + 1 := Int.lt_succ _
    have e4 : (N : Int) < ((N + 1 : Nat) : Int) := Int.ofNat_lt.2 (Nat.lt_succ_self N)
    have e5 : N < N + 1 := Nat.lt_succ_self N
    by_cases hf : f = 0
    · subst hf
      by_cases hz : z = (m : Int)
      · by_cases hl : l = m
        · subst hl
          have HR2 : Hid ((nonDec g.st && okT (N : Int) g.to g.ag) = b) := Lib.hid (by rw [← HR.out, decide_eq_true hz, show ((N + 1 : Nat) : Int) - 1 = N from Int.add_sub_cancel (N : Int) 1]; simp)
          have q3 : ((l : Int) == (l : Int)) = true := by simp
          clear HR
          subst hz
          go_enter Try.func20, Try.ntmps20
          go_wp2_with fail
          go_quiet (fail)
          have BY := Lib.hid (below_end (B := w.heap.size) (w := w) 0)
          clear BY
          generalize hw0 : (w.alloc _) = w0 at BX K1 ⊢
          clear hw0 c0 c1
          go_wp2_with fail
          obtain ⟨q1, hq1⟩ : ∃ q, nonDec g.st = q := ⟨_, rfl⟩
          obtain ⟨q2, hq2⟩ : ∃ q, okT (N : Int) g.to g.ag = q := ⟨_, rfl⟩
          have HQ1 := Lib.hid hq1
          have HQ2 := Lib.hid hq2
          rw [hq1, hq2] at HR2
          clear hq1 hq2 q3
          go_loopg [4] N (fun fuel i' wr => ∃ (k : Nat), i' = .int .i64 k ∧ k ≤ N ∧ N - k ≤ fuel ∧ nonDec (g.st.drop k) = q1 ∧ Below w.heap.size w wr ∧ Below w0.heap.size w0 wr)
          case atStart => exact ⟨0, rfl, Nat.zero_le _, Nat.le_refl _, HQ1.out, below_drewN' BX.out _, below_end _⟩
          case round =>
            obtain ⟨k, rfl, hk, hf, ha, hb, hc⟩ := hrel
            have HA := Lib.hid ha
            have BZ := Lib.hid hb
            have BY := Lib.hid hc
            clear ha hb hc
            have c0 := (K1.out.below BY.out).cell 0
            by_cases hlt : k < N
            · have hs := HN.out
              have hk1 : k < g.st.length := by omega
              have hk2 : k + 1 < g.st.length := by omega
              have HF := Lib.hid (nonDec_at g.st k hk2)
              obtain ⟨x1, off, hbe, hbl, x0⟩ := IntsD.at2 (HD.out.s.below BZ.out) k hk1
              obtain ⟨x1', off', hbe', _, y0⟩ := IntsD.at2 (HD.out.s.below BZ.out) (k + 1) hk2
              injection hbe with hbe
              injection hbe with hb1 hb2
              subst hb1 hb2
              injection hbe' with hbe
              injection hbe with hb1 hb2
              subst hb1 hb2
              generalize g.st[k] = xo at x0 HF
              generalize g.st[k + 1] = yo at y0 HF
              have i1 : (0 : Int) ≤ (k : Int) := by omega
              have i2 : (k : Int) < ((N + 1 : Nat) : Int) := by omega
              have i3 : (0 : Int) ≤ (k : Int) + 1 := by omega
              have i4 : (k : Int) + 1 < ((N + 1 : Nat) : Int) := by omega
              have i5 : k < N + 1 := by omega
              have i6 : k + 1 < N + 1 := by omega
              have hwk : IntKind.i64.wrap ((k : Int) + 1) = (k : Int) + 1 := IntWalk.i64_in _ (by have := N1.out; omega)
              clear hs hk1 hk2
              by_cases hq : xo ≤ yo
              · have j1 : ¬ yo < xo := by omega
                have HQ : Hid (nonDec (g.st.drop (k + 1)) = q1) := Lib.hid (by rw [← HA.out, HF.out, decide_eq_true hq]; rfl)
                clear hq
                go_wp2_with fail
                go_quiet (fail)
                go_wp2_with fail
                go_roundg (gk - 1)
                case measure => omega
                case rel => exact ⟨k + 1, by go_num, by omega, by omega, HQ.out, below_drewN' BZ.out _, below_drewN' BY.out _⟩
              · have j1 : yo < xo := by omega
                have HQ : Hid (q1 = false) := Lib.hid (by rw [← HA.out, HF.out, decide_eq_false hq]; rfl)
                clear hq
                go_wp2_with fail
                go_quiet (fail)
                go_wp2_with fail
                go_ret
                exact ⟨ret_bool (by rw [← HR2.out, HQ.out]; rfl), below_drewN' BZ.out _⟩
            · have HT : Hid (q1 = true) := Lib.hid (by rw [← HA.out]; exact nonDec_end _ _ (by have := HN.out; omega))
              clear HA hk hf
              go_wp2_with fail
              clear c0 hlt
              obtain ⟨w5, rfl⟩ : ∃ x, x = wr := ⟨_, rfl⟩
              obtain ⟨j5, rfl⟩ : ∃ x, x = gk := ⟨_, rfl⟩
              obtain ⟨k5, rfl⟩ : ∃ x, x = k := ⟨_, rfl⟩
              go_loopg [5] l (fun fuel i' wr => ∃ (k : Nat), i' = .int .i64 k ∧ k ≤ l ∧ l - k ≤ fuel ∧ okT (N : Int) (g.to.drop k) (g.ag.drop k) = q2 ∧ Below w.heap.size w wr ∧ Below w0.heap.size w0 wr)
              case atStart => exact ⟨0, rfl, Nat.zero_le _, Nat.le_refl _, HQ2.out, BZ.out, BY.out⟩
              case round =>
                clear BZ BY
                obtain ⟨k, rfl, hk, hf, ha, hb, hc⟩ := hrel
                have HA := Lib.hid ha
                have BZ := Lib.hid hb
                have BY := Lib.hid hc
                clear ha hb hc
                have c1 := (K1.out.below BY.out).cell 1
                have c2 := (K1.out.below BY.out).cell 2
                by_cases hlt : k < l
                · have hk1 : k < g.to.length := by rw [← HM.out]; exact hlt
                  have hk2 : k < g.ag.length := by rw [← HL.out]; exact hlt
                  have HF := Lib.hid (okT_at (N : Int) g.to g.ag k hk1 hk2)
                  obtain ⟨x1, off, rfl, hbl, x0⟩ := IntsD.at2 (HD.out.t.below BZ.out) k hk1
                  obtain ⟨x2, off2, rfl, hbl2, y0⟩ := IntsD.at2 (HD.out.a.below BZ.out) k hk2
                  generalize g.to[k] = to at x0 HF
                  generalize g.ag[k] = ao at y0 HF
                  have i1 : (0 : Int) ≤ (k : Int) := by omega
                  have i2 : (k : Int) < (l : Int) := by omega
                  have hwk : IntKind.i64.wrap ((k : Int) + 1) = (k : Int) + 1 := IntWalk.i64_in _ (by have := N2.out; omega)
                  clear hk1 hk2
                  by_cases p0 : to < 0
                  · have HQ : Hid (q2 = false) := Lib.hid (by rw [← HA.out, HF.out, decide_eq_false (by omega)]; rfl)
                    go_wp2_with fail
                    go_ret
                    exact ⟨ret_bool (by rw [← HR2.out, HQ.out]; simp), BZ.out⟩
                  · by_cases p1 : (N : Int) ≤ to
                    · have HQ : Hid (q2 = false) := Lib.hid (by rw [← HA.out, HF.out, decide_eq_false (by omega)]; rfl)
                      go_wp2_with fail
                      go_ret
                      exact ⟨ret_bool (by rw [← HR2.out, HQ.out]; simp), BZ.out⟩
                    · by_cases p2 : ao < 0
                      · have HQ : Hid (q2 = false) := Lib.hid (by rw [← HA.out, HF.out, decide_eq_false (by omega)]; rfl)
                        go_wp2_with fail
                        go_ret
                        exact ⟨ret_bool (by rw [← HR2.out, HQ.out]; simp), BZ.out⟩
                      · have HQ : Hid (okT (N : Int) (g.to.drop (k + 1)) (g.ag.drop (k + 1)) = q2) := Lib.hid (by rw [← HA.out, HF.out, decide_eq_true (by omega)]; rfl)
                        go_wp2_with fail
                        go_roundg (gk - 1)
                        case measure => omega
                        case rel => exact ⟨k + 1, by go_num, by omega, by omega, HQ.out, BZ.out, BY.out⟩
                · have HT2 : Hid (q2 = true) := Lib.hid (by rw [← HA.out]; exact okT_end _ _ _ _ (by rw [← HM.out]; omega))
                  go_wp2_with fail
                  go_ret
                  exact ⟨ret_bool (by rw [← HR2.out, HT.out, HT2.out]; rfl), BZ.out⟩
        · have q3 : ((l : Int) == (m : Int)) = false := by simp; omega
          have q3' : ¬ (l : Int) = (m : Int) := fun h => hl (Int.ofNat.inj h)
          have HBF : Hid (b = false) := Lib.hid (by rw [← HR.out, decide_eq_false hl]; simp)
          clear HR
          subst hz
          go_enter Try.func20, Try.ntmps20
          go_wp2_with fail
          go_quiet (fail)
          go_wp2_with fail
          all_goals first
            | (go_ret
               exact ⟨ret_bool HBF.out.symm, below_drewN' BX.out _⟩)
            | (exfalso; simp_all; done)
            | (exfalso; omega)
      · have q2 : (z == (m : Int)) = false := by simpa using hz
        have q2' : ¬ z = (m : Int) := hz
        have HBF : Hid (b = false) := Lib.hid (by rw [← HR.out, decide_eq_false hz]; simp)
        clear hz
        go_enter Try.func20, Try.ntmps20
        go_wp2_with fail
        go_quiet (fail)
        go_wp2_with fail
        go_ret
        exact ⟨ret_bool HBF.out.symm, below_drewN' BX.out _⟩
    · have q1 : (f == 0) = false := by simpa using hf
      have q1' : ¬ f = 0 := hf
      have HBF : Hid (b = false) := Lib.hid (by rw [← HR.out, decide_eq_false hf]; rfl)
      clear hf
      go_enter Try.func20, Try.ntmps20
      go_wp2_with fail
      go_quiet (fail)
      go_wp2_with fail
      go_ret
      exact ⟨ret_bool HBF.out.symm, below_drewN' BX.out _⟩

end Go.Proofs.Ytkdpimifojjhaaa
