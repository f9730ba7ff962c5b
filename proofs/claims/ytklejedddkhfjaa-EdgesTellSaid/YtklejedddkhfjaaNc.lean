/- Layer 14: the reference's Graphs. -/
import Derived.Test.YtklejedddkhfjaaNb
namespace Go.Proofs.Ytklejedddkhfjaa
set_option linter.unusedSimpArgs false
set_option linter.unusedVariables false
open Go.RowKit

theorem two_bks (w : World) (T : Nat) (c1 c2 : Array Value) : Below w.heap.size w ((w.alloc (.cells c1 T)).alloc (.cells c2 T)) ∧ Bk ((w.alloc (.cells c1 T)).alloc (.cells c2 T)) w.heap.size T c1 ∧ Bk ((w.alloc (.cells c1 T)).alloc (.cells c2 T)) (w.heap.size + 1) T c2 :=
  ⟨bal (bal (Below.refl _ _) _) _, bk_alloc (Bk.new _ _ _) _, bk_at2 _ _ _ _⟩
set_option maxRecDepth 100000 in
set_option maxHeartbeats 8000000 in
theorem graphs_any (g h : Gr) (vs va vt us ua ut : Value) (w : World) (hd : GrD w vs va vt g) (hd2 : GrD w us ua ut h) (hn : g.st.length ≤ 100000 ∧ g.to.length ≤ 100000 ∧ g.ag.length ≤ 100000) (b : Bool) (hb : sameG g h = b) :
    Calls Try.prog 11 #[.agg #[vs, va, vt], .agg #[us, ua, ut]] w fun e w' => e = .returned (.bool b) ∧ Below w.heap.size w w' := by
  have HD := Lib.hid hd
  have HE := Lib.hid hd2
  obtain ⟨n1, n2, n3⟩ := hn
  obtain ⟨a1, p1, rfl⟩ := hd.s.shape0
  obtain ⟨a2, p2, rfl⟩ := hd.t.shape0
  obtain ⟨a3, p3, rfl⟩ := hd.a.shape0
  obtain ⟨b1, r1, rfl⟩ := hd2.s.shape0
  obtain ⟨b2, r2, rfl⟩ := hd2.t.shape0
  obtain ⟨b3, r3, rfl⟩ := hd2.a.shape0
  unfold sameG at hb
  clear hd hd2
  by_cases hl : g.st.length = h.st.length ∧ g.to.length = h.to.length ∧ g.ag.length = h.ag.length
  · obtain ⟨h1, h2, h3⟩ := hl
    have HL1 := Lib.hid h1
    have HL2 := Lib.hid h2
    have HL3 := Lib.hid h3
    rw [← h1, ← h2, ← h3] at HE ⊢
    obtain ⟨m1, hm1⟩ : ∃ m, m = g.st.length := ⟨_, rfl⟩
    obtain ⟨m2, hm2⟩ : ∃ m, m = g.to.length := ⟨_, rfl⟩
    obtain ⟨m3, hm3⟩ : ∃ m, m = g.ag.length := ⟨_, rfl⟩
    rw [← hm1, ← hm2, ← hm3] at HE HD ⊢
    rw [← hm1] at n1
    rw [← hm2] at n2
    rw [← hm3] at n3
    have HM1 := Lib.hid hm1
    have HM2 := Lib.hid hm2
    have HM3 := Lib.hid hm3
    have N1 := Lib.hid n1
    have N2 := Lib.hid n2
    have N3 := Lib.hid n3
    obtain ⟨q1, hq1⟩ : ∃ q, decide (g.st = h.st) = q := ⟨_, rfl⟩
    obtain ⟨q2, hq2⟩ : ∃ q, decide (g.to = h.to) = q := ⟨_, rfl⟩
    obtain ⟨q3, hq3⟩ : ∃ q, decide (g.ag = h.ag) = q := ⟨_, rfl⟩
    rw [hq1, hq2, hq3] at hb
    have HQ1 := Lib.hid hq1
    have HQ2 := Lib.hid hq2
    have HQ3 := Lib.hid hq3
    have HR := Lib.hid hb
    have ee : ∀ x : Nat, ((x : Int) != (x : Int)) = false := by simp
    have e1 := ee m1
    have e2 := ee m2
    have e3 := ee m3
    clear hb h1 h2 h3 hm1 hm2 hm3 n1 n2 n3 hq1 hq2 hq3 ee
    obtain ⟨bz, k1, k2⟩ := two_bks w 26 #[.slice a1 m1 p1, .slice a3 m3 p3, .slice a2 m2 p2] #[.slice b1 m1 r1, .slice b3 m3 r3, .slice b2 m2 r2]
    have B0 := Lib.hid bz
    have K1 := Lib.hid k1
    have K2 := Lib.hid k2
    clear bz k1 k2
    go_enter Try.func11, Try.ntmps11
    go_wp2_with fail
    generalize hw0 : (w.alloc _).alloc _ = w0 at B0 K1 K2 ⊢
    clear hw0
    have BZ := B0
    have BY : Hid (Below w0.heap.size w0 w0) := Lib.hid (Below.refl _ _)
    go_loopg [5] m1 (fun fuel i' wr => ∃ (k : Nat), i' = .int .i64 k ∧ k ≤ m1 ∧ m1 - k ≤ fuel ∧ decide (g.st.drop k = h.st.drop k) = q1 ∧ Below w.heap.size w wr ∧ Below w0.heap.size w0 wr)
    case atStart => exact ⟨0, rfl, Nat.zero_le _, Nat.le_refl _, HQ1.out, BZ.out, BY.out⟩
    case round =>
      clear BZ BY
      obtain ⟨k, rfl, hk, hf, ha, hb, hc⟩ := hrel
      have HA := Lib.hid ha
      have BZ := Lib.hid hb
      have BY := Lib.hid hc
      have c0 := (K1.out.below BY.out).cell 0
      have d0 := (K2.out.below BY.out).cell 0
      have l1 := (K1.out.below BY.out).lt
      have l2 := (K2.out.below BY.out).lt
      clear ha hb hc
      by_cases hlt : k < m1
      · have hk1 : k < g.st.length := by rw [← HM1.out]; exact hlt
        have hk2 : k < h.st.length := by rw [← HL1.out]; exact hk1
        have HF := Lib.hid (drop_eq_iff g.st h.st k hk1 hk2)
        obtain ⟨x1, off, rfl, hbl, x0⟩ := IntsD.at2 (HD.out.s.below BZ.out) k hk1
        obtain ⟨x2, off2, rfl, hbl2, y0⟩ := IntsD.at2 (HE.out.s.below BZ.out) k hk2
        obtain ⟨xo, hx⟩ : ∃ x, x = g.st[k] := ⟨_, rfl⟩
        obtain ⟨yo, hy⟩ : ∃ x, x = h.st[k] := ⟨_, rfl⟩
        rw [← hx] at x0 HF
        rw [← hy] at y0 HF
        clear hx hy hk1 hk2
        have hwk : IntKind.i64.wrap ((k : Int) + 1) = (k : Int) + 1 := IntWalk.i64_in _ (by have := N1.out; omega)
        by_cases hq : xo = yo
        · have qq : (xo == yo) = true := by simpa using hq
          have HQ : Hid (decide (g.st.drop (k + 1) = h.st.drop (k + 1)) = q1) := Lib.hid (by rw [← HA.out, HF.out, decide_eq_true hq]; rfl)
          clear hq
          go_wp2_with fail
          go_quiet (fail)
          go_wp2_with fail
          go_roundg (gk - 1)
          case measure => omega
          case rel => exact ⟨k + 1, by go_num, by omega, by omega, HQ.out, below_drewN' BZ.out _, below_drewN' BY.out _⟩
        · have qq : (xo == yo) = false := by simpa using hq
          have HQ : Hid (q1 = false) := Lib.hid (by rw [← HA.out, HF.out, decide_eq_false hq]; rfl)
          clear hq
          go_wp2_with fail
          go_quiet (fail)
          go_wp2_with fail
          go_ret
          exact ⟨ret_bool (by rw [← HR.out, HQ.out]; simp), below_drewN' BZ.out _⟩
      · have HT1 : Hid (q1 = true) := Lib.hid (by
          rw [← HA.out, List.drop_eq_nil_of_le (by rw [← HM1.out]; omega), List.drop_eq_nil_of_le (by rw [← HL1.out, ← HM1.out]; omega)]; rfl)
        clear HA hk hf
        go_wp2_with fail
        clear c0 d0 l1 l2 hlt
        obtain ⟨w5, rfl⟩ : ∃ x, x = wr := ⟨_, rfl⟩
        obtain ⟨j5, rfl⟩ : ∃ x, x = gk := ⟨_, rfl⟩
        obtain ⟨k5, rfl⟩ : ∃ x, x = k := ⟨_, rfl⟩
        go_loopg [6] m2 (fun fuel i' wr => ∃ (k : Nat), i' = .int .i64 k ∧ k ≤ m2 ∧ m2 - k ≤ fuel ∧ decide (g.to.drop k = h.to.drop k) = q2 ∧ Below w.heap.size w wr ∧ Below w0.heap.size w0 wr)
        case atStart => exact ⟨0, rfl, Nat.zero_le _, Nat.le_refl _, HQ2.out, BZ.out, BY.out⟩
        case round =>
          clear BZ BY
          obtain ⟨k, rfl, hk, hf, ha, hb, hc⟩ := hrel
          have HA := Lib.hid ha
          have BZ := Lib.hid hb
          have BY := Lib.hid hc
          have c0 := (K1.out.below BY.out).cell 2
          have d0 := (K2.out.below BY.out).cell 2
          have l1 := (K1.out.below BY.out).lt
          have l2 := (K2.out.below BY.out).lt
          clear ha hb hc
          by_cases hlt : k < m2
          · have hk1 : k < g.to.length := by rw [← HM2.out]; exact hlt
            have hk2 : k < h.to.length := by rw [← HL2.out]; exact hk1
            have HF := Lib.hid (drop_eq_iff g.to h.to k hk1 hk2)
            obtain ⟨x1, off, rfl, hbl, x0⟩ := IntsD.at2 (HD.out.t.below BZ.out) k hk1
            obtain ⟨x2, off2, rfl, hbl2, y0⟩ := IntsD.at2 (HE.out.t.below BZ.out) k hk2
            obtain ⟨xo, hx⟩ : ∃ x, x = g.to[k] := ⟨_, rfl⟩
            obtain ⟨yo, hy⟩ : ∃ x, x = h.to[k] := ⟨_, rfl⟩
            rw [← hx] at x0 HF
            rw [← hy] at y0 HF
            clear hx hy hk1 hk2
            have hwk : IntKind.i64.wrap ((k : Int) + 1) = (k : Int) + 1 := IntWalk.i64_in _ (by have := N2.out; omega)
            by_cases hq : xo = yo
            · have qq : (xo == yo) = true := by simpa using hq
              have HQ : Hid (decide (g.to.drop (k + 1) = h.to.drop (k + 1)) = q2) := Lib.hid (by rw [← HA.out, HF.out, decide_eq_true hq]; rfl)
              clear hq
              go_wp2_with fail
              go_quiet (fail)
              go_wp2_with fail
              go_roundg (gk - 1)
              case measure => omega
              case rel => exact ⟨k + 1, by go_num, by omega, by omega, HQ.out, below_drewN' BZ.out _, below_drewN' BY.out _⟩
            · have qq : (xo == yo) = false := by simpa using hq
              have HQ : Hid (q2 = false) := Lib.hid (by rw [← HA.out, HF.out, decide_eq_false hq]; rfl)
              clear hq
              go_wp2_with fail
              go_quiet (fail)
              go_wp2_with fail
              go_ret
              exact ⟨ret_bool (by rw [← HR.out, HQ.out]; simp), below_drewN' BZ.out _⟩
          · have HT2 : Hid (q2 = true) := Lib.hid (by
              rw [← HA.out, List.drop_eq_nil_of_le (by rw [← HM2.out]; omega), List.drop_eq_nil_of_le (by rw [← HL2.out, ← HM2.out]; omega)]; rfl)
            clear HA hk hf
            go_wp2_with fail
            clear c0 d0 l1 l2 hlt
            obtain ⟨w6, rfl⟩ : ∃ x, x = wr := ⟨_, rfl⟩
            obtain ⟨j6, rfl⟩ : ∃ x, x = gk := ⟨_, rfl⟩
            obtain ⟨k6, rfl⟩ : ∃ x, x = k := ⟨_, rfl⟩
            go_loopg [7] m3 (fun fuel i' wr => ∃ (k : Nat), i' = .int .i64 k ∧ k ≤ m3 ∧ m3 - k ≤ fuel ∧ decide (g.ag.drop k = h.ag.drop k) = q3 ∧ Below w.heap.size w wr ∧ Below w0.heap.size w0 wr)
            case atStart => exact ⟨0, rfl, Nat.zero_le _, Nat.le_refl _, HQ3.out, BZ.out, BY.out⟩
            case round =>
              clear BZ BY
              obtain ⟨k, rfl, hk, hf, ha, hb, hc⟩ := hrel
              have HA := Lib.hid ha
              have BZ := Lib.hid hb
              have BY := Lib.hid hc
              have c0 := (K1.out.below BY.out).cell 1
              have d0 := (K2.out.below BY.out).cell 1
              have l1 := (K1.out.below BY.out).lt
              have l2 := (K2.out.below BY.out).lt
              clear ha hb hc
              by_cases hlt : k < m3
              · have hk1 : k < g.ag.length := by rw [← HM3.out]; exact hlt
                have hk2 : k < h.ag.length := by rw [← HL3.out]; exact hk1
                have HF := Lib.hid (drop_eq_iff g.ag h.ag k hk1 hk2)
                obtain ⟨x1, off, rfl, hbl, x0⟩ := IntsD.at2 (HD.out.a.below BZ.out) k hk1
                obtain ⟨x2, off2, rfl, hbl2, y0⟩ := IntsD.at2 (HE.out.a.below BZ.out) k hk2
                obtain ⟨xo, hx⟩ : ∃ x, x = g.ag[k] := ⟨_, rfl⟩
                obtain ⟨yo, hy⟩ : ∃ x, x = h.ag[k] := ⟨_, rfl⟩
                rw [← hx] at x0 HF
                rw [← hy] at y0 HF
                clear hx hy hk1 hk2
                have hwk : IntKind.i64.wrap ((k : Int) + 1) = (k : Int) + 1 := IntWalk.i64_in _ (by have := N3.out; omega)
                by_cases hq : xo = yo
                · have qq : (xo == yo) = true := by simpa using hq
                  have HQ : Hid (decide (g.ag.drop (k + 1) = h.ag.drop (k + 1)) = q3) := Lib.hid (by rw [← HA.out, HF.out, decide_eq_true hq]; rfl)
                  clear hq
                  go_wp2_with fail
                  go_quiet (fail)
                  go_wp2_with fail
                  go_roundg (gk - 1)
                  case measure => omega
                  case rel => exact ⟨k + 1, by go_num, by omega, by omega, HQ.out, below_drewN' BZ.out _, below_drewN' BY.out _⟩
                · have qq : (xo == yo) = false := by simpa using hq
                  have HQ : Hid (q3 = false) := Lib.hid (by rw [← HA.out, HF.out, decide_eq_false hq]; rfl)
                  clear hq
                  go_wp2_with fail
                  go_quiet (fail)
                  go_wp2_with fail
                  go_ret
                  exact ⟨ret_bool (by rw [← HR.out, HQ.out]; simp), below_drewN' BZ.out _⟩
              · have HT3 : Hid (q3 = true) := Lib.hid (by
                  rw [← HA.out, List.drop_eq_nil_of_le (by rw [← HM3.out]; omega), List.drop_eq_nil_of_le (by rw [← HL3.out, ← HM3.out]; omega)]; rfl)
                clear HA hk hf
                go_wp2_with fail
                go_ret
                exact ⟨ret_bool (by rw [← HR.out, HT1.out, HT2.out, HT3.out]; rfl), BZ.out⟩
  · have HBF : Hid (b = false) := Lib.hid (by
      rw [← hb, Bool.eq_false_iff]
      intro hx
      rw [Bool.and_eq_true, Bool.and_eq_true] at hx
      obtain ⟨x1, x2, x3⟩ := hx
      exact hl ⟨by rw [of_decide_eq_true x1], by rw [of_decide_eq_true x2], by rw [of_decide_eq_true x3]⟩)
    have HZ := Lib.hid (show Below w.heap.size w ((w.alloc (.cells #[.slice a1 g.st.length p1, .slice a3 g.ag.length p3, .slice a2 g.to.length p2] 26)).alloc (.cells #[.slice b1 h.st.length r1, .slice b3 h.ag.length r3, .slice b2 h.to.length r2] 26)) from bal (bal (Below.refl _ _) _) _)
    generalize g.st.length = x1 at hl HZ ⊢
    generalize g.to.length = x2 at hl HZ ⊢
    generalize g.ag.length = x3 at hl HZ ⊢
    generalize h.st.length = y1 at hl HZ ⊢
    generalize h.to.length = y2 at hl HZ ⊢
    generalize h.ag.length = y3 at hl HZ ⊢
    clear hb HD HE n1 n2 n3
    have ee : ∀ x : Nat, ((x : Int) != (x : Int)) = false := by simp
    have en : ∀ x y : Nat, x ≠ y → ((x : Int) != (y : Int)) = true := by intro x y h; simp; omega
    by_cases h1 : x1 = y1
    · subst h1
      have e1 := ee x1
      by_cases h2 : x2 = y2
      · subst h2
        have e2 := ee x2
        have e3 := en x3 y3 (fun h => hl ⟨rfl, rfl, h⟩)
        clear ee en hl
        by_cases hz : x3 = y3
        · subst hz; simp at e3
        clear hz
        go_enter Try.func11, Try.ntmps11
        go_wp2_with fail
        go_ret
        exact ⟨ret_bool HBF.out.symm, HZ.out⟩
      · have e2 := en x2 y2 h2
        by_cases h3 : x3 = y3
        · subst h3
          have e3 := ee x3
          clear ee en hl
          go_enter Try.func11, Try.ntmps11
          go_wp2_with fail
          go_ret
          exact ⟨ret_bool HBF.out.symm, HZ.out⟩
        · have e3 := en x3 y3 h3
          clear ee en hl
          go_enter Try.func11, Try.ntmps11
          go_wp2_with fail
          go_ret
          exact ⟨ret_bool HBF.out.symm, HZ.out⟩
    · have e1 := en x1 y1 h1
      clear ee en hl
      go_enter Try.func11, Try.ntmps11
      go_wp2_with fail
      go_ret
      exact ⟨ret_bool HBF.out.symm, HZ.out⟩

end Go.Proofs.Ytklejedddkhfjaa
