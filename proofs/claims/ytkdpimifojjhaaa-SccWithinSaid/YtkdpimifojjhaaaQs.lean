/- Layers 7 and 17, the references: Ints, Same. -/
import Derived.Test.YtkdpimifojjhaaaQr
namespace Go.Proofs.Ytkdpimifojjhaaa
set_option linter.unusedSimpArgs false
set_option linter.unusedVariables false
open Go.RowKit

theorem SlD.bd {α : Type} {S : Nat} {R : World → Nat → Nat → α → Prop} {w : World} {v : Value} {xs : List α} (h : SlD S R w v xs) : xs.length ≤ 9223372036854775807 := by
  obtain ⟨ad, cap, _, h1, h2, _⟩ := h; exact Nat.le_trans h1.1 h2

set_option maxRecDepth 100000 in
set_option maxHeartbeats 2000000 in
theorem ints_gen (l1 l2 : List Int) (v1 v2 : Value) (w : World) (h1 : IntsD w v1 l1) (h2 : IntsD w v2 l2) (hn : l1.length ≤ 100000) (b : Bool) (hb : decide (l1 = l2) = b) :
    Calls Try.prog 10 #[v1, v2] w fun e w' => e = .returned (.bool b) ∧ Below w.heap.size w w' := by
  have H1 := Lib.hid h1
  have H2 := Lib.hid h2
  have h9 := h2.bd
  obtain ⟨ad, cap, rfl⟩ := h1.shape0
  obtain ⟨ad2, cap2, rfl⟩ := h2.shape0
  by_cases hl : l1.length = l2.length
  · have HB0 : Hid (decide (l1.drop 0 = l2.drop 0) = b) := Lib.hid hb
    rw [← hl] at H2 ⊢
    have HL := Lib.hid hl
    obtain ⟨n, hN⟩ : ∃ n, n = l1.length := ⟨_, rfl⟩
    rw [← hN] at H1 H2 hn ⊢
    have HN := Lib.hid hN
    clear h1 h2 hb hl hN h9
    go_enter Try.func10, Try.ntmps10
    go_wp2_with fail
    go_loopg [5] n (fun fuel i' wr => ∃ (k : Nat), i' = .int .i64 k ∧ k ≤ n ∧ n - k ≤ fuel ∧ decide (l1.drop k = l2.drop k) = b ∧ Below w.heap.size w wr)
    case atStart => exact ⟨0, rfl, Nat.zero_le _, Nat.le_refl _, HB0.out, Below.refl _ _⟩
    case round =>
      obtain ⟨k, rfl, hk, hf, ha, hb⟩ := hrel
      have HA := Lib.hid ha
      have HB := Lib.hid hb
      have hww := hb.size
      by_cases hlt : k < n
      · have hk1 : k < l1.length := by rw [← HN.out]; exact hlt
        have hk2 : k < l2.length := by rw [← HL.out]; exact hk1
        have HE := Lib.hid (drop_eq_iff l1 l2 k hk1 hk2)
        obtain ⟨b1, off, rfl, hbl, x0⟩ := IntsD.at2 H1.out k hk1
        obtain ⟨b2, off2, rfl, hbl2, y0⟩ := IntsD.at2 H2.out k hk2
        obtain ⟨xo, hx⟩ : ∃ x, x = l1[k] := ⟨_, rfl⟩
        obtain ⟨yo, hy⟩ : ∃ x, x = l2[k] := ⟨_, rfl⟩
        rw [← hx] at x0 HE
        rw [← hy] at y0 HE
        have c0 : wr.cell? ⟨b1, off + k, none⟩ = some (.int .i64 xo) := (hb.cell (p := ⟨b1, _, none⟩) hbl).trans x0
        have d0 : wr.cell? ⟨b2, off2 + k, none⟩ = some (.int .i64 yo) := (hb.cell (p := ⟨b2, _, none⟩) hbl2).trans y0
        clear x0 y0 hx hy hb ha hk1 hk2
        by_cases hq : xo = yo
        · have q1 : (xo == yo) = true := by simpa using hq
          have HQ : Hid (decide (l1.drop (k + 1) = l2.drop (k + 1)) = b) := Lib.hid (by rw [← HA.out, HE.out, decide_eq_true hq]; rfl)
          clear hq
          go_wp2
          go_quiet (fail)
          go_wp2
          go_roundg (gk - 1)
          case measure => omega
          case rel => exact ⟨k + 1, by go_num, by omega, by omega, HQ.out, below_drewN' HB.out _⟩
        · have q1 : (xo == yo) = false := by simpa using hq
          have HQ : Hid (b = false) := Lib.hid (by rw [← HA.out, HE.out, decide_eq_false hq]; rfl)
          clear hq
          go_wp2
          go_quiet (fail)
          go_wp2
          go_ret
          exact ⟨ret_bool HQ.out.symm, below_drewN' HB.out _⟩
      · have HE : Hid (b = true) := Lib.hid (by
          rw [← HA.out, List.drop_eq_nil_of_le (by rw [← HN.out]; omega), List.drop_eq_nil_of_le (by rw [← HL.out, ← HN.out]; omega)]; rfl)
        clear hb ha
        go_wp2
        go_ret
        exact ⟨ret_bool HE.out.symm, HB.out⟩
  · have HBF : Hid (b = false) := Lib.hid (by rw [← hb]; exact decide_eq_false (fun h => hl (by rw [h])))
    have g1 : ((l1.length : Int) == (l2.length : Int)) = false := by simp; omega
    generalize l1.length = n1 at g1 H1
    generalize l2.length = n2 at g1 H2
    clear h1 h2 hb hl hn h9
    go_enter Try.func10, Try.ntmps10
    go_wp2
    go_ret
    exact ⟨ret_bool HBF.out.symm, Below.refl _ _⟩
theorem AllD.at2 {w : World} {ad : Option Addr} {n cap : Nat} {zs : List (List Int × Value)} (h : AllD w (.slice ad n cap) zs) (k : Nat) (hk : k < zs.length) : ∃ b off, ad = some ⟨b, off, none⟩ ∧ b < w.heap.size ∧ w.cell? ⟨b, off + k, none⟩ = some zs[k].2 ∧ IntsD w zs[k].2 zs[k].1 := by
  obtain ⟨b, off, av, cp, e, hav, hl, hc, hi⟩ := AllD.at1 h k hk
  injection e with e1 e2 e3
  subst hav
  exact ⟨b, off, e1, hl, hc, hi⟩
def fsts (zs : List (List Int × Value)) : List (List Int) := zs.map (·.1)
theorem fsts_len (zs : List (List Int × Value)) : (fsts zs).length = zs.length := by simp [fsts]
theorem fsts_at (zs : List (List Int × Value)) (k : Nat) (h : k < zs.length) : (fsts zs)[k]'(by rw [fsts_len]; exact h) = zs[k].1 := by simp [fsts]
set_option maxRecDepth 100000 in
set_option maxHeartbeats 4000000 in
theorem same17_any (z1 z2 : List (List Int × Value)) (v1 v2 : Value) (w : World) (h1 : AllD w v1 z1) (h2 : AllD w v2 z2) (hn : z1.length ≤ 1000) (hm : ∀ a ∈ z1, a.1.length ≤ 1000) (hm2 : ∀ a ∈ z2, a.1.length ≤ 1000) (b : Bool) (hb : decide (fsts z1 = fsts z2) = b) :
    Calls Try.prog 13 #[v1, v2] w fun e w' => e = .returned (.bool b) ∧ Below w.heap.size w w' := by
  have H1 := Lib.hid h1
  have H2 := Lib.hid h2
  have h9 := h2.bd
  obtain ⟨ad, cap, rfl⟩ := h1.shape0
  obtain ⟨ad2, cap2, rfl⟩ := h2.shape0
  by_cases hl : z1.length = z2.length
  · have HB0 : Hid (decide ((fsts z1).drop 0 = (fsts z2).drop 0) = b) := Lib.hid hb
    rw [← hl] at H2 ⊢
    have HL := Lib.hid hl
    obtain ⟨n, hN⟩ : ∃ n, n = z1.length := ⟨_, rfl⟩
    rw [← hN] at H1 H2 hn ⊢
    have HN := Lib.hid hN
    have HM := Lib.hid hm
    have HM2 := Lib.hid hm2
    clear h1 h2 hb hl hN h9 hm hm2
    go_enter Try.func13, Try.ntmps13
    go_wp2_with fail
    go_loopg [5, 6] n (fun fuel s5 s6 wr => ∃ k : Nat, s5 = .int .i64 k ∧ k ≤ n ∧ n - k ≤ fuel ∧ decide ((fsts z1).drop k = (fsts z2).drop k) = b ∧ Below w.heap.size w wr)
    case atStart => exact ⟨0, rfl, Nat.zero_le _, Nat.le_refl _, HB0.out, Below.refl _ _⟩
    case round =>
      clear HB0
      obtain ⟨k, rfl, hk, hf, ha, hb⟩ := hrel
      have HA := Lib.hid ha
      have HB := Lib.hid hb
      clear ha
      by_cases hlt : k < n
      · have hk1 : k < z1.length := by rw [← HN.out]; exact hlt
        have hk2 : k < z2.length := by rw [← HL.out]; exact hk1
        have HE := Lib.hid (drop_eq_iff (fsts z1) (fsts z2) k (by rw [fsts_len]; exact hk1) (by rw [fsts_len]; exact hk2))
        rw [fsts_at z1 k hk1, fsts_at z2 k hk2] at HE
        obtain ⟨b1, off, eb1, hbl, x0, xi⟩ := AllD.at2 H1.out k hk1
        obtain ⟨b2, off2, eb2, hbl2, y0, yi⟩ := AllD.at2 H2.out k hk2
        subst eb1
        subst eb2
        have hml := HM.out _ (List.getElem_mem hk1)
        have hml2 := HM2.out _ (List.getElem_mem hk2)
        obtain ⟨l1, hl1⟩ : ∃ l, l = z1[k].1 := ⟨_, rfl⟩
        obtain ⟨l2, hl2⟩ : ∃ l, l = z2[k].1 := ⟨_, rfl⟩
        rw [← hl1] at HE xi hml
        rw [← hl2] at HE yi hml2
        generalize z1[k].2 = u1 at x0 xi
        generalize z2[k].2 = u2 at y0 yi
        obtain ⟨a1, p1, rfl⟩ := xi.shape0
        obtain ⟨a2, p2, rfl⟩ := yi.shape0
        have HXI := Lib.hid xi
        have HYI := Lib.hid yi
        have HXB := Lib.hid hbl
        have HYB := Lib.hid hbl2
        have HX0 := Lib.hid x0
        have HY0 := Lib.hid y0
        have i1 : (0 : Int) ≤ (k : Int) := by omega
        have i2 : (k : Int) < (n : Int) := by omega
        have i5 : IntKind.i64.wrap ((k : Int) + 1) = (k : Int) + 1 := IntWalk.i64_in _ (by omega)
        clear x0 y0 xi yi hl1 hl2 hk1 hk2 hbl hbl2
        have x0 : wr.cell? ⟨b1, off + k, none⟩ = some (.slice a1 l1.length p1) := (hb.cell (p := ⟨b1, _, none⟩) HXB.out).trans HX0.out
        have y0 : wr.cell? ⟨b2, off2 + k, none⟩ = some (.slice a2 l2.length p2) := (hb.cell (p := ⟨b2, _, none⟩) HYB.out).trans HY0.out
        clear hb
        obtain ⟨m1, hm1⟩ : ∃ m, m = l1.length := ⟨_, rfl⟩
        obtain ⟨m2, hm2⟩ : ∃ m, m = l2.length := ⟨_, rfl⟩
        rw [← hm1] at x0 HX0 hml HXI
        rw [← hm2] at y0 HY0 hml2 HYI
        have HM1 := Lib.hid hm1
        have HM2' := Lib.hid hm2
        clear hm1 hm2
        by_cases hml' : m1 = m2
        · subst hml'
          obtain ⟨ga, rfl⟩ : ∃ z, z = gk := ⟨_, rfl⟩
          go_wp2_with fail
          go_quiet (fail)
          go_wp2_with fail
          have HB5 := Lib.hid (below_drewN' HB.out nq)
          have HA5 : Hid ((decide (l1.drop 0 = l2.drop 0) && decide ((fsts z1).drop (k + 1) = (fsts z2).drop (k + 1))) = b) := Lib.hid (by rw [List.drop_zero, List.drop_zero, ← HE.out]; exact HA.out)
          generalize wr.drewN nq = w5 at HB5 ⊢
          clear x0 y0 HE HA HB
          go_loopg [6] m1 (fun fuel s6 wr => ∃ j : Nat, s6 = .int .i64 j ∧ j ≤ m1 ∧ m1 - j ≤ fuel ∧ (decide (l1.drop j = l2.drop j) && decide ((fsts z1).drop (k + 1) = (fsts z2).drop (k + 1))) = b ∧ Below w.heap.size w wr)
          case atStart => exact ⟨0, rfl, Nat.zero_le _, Nat.le_refl _, HA5.out, HB5.out⟩
          case round =>
            clear HA5 HB5
            obtain ⟨j, rfl, hj, hf2, ha, hb⟩ := hrel
            have HA := Lib.hid ha
            have HB := Lib.hid hb
            clear ha
            have x0 : wr.cell? ⟨b1, off + k, none⟩ = some (.slice a1 m1 p1) := (hb.cell (p := ⟨b1, _, none⟩) HXB.out).trans HX0.out
            have y0 : wr.cell? ⟨b2, off2 + k, none⟩ = some (.slice a2 m1 p2) := (hb.cell (p := ⟨b2, _, none⟩) HYB.out).trans HY0.out
            by_cases hjt : j < m1
            · have hj1 : j < l1.length := by rw [← HM1.out]; exact hjt
              have hj2 : j < l2.length := by rw [← HM2'.out]; exact hjt
              have HE := Lib.hid (drop_eq_iff l1 l2 j hj1 hj2)
              obtain ⟨c1, o1, ec1, hc1, xx⟩ := IntsD.at2 (IntsD.below HXI.out hb) j hj1
              obtain ⟨c2, o2, ec2, hc2, yy⟩ := IntsD.at2 (IntsD.below HYI.out hb) j hj2
              subst ec1
              subst ec2
              obtain ⟨xo, hx⟩ : ∃ x, x = l1[j] := ⟨_, rfl⟩
              obtain ⟨yo, hy⟩ : ∃ x, x = l2[j] := ⟨_, rfl⟩
              rw [← hx] at xx HE
              rw [← hy] at yy HE
              have j1 : (0 : Int) ≤ (j : Int) := by omega
              have j2 : (j : Int) < (m1 : Int) := by omega
              have j5 : IntKind.i64.wrap ((j : Int) + 1) = (j : Int) + 1 := IntWalk.i64_in _ (by omega)
              clear hx hy hb hj1 hj2
              by_cases hq : xo = yo
              · have q1 : (xo == yo) = true := by simpa using hq
                have HQ : Hid ((decide (l1.drop (j + 1) = l2.drop (j + 1)) && decide ((fsts z1).drop (k + 1) = (fsts z2).drop (k + 1))) = b) := Lib.hid (by rw [← HA.out, HE.out, decide_eq_true hq]; rfl)
                subst hq
                go_wp2_with fail
                go_quiet (fail)
                go_wp2_with fail
                go_roundg (gk - 1)
                case measure => omega
                case rel => exact ⟨j + 1, by go_num, by omega, by omega, HQ.out, below_drewN' HB.out _⟩
              · have q1 : (xo == yo) = false := by simpa using hq
                have HQ : Hid (b = false) := Lib.hid (by rw [← HA.out, HE.out, decide_eq_false hq]; rfl)
                go_wp2_with fail
                go_quiet (fail)
                go_wp2_with fail
                go_ret
                exact ⟨ret_bool HQ.out.symm, below_drewN' HB.out _⟩
            · obtain rfl : j = m1 := by omega
              have HQ : Hid (decide ((fsts z1).drop (k + 1) = (fsts z2).drop (k + 1)) = b) := Lib.hid (by
                have e1 : l1.drop j = [] := List.drop_eq_nil_of_le (by rw [← HM1.out]; exact Nat.le_refl _)
                have e2 : l2.drop j = [] := List.drop_eq_nil_of_le (by rw [← HM2'.out]; exact Nat.le_refl _)
                rw [← HA.out, e1, e2]; simp)
              clear hb
              go_wp2_with fail
              go_roundg (ga - 1)
              case measure => omega
              case rel => exact ⟨k + 1, by go_num, by omega, by omega, HQ.out, HB.out⟩
        · have HBF : Hid (b = false) := Lib.hid (by rw [← HA.out, HE.out, decide_eq_false (fun h : l1 = l2 => hml' (by rw [HM1.out, HM2'.out, h]))]; rfl)
          have q1 : ((m1 : Int) == (m2 : Int)) = false := by simpa using (by omega : ¬ (m1 : Int) = (m2 : Int))
          have q2 : ¬ ((m1 : Int) = (m2 : Int)) := by omega
          go_wp2_with fail
          go_quiet (fail)
          go_wp2_with fail
          go_ret
          exact ⟨ret_bool HBF.out.symm, below_drewN' HB.out _⟩
      · have HE : Hid (b = true) := Lib.hid (by
          rw [← HA.out, List.drop_eq_nil_of_le (by rw [fsts_len, ← HN.out]; omega), List.drop_eq_nil_of_le (by rw [fsts_len, ← HL.out, ← HN.out]; omega)]; rfl)
        clear hb
        go_wp2_with fail
        go_ret
        exact ⟨ret_bool HE.out.symm, HB.out⟩
  · have HBF : Hid (b = false) := Lib.hid (by rw [← hb]; exact decide_eq_false (fun h => hl (by have := congrArg List.length h; rwa [fsts_len, fsts_len] at this)))
    have hne : ¬ ((z1.length : Int) = (z2.length : Int)) := by omega
    generalize z1.length = n1 at hne ⊢
    generalize z2.length = n2 at hne ⊢
    clear h1 h2 H1 H2 hb hl h9 hm hm2 hn
    go_enter Try.func13, Try.ntmps13
    go_wp2_with fail
    go_ret
    exact ⟨ret_bool HBF.out.symm, Below.refl _ _⟩

end Go.Proofs.Ytkdpimifojjhaaa
