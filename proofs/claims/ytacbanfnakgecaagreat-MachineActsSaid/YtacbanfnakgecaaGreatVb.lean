/- Layer 9, the code: numbers, Quiet, Ended, Final. Layer 9, the code: Ended, Final. -/
import Derived.Test.YtacbanfnakgecaaGreatVa
import Derived.Test.YtacbanfnakgecaaGreatUq
namespace Go.Proofs.YtacbanfnakgecaaGreat
set_option linter.unusedSimpArgs false
set_option linter.unusedVariables false
open Go.RowKit
theorem nbelow_any (i n : Int) (w : World) : Calls Tryz.prog 96 #[.int .i64 i, .int .i64 n] w fun e w' => e = .returned (.bool (inB i n)) ∧ w = w' := by
  go_enter Tryz.func96, Tryz.ntmps96
  go_wp2
  all_goals
    go_ret
    exact ⟨ret_bool (by simp_all [inB] <;> omega), rfl⟩
theorem nbelow_is (i n : Int) (b : Bool) (h : inB i n = b) (w : World) : Calls Tryz.prog 96 #[.int .i64 i, .int .i64 n] w fun e w' => e = .returned (.bool b) ∧ w = w' := h ▸ nbelow_any i n w
theorem qui1_any (l : List Ent) (v : Value) (w : World) (hv : EntsD w v l) (b : Bool) (hb : decide (l.length = 0) = b) :
    Calls Tryz.prog 98 #[v] w fun e w' => e = .returned (.bool (!b)) ∧ Below w.heap.size w w' := by
  obtain ⟨ad, cap, rfl⟩ := hv.shape0
  subst hb
  generalize l.length = n
  clear hv
  go_enter Tryz.func98, Tryz.ntmps98
  go_wp2
  all_goals
    go_ret
    exact ⟨ret_bool (by rw [Bool.eq_iff_iff]; simp; omega), Below.refl _ _⟩
set_option maxRecDepth 100000 in
set_option maxHeartbeats 2000000 in
theorem quidx_any (xs : List (List Ent × Value)) (v : Value) (w : World) (hv : BufsD w v xs) (hn : xs.length ≤ 100000) :
    Calls Tryz.prog 115 #[v, .func (.func 98) #[] #[]] w (IdxAns (!(xs.all fun x => decide (x.1.length = 0))) w) := by
  obtain ⟨B, hB⟩ : ∃ B, ((xs.drop 0).all fun x => decide (x.1.length = 0)) = B := ⟨_, rfl⟩
  rw [show (xs.all fun x => decide (x.1.length = 0)) = B from hB]
  have HB0 := Lib.hid hB
  have HV := Lib.hid hv
  obtain ⟨ad, cap, rfl⟩ := hv.shape0
  obtain ⟨n, hN⟩ : ∃ n, n = xs.length := ⟨_, rfl⟩
  rw [← hN] at hn HV ⊢
  have HN := Lib.hid hN
  clear hN hB hv
  go_enter Tryz.func115, Tryz.ntmps115
  go_wp2_with fail
  go_loopg [8] n (fun fuel i' wr => ∃ k : Nat, i' = .int .i64 k ∧ k ≤ n ∧ n - k ≤ fuel ∧ ((xs.drop k).all fun x => decide (x.1.length = 0)) = B ∧ Below w.heap.size w wr)
  case atStart => exact ⟨0, rfl, Nat.zero_le _, Nat.le_refl _, HB0.out, Below.refl _ _⟩
  case round =>
    obtain ⟨k, rfl, hk, hf, ha, hb⟩ := hrel
    have HA := Lib.hid ha
    have HB := Lib.hid hb
    have hww := hb.size
    clear ha hb
    by_cases hlt : k < n
    · have hk' : k < xs.length := by have := HN.out; omega
      have HD := Lib.hid (List.drop_eq_getElem_cons hk')
      obtain ⟨b, off, al, ml, rfl, hbl, x0, y0⟩ := BufsD.at2 (HV.out.below HB.out) k hk'
      obtain ⟨q, hq⟩ : ∃ q, decide (xs[k].1.length = 0) = q := ⟨_, rfl⟩
      have HFL := Lib.hid (qui1_any xs[k].1 _ wr y0 q hq)
      have HQ := Lib.hid hq
      have e1 : (0 : Int) ≤ (k : Int) := Int.natCast_nonneg _
      have e2 : (k : Int) < (n : Int) := by omega
      generalize xs[k].1.length = nl at x0 HFL
      clear y0 hq
      go_wp2_with fail
      refine HFL.out.mono ?_
      rintro e w2 ⟨rfl, hb2⟩
      have HB2 := Lib.hid (HB.out.trans (hb2.mono hww))
      clear hb2 x0
      cases q with
      | true =>
        go_wp2
        go_roundg (gk - 1)
        case measure => omega
        case rel =>
          refine ⟨k + 1, by go_num, by omega, by omega, ?_, HB2.out⟩
          have h2 := HA.out
          rw [HD.out, List.all_cons, HQ.out] at h2
          simpa using h2
      | false =>
        go_wp2
        go_ret
        refine ⟨k, rfl, ?_, HB2.out⟩
        have h2 := HA.out
        rw [HD.out, List.all_cons, HQ.out] at h2
        rw [← h2]; simp
    · have HE := Lib.hid (drop_over xs k (by have := HN.out; omega))
      go_wp2
      go_ret
      refine ⟨-1, rfl, ?_, HB.out⟩
      have := HA.out
      rw [HE.out] at this
      rw [← this]; rfl
set_option maxRecDepth 100000 in
set_option maxHeartbeats 400000 in
theorem qucont_any (xs : List (List Ent × Value)) (v : Value) (w : World) (hv : BufsD w v xs) (hn : xs.length ≤ 100000) (b : Bool) (hb : (xs.all fun x => decide (x.1.length = 0)) = b) :
    Calls Tryz.prog 97 #[v, .func (.func 98) #[] #[]] w fun e w' => e = .returned (.bool (!b)) ∧ Below w.heap.size w w' := by
  have H := quidx_any xs v w hv hn
  rw [hb] at H
  clear hv hn hb
  go_enter Tryz.func97, Tryz.ntmps97
  go_wp2_with fail
  refine H.mono ?_
  rintro e w2 ⟨z, rfl, hz, hb2⟩
  have HZ := Lib.hid hz
  clear hz
  go_wp2
  go_ret
  exact ⟨ret_bool HZ.out, hb2⟩
set_option maxRecDepth 100000 in
set_option maxHeartbeats 4000000 in
theorem nquiet_any (c : Cf) (vp vr vm vb : Value) (w : World) (hd : CfD w vp vr vm vb c) (hn : c.buf.length ≤ 100000) (b : Bool) (hb : quietC c = b) :
    Calls Tryz.prog 67 #[.agg #[vp, vr, vm, vb]] w fun e w' => e = .returned (.bool b) ∧ Below w.heap.size w w' := by
  have HC := Lib.hid (fun (W : World) (hw : Below w.heap.size w W) => qucont_any c.buf vb W (BufsD.below hd.b hw) hn b hb)
  clear hd hb
  have K1 := Lib.hid (Bk.new w 29 #[vp, vr, vm, vb])
  have L1 : Hid (Below w.heap.size w (w.alloc (.cells #[vp, vr, vm, vb] 29))) := (Below.refl _ _).alloc (Nat.le_refl _) _
  go_enter Tryz.func67, Tryz.ntmps67
  go_wp2_with fail
  refine (HC.out _ L1.out).mono ?_
  rintro e w2 ⟨rfl, b2⟩
  have B2 := Lib.hid (L1.out.trans (b2.mono L1.out.size))
  clear b2
  go_wp2
  go_ret
  exact ⟨ret_bool (by cases b <;> rfl), B2.out⟩
end Go.Proofs.YtacbanfnakgecaaGreat

namespace Go.Proofs.YtacbanfnakgecaaGreat
set_option linter.unusedSimpArgs false
set_option linter.unusedVariables false
open Go.RowKit
set_option maxRecDepth 100000 in
set_option maxHeartbeats 4000000 in
theorem nended_any (u : Un) (c : Cf) (t : Int) (vi vr vc ap ar am ab : Value) (w : World) (hu : UnD w vi vr vc u) (hc : CfD w ap ar am ab c) (q : Bool) (hq : endedC u c t = q) :
    Calls Tryz.prog 66 #[.agg #[.int .i64 u.mod, vi, vr, vc], .agg #[ap, ar, am, ab], .int .i64 t] w fun e w' => e = .returned (.bool q) ∧ Below w.heap.size w w' := by
  have HU := Lib.hid hu
  have HC := Lib.hid hc
  have hc9 := hu.c.bd
  have hp9 := hc.p.bd
  obtain ⟨xi, ci, rfl⟩ := hu.i.shape0
  obtain ⟨xr, cr, rfl⟩ := hu.r.shape0
  obtain ⟨xc, cc, rfl⟩ := hu.c.shape0
  obtain ⟨yp, dp, rfl⟩ := hc.p.shape0
  obtain ⟨yr, dr, rfl⟩ := hc.r.shape0
  obtain ⟨ym, dm, rfl⟩ := hc.m.shape0
  obtain ⟨yb, db, rfl⟩ := hc.b.shape0
  obtain ⟨m, hm⟩ : ∃ m, m = u.mod := ⟨_, rfl⟩
  obtain ⟨nc, hnc⟩ : ∃ n, n = u.code.length := ⟨_, rfl⟩
  obtain ⟨np, hnp⟩ : ∃ n, n = c.pc.length := ⟨_, rfl⟩
  have HNC := Lib.hid hnc
  have HNP := Lib.hid hnp
  rw [← hnc] at HU hc9 ⊢
  rw [← hnp] at HC hp9 ⊢
  rw [← hm]
  generalize u.init.length = ni at HU ⊢
  generalize u.regs.length = nr at HU ⊢
  generalize c.regs.length = mr at HC ⊢
  generalize c.mem.length = mm at HC ⊢
  generalize c.buf.length = mb at HC ⊢
  have HQ := Lib.hid hq
  have T2 := Lib.hid (two_new w 25 29 #[.int .i64 m, .slice xi ni ci, .slice xr nr cr, .slice xc nc cc] #[.slice yp np dp, .slice yr mr dr, .slice ym mm dm, .slice yb mb db])
  clear hu hc hq hnc hnp hm
  obtain ⟨L0, KA0, KB0⟩ := T2.out
  have LL := Lib.hid L0
  have KA := Lib.hid KA0
  have KB := Lib.hid KB0
  clear L0 KA0 KB0 T2
  obtain ⟨q1, hq1⟩ : ∃ q1, inB t nc = q1 := ⟨_, rfl⟩
  obtain ⟨q2, hq2⟩ : ∃ q2, inB t np = q2 := ⟨_, rfl⟩
  have HB1 := Lib.hid (fun (W : World) => nbelow_is t nc q1 hq1 W)
  have HB2 := Lib.hid (fun (W : World) => nbelow_is t np q2 hq2 W)
  have H1 := Lib.hid hq1
  have H2 := Lib.hid hq2
  clear hq1 hq2
  have HF : Hid (q1 = false ∨ q2 = false → q = false) := Lib.hid (by
    intro h
    rw [← HQ.out]
    unfold endedC
    rw [if_neg]
    rintro ⟨h1, h2, h3⟩
    have e1 := H1.out
    have e2 := H2.out
    rw [HNC.out] at e1
    rw [HNP.out] at e2
    rw [inB, decide_eq_true ⟨h1, h2⟩] at e1
    rw [inB, decide_eq_true ⟨h1, h3⟩] at e2
    rcases h with h | h
    · rw [h] at e1; cases e1
    · rw [h] at e2; cases e2)
  cases q1 with
  | false =>
    go_enter Tryz.func66, Tryz.ntmps66
    go_wp2_with fail
    generalize (w.alloc _).alloc _ = w0 at LL KA KB ⊢
    have c3 : w0.cell? ⟨w.heap.size, 3, none⟩ = some (.slice xc nc cc) := KA.out.cell 3
    have l1 := KA.out.lt
    go_wp2_with fail
    refine (HB1.out _).mono ?_
    rintro e w2 ⟨rfl, rfl⟩
    go_wp2
    go_ret
    exact ⟨ret_bool (HF.out (by simp)).symm, LL.out⟩
  | true =>
    cases q2 with
    | false =>
      go_enter Tryz.func66, Tryz.ntmps66
      go_wp2_with fail
      generalize (w.alloc _).alloc _ = w0 at LL KA KB ⊢
      have c3 : w0.cell? ⟨w.heap.size, 3, none⟩ = some (.slice xc nc cc) := KA.out.cell 3
      have d0 : w0.cell? ⟨w.heap.size + 1, 0, none⟩ = some (.slice yp np dp) := KB.out.cell 0
      have l1 := KA.out.lt
      have l2 := KB.out.lt
      go_wp2_with fail
      refine (HB1.out _).mono ?_
      rintro e w2 ⟨rfl, rfl⟩
      go_wp2_with fail
      refine (HB2.out _).mono ?_
      rintro e w2 ⟨rfl, rfl⟩
      go_wp2
      go_ret
      exact ⟨ret_bool (HF.out (by simp)).symm, LL.out⟩
    | true =>
      have h1 : 0 ≤ t ∧ t < nc ∧ t < np := by
        have e1 := H1.out
        have e2 := H2.out
        simp only [inB, decide_eq_true_eq] at e1 e2
        exact ⟨e1.1, e1.2, e2.2⟩
      obtain ⟨k, rfl⟩ : ∃ k : Nat, t = (k : Int) := ⟨t.toNat, by omega⟩
      have hk1 : k < u.code.length := by rw [← HNC.out]; omega
      have hk2 : k < c.pc.length := by rw [← HNP.out]; omega
      obtain ⟨b1, o1, rfl, hb1, y1⟩ := IntsD.at2 HC.out.p k hk2
      obtain ⟨b2, o2, rfl, hb2, hx⟩ := SlD.at HU.out.c k hk1
      obtain ⟨x2, m2, hxv⟩ := hx.r.shape0
      have y2 : w.cell? ⟨b2, o2 + k, none⟩ = some (.slice x2 (u.code[k]).1.length m2) := by have := hx.c; rw [Nat.mul_one, hxv] at this; exact this
      have z2 : InsD w (.slice x2 (u.code[k]).1.length m2) (u.code[k]).1 := by rw [← hxv]; exact hx.r
      have Z2 := Lib.hid z2
      have hE : Hid (endedC u c k = (if 0 ≤ c.pc[k] ∧ c.pc[k] < ((u.code[k]).1.length : Int) then decide ((((u.code[k]).1[(c.pc[k]).toNat]?).map fun i => i.x.op) = some 22) else false)) := Lib.hid (by
        unfold endedC
        rw [if_pos (by rw [← HNC.out, ← HNP.out]; exact h1), Int.toNat_natCast]
        have g1 : c.pc.getD k 0 = c.pc[k] := by rw [List.getD_eq_getElem?_getD, List.getElem?_eq_getElem hk2]; rfl
        have g2 : u.code.getD k ([], undef) = u.code[k] := by rw [List.getD_eq_getElem?_getD, List.getElem?_eq_getElem hk1]; rfl
        rw [g1, g2])
      have hn9 := z2.bd
      generalize (u.code[k]).1 = row at y2 Z2 hE hn9
      generalize c.pc[k] = p at y1 hE
      obtain ⟨nl, hnl⟩ : ∃ n, n = row.length := ⟨_, rfl⟩
      have HNL := Lib.hid hnl
      rw [← hnl] at y2 Z2 hE hn9
      clear hx hxv z2 hk1 hk2 hnl
      obtain ⟨h2, h3, h4⟩ := h1
      have e1 : (0 : Int) ≤ (k : Int) := h2
      have e5 : k < nc := by omega
      have e6 : k < np := by omega
      have e7 : (k : Int) < (nc : Int) := by omega
      have e8 : (k : Int) < (np : Int) := by omega
      obtain ⟨q3, hq3⟩ : ∃ q3, inB p nl = q3 := ⟨_, rfl⟩
      have HB3 := Lib.hid (fun (W : World) => nbelow_is p nl q3 hq3 W)
      have H3 := Lib.hid hq3
      clear hq3
      have HWB := Lib.hid (fun (W : World) (h : Below w.heap.size w W) => (⟨(h.cell (p := ⟨b1, _, none⟩) hb1).trans y1, (h.cell (p := ⟨b2, _, none⟩) hb2).trans y2⟩ : W.cell? ⟨b1, o1 + k, none⟩ = some (.int .i64 p) ∧ W.cell? ⟨b2, o2 + k, none⟩ = some (.slice x2 nl m2)))
      clear y1 y2
      cases q3 with
      | false =>
        have HBF : Hid (q = false) := Lib.hid (by
          rw [← HQ.out, hE.out, if_neg]
          have := H3.out
          simp only [inB, decide_eq_false_iff_not] at this
          exact this)
        go_enter Tryz.func66, Tryz.ntmps66
        go_wp2_with fail
        generalize (w.alloc _).alloc _ = w0 at LL KA KB ⊢
        have c3 : w0.cell? ⟨w.heap.size, 3, none⟩ = some (.slice (some ⟨b2, o2, none⟩) nc cc) := KA.out.cell 3
        have d0 : w0.cell? ⟨w.heap.size + 1, 0, none⟩ = some (.slice (some ⟨b1, o1, none⟩) np dp) := KB.out.cell 0
        have l1 := KA.out.lt
        have l2 := KB.out.lt
        obtain ⟨y1, y2⟩ := HWB.out w0 LL.out
        go_wp2_with fail
        refine (HB1.out _).mono ?_
        rintro e w2 ⟨rfl, rfl⟩
        go_wp2_with fail
        refine (HB2.out _).mono ?_
        rintro e w2 ⟨rfl, rfl⟩
        have e1 : (0 : Int) ≤ (k : Int) := h2
        go_wp2_with fail
        have e1 : (0 : Int) ≤ (k : Int) := h2
        go_quiet (fail)
        go_wp2_with fail
        refine (HB3.out _).mono ?_
        rintro e w2 ⟨rfl, rfl⟩
        go_wp2
        go_ret
        exact ⟨ret_bool HBF.out.symm, below_drewN' LL.out _⟩
      | true =>
        have h9 : 0 ≤ p ∧ p < nl := by
          have := H3.out
          simp only [inB, decide_eq_true_eq] at this
          exact this
        obtain ⟨j, rfl⟩ : ∃ j : Nat, p = (j : Int) := ⟨p.toNat, by omega⟩
        have hj : j < row.length := by rw [← HNL.out]; omega
        obtain ⟨b3, o3, rfl, hb3, hi⟩ := SlD.at Z2.out j hj
        have i0 := hi.c0
        have HE2 : Hid (decide ((row[j]).x.op = 22) = q) := Lib.hid (by
          have h2 := HQ.out
          rw [hE.out, if_pos h9, Int.toNat_natCast, List.getElem?_eq_getElem hj] at h2
          rw [← h2]
          simp)
        generalize (row[j]).x.op = op at i0 HE2
        have e2 : (j : Int) < (nl : Int) := h9.2
        have e3 : (0 : Int) ≤ (j : Int) := h9.1
        have e4 : j < nl := by omega
        have HWI := Lib.hid (fun (W : World) (h : Below w.heap.size w W) => (h.cell (p := ⟨b3, _, none⟩) hb3).trans i0)
        clear hi hj h9 i0
        go_enter Tryz.func66, Tryz.ntmps66
        go_wp2_with fail
        generalize (w.alloc _).alloc _ = w0 at LL KA KB ⊢
        have c3 : w0.cell? ⟨w.heap.size, 3, none⟩ = some (.slice (some ⟨b2, o2, none⟩) nc cc) := KA.out.cell 3
        have d0 : w0.cell? ⟨w.heap.size + 1, 0, none⟩ = some (.slice (some ⟨b1, o1, none⟩) np dp) := KB.out.cell 0
        have l1 := KA.out.lt
        have l2 := KB.out.lt
        obtain ⟨y1, y2⟩ := HWB.out w0 LL.out
        go_wp2_with fail
        refine (HB1.out _).mono ?_
        rintro e w2 ⟨rfl, rfl⟩
        go_wp2_with fail
        refine (HB2.out _).mono ?_
        rintro e w2 ⟨rfl, rfl⟩
        go_wp2_with fail
        have e1 : (0 : Int) ≤ (k : Int) := h2
        go_quiet (fail)
        go_wp2_with fail
        refine (HB3.out _).mono ?_
        rintro e w2 ⟨rfl, rfl⟩
        have i0 : (w0.drewN nq).cell? ⟨b3, o3 + j * 7, none⟩ = some (.int .i64 op) := HWI.out _ (below_drewN' LL.out _)
        have e3 : (0 : Int) ≤ (j : Int) := Int.natCast_nonneg _
        by_cases hop : op = 22
        · have g1 : (op == 22) = true := by simpa using hop
          have g2 : q = true := by rw [← HE2.out, decide_eq_true hop]
          have HG := Lib.hid g2
          clear hop g2
          go_wp2
          go_ret
          exact ⟨ret_bool HG.out.symm, below_drewN' LL.out _⟩
        · have g1 : (op == 22) = false := by simpa using hop
          have g2 : q = false := by rw [← HE2.out, decide_eq_false hop]
          have HG := Lib.hid g2
          clear hop g2
          go_wp2
          go_ret
          exact ⟨ret_bool HG.out.symm, below_drewN' LL.out _⟩
set_option maxRecDepth 100000 in
set_option maxHeartbeats 4000000 in
theorem nfinal_any (u : Un) (c : Cf) (vi vr vc ap ar am ab : Value) (w : World) (hu : UnD w vi vr vc u) (hc : CfD w ap ar am ab c) (hn : u.code.length ≤ 100000) (hb : c.buf.length ≤ 100000) (q : Bool) (hq : finalC u c = q) :
    Calls Tryz.prog 47 #[.agg #[.int .i64 u.mod, vi, vr, vc], .agg #[ap, ar, am, ab]] w fun e w' => e = .returned (.bool q) ∧ Below w.heap.size w w' := by
  have HED := Lib.hid (fun (t : Int) (W : World) (h : Below w.heap.size w W) => nended_any u c t vi vr vc ap ar am ab W (hu.below h) (hc.below h) _ rfl)
  have HQU := Lib.hid (fun (W : World) (h : Below w.heap.size w W) => nquiet_any c ap ar am ab W (hc.below h) hb _ rfl)
  have HQ0 : Hid ((finF u c (u.code.length - 0) 0 && quietC c) = q) := Lib.hid hq
  generalize quietC c = qz at HQU HQ0
  obtain ⟨xi, ci, rfl⟩ := hu.i.shape0
  obtain ⟨xr, cr, rfl⟩ := hu.r.shape0
  obtain ⟨xc, cc, rfl⟩ := hu.c.shape0
  obtain ⟨yp, dp, rfl⟩ := hc.p.shape0
  obtain ⟨yr, dr, rfl⟩ := hc.r.shape0
  obtain ⟨ym, dm, rfl⟩ := hc.m.shape0
  obtain ⟨yb, db, rfl⟩ := hc.b.shape0
  generalize u.mod = m at HED ⊢
  generalize u.code.length = nc at HED hn HQ0 ⊢
  generalize u.init.length = ni at HED ⊢
  generalize u.regs.length = nr at HED ⊢
  generalize c.pc.length = np at HED HQU ⊢
  generalize c.regs.length = mr at HED HQU ⊢
  generalize c.mem.length = mm at HED HQU ⊢
  generalize c.buf.length = mb at HED HQU hb ⊢
  have T2 := Lib.hid (two_new w 25 29 #[.int .i64 m, .slice xi ni ci, .slice xr nr cr, .slice xc nc cc] #[.slice yp np dp, .slice yr mr dr, .slice ym mm dm, .slice yb mb db])
  clear hu hc hq hb
  obtain ⟨L0, KA0, KB0⟩ := T2.out
  have LL := Lib.hid L0
  have KA := Lib.hid KA0
  have KB := Lib.hid KB0
  clear L0 KA0 KB0 T2
  go_enter Tryz.func47, Tryz.ntmps47
  go_wp2_with fail
  generalize (w.alloc _).alloc _ = w0 at LL KA KB ⊢
  go_loopg [9] nc (fun fuel i' wr => ∃ (k : Nat), i' = .int .i64 k ∧ k ≤ nc ∧ nc - k ≤ fuel ∧ (finF u c (nc - k) k && qz) = q ∧ Below w0.heap.size w0 wr)
  case atStart => exact ⟨0, rfl, Nat.zero_le _, Nat.le_refl _, HQ0.out, Below.refl _ _⟩
  case round =>
    obtain ⟨k, rfl, hk, hf, ha, hb⟩ := hrel
    have HA := Lib.hid ha
    have HB := Lib.hid hb
    have KAR := Lib.hid (KA.out.below hb)
    have KBR := Lib.hid (KB.out.below hb)
    have LR := Lib.hid (LL.out.trans (hb.mono LL.out.size))
    clear ha hb
    have c0 : wr.cell? ⟨w.heap.size, 0, none⟩ = some (.int .i64 m) := KAR.out.cell 0
    have c1 : wr.cell? ⟨w.heap.size, 1, none⟩ = some (.slice xi ni ci) := KAR.out.cell 1
    have c2 : wr.cell? ⟨w.heap.size, 2, none⟩ = some (.slice xr nr cr) := KAR.out.cell 2
    have c3 : wr.cell? ⟨w.heap.size, 3, none⟩ = some (.slice xc nc cc) := KAR.out.cell 3
    have d0 : wr.cell? ⟨w.heap.size + 1, 0, none⟩ = some (.slice yp np dp) := KBR.out.cell 0
    have d1 : wr.cell? ⟨w.heap.size + 1, 1, none⟩ = some (.slice yr mr dr) := KBR.out.cell 1
    have d2 : wr.cell? ⟨w.heap.size + 1, 2, none⟩ = some (.slice ym mm dm) := KBR.out.cell 2
    have d3 : wr.cell? ⟨w.heap.size + 1, 3, none⟩ = some (.slice yb mb db) := KBR.out.cell 3
    have l1 := KAR.out.lt
    have l2 := KBR.out.lt
    by_cases hlt : k < nc
    · have HE := Lib.hid (finF_at u c nc k hlt)
      have HEK := Lib.hid (HED.out (k : Int))
      generalize endedC u c (k : Int) = qe at HE HEK
      cases qe with
      | false =>
        go_wp2_with fail
        refine (HEK.out _ LR.out).mono ?_
        rintro e w5 ⟨rfl, b5⟩
        go_wp2
        go_ret
        exact ⟨ret_bool (by rw [← HA.out, HE.out]; rfl), LR.out.trans (b5.mono LR.out.size)⟩
      | true =>
        go_wp2_with fail
        refine (HEK.out _ LR.out).mono ?_
        rintro e w5 ⟨rfl, b5⟩
        go_wp2
        go_roundg (gk - 1)
        case measure => omega
        case rel => exact ⟨k + 1, by go_num, by omega, by omega, by have h2 := HA.out; rw [HE.out] at h2; simpa using h2, HB.out.trans (b5.mono HB.out.size)⟩
    · have hkn : k = nc := by omega
      have HZ : Hid (qz = q) := Lib.hid (by have h2 := HA.out; rw [hkn, Nat.sub_self] at h2; exact h2)
      clear hkn
      go_wp2_with fail
      refine (HQU.out _ LR.out).mono ?_
      rintro e w5 ⟨rfl, b5⟩
      go_wp2
      go_ret
      exact ⟨ret_bool HZ.out, LR.out.trans (b5.mono LR.out.size)⟩
end Go.Proofs.YtacbanfnakgecaaGreat
