/- Layer 9: the reference's Ended, Final. Layer 9: the reference's Final. Layer 8: Right of a buffer. Layer 8: Right of a buffer, whatever the bounds; the reference's, plainly. -/
import Derived.Test.YtacbanfnakgecaaGreatUo
namespace Go.Proofs.YtacbanfnakgecaaGreat
set_option linter.unusedSimpArgs false
set_option linter.unusedVariables false
open Go.RowKit
def endedC (u : Un) (c : Cf) (t : Int) : Bool :=
  if 0 ≤ t ∧ t < u.code.length ∧ t < c.pc.length then
    (if 0 ≤ c.pc.getD t.toNat 0 ∧ c.pc.getD t.toNat 0 < ((u.code.getD t.toNat ([], undef)).1.length : Int) then decide ((((u.code.getD t.toNat ([], undef)).1[(c.pc.getD t.toNat 0).toNat]?).map fun i => i.x.op) = some 22) else false)
  else false
set_option maxRecDepth 100000 in
set_option maxHeartbeats 4000000 in
theorem ended_any (u : Un) (c : Cf) (t : Int) (vi vr vc ap ar am ab : Value) (w : World) (hu : UnD w vi vr vc u) (hc : CfD w ap ar am ab c) (q : Bool) (hq : endedC u c t = q) :
    Calls Tryz.prog 68 #[.agg #[.int .i64 u.mod, vi, vr, vc], .agg #[ap, ar, am, ab], .int .i64 t] w fun e w' => e = .returned (.bool q) ∧ Below w.heap.size w w' := by
  have HU := Lib.hid hu
  have HC := Lib.hid hc
  have hc9 := hu.c.bd
  have hp9 := hc.p.bd
  obtain ⟨xi, ci, rfl⟩ := hu.i.shape0
  obtain ⟨xr, cr, rfl⟩ := hu.r.shape0
  obtain ⟨xc, cc, rfl⟩ := hu.c.shape0
  obtain ⟨yp, dp, rfl⟩ := hc.p.shape0
  obtain ⟨yr, dr, rfl⟩ := hc.r.shape0
  obtain ⟨ym, dm, rfl⟩ := hc.m.shape0
  obtain ⟨yb, db, rfl⟩ := hc.b.shape0
  obtain ⟨m, hm⟩ : ∃ m, m = u.mod := ⟨_, rfl⟩
  obtain ⟨nc, hnc⟩ : ∃ n, n = u.code.length := ⟨_, rfl⟩
  obtain ⟨np, hnp⟩ : ∃ n, n = c.pc.length := ⟨_, rfl⟩
  have HNC := Lib.hid hnc
  have HNP := Lib.hid hnp
  rw [← hnc] at HU hc9 ⊢
  rw [← hnp] at HC hp9 ⊢
  rw [← hm]
  generalize u.init.length = ni at HU ⊢
  generalize u.regs.length = nr at HU ⊢
  generalize c.regs.length = mr at HC ⊢
  generalize c.mem.length = mm at HC ⊢
  generalize c.buf.length = mb at HC ⊢
  have HQ := Lib.hid hq
  have T2 := Lib.hid (two_new w 25 29 #[.int .i64 m, .slice xi ni ci, .slice xr nr cr, .slice xc nc cc] #[.slice yp np dp, .slice yr mr dr, .slice ym mm dm, .slice yb mb db])
  clear hu hc hq hnc hnp hm
  obtain ⟨L0, KA0, KB0⟩ := T2.out
  have LL := Lib.hid L0
  have KA := Lib.hid KA0
  have KB := Lib.hid KB0
  clear L0 KA0 KB0 T2
  by_cases h1 : 0 ≤ t ∧ t < nc ∧ t < np
  · obtain ⟨k, rfl⟩ : ∃ k : Nat, t = (k : Int) := ⟨t.toNat, by omega⟩
    have hk1 : k < u.code.length := by rw [← HNC.out]; omega
    have hk2 : k < c.pc.length := by rw [← HNP.out]; omega
    obtain ⟨b1, o1, rfl, hb1, y1⟩ := IntsD.at2 HC.out.p k hk2
    obtain ⟨b2, o2, rfl, hb2, hx⟩ := SlD.at HU.out.c k hk1
    obtain ⟨x2, m2, hxv⟩ := hx.r.shape0
    have y2 : w.cell? ⟨b2, o2 + k, none⟩ = some (.slice x2 (u.code[k]).1.length m2) := by have := hx.c; rw [Nat.mul_one, hxv] at this; exact this
    have z2 : InsD w (.slice x2 (u.code[k]).1.length m2) (u.code[k]).1 := by rw [← hxv]; exact hx.r
    have Z2 := Lib.hid z2
    have hE : Hid (endedC u c k = (if 0 ≤ c.pc[k] ∧ c.pc[k] < ((u.code[k]).1.length : Int) then decide ((((u.code[k]).1[(c.pc[k]).toNat]?).map fun i => i.x.op) = some 22) else false)) := Lib.hid (by
      unfold endedC
      rw [if_pos (by rw [← HNC.out, ← HNP.out]; exact h1), Int.toNat_natCast]
      have g1 : c.pc.getD k 0 = c.pc[k] := by rw [List.getD_eq_getElem?_getD, List.getElem?_eq_getElem hk2]; rfl
      have g2 : u.code.getD k ([], undef) = u.code[k] := by rw [List.getD_eq_getElem?_getD, List.getElem?_eq_getElem hk1]; rfl
      rw [g1, g2])
    have hn9 := z2.bd
    generalize (u.code[k]).1 = row at y2 Z2 hE hn9
    generalize c.pc[k] = p at y1 hE
    obtain ⟨nl, hnl⟩ : ∃ n, n = row.length := ⟨_, rfl⟩
    have HNL := Lib.hid hnl
    rw [← hnl] at y2 Z2 hE hn9
    clear hx hxv z2 hk1 hk2 hnl
    obtain ⟨h2, h3, h4⟩ := h1
    have e1 : (0 : Int) ≤ (k : Int) := h2
    have e3 : ¬ (nc : Int) ≤ (k : Int) := by omega
    have e4 : ¬ (np : Int) ≤ (k : Int) := by omega
    have e5 : k < nc := by omega
    have e6 : k < np := by omega
    by_cases h5 : 0 ≤ p ∧ p < (nl : Int)
    · obtain ⟨j, rfl⟩ : ∃ j : Nat, p = (j : Int) := ⟨p.toNat, by omega⟩
      have hj : j < row.length := by rw [← HNL.out]; omega
      obtain ⟨b3, o3, rfl, hb3, hx3⟩ := SlD.at Z2.out j hj
      obtain ⟨iv, hiv⟩ : ∃ i, i = row[j] := ⟨_, rfl⟩
      rw [← hiv] at hx3
      have hE2 : Hid (decide (iv.x.op = 22) = q) := Lib.hid (by
        rw [← HQ.out, hE.out, if_pos h5, Int.toNat_natCast, List.getElem?_eq_getElem hj, hiv]
        rw [Bool.eq_iff_iff]; simp)
      have y3 := hx3.c0
      generalize iv.x.op = op at y3 hE2
      have f1 : (0 : Int) ≤ (j : Int) := h5.1
      have f2 : (j : Int) < (nl : Int) := h5.2
      have f3 : ¬ (nl : Int) ≤ (j : Int) := by omega
      have f4 : j < nl := by omega
      have Y1 := Lib.hid (fun (W : World) (hb : Below w.heap.size w W) => (⟨(hb.cell (p := ⟨b1, _, none⟩) hb1).trans y1, (hb.cell (p := ⟨b2, _, none⟩) hb2).trans y2, (hb.cell (p := ⟨b3, _, none⟩) hb3).trans y3, Nat.lt_of_lt_of_le hb1 hb.size, Nat.lt_of_lt_of_le hb2 hb.size, Nat.lt_of_lt_of_le hb3 hb.size⟩ : W.cell? ⟨b1, o1 + k, none⟩ = some (.int .i64 (j : Int)) ∧ W.cell? ⟨b2, o2 + k, none⟩ = some (.slice (some ⟨b3, o3, none⟩) nl m2) ∧ W.cell? ⟨b3, o3 + j * 7, none⟩ = some (.int .i64 op) ∧ b1 < W.heap.size ∧ b2 < W.heap.size ∧ b3 < W.heap.size))
      clear hx3 hiv hj h5 hE y1 y2 y3 hb1 hb2 hb3
      go_enter Tryz.func68, Tryz.ntmps68
      go_wp2_with fail
      generalize (w.alloc _).alloc _ = w0 at LL KA KB ⊢
      obtain ⟨y1, y2, y3, hb1, hb2, hb3⟩ := Y1.out w0 LL.out
      have c3 : w0.cell? ⟨w.heap.size, 3, none⟩ = some (.slice (some ⟨b2, o2, none⟩) nc cc) := KA.out.cell 3
      have d0 : w0.cell? ⟨w.heap.size + 1, 0, none⟩ = some (.slice (some ⟨b1, o1, none⟩) np dp) := KB.out.cell 0
      have l1 := KA.out.lt
      have l2 := KB.out.lt
      have e1 : ¬ (k : Int) < 0 := by omega
      have e3 : ¬ (nc : Int) ≤ (k : Int) := by omega
      have e4 : ¬ (np : Int) ≤ (k : Int) := by omega
      have e7 : (k : Int) < (nc : Int) := by omega
      have e8 : (k : Int) < (np : Int) := by omega
      have e9 : (0 : Int) ≤ (k : Int) := by omega
      have f1 : ¬ (j : Int) < 0 := by omega
      have f2 : (j : Int) < (nl : Int) := by omega
      have f3 : ¬ (nl : Int) ≤ (j : Int) := by omega
      have f5 : (0 : Int) ≤ (j : Int) := by omega
      go_quiet (fail)
      replace LL := Lib.hid (below_drewN' LL.out nq)
      replace KA := Lib.hid (KA.out.below (below_drewN' (Below.refl _ _) nq))
      replace KB := Lib.hid (KB.out.below (below_drewN' (Below.refl _ _) nq))
      clear y1 y2 y3 hb1 hb2 hb3 c3 d0 l1 l2
      generalize w0.drewN nq = w5 at LL KA KB ⊢
      obtain ⟨y1, y2, y3, hb1, hb2, hb3⟩ := Y1.out w5 LL.out
      have c3 : w5.cell? ⟨w.heap.size, 3, none⟩ = some (.slice (some ⟨b2, o2, none⟩) nc cc) := KA.out.cell 3
      have d0 : w5.cell? ⟨w.heap.size + 1, 0, none⟩ = some (.slice (some ⟨b1, o1, none⟩) np dp) := KB.out.cell 0
      have l1 := KA.out.lt
      have l2 := KB.out.lt
      go_wp2_with fail
      have e1 : ¬ (k : Int) < 0 := by omega
      have e3 : ¬ (nc : Int) ≤ (k : Int) := by omega
      have e4 : ¬ (np : Int) ≤ (k : Int) := by omega
      have e7 : (k : Int) < (nc : Int) := by omega
      have e8 : (k : Int) < (np : Int) := by omega
      have e9 : (0 : Int) ≤ (k : Int) := by omega
      have f1 : ¬ (j : Int) < 0 := by omega
      have f2 : (j : Int) < (nl : Int) := by omega
      have f3 : ¬ (nl : Int) ≤ (j : Int) := by omega
      have f5 : (0 : Int) ≤ (j : Int) := by omega
      go_quiet (fail)
      go_wp2
      go_ret
      exact ⟨ret_bool (by rw [← hE2.out]; rfl), below_drewN' LL.out _⟩
    · have HBF : Hid (q = false) := Lib.hid (by rw [← HQ.out, hE.out, if_neg h5])
      have h6 : p < 0 ∨ (nl : Int) ≤ p := by omega
      have Y1 := Lib.hid (fun (W : World) (hb : Below w.heap.size w W) => (⟨(hb.cell (p := ⟨b1, _, none⟩) hb1).trans y1, (hb.cell (p := ⟨b2, _, none⟩) hb2).trans y2, Nat.lt_of_lt_of_le hb1 hb.size, Nat.lt_of_lt_of_le hb2 hb.size⟩ : W.cell? ⟨b1, o1 + k, none⟩ = some (.int .i64 p) ∧ W.cell? ⟨b2, o2 + k, none⟩ = some (.slice x2 nl m2) ∧ b1 < W.heap.size ∧ b2 < W.heap.size))
      clear h5 hE y1 y2 hb1 hb2 HQ
      go_enter Tryz.func68, Tryz.ntmps68
      go_wp2_with fail
      generalize (w.alloc _).alloc _ = w0 at LL KA KB ⊢
      obtain ⟨y1, y2, hb1, hb2⟩ := Y1.out w0 LL.out
      have c3 : w0.cell? ⟨w.heap.size, 3, none⟩ = some (.slice (some ⟨b2, o2, none⟩) nc cc) := KA.out.cell 3
      have d0 : w0.cell? ⟨w.heap.size + 1, 0, none⟩ = some (.slice (some ⟨b1, o1, none⟩) np dp) := KB.out.cell 0
      have l1 := KA.out.lt
      have l2 := KB.out.lt
      have e1 : ¬ (k : Int) < 0 := by omega
      have e3 : ¬ (nc : Int) ≤ (k : Int) := by omega
      have e4 : ¬ (np : Int) ≤ (k : Int) := by omega
      have e7 : (k : Int) < (nc : Int) := by omega
      have e8 : (k : Int) < (np : Int) := by omega
      have e9 : (0 : Int) ≤ (k : Int) := by omega
      by_cases h7 : p < 0
      · clear h6
        go_quiet (fail)
        go_wp2
        go_ret
        exact ⟨ret_bool HBF.out.symm, below_drewN' LL.out _⟩
      · have h8 : (nl : Int) ≤ p := by omega
        have h9 : 0 ≤ p := by omega
        clear h6
        obtain ⟨j, rfl⟩ : ∃ j : Nat, p = (j : Int) := ⟨p.toNat, by omega⟩
        have h10 : nl ≤ j := by omega
        have h11 : ¬ (j : Int) < 0 := by omega
        clear h7
        go_quiet (fail)
        go_wp2
        go_ret
        exact ⟨ret_bool HBF.out.symm, below_drewN' LL.out _⟩
  · have HBF : Hid (q = false) := Lib.hid (by rw [← HQ.out]; unfold endedC; rw [if_neg (by rw [← HNC.out, ← HNP.out]; exact h1)])
    have h2 : t < 0 ∨ (nc : Int) ≤ t ∨ (np : Int) ≤ t := by omega
    clear h1 HQ
    go_enter Tryz.func68, Tryz.ntmps68
    go_wp2_with fail
    generalize (w.alloc _).alloc _ = w0 at LL KA KB ⊢
    have c3 : w0.cell? ⟨w.heap.size, 3, none⟩ = some (.slice xc nc cc) := KA.out.cell 3
    have d0 : w0.cell? ⟨w.heap.size + 1, 0, none⟩ = some (.slice yp np dp) := KB.out.cell 0
    have l1 := KA.out.lt
    have l2 := KB.out.lt
    by_cases g1 : t < 0
    · clear h2
      go_quiet (fail)
      go_wp2
      go_ret
      exact ⟨ret_bool HBF.out.symm, below_drewN' LL.out _⟩
    · by_cases g2 : (nc : Int) ≤ t
      · clear h2
        go_quiet (fail)
        go_wp2
        go_ret
        exact ⟨ret_bool HBF.out.symm, below_drewN' LL.out _⟩
      · have g3 : (np : Int) ≤ t := by omega
        clear h2
        go_quiet (fail)
        go_wp2
        go_ret
        exact ⟨ret_bool HBF.out.symm, below_drewN' LL.out _⟩
end Go.Proofs.YtacbanfnakgecaaGreat

namespace Go.Proofs.YtacbanfnakgecaaGreat
set_option linter.unusedSimpArgs false
set_option linter.unusedVariables false
open Go.RowKit
def finF (u : Un) (c : Cf) : Nat → Nat → Bool
  | 0, _ => true
  | f + 1, k => endedC u c k && finF u c f (k + 1)
def finalC (u : Un) (c : Cf) : Bool := finF u c u.code.length 0 && quietC c
theorem finF_at (u : Un) (c : Cf) (n k : Nat) (h : k < n) : finF u c (n - k) k = (endedC u c k && finF u c (n - (k + 1)) (k + 1)) := by
  obtain ⟨f, hf⟩ : ∃ f, n - k = f + 1 := ⟨n - k - 1, by omega⟩
  rw [hf, show n - (k + 1) = f by omega]; rfl
set_option maxRecDepth 100000 in
set_option maxHeartbeats 4000000 in
theorem final_any (u : Un) (c : Cf) (vi vr vc ap ar am ab : Value) (w : World) (hu : UnD w vi vr vc u) (hc : CfD w ap ar am ab c) (hn : u.code.length ≤ 100000) (hb : c.buf.length ≤ 100000) (q : Bool) (hq : finalC u c = q) :
    Calls Tryz.prog 48 #[.agg #[.int .i64 u.mod, vi, vr, vc], .agg #[ap, ar, am, ab]] w fun e w' => e = .returned (.bool q) ∧ Below w.heap.size w w' := by
  have HED := Lib.hid (fun (t : Int) (W : World) (h : Below w.heap.size w W) => ended_any u c t vi vr vc ap ar am ab W (hu.below h) (hc.below h) _ rfl)
  have HQU := Lib.hid (fun (W : World) (h : Below w.heap.size w W) => quiet_any c ap ar am ab W (hc.below h) hb _ rfl)
  have HQ0 : Hid ((finF u c (u.code.length - 0) 0 && quietC c) = q) := Lib.hid hq
  generalize quietC c = qz at HQU HQ0
  obtain ⟨xi, ci, rfl⟩ := hu.i.shape0
  obtain ⟨xr, cr, rfl⟩ := hu.r.shape0
  obtain ⟨xc, cc, rfl⟩ := hu.c.shape0
  obtain ⟨yp, dp, rfl⟩ := hc.p.shape0
  obtain ⟨yr, dr, rfl⟩ := hc.r.shape0
  obtain ⟨ym, dm, rfl⟩ := hc.m.shape0
  obtain ⟨yb, db, rfl⟩ := hc.b.shape0
  generalize u.mod = m at HED ⊢
  generalize u.code.length = nc at HED hn HQ0 ⊢
  generalize u.init.length = ni at HED ⊢
  generalize u.regs.length = nr at HED ⊢
  generalize c.pc.length = np at HED HQU ⊢
  generalize c.regs.length = mr at HED HQU ⊢
  generalize c.mem.length = mm at HED HQU ⊢
  generalize c.buf.length = mb at HED HQU hb ⊢
  have T2 := Lib.hid (two_new w 25 29 #[.int .i64 m, .slice xi ni ci, .slice xr nr cr, .slice xc nc cc] #[.slice yp np dp, .slice yr mr dr, .slice ym mm dm, .slice yb mb db])
  clear hu hc hq hb
  obtain ⟨L0, KA0, KB0⟩ := T2.out
  have LL := Lib.hid L0
  have KA := Lib.hid KA0
  have KB := Lib.hid KB0
  clear L0 KA0 KB0 T2
  go_enter Tryz.func48, Tryz.ntmps48
  go_wp2_with fail
  generalize (w.alloc _).alloc _ = w0 at LL KA KB ⊢
  go_loopg [5] nc (fun fuel i' wr => ∃ (k : Nat), i' = .int .i64 k ∧ k ≤ nc ∧ nc - k ≤ fuel ∧ (finF u c (nc - k) k && qz) = q ∧ Below w0.heap.size w0 wr)
  case atStart => exact ⟨0, rfl, Nat.zero_le _, Nat.le_refl _, HQ0.out, Below.refl _ _⟩
  case round =>
    obtain ⟨k, rfl, hk, hf, ha, hb⟩ := hrel
    have HA := Lib.hid ha
    have HB := Lib.hid hb
    have KAR := Lib.hid (KA.out.below hb)
    have KBR := Lib.hid (KB.out.below hb)
    have LR := Lib.hid (LL.out.trans (hb.mono LL.out.size))
    clear ha hb
    have c0 : wr.cell? ⟨w.heap.size, 0, none⟩ = some (.int .i64 m) := KAR.out.cell 0
    have c1 : wr.cell? ⟨w.heap.size, 1, none⟩ = some (.slice xi ni ci) := KAR.out.cell 1
    have c2 : wr.cell? ⟨w.heap.size, 2, none⟩ = some (.slice xr nr cr) := KAR.out.cell 2
    have c3 : wr.cell? ⟨w.heap.size, 3, none⟩ = some (.slice xc nc cc) := KAR.out.cell 3
    have d0 : wr.cell? ⟨w.heap.size + 1, 0, none⟩ = some (.slice yp np dp) := KBR.out.cell 0
    have d1 : wr.cell? ⟨w.heap.size + 1, 1, none⟩ = some (.slice yr mr dr) := KBR.out.cell 1
    have d2 : wr.cell? ⟨w.heap.size + 1, 2, none⟩ = some (.slice ym mm dm) := KBR.out.cell 2
    have d3 : wr.cell? ⟨w.heap.size + 1, 3, none⟩ = some (.slice yb mb db) := KBR.out.cell 3
    have l1 := KAR.out.lt
    have l2 := KBR.out.lt
    by_cases hlt : k < nc
    · have HE := Lib.hid (finF_at u c nc k hlt)
      have HEK := Lib.hid (HED.out (k : Int))
      generalize endedC u c (k : Int) = qe at HE HEK
      cases qe with
      | false =>
        go_wp2_with fail
        refine (HEK.out _ LR.out).mono ?_
        rintro e w5 ⟨rfl, b5⟩
        go_wp2
        go_ret
        exact ⟨ret_bool (by rw [← HA.out, HE.out]; rfl), LR.out.trans (b5.mono LR.out.size)⟩
      | true =>
        go_wp2_with fail
        refine (HEK.out _ LR.out).mono ?_
        rintro e w5 ⟨rfl, b5⟩
        go_wp2
        go_roundg (gk - 1)
        case measure => omega
        case rel => exact ⟨k + 1, by go_num, by omega, by omega, by have h2 := HA.out; rw [HE.out] at h2; simpa using h2, HB.out.trans (b5.mono HB.out.size)⟩
    · have hkn : k = nc := by omega
      have HZ : Hid (qz = q) := Lib.hid (by have h2 := HA.out; rw [hkn, Nat.sub_self] at h2; exact h2)
      clear hkn
      go_wp2_with fail
      refine (HQU.out _ LR.out).mono ?_
      rintro e w5 ⟨rfl, b5⟩
      go_wp2
      go_ret
      exact ⟨ret_bool HZ.out, LR.out.trans (b5.mono LR.out.size)⟩
end Go.Proofs.YtacbanfnakgecaaGreat

namespace Go.Proofs.YtacbanfnakgecaaGreat
set_option linter.unusedSimpArgs false
set_option linter.unusedVariables false
open Go.RowKit
def fstL (p : Ent → Bool) : List Ent → Nat → Int
  | [], _ => -1
  | e :: r, k => if p e = true then (k : Int) else fstL p r (k + 1)
theorem fstL_at (p : Ent → Bool) (l : List Ent) (k : Nat) (h : k < l.length) : fstL p (l.drop k) k = if p l[k] = true then (k : Int) else fstL p (l.drop (k + 1)) (k + 1) := by
  rw [List.drop_eq_getElem_cons h]; rfl
theorem fstL_over (p : Ent → Bool) (l : List Ent) (k : Nat) (h : ¬ k < l.length) : fstL p (l.drop k) k = -1 := by
  rw [drop_over l k h]; rfl
theorem fstL_range (p : Ent → Bool) (l : List Ent) : ∀ k, fstL p l k = -1 ∨ ((k : Int) ≤ fstL p l k ∧ fstL p l k < k + l.length) := by
  induction l with
  | nil => intro k; exact .inl rfl
  | cons a r ih =>
    intro k
    unfold fstL
    split
    · right; simp; omega
    · rcases ih (k + 1) with h | h
      · exact .inl h
      · right; simp; omega
def oddL (mod locs : Int) (e : Ent) : Bool := !inB e.1 locs || !inB e.2 mod
theorem bk_one (w : World) (x : Value) (t : Nat) : (w.alloc (.cells #[x] t)).cell? ⟨w.heap.size, 0, none⟩ = some x := (Bk.new w t #[x]).cell 0
def badAt (l : List Ent) (r k : Nat) : Bool := decide ((0 < k ∧ (l.getD k (0, 0)).1 < (l.getD (k - 1) (0, 0)).1) ∨ (r ≤ k ∧ (l.getD k (0, 0)).1 = (l.getD (k - r) (0, 0)).1))
def ordF (l : List Ent) (r : Nat) : Nat → Nat → Bool
  | 0, _ => true
  | f + 1, k => if badAt l r k = true then false else ordF l r f (k + 1)
def ordL (l : List Ent) (r : Nat) : Bool := ordF l r l.length 0
theorem EntsD.at {w : World} {v : Value} {xs : List Ent} (h : EntsD w v xs) (k : Nat) (hk : k < xs.length) : ∃ b off cap, v = .slice (some ⟨b, off, none⟩) xs.length cap ∧ b < w.heap.size ∧ w.cell? ⟨b, off + k * 2, none⟩ = some (.int .i64 (xs.getD k (0, 0)).1) := by
  obtain ⟨ad, cap, hv, _, _, hc⟩ := h
  obtain ⟨b, off, rfl, hl, h3, _⟩ := hc _ hk
  exact ⟨b, off, cap, hv, hl, by rw [getD_at _ _ hk]; exact h3⟩
def rqL (l : List Ent) (model : Int) (r : Nat) : Bool := if model = 1 then decide (l.length = 0) else if model = 2 then decide (l.length ≤ r) else if model = 3 then ordL l r else false
def rightL (l : List Ent) (model room mod locs : Int) : Bool :=
  if room < 1 ∨ 4 < room ∨ mod < 2 ∨ 16 < mod then false else rqL l model room.toNat && (l.all fun e => !oddL mod locs e)
end Go.Proofs.YtacbanfnakgecaaGreat

namespace Go.Proofs.YtacbanfnakgecaaGreat
set_option linter.unusedSimpArgs false
set_option linter.unusedVariables false
open Go.RowKit
def cntL : List Ent → Int → Nat
  | [], _ => 0
  | e :: r, k => (if e.1 = k then 1 else 0) + cntL r k
theorem cntL_at (l : List Ent) (k : Int) (i : Nat) (h : i < l.length) : cntL (l.drop i) k = (if l[i].1 = k then 1 else 0) + cntL (l.drop (i + 1)) k := by
  rw [List.drop_eq_getElem_cons h]; rfl
theorem cntL_app (a b : List Ent) (k : Int) : cntL (a ++ b) k = cntL a k + cntL b k := by
  induction a with
  | nil => simp [cntL]
  | cons x r ih => simp only [List.cons_append, cntL, ih]; omega
theorem cntL_none (a : List Ent) (k : Int) (h : ∀ x ∈ a, x.1 ≠ k) : cntL a k = 0 := by
  induction a with
  | nil => rfl
  | cons x r ih => simp only [cntL]; rw [if_neg (h x (List.mem_cons_self ..)), ih (fun y hy => h y (List.mem_cons_of_mem _ hy))]
theorem cntL_all (a : List Ent) (k : Int) (h : ∀ x ∈ a, x.1 = k) : cntL a k = a.length := by
  induction a with
  | nil => rfl
  | cons x r ih => simp only [cntL, List.length_cons]; rw [if_pos (h x (List.mem_cons_self ..)), ih (fun y hy => h y (List.mem_cons_of_mem _ hy))]; omega
abbrev SrtE (l : List Ent) : Prop := l.Pairwise fun a b => a.1 ≤ b.1
theorem srt_parts (l : List Ent) (k : Int) (h : SrtE l) : ∃ a b c, l = a ++ (b ++ c) ∧ (∀ x ∈ a, x.1 < k) ∧ (∀ x ∈ b, x.1 = k) ∧ (∀ x ∈ c, k < x.1) := by
  induction l with
  | nil => exact ⟨[], [], [], rfl, fun _ h => (by cases h), fun _ h => (by cases h), fun _ h => (by cases h)⟩
  | cons e r ih =>
    obtain ⟨h1, h2⟩ := List.pairwise_cons.1 h
    obtain ⟨a, b, c, rfl, ha, hb, hc⟩ := ih h2
    by_cases g1 : e.1 < k
    · exact ⟨e :: a, b, c, rfl, fun x hx => by rcases List.mem_cons.1 hx with rfl | hx; exact g1; exact ha x hx, hb, hc⟩
    · have ha0 : a = [] := by
        cases a with
        | nil => rfl
        | cons x s => exact absurd (ha x (List.mem_cons_self ..)) (by have := h1 x (by simp); omega)
      subst ha0
      by_cases g2 : e.1 = k
      · exact ⟨[], e :: b, c, rfl, fun _ h => (by cases h), fun x hx => by rcases List.mem_cons.1 hx with rfl | hx; exact g2; exact hb x hx, hc⟩
      · have hb0 : b = [] := by
          cases b with
          | nil => rfl
          | cons x s => exact absurd (hb x (List.mem_cons_self ..)) (by have := h1 x (by simp); omega)
        subst hb0
        exact ⟨[], [], e :: c, rfl, fun _ h => (by cases h), fun _ h => (by cases h), fun x hx => by rcases List.mem_cons.1 hx with rfl | hx; omega; exact hc x hx⟩
theorem cnt_parts (l a b c : List Ent) (k : Int) (hl : l = a ++ (b ++ c)) (ha : ∀ x ∈ a, x.1 < k) (hb : ∀ x ∈ b, x.1 = k) (hc : ∀ x ∈ c, k < x.1) : cntL l k = b.length := by
  rw [hl, cntL_app, cntL_app, cntL_none a _ (fun x hx => by have := ha x hx; omega), cntL_all b _ hb, cntL_none c _ (fun x hx => by have := hc x hx; omega)]
  omega
theorem srt_count (l : List Ent) (r : Nat) (h : SrtE l) (h1 : 1 ≤ r) : (∀ i, (hi : i < l.length) → cntL l l[i].1 ≤ r) ↔ ∀ i, (hi : i < l.length) → (hr : r ≤ i) → l[i].1 ≠ (l[i - r]'(by omega)).1 := by
  constructor
  · intro hc i hi hr he
    obtain ⟨a, b, c, hl, ha, hb, hcc⟩ := srt_parts l l[i].1 h
    have h2 := hc i hi
    have hcnt : cntL l l[i].1 = b.length := cnt_parts l a b c _ hl ha hb hcc
    have g1 : a.length ≤ i - r := by
      rcases Nat.lt_or_ge (i - r) a.length with g | g
      · have : l[i - r]? = some a[i - r] := by rw [hl, List.getElem?_append_left g, List.getElem?_eq_getElem g]
        rw [List.getElem?_eq_getElem (by omega)] at this
        have e2 := ha _ (List.getElem_mem g)
        rw [← Option.some.inj this] at e2
        omega
      · exact g
    have g2 : i < a.length + b.length := by
      rcases Nat.lt_or_ge i (a.length + b.length) with g | g
      · exact g
      · exfalso
        have hic : i - a.length - b.length < c.length := by
          have : l.length = a.length + (b.length + c.length) := by rw [hl]; simp
          omega
        have : l[i]? = some c[i - a.length - b.length] := by
          rw [hl, List.getElem?_append_right (by omega), List.getElem?_append_right (by omega), List.getElem?_eq_getElem hic]
        rw [List.getElem?_eq_getElem hi] at this
        have e2 := hcc _ (List.getElem_mem hic)
        rw [← Option.some.inj this] at e2
        omega
    omega
  · intro hn i hi
    obtain ⟨a, b, c, hl, ha, hb, hcc⟩ := srt_parts l l[i].1 h
    have hcnt : cntL l l[i].1 = b.length := cnt_parts l a b c _ hl ha hb hcc
    rw [hcnt]
    rcases Nat.lt_or_ge r b.length with g | g
    · exfalso
      have hlen : l.length = a.length + (b.length + c.length) := by rw [hl]; simp
      have hgb : ∀ j, (hj : j < b.length) → l[a.length + j]? = some b[j] := by
        intro j hj
        rw [hl, List.getElem?_append_right (by omega), List.getElem?_append_left (by omega), Nat.add_sub_cancel_left, List.getElem?_eq_getElem hj]
      have e1 := hgb r g
      have e2 := hgb 0 (by omega)
      rw [List.getElem?_eq_getElem (by omega)] at e1 e2
      refine hn (a.length + r) (by omega) (by omega) ?_
      have e3 := Option.some.inj e1
      have e4 := Option.some.inj e2
      have e5 : l[a.length + r - r]'(by omega) = b[0] := by
        rw [← e4]; congr 1; omega
      rw [e3, e5, hb _ (List.getElem_mem g), hb _ (List.getElem_mem (by omega))]
    · exact g
end Go.Proofs.YtacbanfnakgecaaGreat
