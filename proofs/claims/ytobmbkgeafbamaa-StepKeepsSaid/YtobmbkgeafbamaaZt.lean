/- StepKeeps: its walk. -/
import Derived.Test.YtobmbkgeafbamaaZr
import Derived.Test.YtobmbkgeafbamaaZb
import Derived.Test.YtobmbkgeafbamaaUo
import Derived.Test.YtobmbkgeafbamaaUm
namespace Go.Proofs.Ytobmbkgeafbamaa
set_option linter.unusedSimpArgs false
set_option linter.unusedVariables false
open Go.RowKit

attribute [local go_sem ↓] Go.wp_at_zero Go.wp_at_succ
set_option maxRecDepth 100000 in
set_option maxHeartbeats 16000000 in
theorem keeps_in (u : Un) (c : Cf) (model room t loc : Int) (vi vr vc xp xr xm xb : Value) (w : World) (hu : UnD w vi vr vc u) (hc : CfD w xp xr xm xb c) :
    Calls Try.prog 3 #[.agg #[.int .i64 u.mod, vi, vr, vc, xp, xr, xm, xb, .int .i64 model, .int .i64 room, .int .i64 t, .int .i64 loc]] w fun e w' => e = .returned (.bool true) ∧ Below w.heap.size w w' := by
  have HKN := Lib.hid known_any
  have HU := Lib.hid hu
  have HC := Lib.hid hc
  obtain ⟨ai, ci, rfl⟩ := hu.i.shape0
  obtain ⟨ar, cr, rfl⟩ := hu.r.shape0
  obtain ⟨ac, cc, rfl⟩ := hu.c.shape0
  obtain ⟨ap, cp, rfl⟩ := hc.p.shape0
  obtain ⟨aq, cq, rfl⟩ := hc.r.shape0
  obtain ⟨am, cm, rfl⟩ := hc.m.shape0
  obtain ⟨ab, cb, rfl⟩ := hc.b.shape0
  clear hu hc
  have HRT := Lib.hid (fun (W : World) (h : Below w.heap.size w W) => right10_any u c model room t loc _ _ _ _ _ _ _ W (HU.out.below h) (HC.out.below h) _ rfl)
  have HAC := Lib.hid (fun (hr : (lightU u && (lightC c && rightC u c model room)) = true) (k : Int) (W : World) (h : Below w.heap.size w W) => act_is u c model room k _ _ _ _ _ _ _ W (HU.out.below h) (HC.out.below h) (usL (case_rightK hr).1) (case_rightK hr).2.2)
  have HEN := Lib.hid (fun (hr : (lightU u && (lightC c && rightC u c model room)) = true) (k : Int) (W : World) (h : Below w.heap.size w W) => enabled_any u c model room k _ _ _ _ _ _ _ W (HU.out.below h) (HC.out.below h) (short_right (case_rightK hr).2.2) (usL (case_rightK hr).1) (case_rightK hr).2.2 _ rfl)
  have HRC := Lib.hid (fun (hr : (lightU u && (lightC c && rightC u c model room)) = true) (d : Cf) (yp yr ym yb : Value) (W : World) (h : Below w.heap.size w W) (hd : CfD W yp yr ym yb d) (hR : RightP u d.pf model room) => rcright_any u d model room _ _ _ yp yr ym yb W (HU.out.below h) hd (lightU_short (case_rightK hr).1) (short_right hR) true ((rightC_iff u d model room).2 hR))
  have HSM := Lib.hid (fun (hr : (lightU u && (lightC c && rightC u c model room)) = true) (d : Cf) (yp yr ym yb : Value) (W : World) (h : Below w.heap.size w W) (hd : CfD W yp yr ym yb d) (hR : RightP u d.pf model room) (he : d.pf = c.pf) => csame_any d c yp yr ym yb _ _ _ _ W hd (HC.out.below h) (short_right hR) true (by rw [sameC_pf]; exact decide_eq_true he))
  have HFL := Lib.hid (fun (hr : (lightU u && (lightC c && rightC u c model room)) = true) (k : Int) (W : World) (h : Below w.heap.size w W) => flush_is u c model room k loc _ _ _ _ W (HC.out.below h) (case_rightK hr).2.2)
  have HFE := Lib.hid (fun (hr : (lightU u && (lightC c && rightC u c model room)) = true) (k : Int) (W : World) (h : Below w.heap.size w W) => flushes_is u c model room k loc _ _ _ _ W (HC.out.below h) (case_rightK hr).2.2 _ rfl)
  have HRP := Lib.hid (fun (hr : (lightU u && (lightC c && rightC u c model room)) = true) => (case_rightK hr).2.2)
  have HLN := Lib.hid (fun (hr : (lightU u && (lightC c && rightC u c model room)) = true) => right_lens (case_rightK hr).2.2)
  have HAT := Lib.hid (fun (hr : (lightU u && (lightC c && rightC u c model room)) = true) (k : Nat) (hk : k < u.regs.length) => conf_at HC.out k (by rw [(right_lens (case_rightK hr).2.2).1]; exact hk) (by rw [(right_lens (case_rightK hr).2.2).2.1]; exact hk) (by rw [(right_lens (case_rightK hr).2.2).2.2.1]; exact hk))
  have HSL := Lib.hid (fun (hr : (lightU u && (lightC c && rightC u c model room)) = true) (k : Nat) => short_row (lightC_short (case_rightK hr).2.1) k)
  have HPC := Lib.hid (fun (hr : (lightU u && (lightC c && rightC u c model room)) = true) (W : World) (h : Below w.heap.size w W) => IntsD.below HC.out.p h)
  have HQ4 := Lib.hid (fun (hr : (lightU u && (lightC c && rightC u c model room)) = true) => (show u.regs.length ≤ 4 from (rightU_lc (case_rightK hr).2.2.ru).2.2.2.2.1))
  clear HU HC
  have HFP := Lib.hid (fun (hr : (lightU u && (lightC c && rightC u c model room)) = true) (k : Int) => (show RightP u (flushT c.pf model k loc) model room from flush_right (case_rightK hr).2.2))
  generalize hni : u.init.length = ni at HRT HAC HEN HRC HSM HFL HFE HAT HPC HLN ⊢
  generalize hnr : u.regs.length = nr at HRT HAC HEN HRC HSM HFL HFE HAT HPC HLN HQ4 ⊢
  generalize hnc : u.code.length = nc at HRT HAC HEN HRC HSM HFL HFE HAT HPC ⊢
  generalize hnp : c.pc.length = np at HRT HAC HEN HRC HSM HFL HFE HAT HPC HLN ⊢
  generalize hnq : c.regs.length = nq at HRT HAC HEN HRC HSM HFL HFE HAT HPC HLN ⊢
  generalize hnm : c.mem.length = nm at HRT HAC HEN HRC HSM HFL HFE HAT HPC HLN ⊢
  generalize hnb : c.buf.length = nb at HRT HAC HEN HRC HSM HFL HFE HAT HPC HLN ⊢
  generalize hmd : u.mod = md at HRT HAC HEN HRC HSM HFL HFE HAT HPC ⊢
  replace hni := Lib.hid hni
  replace hnr := Lib.hid hnr
  replace hnc := Lib.hid hnc
  replace hnp := Lib.hid hnp
  replace hnq := Lib.hid hnq
  replace hnm := Lib.hid hnm
  replace hnb := Lib.hid hnb
  replace hmd := Lib.hid hmd
  obtain ⟨r, hr⟩ : ∃ q, (lightU u && (lightC c && rightC u c model room)) = q := ⟨_, rfl⟩
  rw [hr] at HRT HRP HLN HQ4 HSL HFP HAC HEN HRC HSM HFL HFE HAT HPC
  clear hr
  have Kc := Lib.hid (Bk.new w 31 #[.int .i64 md, .slice ai ni ci, .slice ar nr cr, .slice ac nc cc, .slice ap np cp, .slice aq nq cq, .slice am nm cm, .slice ab nb cb, .int .i64 model, .int .i64 room, .int .i64 t, .int .i64 loc])
  have B : Hid (Below w.heap.size w (World.alloc w (.cells #[.int .i64 md, .slice ai ni ci, .slice ar nr cr, .slice ac nc cc, .slice ap np cp, .slice aq nq cq, .slice am nm cm, .slice ab nb cb, .int .i64 model, .int .i64 room, .int .i64 t, .int .i64 loc] 31))) := Lib.hid (bal (Below.refl _ _) _)
  go_enter Try.func3, Try.ntmps3
  go_wp2_with fail
  generalize World.alloc w (.cells #[.int .i64 md, .slice ai ni ci, .slice ar nr cr, .slice ac nc cc, .slice ap np cp, .slice aq nq cq, .slice am nm cm, .slice ab nb cb, .int .i64 model, .int .i64 room, .int .i64 t, .int .i64 loc] 31) = w1 at Kc B ⊢
  refine (HRT.out w1 B.out).mono ?_
  rintro e w2 ⟨rfl, b⟩
  replace Kc := Lib.hid (Kc.out.below b)
  replace B := Lib.hid (B.out.trans (b.mono B.out.size))
  clear b HRT
  cases r with
  | false =>
    go_wp2_with fail
    refine (HKN.out w2).mono ?_
    rintro e w3 ⟨rfl, b⟩
    replace Kc := Lib.hid (Kc.out.below b)
    replace B := Lib.hid (B.out.trans (b.mono B.out.size))
    clear b
    go_wp2
    go_ret
    exact ⟨ret_bool rfl, B.out⟩
  | true =>
    replace HAC := Lib.hid (HAC.out rfl)
    replace HEN := Lib.hid (HEN.out rfl)
    replace HRC := Lib.hid (HRC.out rfl)
    replace HSM := Lib.hid (HSM.out rfl)
    replace HFL := Lib.hid (HFL.out rfl)
    replace HFE := Lib.hid (HFE.out rfl)
    replace HAT := Lib.hid (HAT.out rfl)
    replace HPC := Lib.hid (HPC.out rfl)
    replace HRP := Lib.hid (HRP.out rfl)
    replace HLN := Lib.hid (HLN.out rfl)
    replace HQ4 := Lib.hid (HQ4.out rfl)
    replace HSL := Lib.hid (HSL.out rfl)
    replace HFP := Lib.hid (HFP.out rfl)
    obtain ⟨e1, e2, e3, e4⟩ := HLN.out
    subst e1 e2 e3 e4
    have hn4 := HQ4.out
    obtain ⟨cc0, cc1, cc2, cc3, cc4, cc5, cc6, cc7, cc8, cc9, cc10, cc11, ccl⟩ : w2.cell? ⟨w.heap.size, 0, none⟩ = some (.int .i64 md) ∧ w2.cell? ⟨w.heap.size, 1, none⟩ = some (.slice ai nm ci) ∧ w2.cell? ⟨w.heap.size, 2, none⟩ = some (.slice ar nb cr) ∧ w2.cell? ⟨w.heap.size, 3, none⟩ = some (.slice ac nc cc) ∧ w2.cell? ⟨w.heap.size, 4, none⟩ = some (.slice ap nb cp) ∧ w2.cell? ⟨w.heap.size, 5, none⟩ = some (.slice aq nb cq) ∧ w2.cell? ⟨w.heap.size, 6, none⟩ = some (.slice am nm cm) ∧ w2.cell? ⟨w.heap.size, 7, none⟩ = some (.slice ab nb cb) ∧ w2.cell? ⟨w.heap.size, 8, none⟩ = some (.int .i64 model) ∧ w2.cell? ⟨w.heap.size, 9, none⟩ = some (.int .i64 room) ∧ w2.cell? ⟨w.heap.size, 10, none⟩ = some (.int .i64 t) ∧ w2.cell? ⟨w.heap.size, 11, none⟩ = some (.int .i64 loc) ∧ w.heap.size < w2.heap.size := ⟨Kc.out.cell 0, Kc.out.cell 1, Kc.out.cell 2, Kc.out.cell 3, Kc.out.cell 4, Kc.out.cell 5, Kc.out.cell 6, Kc.out.cell 7, Kc.out.cell 8, Kc.out.cell 9, Kc.out.cell 10, Kc.out.cell 11, Kc.out.lt⟩
    go_wp2_with fail
    clear cc0 cc1 cc2 cc3 cc4 cc5 cc6 cc7 cc8 cc9 cc10 cc11 ccl
    go_loopg [3] nb (fun fuel i' wr => ∃ (k : Nat), i' = .int .i64 k ∧ k ≤ nb ∧ nb - k ≤ fuel ∧ Below w2.heap.size w2 wr)
    case atStart => exact ⟨0, rfl, Nat.zero_le _, Nat.le_refl _, Below.refl _ _⟩
    case round =>
      obtain ⟨j, rfl, hj, hf, hb⟩ := hrel
      obtain ⟨ga, rfl⟩ : ∃ a, a = gk := ⟨_, rfl⟩
      have HB := Lib.hid hb
      have Kr := Lib.hid (Kc.out.below hb)
      have Br := Lib.hid (B.out.trans (hb.mono B.out.size))
      clear hb
      by_cases hlt : j < nb
      ·
        obtain ⟨q, hq⟩ : ∃ q, enT u c.pf model room (j : Int) = q := ⟨_, rfl⟩
        have HA := Lib.hid (HAC.out (j : Int) wr Br.out)
        have HX := Lib.hid (HEN.out (j : Int))
        rw [hq] at HA HX
        have HNO : Hid (q = false → actT u c.pf model room (j : Int) = c.pf) := Lib.hid (fun h => act_none (hq.trans h))
        have HPR : Hid (RightP u (actT u c.pf model room (j : Int)) model room) := Lib.hid (act_right HRP.out)
        have HEL := Lib.hid (fun (k : Nat) (h : (j : Int) ≠ (k : Int)) => act_else (u := u) (p := c.pf) (model := model) (room := room) h)
        clear hq
        obtain ⟨rc0, rc1, rc2, rc3, rc4, rc5, rc6, rc7, rc8, rc9, rc10, rc11, rcl⟩ : wr.cell? ⟨w.heap.size, 0, none⟩ = some (.int .i64 md) ∧ wr.cell? ⟨w.heap.size, 1, none⟩ = some (.slice ai nm ci) ∧ wr.cell? ⟨w.heap.size, 2, none⟩ = some (.slice ar nb cr) ∧ wr.cell? ⟨w.heap.size, 3, none⟩ = some (.slice ac nc cc) ∧ wr.cell? ⟨w.heap.size, 4, none⟩ = some (.slice ap nb cp) ∧ wr.cell? ⟨w.heap.size, 5, none⟩ = some (.slice aq nb cq) ∧ wr.cell? ⟨w.heap.size, 6, none⟩ = some (.slice am nm cm) ∧ wr.cell? ⟨w.heap.size, 7, none⟩ = some (.slice ab nb cb) ∧ wr.cell? ⟨w.heap.size, 8, none⟩ = some (.int .i64 model) ∧ wr.cell? ⟨w.heap.size, 9, none⟩ = some (.int .i64 room) ∧ wr.cell? ⟨w.heap.size, 10, none⟩ = some (.int .i64 t) ∧ wr.cell? ⟨w.heap.size, 11, none⟩ = some (.int .i64 loc) ∧ w.heap.size < wr.heap.size := ⟨Kr.out.cell 0, Kr.out.cell 1, Kr.out.cell 2, Kr.out.cell 3, Kr.out.cell 4, Kr.out.cell 5, Kr.out.cell 6, Kr.out.cell 7, Kr.out.cell 8, Kr.out.cell 9, Kr.out.cell 10, Kr.out.cell 11, Kr.out.lt⟩
        go_wp2_with fail
        clear rc0 rc1 rc2 rc3 rc4 rc5 rc6 rc7 rc8 rc9 rc10 rc11 rcl
        refine HA.out.mono ?_
        rintro e w3 ⟨dv, xp, xr, xm, xb, rfl, oc, pd, b⟩
        clear HA
        replace Kr := Lib.hid (Kr.out.below b)
        replace Br := Lib.hid (Br.out.trans (b.mono Br.out.size))
        replace HB := Lib.hid (HB.out.trans (b.mono HB.out.size))
        clear b
        rw [← pd] at HNO HPR HEL
        clear pd
        obtain ⟨l1, l2, l3, l4⟩ := right_lens HPR.out
        rw [hnr.out] at l1 l2 l3
        rw [hni.out] at l4
        obtain ⟨da0, dk0, rfl, _⟩ := own_shape' oc.p
        obtain ⟨da1, dk1, rfl, _⟩ := own_shape' oc.r.h
        obtain ⟨da2, dk2, rfl, _⟩ := own_shape' oc.m
        obtain ⟨da3, dk3, rfl, _⟩ := own_shape' oc.b.h
        have Dd := Lib.hid oc.data
        clear oc
        have Kd := Lib.hid (Bk.new w3 29 #[.slice da0 dv.pc.length dk0, .slice da1 dv.regs.length dk1, .slice da2 dv.mem.length dk2, .slice da3 dv.buf.length dk3])
        have BW : Hid (Below w3.heap.size w3 (World.alloc w3 (.cells #[.slice da0 dv.pc.length dk0, .slice da1 dv.regs.length dk1, .slice da2 dv.mem.length dk2, .slice da3 dv.buf.length dk3] 29))) := Lib.hid (bal (Below.refl _ _) _)
        obtain ⟨w4, hw4⟩ : ∃ z, World.alloc w3 (.cells #[.slice da0 dv.pc.length dk0, .slice da1 dv.regs.length dk1, .slice da2 dv.mem.length dk2, .slice da3 dv.buf.length dk3] 29) = z := ⟨_, rfl⟩
        rw [hw4] at Kd BW
        replace Dd := Lib.hid (Dd.out.below BW.out)
        replace Kr := Lib.hid (Kr.out.below BW.out)
        replace Br := Lib.hid (Br.out.trans (BW.out.mono Br.out.size))
        replace HB := Lib.hid (HB.out.trans (BW.out.mono HB.out.size))
        clear BW
        have HDT := Lib.hid (fun (k : Nat) (hk : k < nb) => conf_at Dd.out k (by rw [l1]; exact hk) (by rw [l2]; exact hk) (by rw [l3]; exact hk))
        have L1 := Lib.hid l1
        have L2 := Lib.hid l2
        have L3 := Lib.hid l3
        have L4 := Lib.hid l4
        clear l1 l2 l3 l4
        have B4 : Hid (Below w4.heap.size w4 w4) := Lib.hid (Below.refl _ _)
        obtain ⟨rc0, rc1, rc2, rc3, rc4, rc5, rc6, rc7, rc8, rc9, rc10, rc11, rcl, dc0, dc1, dc2, dc3, dcl⟩ : w4.cell? ⟨w.heap.size, 0, none⟩ = some (.int .i64 md) ∧ w4.cell? ⟨w.heap.size, 1, none⟩ = some (.slice ai nm ci) ∧ w4.cell? ⟨w.heap.size, 2, none⟩ = some (.slice ar nb cr) ∧ w4.cell? ⟨w.heap.size, 3, none⟩ = some (.slice ac nc cc) ∧ w4.cell? ⟨w.heap.size, 4, none⟩ = some (.slice ap nb cp) ∧ w4.cell? ⟨w.heap.size, 5, none⟩ = some (.slice aq nb cq) ∧ w4.cell? ⟨w.heap.size, 6, none⟩ = some (.slice am nm cm) ∧ w4.cell? ⟨w.heap.size, 7, none⟩ = some (.slice ab nb cb) ∧ w4.cell? ⟨w.heap.size, 8, none⟩ = some (.int .i64 model) ∧ w4.cell? ⟨w.heap.size, 9, none⟩ = some (.int .i64 room) ∧ w4.cell? ⟨w.heap.size, 10, none⟩ = some (.int .i64 t) ∧ w4.cell? ⟨w.heap.size, 11, none⟩ = some (.int .i64 loc) ∧ w.heap.size < w4.heap.size ∧ w4.cell? ⟨w3.heap.size, 0, none⟩ = some (.slice da0 dv.pc.length dk0) ∧ w4.cell? ⟨w3.heap.size, 1, none⟩ = some (.slice da1 dv.regs.length dk1) ∧ w4.cell? ⟨w3.heap.size, 2, none⟩ = some (.slice da2 dv.mem.length dk2) ∧ w4.cell? ⟨w3.heap.size, 3, none⟩ = some (.slice da3 dv.buf.length dk3) ∧ w3.heap.size < w4.heap.size := ⟨Kr.out.cell 0, Kr.out.cell 1, Kr.out.cell 2, Kr.out.cell 3, Kr.out.cell 4, Kr.out.cell 5, Kr.out.cell 6, Kr.out.cell 7, Kr.out.cell 8, Kr.out.cell 9, Kr.out.cell 10, Kr.out.cell 11, Kr.out.lt, Kd.out.cell 0, Kd.out.cell 1, Kd.out.cell 2, Kd.out.cell 3, Kd.out.lt⟩
        go_wp2_with fail
        clear rc0 rc1 rc2 rc3 rc4 rc5 rc6 rc7 rc8 rc9 rc10 rc11 rcl dc0 dc1 dc2 dc3 dcl
        refine (HX.out w4 Br.out).mono ?_
        rintro e w5 ⟨rfl, b⟩
        replace Kr := Lib.hid (Kr.out.below b)
        replace Kd := Lib.hid (Kd.out.below b)
        replace Dd := Lib.hid (Dd.out.below b)
        replace Br := Lib.hid (Br.out.trans (b.mono Br.out.size))
        replace HB := Lib.hid (HB.out.trans (b.mono HB.out.size))
        replace B4 := Lib.hid (B4.out.trans (b.mono B4.out.size))
        clear b
        cases q with
        | false =>
          have HRI := Lib.hid (HRC.out dv _ _ _ _ w5 Br.out Dd.out HPR.out)
          obtain ⟨rc0, rc1, rc2, rc3, rc4, rc5, rc6, rc7, rc8, rc9, rc10, rc11, rcl, dc0, dc1, dc2, dc3, dcl⟩ : w5.cell? ⟨w.heap.size, 0, none⟩ = some (.int .i64 md) ∧ w5.cell? ⟨w.heap.size, 1, none⟩ = some (.slice ai nm ci) ∧ w5.cell? ⟨w.heap.size, 2, none⟩ = some (.slice ar nb cr) ∧ w5.cell? ⟨w.heap.size, 3, none⟩ = some (.slice ac nc cc) ∧ w5.cell? ⟨w.heap.size, 4, none⟩ = some (.slice ap nb cp) ∧ w5.cell? ⟨w.heap.size, 5, none⟩ = some (.slice aq nb cq) ∧ w5.cell? ⟨w.heap.size, 6, none⟩ = some (.slice am nm cm) ∧ w5.cell? ⟨w.heap.size, 7, none⟩ = some (.slice ab nb cb) ∧ w5.cell? ⟨w.heap.size, 8, none⟩ = some (.int .i64 model) ∧ w5.cell? ⟨w.heap.size, 9, none⟩ = some (.int .i64 room) ∧ w5.cell? ⟨w.heap.size, 10, none⟩ = some (.int .i64 t) ∧ w5.cell? ⟨w.heap.size, 11, none⟩ = some (.int .i64 loc) ∧ w.heap.size < w5.heap.size ∧ w5.cell? ⟨w3.heap.size, 0, none⟩ = some (.slice da0 dv.pc.length dk0) ∧ w5.cell? ⟨w3.heap.size, 1, none⟩ = some (.slice da1 dv.regs.length dk1) ∧ w5.cell? ⟨w3.heap.size, 2, none⟩ = some (.slice da2 dv.mem.length dk2) ∧ w5.cell? ⟨w3.heap.size, 3, none⟩ = some (.slice da3 dv.buf.length dk3) ∧ w3.heap.size < w5.heap.size := ⟨Kr.out.cell 0, Kr.out.cell 1, Kr.out.cell 2, Kr.out.cell 3, Kr.out.cell 4, Kr.out.cell 5, Kr.out.cell 6, Kr.out.cell 7, Kr.out.cell 8, Kr.out.cell 9, Kr.out.cell 10, Kr.out.cell 11, Kr.out.lt, Kd.out.cell 0, Kd.out.cell 1, Kd.out.cell 2, Kd.out.cell 3, Kd.out.lt⟩
          go_wp2_with fail
          clear rc0 rc1 rc2 rc3 rc4 rc5 rc6 rc7 rc8 rc9 rc10 rc11 rcl dc0 dc1 dc2 dc3 dcl
          refine (HRI.out).mono ?_
          rintro e w6 ⟨rfl, b⟩
          replace Kr := Lib.hid (Kr.out.below b)
          replace Kd := Lib.hid (Kd.out.below b)
          replace Dd := Lib.hid (Dd.out.below b)
          replace Br := Lib.hid (Br.out.trans (b.mono Br.out.size))
          replace HB := Lib.hid (HB.out.trans (b.mono HB.out.size))
          replace B4 := Lib.hid (B4.out.trans (b.mono B4.out.size))
          clear b
          clear HRI
          have HSI := Lib.hid (HSM.out dv _ _ _ _ w6 Br.out Dd.out HPR.out (HNO.out (by simp)))
          obtain ⟨rc0, rc1, rc2, rc3, rc4, rc5, rc6, rc7, rc8, rc9, rc10, rc11, rcl, dc0, dc1, dc2, dc3, dcl⟩ : w6.cell? ⟨w.heap.size, 0, none⟩ = some (.int .i64 md) ∧ w6.cell? ⟨w.heap.size, 1, none⟩ = some (.slice ai nm ci) ∧ w6.cell? ⟨w.heap.size, 2, none⟩ = some (.slice ar nb cr) ∧ w6.cell? ⟨w.heap.size, 3, none⟩ = some (.slice ac nc cc) ∧ w6.cell? ⟨w.heap.size, 4, none⟩ = some (.slice ap nb cp) ∧ w6.cell? ⟨w.heap.size, 5, none⟩ = some (.slice aq nb cq) ∧ w6.cell? ⟨w.heap.size, 6, none⟩ = some (.slice am nm cm) ∧ w6.cell? ⟨w.heap.size, 7, none⟩ = some (.slice ab nb cb) ∧ w6.cell? ⟨w.heap.size, 8, none⟩ = some (.int .i64 model) ∧ w6.cell? ⟨w.heap.size, 9, none⟩ = some (.int .i64 room) ∧ w6.cell? ⟨w.heap.size, 10, none⟩ = some (.int .i64 t) ∧ w6.cell? ⟨w.heap.size, 11, none⟩ = some (.int .i64 loc) ∧ w.heap.size < w6.heap.size ∧ w6.cell? ⟨w3.heap.size, 0, none⟩ = some (.slice da0 dv.pc.length dk0) ∧ w6.cell? ⟨w3.heap.size, 1, none⟩ = some (.slice da1 dv.regs.length dk1) ∧ w6.cell? ⟨w3.heap.size, 2, none⟩ = some (.slice da2 dv.mem.length dk2) ∧ w6.cell? ⟨w3.heap.size, 3, none⟩ = some (.slice da3 dv.buf.length dk3) ∧ w3.heap.size < w6.heap.size := ⟨Kr.out.cell 0, Kr.out.cell 1, Kr.out.cell 2, Kr.out.cell 3, Kr.out.cell 4, Kr.out.cell 5, Kr.out.cell 6, Kr.out.cell 7, Kr.out.cell 8, Kr.out.cell 9, Kr.out.cell 10, Kr.out.cell 11, Kr.out.lt, Kd.out.cell 0, Kd.out.cell 1, Kd.out.cell 2, Kd.out.cell 3, Kd.out.lt⟩
          go_wp2_with fail
          clear rc0 rc1 rc2 rc3 rc4 rc5 rc6 rc7 rc8 rc9 rc10 rc11 rcl dc0 dc1 dc2 dc3 dcl
          refine (HSI.out).mono ?_
          rintro e w7 ⟨rfl, b⟩
          replace Kr := Lib.hid (Kr.out.below b)
          replace Kd := Lib.hid (Kd.out.below b)
          replace Dd := Lib.hid (Dd.out.below b)
          replace Br := Lib.hid (Br.out.trans (b.mono Br.out.size))
          replace HB := Lib.hid (HB.out.trans (b.mono HB.out.size))
          replace B4 := Lib.hid (B4.out.trans (b.mono B4.out.size))
          clear b
          clear HSI
          obtain ⟨rc0, rc1, rc2, rc3, rc4, rc5, rc6, rc7, rc8, rc9, rc10, rc11, rcl, dc0, dc1, dc2, dc3, dcl⟩ : w7.cell? ⟨w.heap.size, 0, none⟩ = some (.int .i64 md) ∧ w7.cell? ⟨w.heap.size, 1, none⟩ = some (.slice ai nm ci) ∧ w7.cell? ⟨w.heap.size, 2, none⟩ = some (.slice ar nb cr) ∧ w7.cell? ⟨w.heap.size, 3, none⟩ = some (.slice ac nc cc) ∧ w7.cell? ⟨w.heap.size, 4, none⟩ = some (.slice ap nb cp) ∧ w7.cell? ⟨w.heap.size, 5, none⟩ = some (.slice aq nb cq) ∧ w7.cell? ⟨w.heap.size, 6, none⟩ = some (.slice am nm cm) ∧ w7.cell? ⟨w.heap.size, 7, none⟩ = some (.slice ab nb cb) ∧ w7.cell? ⟨w.heap.size, 8, none⟩ = some (.int .i64 model) ∧ w7.cell? ⟨w.heap.size, 9, none⟩ = some (.int .i64 room) ∧ w7.cell? ⟨w.heap.size, 10, none⟩ = some (.int .i64 t) ∧ w7.cell? ⟨w.heap.size, 11, none⟩ = some (.int .i64 loc) ∧ w.heap.size < w7.heap.size ∧ w7.cell? ⟨w3.heap.size, 0, none⟩ = some (.slice da0 dv.pc.length dk0) ∧ w7.cell? ⟨w3.heap.size, 1, none⟩ = some (.slice da1 dv.regs.length dk1) ∧ w7.cell? ⟨w3.heap.size, 2, none⟩ = some (.slice da2 dv.mem.length dk2) ∧ w7.cell? ⟨w3.heap.size, 3, none⟩ = some (.slice da3 dv.buf.length dk3) ∧ w3.heap.size < w7.heap.size := ⟨Kr.out.cell 0, Kr.out.cell 1, Kr.out.cell 2, Kr.out.cell 3, Kr.out.cell 4, Kr.out.cell 5, Kr.out.cell 6, Kr.out.cell 7, Kr.out.cell 8, Kr.out.cell 9, Kr.out.cell 10, Kr.out.cell 11, Kr.out.lt, Kd.out.cell 0, Kd.out.cell 1, Kd.out.cell 2, Kd.out.cell 3, Kd.out.lt⟩
          go_wp2_with fail
          clear rc0 rc1 rc2 rc3 rc4 rc5 rc6 rc7 rc8 rc9 rc10 rc11 rcl dc0 dc1 dc2 dc3 dcl
          go_loopg [6] nb (fun fuel i' wr => ∃ (k : Nat), i' = .int .i64 k ∧ k ≤ nb ∧ nb - k ≤ fuel ∧ Below w7.heap.size w7 wr)
          case atStart => exact ⟨0, rfl, Nat.zero_le _, Nat.le_refl _, Below.refl _ _⟩
          case round =>
            obtain ⟨k, rfl, hk, hf2, hb2⟩ := hrel
            have HW := Lib.hid hb2
            replace Kr := Lib.hid (Kr.out.below hb2)
            replace Kd := Lib.hid (Kd.out.below hb2)
            replace Dd := Lib.hid (Dd.out.below hb2)
            replace Br := Lib.hid (Br.out.trans (hb2.mono Br.out.size))
            replace HB := Lib.hid (HB.out.trans (hb2.mono HB.out.size))
            replace B4 := Lib.hid (B4.out.trans (hb2.mono B4.out.size))
            clear hb2
            by_cases hlt2 : k < nb
            ·
              by_cases hkj : k = j
              ·
                subst hkj
                have hne : ((k : Int) != (k : Int)) = false := by simp
                obtain ⟨rc0, rc1, rc2, rc3, rc4, rc5, rc6, rc7, rc8, rc9, rc10, rc11, rcl, dc0, dc1, dc2, dc3, dcl⟩ : wr.cell? ⟨w.heap.size, 0, none⟩ = some (.int .i64 md) ∧ wr.cell? ⟨w.heap.size, 1, none⟩ = some (.slice ai nm ci) ∧ wr.cell? ⟨w.heap.size, 2, none⟩ = some (.slice ar nb cr) ∧ wr.cell? ⟨w.heap.size, 3, none⟩ = some (.slice ac nc cc) ∧ wr.cell? ⟨w.heap.size, 4, none⟩ = some (.slice ap nb cp) ∧ wr.cell? ⟨w.heap.size, 5, none⟩ = some (.slice aq nb cq) ∧ wr.cell? ⟨w.heap.size, 6, none⟩ = some (.slice am nm cm) ∧ wr.cell? ⟨w.heap.size, 7, none⟩ = some (.slice ab nb cb) ∧ wr.cell? ⟨w.heap.size, 8, none⟩ = some (.int .i64 model) ∧ wr.cell? ⟨w.heap.size, 9, none⟩ = some (.int .i64 room) ∧ wr.cell? ⟨w.heap.size, 10, none⟩ = some (.int .i64 t) ∧ wr.cell? ⟨w.heap.size, 11, none⟩ = some (.int .i64 loc) ∧ w.heap.size < wr.heap.size ∧ wr.cell? ⟨w3.heap.size, 0, none⟩ = some (.slice da0 dv.pc.length dk0) ∧ wr.cell? ⟨w3.heap.size, 1, none⟩ = some (.slice da1 dv.regs.length dk1) ∧ wr.cell? ⟨w3.heap.size, 2, none⟩ = some (.slice da2 dv.mem.length dk2) ∧ wr.cell? ⟨w3.heap.size, 3, none⟩ = some (.slice da3 dv.buf.length dk3) ∧ w3.heap.size < wr.heap.size := ⟨Kr.out.cell 0, Kr.out.cell 1, Kr.out.cell 2, Kr.out.cell 3, Kr.out.cell 4, Kr.out.cell 5, Kr.out.cell 6, Kr.out.cell 7, Kr.out.cell 8, Kr.out.cell 9, Kr.out.cell 10, Kr.out.cell 11, Kr.out.lt, Kd.out.cell 0, Kd.out.cell 1, Kd.out.cell 2, Kd.out.cell 3, Kd.out.lt⟩
                go_wp2_with fail
                go_quiet (fail)
                go_wp2_with fail
                go_roundg (gk - 1)
                case measure => omega
                case rel => exact ⟨k + 1, by go_num, by omega, by omega, below_drewN' HW.out _⟩
              ·
                have hne : ((k : Int) != (j : Int)) = true := by simp; omega
                obtain ⟨x1, x2, x3⟩ := HEL.out k (by omega)
                obtain ⟨bp, op, bq, oq, bb, ob, rq, mq, rb, mb, hz1, hz2, hz3, l1, l2, l3, y1, y2, y3, y4, y5⟩ := HAT.out k hlt2
                obtain ⟨cp1, op1, cq1, oq1, cb1, ob1, sq, nq, sb, nb2, hz4, hz5, hz6, m1, m2, m3, z1, z2, z3, z4, z5⟩ := HDT.out k hlt2
                rw [x1] at z1
                rw [x2] at z2 z4
                rw [x3] at z3 z5
                obtain ⟨hs1, hs2⟩ := HSL.out k
                generalize c.pf.pc.getD k 0 = x at y1 z1
                generalize c.pf.regs.getD k [] = rl at y2 y4 z2 z4 hs1
                generalize c.pf.buf.getD k [] = bl at y3 y5 z3 z5 hs2
                have HI := Lib.hid (fun (W : World) (h : Below wr.heap.size wr W) => ints_gen rl rl _ _ W (IntsD.below z4 (B4.out.trans (h.mono B4.out.size))) (IntsD.below y4 (Br.out.trans (h.mono Br.out.size))) hs1 true (by simp))
                have HS := Lib.hid (fun (W : World) (h : Below wr.heap.size wr W) => ents_gen bl bl _ _ W (EntsD.below z5 (B4.out.trans (h.mono B4.out.size))) (EntsD.below y5 (Br.out.trans (h.mono Br.out.size))) hs2 true (by simp))
                generalize rl.length = rn at y2 z2 HI
                generalize bl.length = bn0 at y3 z3 HS
                replace y1 := (Br.out.cell (p := ⟨bp, _, none⟩) l1).trans y1
                replace y2 := (Br.out.cell (p := ⟨bq, _, none⟩) l2).trans y2
                replace y3 := (Br.out.cell (p := ⟨bb, _, none⟩) l3).trans y3
                replace z1 := (B4.out.cell (p := ⟨cp1, _, none⟩) m1).trans z1
                replace z2 := (B4.out.cell (p := ⟨cq1, _, none⟩) m2).trans z2
                replace z3 := (B4.out.cell (p := ⟨cb1, _, none⟩) m3).trans z3
                replace l1 := Nat.lt_of_lt_of_le l1 Br.out.size
                replace l2 := Nat.lt_of_lt_of_le l2 Br.out.size
                replace l3 := Nat.lt_of_lt_of_le l3 Br.out.size
                replace m1 := Nat.lt_of_lt_of_le m1 B4.out.size
                replace m2 := Nat.lt_of_lt_of_le m2 B4.out.size
                replace m3 := Nat.lt_of_lt_of_le m3 B4.out.size
                clear x1 x2 x3 y4 y5 z4 z5 hs1 hs2
                subst hz1 hz2 hz3 hz4 hz5 hz6
                have HCC := Lib.hid (fun (w' : World) (h : Below wr.heap.size wr w') => (⟨(h.cell (p := ⟨w.heap.size, _, none⟩) Kr.out.lt).trans (Kr.out.cell 0), (h.cell (p := ⟨w.heap.size, _, none⟩) Kr.out.lt).trans (Kr.out.cell 1), (h.cell (p := ⟨w.heap.size, _, none⟩) Kr.out.lt).trans (Kr.out.cell 2), (h.cell (p := ⟨w.heap.size, _, none⟩) Kr.out.lt).trans (Kr.out.cell 3), (h.cell (p := ⟨w.heap.size, _, none⟩) Kr.out.lt).trans (Kr.out.cell 4), (h.cell (p := ⟨w.heap.size, _, none⟩) Kr.out.lt).trans (Kr.out.cell 5), (h.cell (p := ⟨w.heap.size, _, none⟩) Kr.out.lt).trans (Kr.out.cell 6), (h.cell (p := ⟨w.heap.size, _, none⟩) Kr.out.lt).trans (Kr.out.cell 7), (h.cell (p := ⟨w.heap.size, _, none⟩) Kr.out.lt).trans (Kr.out.cell 8), (h.cell (p := ⟨w.heap.size, _, none⟩) Kr.out.lt).trans (Kr.out.cell 9), (h.cell (p := ⟨w.heap.size, _, none⟩) Kr.out.lt).trans (Kr.out.cell 10), (h.cell (p := ⟨w.heap.size, _, none⟩) Kr.out.lt).trans (Kr.out.cell 11), (h.cell (p := ⟨w3.heap.size, _, none⟩) Kd.out.lt).trans (Kd.out.cell 0), (h.cell (p := ⟨w3.heap.size, _, none⟩) Kd.out.lt).trans (Kd.out.cell 1), (h.cell (p := ⟨w3.heap.size, _, none⟩) Kd.out.lt).trans (Kd.out.cell 2), (h.cell (p := ⟨w3.heap.size, _, none⟩) Kd.out.lt).trans (Kd.out.cell 3), (h.cell (p := ⟨bp, _, none⟩) l1).trans y1, (h.cell (p := ⟨bq, _, none⟩) l2).trans y2, (h.cell (p := ⟨bb, _, none⟩) l3).trans y3, (h.cell (p := ⟨cp1, _, none⟩) m1).trans z1, (h.cell (p := ⟨cq1, _, none⟩) m2).trans z2, (h.cell (p := ⟨cb1, _, none⟩) m3).trans z3, h⟩ : (fun w' => w'.cell? ⟨w.heap.size, 0, none⟩ = some (.int .i64 md) ∧ w'.cell? ⟨w.heap.size, 1, none⟩ = some (.slice ai nm ci) ∧ w'.cell? ⟨w.heap.size, 2, none⟩ = some (.slice ar nb cr) ∧ w'.cell? ⟨w.heap.size, 3, none⟩ = some (.slice ac nc cc) ∧ w'.cell? ⟨w.heap.size, 4, none⟩ = some (.slice (some ⟨bp, op, none⟩) nb cp) ∧ w'.cell? ⟨w.heap.size, 5, none⟩ = some (.slice (some ⟨bq, oq, none⟩) nb cq) ∧ w'.cell? ⟨w.heap.size, 6, none⟩ = some (.slice am nm cm) ∧ w'.cell? ⟨w.heap.size, 7, none⟩ = some (.slice (some ⟨bb, ob, none⟩) nb cb) ∧ w'.cell? ⟨w.heap.size, 8, none⟩ = some (.int .i64 model) ∧ w'.cell? ⟨w.heap.size, 9, none⟩ = some (.int .i64 room) ∧ w'.cell? ⟨w.heap.size, 10, none⟩ = some (.int .i64 t) ∧ w'.cell? ⟨w.heap.size, 11, none⟩ = some (.int .i64 loc) ∧ w'.cell? ⟨w3.heap.size, 0, none⟩ = some (.slice (some ⟨cp1, op1, none⟩) dv.pc.length dk0) ∧ w'.cell? ⟨w3.heap.size, 1, none⟩ = some (.slice (some ⟨cq1, oq1, none⟩) dv.regs.length dk1) ∧ w'.cell? ⟨w3.heap.size, 2, none⟩ = some (.slice da2 dv.mem.length dk2) ∧ w'.cell? ⟨w3.heap.size, 3, none⟩ = some (.slice (some ⟨cb1, ob1, none⟩) dv.buf.length dk3) ∧ w'.cell? ⟨bp, op + k, none⟩ = some (.int .i64 x) ∧ w'.cell? ⟨bq, oq + k, none⟩ = some (.slice rq rn mq) ∧ w'.cell? ⟨bb, ob + k, none⟩ = some (.slice rb bn0 mb) ∧ w'.cell? ⟨cp1, op1 + k, none⟩ = some (.int .i64 x) ∧ w'.cell? ⟨cq1, oq1 + k, none⟩ = some (.slice sq rn nq) ∧ w'.cell? ⟨cb1, ob1 + k, none⟩ = some (.slice sb bn0 nb2) ∧ Below wr.heap.size wr w') w'))
                have g1 : (0 : Int) ≤ (k : Int) := by omega
                have g2 : (k : Int) < (nb : Int) := by omega
                have hxx : ((x : Int) != x) = false := by simp
                have g3 : (k : Int) < (dv.pc.length : Int) := by have := L1.out; omega
                have g4 : (k : Int) < (dv.regs.length : Int) := by have := L2.out; omega
                have g5 : (k : Int) < (dv.buf.length : Int) := by have := L3.out; omega
                have bb0 : Below wr.heap.size wr wr := Below.refl _ _
                obtain ⟨rc0, rc1, rc2, rc3, rc4, rc5, rc6, rc7, rc8, rc9, rc10, rc11, rcl, dc0, dc1, dc2, dc3, dcl⟩ : wr.cell? ⟨w.heap.size, 0, none⟩ = some (.int .i64 md) ∧ wr.cell? ⟨w.heap.size, 1, none⟩ = some (.slice ai nm ci) ∧ wr.cell? ⟨w.heap.size, 2, none⟩ = some (.slice ar nb cr) ∧ wr.cell? ⟨w.heap.size, 3, none⟩ = some (.slice ac nc cc) ∧ wr.cell? ⟨w.heap.size, 4, none⟩ = some (.slice (some ⟨bp, op, none⟩) nb cp) ∧ wr.cell? ⟨w.heap.size, 5, none⟩ = some (.slice (some ⟨bq, oq, none⟩) nb cq) ∧ wr.cell? ⟨w.heap.size, 6, none⟩ = some (.slice am nm cm) ∧ wr.cell? ⟨w.heap.size, 7, none⟩ = some (.slice (some ⟨bb, ob, none⟩) nb cb) ∧ wr.cell? ⟨w.heap.size, 8, none⟩ = some (.int .i64 model) ∧ wr.cell? ⟨w.heap.size, 9, none⟩ = some (.int .i64 room) ∧ wr.cell? ⟨w.heap.size, 10, none⟩ = some (.int .i64 t) ∧ wr.cell? ⟨w.heap.size, 11, none⟩ = some (.int .i64 loc) ∧ w.heap.size < wr.heap.size ∧ wr.cell? ⟨w3.heap.size, 0, none⟩ = some (.slice (some ⟨cp1, op1, none⟩) dv.pc.length dk0) ∧ wr.cell? ⟨w3.heap.size, 1, none⟩ = some (.slice (some ⟨cq1, oq1, none⟩) dv.regs.length dk1) ∧ wr.cell? ⟨w3.heap.size, 2, none⟩ = some (.slice da2 dv.mem.length dk2) ∧ wr.cell? ⟨w3.heap.size, 3, none⟩ = some (.slice (some ⟨cb1, ob1, none⟩) dv.buf.length dk3) ∧ w3.heap.size < wr.heap.size := ⟨Kr.out.cell 0, Kr.out.cell 1, Kr.out.cell 2, Kr.out.cell 3, Kr.out.cell 4, Kr.out.cell 5, Kr.out.cell 6, Kr.out.cell 7, Kr.out.cell 8, Kr.out.cell 9, Kr.out.cell 10, Kr.out.cell 11, Kr.out.lt, Kd.out.cell 0, Kd.out.cell 1, Kd.out.cell 2, Kd.out.cell 3, Kd.out.lt⟩
                go_wp2_with fail
                clear rc0 rc1 rc2 rc3 rc4 rc5 rc6 rc7 rc8 rc9 rc10 rc11 rcl dc0 dc1 dc2 dc3 dcl
                clear y1 y2 y3 z1 z2 z3 l1 l2 l3 m1 m2 m3
                go_region_held3 (fun w' => w'.cell? ⟨w.heap.size, 0, none⟩ = some (.int .i64 md) ∧ w'.cell? ⟨w.heap.size, 1, none⟩ = some (.slice ai nm ci) ∧ w'.cell? ⟨w.heap.size, 2, none⟩ = some (.slice ar nb cr) ∧ w'.cell? ⟨w.heap.size, 3, none⟩ = some (.slice ac nc cc) ∧ w'.cell? ⟨w.heap.size, 4, none⟩ = some (.slice (some ⟨bp, op, none⟩) nb cp) ∧ w'.cell? ⟨w.heap.size, 5, none⟩ = some (.slice (some ⟨bq, oq, none⟩) nb cq) ∧ w'.cell? ⟨w.heap.size, 6, none⟩ = some (.slice am nm cm) ∧ w'.cell? ⟨w.heap.size, 7, none⟩ = some (.slice (some ⟨bb, ob, none⟩) nb cb) ∧ w'.cell? ⟨w.heap.size, 8, none⟩ = some (.int .i64 model) ∧ w'.cell? ⟨w.heap.size, 9, none⟩ = some (.int .i64 room) ∧ w'.cell? ⟨w.heap.size, 10, none⟩ = some (.int .i64 t) ∧ w'.cell? ⟨w.heap.size, 11, none⟩ = some (.int .i64 loc) ∧ w'.cell? ⟨w3.heap.size, 0, none⟩ = some (.slice (some ⟨cp1, op1, none⟩) dv.pc.length dk0) ∧ w'.cell? ⟨w3.heap.size, 1, none⟩ = some (.slice (some ⟨cq1, oq1, none⟩) dv.regs.length dk1) ∧ w'.cell? ⟨w3.heap.size, 2, none⟩ = some (.slice da2 dv.mem.length dk2) ∧ w'.cell? ⟨w3.heap.size, 3, none⟩ = some (.slice (some ⟨cb1, ob1, none⟩) dv.buf.length dk3) ∧ w'.cell? ⟨bp, op + k, none⟩ = some (.int .i64 x) ∧ w'.cell? ⟨bq, oq + k, none⟩ = some (.slice rq rn mq) ∧ w'.cell? ⟨bb, ob + k, none⟩ = some (.slice rb bn0 mb) ∧ w'.cell? ⟨cp1, op1 + k, none⟩ = some (.int .i64 x) ∧ w'.cell? ⟨cq1, oq1 + k, none⟩ = some (.slice sq rn nq) ∧ w'.cell? ⟨cb1, ob1 + k, none⟩ = some (.slice sb bn0 nb2) ∧ Below wr.heap.size wr w')
                  (first | with_reducible exact HCC.out _ bb0 | with_reducible exact HCC.out _ bb0.drew | with_reducible assumption | (go_split_ands; with_reducible exact HCC.out _ (by with_reducible assumption)))
                  ((first | (go_split_ands; (with_reducible refine Calls.mono (HI.out _ (by assumption)) ?_); rintro e wn ⟨rfl, bn⟩; have bb : Below wr.heap.size wr wn := Below.trans (by assumption) (bn.mono (Below.size (by assumption)))) | (go_split_ands; (with_reducible refine Calls.mono (HS.out _ (by assumption)) ?_); rintro e wn ⟨rfl, bn⟩; have bb : Below wr.heap.size wr wn := Below.trans (by assumption) (bn.mono (Below.size (by assumption))))))
                all_goals
                  go_split_ands
                  go_wp2_with fail
                  go_roundg (gk - 1)
                  case measure => omega
                  case rel => exact ⟨k + 1, by go_num, by omega, by omega, HW.out.trans (Below.mono (by assumption) HW.out.size)⟩
            ·
              obtain ⟨p, hp⟩ : ∃ p, flT c.pf model (j : Int) loc = p := ⟨_, rfl⟩
              have HF := Lib.hid (HFL.out (j : Int) wr Br.out)
              have HY := Lib.hid (HFE.out (j : Int))
              rw [hp] at HF HY
              clear hp
              obtain ⟨rc0, rc1, rc2, rc3, rc4, rc5, rc6, rc7, rc8, rc9, rc10, rc11, rcl, dc0, dc1, dc2, dc3, dcl⟩ : wr.cell? ⟨w.heap.size, 0, none⟩ = some (.int .i64 md) ∧ wr.cell? ⟨w.heap.size, 1, none⟩ = some (.slice ai nm ci) ∧ wr.cell? ⟨w.heap.size, 2, none⟩ = some (.slice ar nb cr) ∧ wr.cell? ⟨w.heap.size, 3, none⟩ = some (.slice ac nc cc) ∧ wr.cell? ⟨w.heap.size, 4, none⟩ = some (.slice ap nb cp) ∧ wr.cell? ⟨w.heap.size, 5, none⟩ = some (.slice aq nb cq) ∧ wr.cell? ⟨w.heap.size, 6, none⟩ = some (.slice am nm cm) ∧ wr.cell? ⟨w.heap.size, 7, none⟩ = some (.slice ab nb cb) ∧ wr.cell? ⟨w.heap.size, 8, none⟩ = some (.int .i64 model) ∧ wr.cell? ⟨w.heap.size, 9, none⟩ = some (.int .i64 room) ∧ wr.cell? ⟨w.heap.size, 10, none⟩ = some (.int .i64 t) ∧ wr.cell? ⟨w.heap.size, 11, none⟩ = some (.int .i64 loc) ∧ w.heap.size < wr.heap.size ∧ wr.cell? ⟨w3.heap.size, 0, none⟩ = some (.slice da0 dv.pc.length dk0) ∧ wr.cell? ⟨w3.heap.size, 1, none⟩ = some (.slice da1 dv.regs.length dk1) ∧ wr.cell? ⟨w3.heap.size, 2, none⟩ = some (.slice da2 dv.mem.length dk2) ∧ wr.cell? ⟨w3.heap.size, 3, none⟩ = some (.slice da3 dv.buf.length dk3) ∧ w3.heap.size < wr.heap.size := ⟨Kr.out.cell 0, Kr.out.cell 1, Kr.out.cell 2, Kr.out.cell 3, Kr.out.cell 4, Kr.out.cell 5, Kr.out.cell 6, Kr.out.cell 7, Kr.out.cell 8, Kr.out.cell 9, Kr.out.cell 10, Kr.out.cell 11, Kr.out.lt, Kd.out.cell 0, Kd.out.cell 1, Kd.out.cell 2, Kd.out.cell 3, Kd.out.lt⟩
              go_wp2_with fail
              clear rc0 rc1 rc2 rc3 rc4 rc5 rc6 rc7 rc8 rc9 rc10 rc11 rcl dc0 dc1 dc2 dc3 dcl
              refine HF.out.mono ?_
              rintro e v1 ⟨fv, xp, xr, xm, xb, rfl, oc, pf, b⟩
              clear HF
              replace Kr := Lib.hid (Kr.out.below b)
              replace Kd := Lib.hid (Kd.out.below b)
              replace Dd := Lib.hid (Dd.out.below b)
              replace Br := Lib.hid (Br.out.trans (b.mono Br.out.size))
              replace HB := Lib.hid (HB.out.trans (b.mono HB.out.size))
              replace B4 := Lib.hid (B4.out.trans (b.mono B4.out.size))
              clear b
              have HFR : Hid (RightP u fv.pf model room) := Lib.hid (by rw [pf]; exact HFP.out (j : Int))
              have hpc : fv.pc = c.pc := by have h1 : fv.pf.pc = c.pf.pc := by rw [pf]; exact flush_pc
                                            exact h1
              have HPQ := Lib.hid hpc
              clear pf hpc
              obtain ⟨fa0, fk0, rfl, _⟩ := own_shape' oc.p
              obtain ⟨fa1, fk1, rfl, _⟩ := own_shape' oc.r.h
              obtain ⟨fa2, fk2, rfl, _⟩ := own_shape' oc.m
              obtain ⟨fa3, fk3, rfl, _⟩ := own_shape' oc.b.h
              have Df := Lib.hid oc.data
              clear oc
              have Kf := Lib.hid (Bk.new v1 29 #[.slice fa0 fv.pc.length fk0, .slice fa1 fv.regs.length fk1, .slice fa2 fv.mem.length fk2, .slice fa3 fv.buf.length fk3])
              have BW : Hid (Below v1.heap.size v1 (World.alloc v1 (.cells #[.slice fa0 fv.pc.length fk0, .slice fa1 fv.regs.length fk1, .slice fa2 fv.mem.length fk2, .slice fa3 fv.buf.length fk3] 29))) := Lib.hid (bal (Below.refl _ _) _)
              obtain ⟨v2, hv2⟩ : ∃ z, World.alloc v1 (.cells #[.slice fa0 fv.pc.length fk0, .slice fa1 fv.regs.length fk1, .slice fa2 fv.mem.length fk2, .slice fa3 fv.buf.length fk3] 29) = z := ⟨_, rfl⟩
              rw [hv2] at Kf BW
              replace Df := Lib.hid (Df.out.below BW.out)
              replace Kr := Lib.hid (Kr.out.below BW.out)
              replace Kd := Lib.hid (Kd.out.below BW.out)
              replace Dd := Lib.hid (Dd.out.below BW.out)
              replace Br := Lib.hid (Br.out.trans (BW.out.mono Br.out.size))
              replace HB := Lib.hid (HB.out.trans (BW.out.mono HB.out.size))
              replace B4 := Lib.hid (B4.out.trans (BW.out.mono B4.out.size))
              clear BW
              have hpp : (p != p) = false := by simp
              obtain ⟨rc0, rc1, rc2, rc3, rc4, rc5, rc6, rc7, rc8, rc9, rc10, rc11, rcl, dc0, dc1, dc2, dc3, dcl, fc0, fc1, fc2, fc3, fcl⟩ : v2.cell? ⟨w.heap.size, 0, none⟩ = some (.int .i64 md) ∧ v2.cell? ⟨w.heap.size, 1, none⟩ = some (.slice ai nm ci) ∧ v2.cell? ⟨w.heap.size, 2, none⟩ = some (.slice ar nb cr) ∧ v2.cell? ⟨w.heap.size, 3, none⟩ = some (.slice ac nc cc) ∧ v2.cell? ⟨w.heap.size, 4, none⟩ = some (.slice ap nb cp) ∧ v2.cell? ⟨w.heap.size, 5, none⟩ = some (.slice aq nb cq) ∧ v2.cell? ⟨w.heap.size, 6, none⟩ = some (.slice am nm cm) ∧ v2.cell? ⟨w.heap.size, 7, none⟩ = some (.slice ab nb cb) ∧ v2.cell? ⟨w.heap.size, 8, none⟩ = some (.int .i64 model) ∧ v2.cell? ⟨w.heap.size, 9, none⟩ = some (.int .i64 room) ∧ v2.cell? ⟨w.heap.size, 10, none⟩ = some (.int .i64 t) ∧ v2.cell? ⟨w.heap.size, 11, none⟩ = some (.int .i64 loc) ∧ w.heap.size < v2.heap.size ∧ v2.cell? ⟨w3.heap.size, 0, none⟩ = some (.slice da0 dv.pc.length dk0) ∧ v2.cell? ⟨w3.heap.size, 1, none⟩ = some (.slice da1 dv.regs.length dk1) ∧ v2.cell? ⟨w3.heap.size, 2, none⟩ = some (.slice da2 dv.mem.length dk2) ∧ v2.cell? ⟨w3.heap.size, 3, none⟩ = some (.slice da3 dv.buf.length dk3) ∧ w3.heap.size < v2.heap.size ∧ v2.cell? ⟨v1.heap.size, 0, none⟩ = some (.slice fa0 fv.pc.length fk0) ∧ v2.cell? ⟨v1.heap.size, 1, none⟩ = some (.slice fa1 fv.regs.length fk1) ∧ v2.cell? ⟨v1.heap.size, 2, none⟩ = some (.slice fa2 fv.mem.length fk2) ∧ v2.cell? ⟨v1.heap.size, 3, none⟩ = some (.slice fa3 fv.buf.length fk3) ∧ v1.heap.size < v2.heap.size := ⟨Kr.out.cell 0, Kr.out.cell 1, Kr.out.cell 2, Kr.out.cell 3, Kr.out.cell 4, Kr.out.cell 5, Kr.out.cell 6, Kr.out.cell 7, Kr.out.cell 8, Kr.out.cell 9, Kr.out.cell 10, Kr.out.cell 11, Kr.out.lt, Kd.out.cell 0, Kd.out.cell 1, Kd.out.cell 2, Kd.out.cell 3, Kd.out.lt, Kf.out.cell 0, Kf.out.cell 1, Kf.out.cell 2, Kf.out.cell 3, Kf.out.lt⟩
              go_wp2_with fail
              clear rc0 rc1 rc2 rc3 rc4 rc5 rc6 rc7 rc8 rc9 rc10 rc11 rcl dc0 dc1 dc2 dc3 dcl fc0 fc1 fc2 fc3 fcl
              refine (HY.out v2 Br.out).mono ?_
              rintro e v3 ⟨rfl, b⟩
              replace Kr := Lib.hid (Kr.out.below b)
              replace Kd := Lib.hid (Kd.out.below b)
              replace Kf := Lib.hid (Kf.out.below b)
              replace Dd := Lib.hid (Dd.out.below b)
              replace Df := Lib.hid (Df.out.below b)
              replace Br := Lib.hid (Br.out.trans (b.mono Br.out.size))
              replace HB := Lib.hid (HB.out.trans (b.mono HB.out.size))
              replace B4 := Lib.hid (B4.out.trans (b.mono B4.out.size))
              clear b
              have HRI2 := Lib.hid (HRC.out fv _ _ _ _ v3 Br.out Df.out HFR.out)
              obtain ⟨rc0, rc1, rc2, rc3, rc4, rc5, rc6, rc7, rc8, rc9, rc10, rc11, rcl, dc0, dc1, dc2, dc3, dcl, fc0, fc1, fc2, fc3, fcl⟩ : v3.cell? ⟨w.heap.size, 0, none⟩ = some (.int .i64 md) ∧ v3.cell? ⟨w.heap.size, 1, none⟩ = some (.slice ai nm ci) ∧ v3.cell? ⟨w.heap.size, 2, none⟩ = some (.slice ar nb cr) ∧ v3.cell? ⟨w.heap.size, 3, none⟩ = some (.slice ac nc cc) ∧ v3.cell? ⟨w.heap.size, 4, none⟩ = some (.slice ap nb cp) ∧ v3.cell? ⟨w.heap.size, 5, none⟩ = some (.slice aq nb cq) ∧ v3.cell? ⟨w.heap.size, 6, none⟩ = some (.slice am nm cm) ∧ v3.cell? ⟨w.heap.size, 7, none⟩ = some (.slice ab nb cb) ∧ v3.cell? ⟨w.heap.size, 8, none⟩ = some (.int .i64 model) ∧ v3.cell? ⟨w.heap.size, 9, none⟩ = some (.int .i64 room) ∧ v3.cell? ⟨w.heap.size, 10, none⟩ = some (.int .i64 t) ∧ v3.cell? ⟨w.heap.size, 11, none⟩ = some (.int .i64 loc) ∧ w.heap.size < v3.heap.size ∧ v3.cell? ⟨w3.heap.size, 0, none⟩ = some (.slice da0 dv.pc.length dk0) ∧ v3.cell? ⟨w3.heap.size, 1, none⟩ = some (.slice da1 dv.regs.length dk1) ∧ v3.cell? ⟨w3.heap.size, 2, none⟩ = some (.slice da2 dv.mem.length dk2) ∧ v3.cell? ⟨w3.heap.size, 3, none⟩ = some (.slice da3 dv.buf.length dk3) ∧ w3.heap.size < v3.heap.size ∧ v3.cell? ⟨v1.heap.size, 0, none⟩ = some (.slice fa0 fv.pc.length fk0) ∧ v3.cell? ⟨v1.heap.size, 1, none⟩ = some (.slice fa1 fv.regs.length fk1) ∧ v3.cell? ⟨v1.heap.size, 2, none⟩ = some (.slice fa2 fv.mem.length fk2) ∧ v3.cell? ⟨v1.heap.size, 3, none⟩ = some (.slice fa3 fv.buf.length fk3) ∧ v1.heap.size < v3.heap.size := ⟨Kr.out.cell 0, Kr.out.cell 1, Kr.out.cell 2, Kr.out.cell 3, Kr.out.cell 4, Kr.out.cell 5, Kr.out.cell 6, Kr.out.cell 7, Kr.out.cell 8, Kr.out.cell 9, Kr.out.cell 10, Kr.out.cell 11, Kr.out.lt, Kd.out.cell 0, Kd.out.cell 1, Kd.out.cell 2, Kd.out.cell 3, Kd.out.lt, Kf.out.cell 0, Kf.out.cell 1, Kf.out.cell 2, Kf.out.cell 3, Kf.out.lt⟩
              go_wp2_with fail
              clear rc0 rc1 rc2 rc3 rc4 rc5 rc6 rc7 rc8 rc9 rc10 rc11 rcl dc0 dc1 dc2 dc3 dcl fc0 fc1 fc2 fc3 fcl
              refine (HRI2.out).mono ?_
              rintro e v4 ⟨rfl, b⟩
              replace Kr := Lib.hid (Kr.out.below b)
              replace Kd := Lib.hid (Kd.out.below b)
              replace Kf := Lib.hid (Kf.out.below b)
              replace Dd := Lib.hid (Dd.out.below b)
              replace Df := Lib.hid (Df.out.below b)
              replace Br := Lib.hid (Br.out.trans (b.mono Br.out.size))
              replace HB := Lib.hid (HB.out.trans (b.mono HB.out.size))
              replace B4 := Lib.hid (B4.out.trans (b.mono B4.out.size))
              clear b
              have HIP := Lib.hid (ints_gen fv.pc c.pc _ _ v4 Df.out.p (HPC.out v4 Br.out) (by rw [HPQ.out, hnp.out]; omega) true (by rw [HPQ.out]; simp))
              clear HRI2
              obtain ⟨rc0, rc1, rc2, rc3, rc4, rc5, rc6, rc7, rc8, rc9, rc10, rc11, rcl, dc0, dc1, dc2, dc3, dcl, fc0, fc1, fc2, fc3, fcl⟩ : v4.cell? ⟨w.heap.size, 0, none⟩ = some (.int .i64 md) ∧ v4.cell? ⟨w.heap.size, 1, none⟩ = some (.slice ai nm ci) ∧ v4.cell? ⟨w.heap.size, 2, none⟩ = some (.slice ar nb cr) ∧ v4.cell? ⟨w.heap.size, 3, none⟩ = some (.slice ac nc cc) ∧ v4.cell? ⟨w.heap.size, 4, none⟩ = some (.slice ap nb cp) ∧ v4.cell? ⟨w.heap.size, 5, none⟩ = some (.slice aq nb cq) ∧ v4.cell? ⟨w.heap.size, 6, none⟩ = some (.slice am nm cm) ∧ v4.cell? ⟨w.heap.size, 7, none⟩ = some (.slice ab nb cb) ∧ v4.cell? ⟨w.heap.size, 8, none⟩ = some (.int .i64 model) ∧ v4.cell? ⟨w.heap.size, 9, none⟩ = some (.int .i64 room) ∧ v4.cell? ⟨w.heap.size, 10, none⟩ = some (.int .i64 t) ∧ v4.cell? ⟨w.heap.size, 11, none⟩ = some (.int .i64 loc) ∧ w.heap.size < v4.heap.size ∧ v4.cell? ⟨w3.heap.size, 0, none⟩ = some (.slice da0 dv.pc.length dk0) ∧ v4.cell? ⟨w3.heap.size, 1, none⟩ = some (.slice da1 dv.regs.length dk1) ∧ v4.cell? ⟨w3.heap.size, 2, none⟩ = some (.slice da2 dv.mem.length dk2) ∧ v4.cell? ⟨w3.heap.size, 3, none⟩ = some (.slice da3 dv.buf.length dk3) ∧ w3.heap.size < v4.heap.size ∧ v4.cell? ⟨v1.heap.size, 0, none⟩ = some (.slice fa0 fv.pc.length fk0) ∧ v4.cell? ⟨v1.heap.size, 1, none⟩ = some (.slice fa1 fv.regs.length fk1) ∧ v4.cell? ⟨v1.heap.size, 2, none⟩ = some (.slice fa2 fv.mem.length fk2) ∧ v4.cell? ⟨v1.heap.size, 3, none⟩ = some (.slice fa3 fv.buf.length fk3) ∧ v1.heap.size < v4.heap.size := ⟨Kr.out.cell 0, Kr.out.cell 1, Kr.out.cell 2, Kr.out.cell 3, Kr.out.cell 4, Kr.out.cell 5, Kr.out.cell 6, Kr.out.cell 7, Kr.out.cell 8, Kr.out.cell 9, Kr.out.cell 10, Kr.out.cell 11, Kr.out.lt, Kd.out.cell 0, Kd.out.cell 1, Kd.out.cell 2, Kd.out.cell 3, Kd.out.lt, Kf.out.cell 0, Kf.out.cell 1, Kf.out.cell 2, Kf.out.cell 3, Kf.out.lt⟩
              go_wp2_with fail
              clear rc0 rc1 rc2 rc3 rc4 rc5 rc6 rc7 rc8 rc9 rc10 rc11 rcl dc0 dc1 dc2 dc3 dcl fc0 fc1 fc2 fc3 fcl
              refine (HIP.out).mono ?_
              rintro e v5 ⟨rfl, b⟩
              replace Kr := Lib.hid (Kr.out.below b)
              replace Kd := Lib.hid (Kd.out.below b)
              replace Kf := Lib.hid (Kf.out.below b)
              replace Dd := Lib.hid (Dd.out.below b)
              replace Df := Lib.hid (Df.out.below b)
              replace Br := Lib.hid (Br.out.trans (b.mono Br.out.size))
              replace HB := Lib.hid (HB.out.trans (b.mono HB.out.size))
              replace B4 := Lib.hid (B4.out.trans (b.mono B4.out.size))
              clear b
              go_wp2_with fail
              go_roundg (ga - 1)
              case measure => omega
              case rel => exact ⟨j + 1, by go_num, by omega, by omega, HB.out⟩
        | true =>
          have HRI := Lib.hid (HRC.out dv _ _ _ _ w5 Br.out Dd.out HPR.out)
          obtain ⟨rc0, rc1, rc2, rc3, rc4, rc5, rc6, rc7, rc8, rc9, rc10, rc11, rcl, dc0, dc1, dc2, dc3, dcl⟩ : w5.cell? ⟨w.heap.size, 0, none⟩ = some (.int .i64 md) ∧ w5.cell? ⟨w.heap.size, 1, none⟩ = some (.slice ai nm ci) ∧ w5.cell? ⟨w.heap.size, 2, none⟩ = some (.slice ar nb cr) ∧ w5.cell? ⟨w.heap.size, 3, none⟩ = some (.slice ac nc cc) ∧ w5.cell? ⟨w.heap.size, 4, none⟩ = some (.slice ap nb cp) ∧ w5.cell? ⟨w.heap.size, 5, none⟩ = some (.slice aq nb cq) ∧ w5.cell? ⟨w.heap.size, 6, none⟩ = some (.slice am nm cm) ∧ w5.cell? ⟨w.heap.size, 7, none⟩ = some (.slice ab nb cb) ∧ w5.cell? ⟨w.heap.size, 8, none⟩ = some (.int .i64 model) ∧ w5.cell? ⟨w.heap.size, 9, none⟩ = some (.int .i64 room) ∧ w5.cell? ⟨w.heap.size, 10, none⟩ = some (.int .i64 t) ∧ w5.cell? ⟨w.heap.size, 11, none⟩ = some (.int .i64 loc) ∧ w.heap.size < w5.heap.size ∧ w5.cell? ⟨w3.heap.size, 0, none⟩ = some (.slice da0 dv.pc.length dk0) ∧ w5.cell? ⟨w3.heap.size, 1, none⟩ = some (.slice da1 dv.regs.length dk1) ∧ w5.cell? ⟨w3.heap.size, 2, none⟩ = some (.slice da2 dv.mem.length dk2) ∧ w5.cell? ⟨w3.heap.size, 3, none⟩ = some (.slice da3 dv.buf.length dk3) ∧ w3.heap.size < w5.heap.size := ⟨Kr.out.cell 0, Kr.out.cell 1, Kr.out.cell 2, Kr.out.cell 3, Kr.out.cell 4, Kr.out.cell 5, Kr.out.cell 6, Kr.out.cell 7, Kr.out.cell 8, Kr.out.cell 9, Kr.out.cell 10, Kr.out.cell 11, Kr.out.lt, Kd.out.cell 0, Kd.out.cell 1, Kd.out.cell 2, Kd.out.cell 3, Kd.out.lt⟩
          go_wp2_with fail
          clear rc0 rc1 rc2 rc3 rc4 rc5 rc6 rc7 rc8 rc9 rc10 rc11 rcl dc0 dc1 dc2 dc3 dcl
          refine (HRI.out).mono ?_
          rintro e w6 ⟨rfl, b⟩
          replace Kr := Lib.hid (Kr.out.below b)
          replace Kd := Lib.hid (Kd.out.below b)
          replace Dd := Lib.hid (Dd.out.below b)
          replace Br := Lib.hid (Br.out.trans (b.mono Br.out.size))
          replace HB := Lib.hid (HB.out.trans (b.mono HB.out.size))
          replace B4 := Lib.hid (B4.out.trans (b.mono B4.out.size))
          clear b
          clear HRI
          obtain ⟨rc0, rc1, rc2, rc3, rc4, rc5, rc6, rc7, rc8, rc9, rc10, rc11, rcl, dc0, dc1, dc2, dc3, dcl⟩ : w6.cell? ⟨w.heap.size, 0, none⟩ = some (.int .i64 md) ∧ w6.cell? ⟨w.heap.size, 1, none⟩ = some (.slice ai nm ci) ∧ w6.cell? ⟨w.heap.size, 2, none⟩ = some (.slice ar nb cr) ∧ w6.cell? ⟨w.heap.size, 3, none⟩ = some (.slice ac nc cc) ∧ w6.cell? ⟨w.heap.size, 4, none⟩ = some (.slice ap nb cp) ∧ w6.cell? ⟨w.heap.size, 5, none⟩ = some (.slice aq nb cq) ∧ w6.cell? ⟨w.heap.size, 6, none⟩ = some (.slice am nm cm) ∧ w6.cell? ⟨w.heap.size, 7, none⟩ = some (.slice ab nb cb) ∧ w6.cell? ⟨w.heap.size, 8, none⟩ = some (.int .i64 model) ∧ w6.cell? ⟨w.heap.size, 9, none⟩ = some (.int .i64 room) ∧ w6.cell? ⟨w.heap.size, 10, none⟩ = some (.int .i64 t) ∧ w6.cell? ⟨w.heap.size, 11, none⟩ = some (.int .i64 loc) ∧ w.heap.size < w6.heap.size ∧ w6.cell? ⟨w3.heap.size, 0, none⟩ = some (.slice da0 dv.pc.length dk0) ∧ w6.cell? ⟨w3.heap.size, 1, none⟩ = some (.slice da1 dv.regs.length dk1) ∧ w6.cell? ⟨w3.heap.size, 2, none⟩ = some (.slice da2 dv.mem.length dk2) ∧ w6.cell? ⟨w3.heap.size, 3, none⟩ = some (.slice da3 dv.buf.length dk3) ∧ w3.heap.size < w6.heap.size := ⟨Kr.out.cell 0, Kr.out.cell 1, Kr.out.cell 2, Kr.out.cell 3, Kr.out.cell 4, Kr.out.cell 5, Kr.out.cell 6, Kr.out.cell 7, Kr.out.cell 8, Kr.out.cell 9, Kr.out.cell 10, Kr.out.cell 11, Kr.out.lt, Kd.out.cell 0, Kd.out.cell 1, Kd.out.cell 2, Kd.out.cell 3, Kd.out.lt⟩
          go_wp2_with fail
          clear rc0 rc1 rc2 rc3 rc4 rc5 rc6 rc7 rc8 rc9 rc10 rc11 rcl dc0 dc1 dc2 dc3 dcl
          go_loopg [6] nb (fun fuel i' wr => ∃ (k : Nat), i' = .int .i64 k ∧ k ≤ nb ∧ nb - k ≤ fuel ∧ Below w6.heap.size w6 wr)
          case atStart => exact ⟨0, rfl, Nat.zero_le _, Nat.le_refl _, Below.refl _ _⟩
          case round =>
            obtain ⟨k, rfl, hk, hf2, hb2⟩ := hrel
            have HW := Lib.hid hb2
            replace Kr := Lib.hid (Kr.out.below hb2)
            replace Kd := Lib.hid (Kd.out.below hb2)
            replace Dd := Lib.hid (Dd.out.below hb2)
            replace Br := Lib.hid (Br.out.trans (hb2.mono Br.out.size))
            replace HB := Lib.hid (HB.out.trans (hb2.mono HB.out.size))
            replace B4 := Lib.hid (B4.out.trans (hb2.mono B4.out.size))
            clear hb2
            by_cases hlt2 : k < nb
            ·
              by_cases hkj : k = j
              ·
                subst hkj
                have hne : ((k : Int) != (k : Int)) = false := by simp
                obtain ⟨rc0, rc1, rc2, rc3, rc4, rc5, rc6, rc7, rc8, rc9, rc10, rc11, rcl, dc0, dc1, dc2, dc3, dcl⟩ : wr.cell? ⟨w.heap.size, 0, none⟩ = some (.int .i64 md) ∧ wr.cell? ⟨w.heap.size, 1, none⟩ = some (.slice ai nm ci) ∧ wr.cell? ⟨w.heap.size, 2, none⟩ = some (.slice ar nb cr) ∧ wr.cell? ⟨w.heap.size, 3, none⟩ = some (.slice ac nc cc) ∧ wr.cell? ⟨w.heap.size, 4, none⟩ = some (.slice ap nb cp) ∧ wr.cell? ⟨w.heap.size, 5, none⟩ = some (.slice aq nb cq) ∧ wr.cell? ⟨w.heap.size, 6, none⟩ = some (.slice am nm cm) ∧ wr.cell? ⟨w.heap.size, 7, none⟩ = some (.slice ab nb cb) ∧ wr.cell? ⟨w.heap.size, 8, none⟩ = some (.int .i64 model) ∧ wr.cell? ⟨w.heap.size, 9, none⟩ = some (.int .i64 room) ∧ wr.cell? ⟨w.heap.size, 10, none⟩ = some (.int .i64 t) ∧ wr.cell? ⟨w.heap.size, 11, none⟩ = some (.int .i64 loc) ∧ w.heap.size < wr.heap.size ∧ wr.cell? ⟨w3.heap.size, 0, none⟩ = some (.slice da0 dv.pc.length dk0) ∧ wr.cell? ⟨w3.heap.size, 1, none⟩ = some (.slice da1 dv.regs.length dk1) ∧ wr.cell? ⟨w3.heap.size, 2, none⟩ = some (.slice da2 dv.mem.length dk2) ∧ wr.cell? ⟨w3.heap.size, 3, none⟩ = some (.slice da3 dv.buf.length dk3) ∧ w3.heap.size < wr.heap.size := ⟨Kr.out.cell 0, Kr.out.cell 1, Kr.out.cell 2, Kr.out.cell 3, Kr.out.cell 4, Kr.out.cell 5, Kr.out.cell 6, Kr.out.cell 7, Kr.out.cell 8, Kr.out.cell 9, Kr.out.cell 10, Kr.out.cell 11, Kr.out.lt, Kd.out.cell 0, Kd.out.cell 1, Kd.out.cell 2, Kd.out.cell 3, Kd.out.lt⟩
                go_wp2_with fail
                go_quiet (fail)
                go_wp2_with fail
                go_roundg (gk - 1)
                case measure => omega
                case rel => exact ⟨k + 1, by go_num, by omega, by omega, below_drewN' HW.out _⟩
              ·
                have hne : ((k : Int) != (j : Int)) = true := by simp; omega
                obtain ⟨x1, x2, x3⟩ := HEL.out k (by omega)
                obtain ⟨bp, op, bq, oq, bb, ob, rq, mq, rb, mb, hz1, hz2, hz3, l1, l2, l3, y1, y2, y3, y4, y5⟩ := HAT.out k hlt2
                obtain ⟨cp1, op1, cq1, oq1, cb1, ob1, sq, nq, sb, nb2, hz4, hz5, hz6, m1, m2, m3, z1, z2, z3, z4, z5⟩ := HDT.out k hlt2
                rw [x1] at z1
                rw [x2] at z2 z4
                rw [x3] at z3 z5
                obtain ⟨hs1, hs2⟩ := HSL.out k
                generalize c.pf.pc.getD k 0 = x at y1 z1
                generalize c.pf.regs.getD k [] = rl at y2 y4 z2 z4 hs1
                generalize c.pf.buf.getD k [] = bl at y3 y5 z3 z5 hs2
                have HI := Lib.hid (fun (W : World) (h : Below wr.heap.size wr W) => ints_gen rl rl _ _ W (IntsD.below z4 (B4.out.trans (h.mono B4.out.size))) (IntsD.below y4 (Br.out.trans (h.mono Br.out.size))) hs1 true (by simp))
                have HS := Lib.hid (fun (W : World) (h : Below wr.heap.size wr W) => ents_gen bl bl _ _ W (EntsD.below z5 (B4.out.trans (h.mono B4.out.size))) (EntsD.below y5 (Br.out.trans (h.mono Br.out.size))) hs2 true (by simp))
                generalize rl.length = rn at y2 z2 HI
                generalize bl.length = bn0 at y3 z3 HS
                replace y1 := (Br.out.cell (p := ⟨bp, _, none⟩) l1).trans y1
                replace y2 := (Br.out.cell (p := ⟨bq, _, none⟩) l2).trans y2
                replace y3 := (Br.out.cell (p := ⟨bb, _, none⟩) l3).trans y3
                replace z1 := (B4.out.cell (p := ⟨cp1, _, none⟩) m1).trans z1
                replace z2 := (B4.out.cell (p := ⟨cq1, _, none⟩) m2).trans z2
                replace z3 := (B4.out.cell (p := ⟨cb1, _, none⟩) m3).trans z3
                replace l1 := Nat.lt_of_lt_of_le l1 Br.out.size
                replace l2 := Nat.lt_of_lt_of_le l2 Br.out.size
                replace l3 := Nat.lt_of_lt_of_le l3 Br.out.size
                replace m1 := Nat.lt_of_lt_of_le m1 B4.out.size
                replace m2 := Nat.lt_of_lt_of_le m2 B4.out.size
                replace m3 := Nat.lt_of_lt_of_le m3 B4.out.size
                clear x1 x2 x3 y4 y5 z4 z5 hs1 hs2
                subst hz1 hz2 hz3 hz4 hz5 hz6
                have HCC := Lib.hid (fun (w' : World) (h : Below wr.heap.size wr w') => (⟨(h.cell (p := ⟨w.heap.size, _, none⟩) Kr.out.lt).trans (Kr.out.cell 0), (h.cell (p := ⟨w.heap.size, _, none⟩) Kr.out.lt).trans (Kr.out.cell 1), (h.cell (p := ⟨w.heap.size, _, none⟩) Kr.out.lt).trans (Kr.out.cell 2), (h.cell (p := ⟨w.heap.size, _, none⟩) Kr.out.lt).trans (Kr.out.cell 3), (h.cell (p := ⟨w.heap.size, _, none⟩) Kr.out.lt).trans (Kr.out.cell 4), (h.cell (p := ⟨w.heap.size, _, none⟩) Kr.out.lt).trans (Kr.out.cell 5), (h.cell (p := ⟨w.heap.size, _, none⟩) Kr.out.lt).trans (Kr.out.cell 6), (h.cell (p := ⟨w.heap.size, _, none⟩) Kr.out.lt).trans (Kr.out.cell 7), (h.cell (p := ⟨w.heap.size, _, none⟩) Kr.out.lt).trans (Kr.out.cell 8), (h.cell (p := ⟨w.heap.size, _, none⟩) Kr.out.lt).trans (Kr.out.cell 9), (h.cell (p := ⟨w.heap.size, _, none⟩) Kr.out.lt).trans (Kr.out.cell 10), (h.cell (p := ⟨w.heap.size, _, none⟩) Kr.out.lt).trans (Kr.out.cell 11), (h.cell (p := ⟨w3.heap.size, _, none⟩) Kd.out.lt).trans (Kd.out.cell 0), (h.cell (p := ⟨w3.heap.size, _, none⟩) Kd.out.lt).trans (Kd.out.cell 1), (h.cell (p := ⟨w3.heap.size, _, none⟩) Kd.out.lt).trans (Kd.out.cell 2), (h.cell (p := ⟨w3.heap.size, _, none⟩) Kd.out.lt).trans (Kd.out.cell 3), (h.cell (p := ⟨bp, _, none⟩) l1).trans y1, (h.cell (p := ⟨bq, _, none⟩) l2).trans y2, (h.cell (p := ⟨bb, _, none⟩) l3).trans y3, (h.cell (p := ⟨cp1, _, none⟩) m1).trans z1, (h.cell (p := ⟨cq1, _, none⟩) m2).trans z2, (h.cell (p := ⟨cb1, _, none⟩) m3).trans z3, h⟩ : (fun w' => w'.cell? ⟨w.heap.size, 0, none⟩ = some (.int .i64 md) ∧ w'.cell? ⟨w.heap.size, 1, none⟩ = some (.slice ai nm ci) ∧ w'.cell? ⟨w.heap.size, 2, none⟩ = some (.slice ar nb cr) ∧ w'.cell? ⟨w.heap.size, 3, none⟩ = some (.slice ac nc cc) ∧ w'.cell? ⟨w.heap.size, 4, none⟩ = some (.slice (some ⟨bp, op, none⟩) nb cp) ∧ w'.cell? ⟨w.heap.size, 5, none⟩ = some (.slice (some ⟨bq, oq, none⟩) nb cq) ∧ w'.cell? ⟨w.heap.size, 6, none⟩ = some (.slice am nm cm) ∧ w'.cell? ⟨w.heap.size, 7, none⟩ = some (.slice (some ⟨bb, ob, none⟩) nb cb) ∧ w'.cell? ⟨w.heap.size, 8, none⟩ = some (.int .i64 model) ∧ w'.cell? ⟨w.heap.size, 9, none⟩ = some (.int .i64 room) ∧ w'.cell? ⟨w.heap.size, 10, none⟩ = some (.int .i64 t) ∧ w'.cell? ⟨w.heap.size, 11, none⟩ = some (.int .i64 loc) ∧ w'.cell? ⟨w3.heap.size, 0, none⟩ = some (.slice (some ⟨cp1, op1, none⟩) dv.pc.length dk0) ∧ w'.cell? ⟨w3.heap.size, 1, none⟩ = some (.slice (some ⟨cq1, oq1, none⟩) dv.regs.length dk1) ∧ w'.cell? ⟨w3.heap.size, 2, none⟩ = some (.slice da2 dv.mem.length dk2) ∧ w'.cell? ⟨w3.heap.size, 3, none⟩ = some (.slice (some ⟨cb1, ob1, none⟩) dv.buf.length dk3) ∧ w'.cell? ⟨bp, op + k, none⟩ = some (.int .i64 x) ∧ w'.cell? ⟨bq, oq + k, none⟩ = some (.slice rq rn mq) ∧ w'.cell? ⟨bb, ob + k, none⟩ = some (.slice rb bn0 mb) ∧ w'.cell? ⟨cp1, op1 + k, none⟩ = some (.int .i64 x) ∧ w'.cell? ⟨cq1, oq1 + k, none⟩ = some (.slice sq rn nq) ∧ w'.cell? ⟨cb1, ob1 + k, none⟩ = some (.slice sb bn0 nb2) ∧ Below wr.heap.size wr w') w'))
                have g1 : (0 : Int) ≤ (k : Int) := by omega
                have g2 : (k : Int) < (nb : Int) := by omega
                have hxx : ((x : Int) != x) = false := by simp
                have g3 : (k : Int) < (dv.pc.length : Int) := by have := L1.out; omega
                have g4 : (k : Int) < (dv.regs.length : Int) := by have := L2.out; omega
                have g5 : (k : Int) < (dv.buf.length : Int) := by have := L3.out; omega
                have bb0 : Below wr.heap.size wr wr := Below.refl _ _
                obtain ⟨rc0, rc1, rc2, rc3, rc4, rc5, rc6, rc7, rc8, rc9, rc10, rc11, rcl, dc0, dc1, dc2, dc3, dcl⟩ : wr.cell? ⟨w.heap.size, 0, none⟩ = some (.int .i64 md) ∧ wr.cell? ⟨w.heap.size, 1, none⟩ = some (.slice ai nm ci) ∧ wr.cell? ⟨w.heap.size, 2, none⟩ = some (.slice ar nb cr) ∧ wr.cell? ⟨w.heap.size, 3, none⟩ = some (.slice ac nc cc) ∧ wr.cell? ⟨w.heap.size, 4, none⟩ = some (.slice (some ⟨bp, op, none⟩) nb cp) ∧ wr.cell? ⟨w.heap.size, 5, none⟩ = some (.slice (some ⟨bq, oq, none⟩) nb cq) ∧ wr.cell? ⟨w.heap.size, 6, none⟩ = some (.slice am nm cm) ∧ wr.cell? ⟨w.heap.size, 7, none⟩ = some (.slice (some ⟨bb, ob, none⟩) nb cb) ∧ wr.cell? ⟨w.heap.size, 8, none⟩ = some (.int .i64 model) ∧ wr.cell? ⟨w.heap.size, 9, none⟩ = some (.int .i64 room) ∧ wr.cell? ⟨w.heap.size, 10, none⟩ = some (.int .i64 t) ∧ wr.cell? ⟨w.heap.size, 11, none⟩ = some (.int .i64 loc) ∧ w.heap.size < wr.heap.size ∧ wr.cell? ⟨w3.heap.size, 0, none⟩ = some (.slice (some ⟨cp1, op1, none⟩) dv.pc.length dk0) ∧ wr.cell? ⟨w3.heap.size, 1, none⟩ = some (.slice (some ⟨cq1, oq1, none⟩) dv.regs.length dk1) ∧ wr.cell? ⟨w3.heap.size, 2, none⟩ = some (.slice da2 dv.mem.length dk2) ∧ wr.cell? ⟨w3.heap.size, 3, none⟩ = some (.slice (some ⟨cb1, ob1, none⟩) dv.buf.length dk3) ∧ w3.heap.size < wr.heap.size := ⟨Kr.out.cell 0, Kr.out.cell 1, Kr.out.cell 2, Kr.out.cell 3, Kr.out.cell 4, Kr.out.cell 5, Kr.out.cell 6, Kr.out.cell 7, Kr.out.cell 8, Kr.out.cell 9, Kr.out.cell 10, Kr.out.cell 11, Kr.out.lt, Kd.out.cell 0, Kd.out.cell 1, Kd.out.cell 2, Kd.out.cell 3, Kd.out.lt⟩
                go_wp2_with fail
                clear rc0 rc1 rc2 rc3 rc4 rc5 rc6 rc7 rc8 rc9 rc10 rc11 rcl dc0 dc1 dc2 dc3 dcl
                clear y1 y2 y3 z1 z2 z3 l1 l2 l3 m1 m2 m3
                go_region_held3 (fun w' => w'.cell? ⟨w.heap.size, 0, none⟩ = some (.int .i64 md) ∧ w'.cell? ⟨w.heap.size, 1, none⟩ = some (.slice ai nm ci) ∧ w'.cell? ⟨w.heap.size, 2, none⟩ = some (.slice ar nb cr) ∧ w'.cell? ⟨w.heap.size, 3, none⟩ = some (.slice ac nc cc) ∧ w'.cell? ⟨w.heap.size, 4, none⟩ = some (.slice (some ⟨bp, op, none⟩) nb cp) ∧ w'.cell? ⟨w.heap.size, 5, none⟩ = some (.slice (some ⟨bq, oq, none⟩) nb cq) ∧ w'.cell? ⟨w.heap.size, 6, none⟩ = some (.slice am nm cm) ∧ w'.cell? ⟨w.heap.size, 7, none⟩ = some (.slice (some ⟨bb, ob, none⟩) nb cb) ∧ w'.cell? ⟨w.heap.size, 8, none⟩ = some (.int .i64 model) ∧ w'.cell? ⟨w.heap.size, 9, none⟩ = some (.int .i64 room) ∧ w'.cell? ⟨w.heap.size, 10, none⟩ = some (.int .i64 t) ∧ w'.cell? ⟨w.heap.size, 11, none⟩ = some (.int .i64 loc) ∧ w'.cell? ⟨w3.heap.size, 0, none⟩ = some (.slice (some ⟨cp1, op1, none⟩) dv.pc.length dk0) ∧ w'.cell? ⟨w3.heap.size, 1, none⟩ = some (.slice (some ⟨cq1, oq1, none⟩) dv.regs.length dk1) ∧ w'.cell? ⟨w3.heap.size, 2, none⟩ = some (.slice da2 dv.mem.length dk2) ∧ w'.cell? ⟨w3.heap.size, 3, none⟩ = some (.slice (some ⟨cb1, ob1, none⟩) dv.buf.length dk3) ∧ w'.cell? ⟨bp, op + k, none⟩ = some (.int .i64 x) ∧ w'.cell? ⟨bq, oq + k, none⟩ = some (.slice rq rn mq) ∧ w'.cell? ⟨bb, ob + k, none⟩ = some (.slice rb bn0 mb) ∧ w'.cell? ⟨cp1, op1 + k, none⟩ = some (.int .i64 x) ∧ w'.cell? ⟨cq1, oq1 + k, none⟩ = some (.slice sq rn nq) ∧ w'.cell? ⟨cb1, ob1 + k, none⟩ = some (.slice sb bn0 nb2) ∧ Below wr.heap.size wr w')
                  (first | with_reducible exact HCC.out _ bb0 | with_reducible exact HCC.out _ bb0.drew | with_reducible assumption | (go_split_ands; with_reducible exact HCC.out _ (by with_reducible assumption)))
                  ((first | (go_split_ands; (with_reducible refine Calls.mono (HI.out _ (by assumption)) ?_); rintro e wn ⟨rfl, bn⟩; have bb : Below wr.heap.size wr wn := Below.trans (by assumption) (bn.mono (Below.size (by assumption)))) | (go_split_ands; (with_reducible refine Calls.mono (HS.out _ (by assumption)) ?_); rintro e wn ⟨rfl, bn⟩; have bb : Below wr.heap.size wr wn := Below.trans (by assumption) (bn.mono (Below.size (by assumption))))))
                all_goals
                  go_split_ands
                  go_wp2_with fail
                  go_roundg (gk - 1)
                  case measure => omega
                  case rel => exact ⟨k + 1, by go_num, by omega, by omega, HW.out.trans (Below.mono (by assumption) HW.out.size)⟩
            ·
              obtain ⟨p, hp⟩ : ∃ p, flT c.pf model (j : Int) loc = p := ⟨_, rfl⟩
              have HF := Lib.hid (HFL.out (j : Int) wr Br.out)
              have HY := Lib.hid (HFE.out (j : Int))
              rw [hp] at HF HY
              clear hp
              obtain ⟨rc0, rc1, rc2, rc3, rc4, rc5, rc6, rc7, rc8, rc9, rc10, rc11, rcl, dc0, dc1, dc2, dc3, dcl⟩ : wr.cell? ⟨w.heap.size, 0, none⟩ = some (.int .i64 md) ∧ wr.cell? ⟨w.heap.size, 1, none⟩ = some (.slice ai nm ci) ∧ wr.cell? ⟨w.heap.size, 2, none⟩ = some (.slice ar nb cr) ∧ wr.cell? ⟨w.heap.size, 3, none⟩ = some (.slice ac nc cc) ∧ wr.cell? ⟨w.heap.size, 4, none⟩ = some (.slice ap nb cp) ∧ wr.cell? ⟨w.heap.size, 5, none⟩ = some (.slice aq nb cq) ∧ wr.cell? ⟨w.heap.size, 6, none⟩ = some (.slice am nm cm) ∧ wr.cell? ⟨w.heap.size, 7, none⟩ = some (.slice ab nb cb) ∧ wr.cell? ⟨w.heap.size, 8, none⟩ = some (.int .i64 model) ∧ wr.cell? ⟨w.heap.size, 9, none⟩ = some (.int .i64 room) ∧ wr.cell? ⟨w.heap.size, 10, none⟩ = some (.int .i64 t) ∧ wr.cell? ⟨w.heap.size, 11, none⟩ = some (.int .i64 loc) ∧ w.heap.size < wr.heap.size ∧ wr.cell? ⟨w3.heap.size, 0, none⟩ = some (.slice da0 dv.pc.length dk0) ∧ wr.cell? ⟨w3.heap.size, 1, none⟩ = some (.slice da1 dv.regs.length dk1) ∧ wr.cell? ⟨w3.heap.size, 2, none⟩ = some (.slice da2 dv.mem.length dk2) ∧ wr.cell? ⟨w3.heap.size, 3, none⟩ = some (.slice da3 dv.buf.length dk3) ∧ w3.heap.size < wr.heap.size := ⟨Kr.out.cell 0, Kr.out.cell 1, Kr.out.cell 2, Kr.out.cell 3, Kr.out.cell 4, Kr.out.cell 5, Kr.out.cell 6, Kr.out.cell 7, Kr.out.cell 8, Kr.out.cell 9, Kr.out.cell 10, Kr.out.cell 11, Kr.out.lt, Kd.out.cell 0, Kd.out.cell 1, Kd.out.cell 2, Kd.out.cell 3, Kd.out.lt⟩
              go_wp2_with fail
              clear rc0 rc1 rc2 rc3 rc4 rc5 rc6 rc7 rc8 rc9 rc10 rc11 rcl dc0 dc1 dc2 dc3 dcl
              refine HF.out.mono ?_
              rintro e v1 ⟨fv, xp, xr, xm, xb, rfl, oc, pf, b⟩
              clear HF
              replace Kr := Lib.hid (Kr.out.below b)
              replace Kd := Lib.hid (Kd.out.below b)
              replace Dd := Lib.hid (Dd.out.below b)
              replace Br := Lib.hid (Br.out.trans (b.mono Br.out.size))
              replace HB := Lib.hid (HB.out.trans (b.mono HB.out.size))
              replace B4 := Lib.hid (B4.out.trans (b.mono B4.out.size))
              clear b
              have HFR : Hid (RightP u fv.pf model room) := Lib.hid (by rw [pf]; exact HFP.out (j : Int))
              have hpc : fv.pc = c.pc := by have h1 : fv.pf.pc = c.pf.pc := by rw [pf]; exact flush_pc
                                            exact h1
              have HPQ := Lib.hid hpc
              clear pf hpc
              obtain ⟨fa0, fk0, rfl, _⟩ := own_shape' oc.p
              obtain ⟨fa1, fk1, rfl, _⟩ := own_shape' oc.r.h
              obtain ⟨fa2, fk2, rfl, _⟩ := own_shape' oc.m
              obtain ⟨fa3, fk3, rfl, _⟩ := own_shape' oc.b.h
              have Df := Lib.hid oc.data
              clear oc
              have Kf := Lib.hid (Bk.new v1 29 #[.slice fa0 fv.pc.length fk0, .slice fa1 fv.regs.length fk1, .slice fa2 fv.mem.length fk2, .slice fa3 fv.buf.length fk3])
              have BW : Hid (Below v1.heap.size v1 (World.alloc v1 (.cells #[.slice fa0 fv.pc.length fk0, .slice fa1 fv.regs.length fk1, .slice fa2 fv.mem.length fk2, .slice fa3 fv.buf.length fk3] 29))) := Lib.hid (bal (Below.refl _ _) _)
              obtain ⟨v2, hv2⟩ : ∃ z, World.alloc v1 (.cells #[.slice fa0 fv.pc.length fk0, .slice fa1 fv.regs.length fk1, .slice fa2 fv.mem.length fk2, .slice fa3 fv.buf.length fk3] 29) = z := ⟨_, rfl⟩
              rw [hv2] at Kf BW
              replace Df := Lib.hid (Df.out.below BW.out)
              replace Kr := Lib.hid (Kr.out.below BW.out)
              replace Kd := Lib.hid (Kd.out.below BW.out)
              replace Dd := Lib.hid (Dd.out.below BW.out)
              replace Br := Lib.hid (Br.out.trans (BW.out.mono Br.out.size))
              replace HB := Lib.hid (HB.out.trans (BW.out.mono HB.out.size))
              replace B4 := Lib.hid (B4.out.trans (BW.out.mono B4.out.size))
              clear BW
              have hpp : (p != p) = false := by simp
              obtain ⟨rc0, rc1, rc2, rc3, rc4, rc5, rc6, rc7, rc8, rc9, rc10, rc11, rcl, dc0, dc1, dc2, dc3, dcl, fc0, fc1, fc2, fc3, fcl⟩ : v2.cell? ⟨w.heap.size, 0, none⟩ = some (.int .i64 md) ∧ v2.cell? ⟨w.heap.size, 1, none⟩ = some (.slice ai nm ci) ∧ v2.cell? ⟨w.heap.size, 2, none⟩ = some (.slice ar nb cr) ∧ v2.cell? ⟨w.heap.size, 3, none⟩ = some (.slice ac nc cc) ∧ v2.cell? ⟨w.heap.size, 4, none⟩ = some (.slice ap nb cp) ∧ v2.cell? ⟨w.heap.size, 5, none⟩ = some (.slice aq nb cq) ∧ v2.cell? ⟨w.heap.size, 6, none⟩ = some (.slice am nm cm) ∧ v2.cell? ⟨w.heap.size, 7, none⟩ = some (.slice ab nb cb) ∧ v2.cell? ⟨w.heap.size, 8, none⟩ = some (.int .i64 model) ∧ v2.cell? ⟨w.heap.size, 9, none⟩ = some (.int .i64 room) ∧ v2.cell? ⟨w.heap.size, 10, none⟩ = some (.int .i64 t) ∧ v2.cell? ⟨w.heap.size, 11, none⟩ = some (.int .i64 loc) ∧ w.heap.size < v2.heap.size ∧ v2.cell? ⟨w3.heap.size, 0, none⟩ = some (.slice da0 dv.pc.length dk0) ∧ v2.cell? ⟨w3.heap.size, 1, none⟩ = some (.slice da1 dv.regs.length dk1) ∧ v2.cell? ⟨w3.heap.size, 2, none⟩ = some (.slice da2 dv.mem.length dk2) ∧ v2.cell? ⟨w3.heap.size, 3, none⟩ = some (.slice da3 dv.buf.length dk3) ∧ w3.heap.size < v2.heap.size ∧ v2.cell? ⟨v1.heap.size, 0, none⟩ = some (.slice fa0 fv.pc.length fk0) ∧ v2.cell? ⟨v1.heap.size, 1, none⟩ = some (.slice fa1 fv.regs.length fk1) ∧ v2.cell? ⟨v1.heap.size, 2, none⟩ = some (.slice fa2 fv.mem.length fk2) ∧ v2.cell? ⟨v1.heap.size, 3, none⟩ = some (.slice fa3 fv.buf.length fk3) ∧ v1.heap.size < v2.heap.size := ⟨Kr.out.cell 0, Kr.out.cell 1, Kr.out.cell 2, Kr.out.cell 3, Kr.out.cell 4, Kr.out.cell 5, Kr.out.cell 6, Kr.out.cell 7, Kr.out.cell 8, Kr.out.cell 9, Kr.out.cell 10, Kr.out.cell 11, Kr.out.lt, Kd.out.cell 0, Kd.out.cell 1, Kd.out.cell 2, Kd.out.cell 3, Kd.out.lt, Kf.out.cell 0, Kf.out.cell 1, Kf.out.cell 2, Kf.out.cell 3, Kf.out.lt⟩
              go_wp2_with fail
              clear rc0 rc1 rc2 rc3 rc4 rc5 rc6 rc7 rc8 rc9 rc10 rc11 rcl dc0 dc1 dc2 dc3 dcl fc0 fc1 fc2 fc3 fcl
              refine (HY.out v2 Br.out).mono ?_
              rintro e v3 ⟨rfl, b⟩
              replace Kr := Lib.hid (Kr.out.below b)
              replace Kd := Lib.hid (Kd.out.below b)
              replace Kf := Lib.hid (Kf.out.below b)
              replace Dd := Lib.hid (Dd.out.below b)
              replace Df := Lib.hid (Df.out.below b)
              replace Br := Lib.hid (Br.out.trans (b.mono Br.out.size))
              replace HB := Lib.hid (HB.out.trans (b.mono HB.out.size))
              replace B4 := Lib.hid (B4.out.trans (b.mono B4.out.size))
              clear b
              have HRI2 := Lib.hid (HRC.out fv _ _ _ _ v3 Br.out Df.out HFR.out)
              obtain ⟨rc0, rc1, rc2, rc3, rc4, rc5, rc6, rc7, rc8, rc9, rc10, rc11, rcl, dc0, dc1, dc2, dc3, dcl, fc0, fc1, fc2, fc3, fcl⟩ : v3.cell? ⟨w.heap.size, 0, none⟩ = some (.int .i64 md) ∧ v3.cell? ⟨w.heap.size, 1, none⟩ = some (.slice ai nm ci) ∧ v3.cell? ⟨w.heap.size, 2, none⟩ = some (.slice ar nb cr) ∧ v3.cell? ⟨w.heap.size, 3, none⟩ = some (.slice ac nc cc) ∧ v3.cell? ⟨w.heap.size, 4, none⟩ = some (.slice ap nb cp) ∧ v3.cell? ⟨w.heap.size, 5, none⟩ = some (.slice aq nb cq) ∧ v3.cell? ⟨w.heap.size, 6, none⟩ = some (.slice am nm cm) ∧ v3.cell? ⟨w.heap.size, 7, none⟩ = some (.slice ab nb cb) ∧ v3.cell? ⟨w.heap.size, 8, none⟩ = some (.int .i64 model) ∧ v3.cell? ⟨w.heap.size, 9, none⟩ = some (.int .i64 room) ∧ v3.cell? ⟨w.heap.size, 10, none⟩ = some (.int .i64 t) ∧ v3.cell? ⟨w.heap.size, 11, none⟩ = some (.int .i64 loc) ∧ w.heap.size < v3.heap.size ∧ v3.cell? ⟨w3.heap.size, 0, none⟩ = some (.slice da0 dv.pc.length dk0) ∧ v3.cell? ⟨w3.heap.size, 1, none⟩ = some (.slice da1 dv.regs.length dk1) ∧ v3.cell? ⟨w3.heap.size, 2, none⟩ = some (.slice da2 dv.mem.length dk2) ∧ v3.cell? ⟨w3.heap.size, 3, none⟩ = some (.slice da3 dv.buf.length dk3) ∧ w3.heap.size < v3.heap.size ∧ v3.cell? ⟨v1.heap.size, 0, none⟩ = some (.slice fa0 fv.pc.length fk0) ∧ v3.cell? ⟨v1.heap.size, 1, none⟩ = some (.slice fa1 fv.regs.length fk1) ∧ v3.cell? ⟨v1.heap.size, 2, none⟩ = some (.slice fa2 fv.mem.length fk2) ∧ v3.cell? ⟨v1.heap.size, 3, none⟩ = some (.slice fa3 fv.buf.length fk3) ∧ v1.heap.size < v3.heap.size := ⟨Kr.out.cell 0, Kr.out.cell 1, Kr.out.cell 2, Kr.out.cell 3, Kr.out.cell 4, Kr.out.cell 5, Kr.out.cell 6, Kr.out.cell 7, Kr.out.cell 8, Kr.out.cell 9, Kr.out.cell 10, Kr.out.cell 11, Kr.out.lt, Kd.out.cell 0, Kd.out.cell 1, Kd.out.cell 2, Kd.out.cell 3, Kd.out.lt, Kf.out.cell 0, Kf.out.cell 1, Kf.out.cell 2, Kf.out.cell 3, Kf.out.lt⟩
              go_wp2_with fail
              clear rc0 rc1 rc2 rc3 rc4 rc5 rc6 rc7 rc8 rc9 rc10 rc11 rcl dc0 dc1 dc2 dc3 dcl fc0 fc1 fc2 fc3 fcl
              refine (HRI2.out).mono ?_
              rintro e v4 ⟨rfl, b⟩
              replace Kr := Lib.hid (Kr.out.below b)
              replace Kd := Lib.hid (Kd.out.below b)
              replace Kf := Lib.hid (Kf.out.below b)
              replace Dd := Lib.hid (Dd.out.below b)
              replace Df := Lib.hid (Df.out.below b)
              replace Br := Lib.hid (Br.out.trans (b.mono Br.out.size))
              replace HB := Lib.hid (HB.out.trans (b.mono HB.out.size))
              replace B4 := Lib.hid (B4.out.trans (b.mono B4.out.size))
              clear b
              have HIP := Lib.hid (ints_gen fv.pc c.pc _ _ v4 Df.out.p (HPC.out v4 Br.out) (by rw [HPQ.out, hnp.out]; omega) true (by rw [HPQ.out]; simp))
              clear HRI2
              obtain ⟨rc0, rc1, rc2, rc3, rc4, rc5, rc6, rc7, rc8, rc9, rc10, rc11, rcl, dc0, dc1, dc2, dc3, dcl, fc0, fc1, fc2, fc3, fcl⟩ : v4.cell? ⟨w.heap.size, 0, none⟩ = some (.int .i64 md) ∧ v4.cell? ⟨w.heap.size, 1, none⟩ = some (.slice ai nm ci) ∧ v4.cell? ⟨w.heap.size, 2, none⟩ = some (.slice ar nb cr) ∧ v4.cell? ⟨w.heap.size, 3, none⟩ = some (.slice ac nc cc) ∧ v4.cell? ⟨w.heap.size, 4, none⟩ = some (.slice ap nb cp) ∧ v4.cell? ⟨w.heap.size, 5, none⟩ = some (.slice aq nb cq) ∧ v4.cell? ⟨w.heap.size, 6, none⟩ = some (.slice am nm cm) ∧ v4.cell? ⟨w.heap.size, 7, none⟩ = some (.slice ab nb cb) ∧ v4.cell? ⟨w.heap.size, 8, none⟩ = some (.int .i64 model) ∧ v4.cell? ⟨w.heap.size, 9, none⟩ = some (.int .i64 room) ∧ v4.cell? ⟨w.heap.size, 10, none⟩ = some (.int .i64 t) ∧ v4.cell? ⟨w.heap.size, 11, none⟩ = some (.int .i64 loc) ∧ w.heap.size < v4.heap.size ∧ v4.cell? ⟨w3.heap.size, 0, none⟩ = some (.slice da0 dv.pc.length dk0) ∧ v4.cell? ⟨w3.heap.size, 1, none⟩ = some (.slice da1 dv.regs.length dk1) ∧ v4.cell? ⟨w3.heap.size, 2, none⟩ = some (.slice da2 dv.mem.length dk2) ∧ v4.cell? ⟨w3.heap.size, 3, none⟩ = some (.slice da3 dv.buf.length dk3) ∧ w3.heap.size < v4.heap.size ∧ v4.cell? ⟨v1.heap.size, 0, none⟩ = some (.slice fa0 fv.pc.length fk0) ∧ v4.cell? ⟨v1.heap.size, 1, none⟩ = some (.slice fa1 fv.regs.length fk1) ∧ v4.cell? ⟨v1.heap.size, 2, none⟩ = some (.slice fa2 fv.mem.length fk2) ∧ v4.cell? ⟨v1.heap.size, 3, none⟩ = some (.slice fa3 fv.buf.length fk3) ∧ v1.heap.size < v4.heap.size := ⟨Kr.out.cell 0, Kr.out.cell 1, Kr.out.cell 2, Kr.out.cell 3, Kr.out.cell 4, Kr.out.cell 5, Kr.out.cell 6, Kr.out.cell 7, Kr.out.cell 8, Kr.out.cell 9, Kr.out.cell 10, Kr.out.cell 11, Kr.out.lt, Kd.out.cell 0, Kd.out.cell 1, Kd.out.cell 2, Kd.out.cell 3, Kd.out.lt, Kf.out.cell 0, Kf.out.cell 1, Kf.out.cell 2, Kf.out.cell 3, Kf.out.lt⟩
              go_wp2_with fail
              clear rc0 rc1 rc2 rc3 rc4 rc5 rc6 rc7 rc8 rc9 rc10 rc11 rcl dc0 dc1 dc2 dc3 dcl fc0 fc1 fc2 fc3 fcl
              refine (HIP.out).mono ?_
              rintro e v5 ⟨rfl, b⟩
              replace Kr := Lib.hid (Kr.out.below b)
              replace Kd := Lib.hid (Kd.out.below b)
              replace Kf := Lib.hid (Kf.out.below b)
              replace Dd := Lib.hid (Dd.out.below b)
              replace Df := Lib.hid (Df.out.below b)
              replace Br := Lib.hid (Br.out.trans (b.mono Br.out.size))
              replace HB := Lib.hid (HB.out.trans (b.mono HB.out.size))
              replace B4 := Lib.hid (B4.out.trans (b.mono B4.out.size))
              clear b
              go_wp2_with fail
              go_roundg (ga - 1)
              case measure => omega
              case rel => exact ⟨j + 1, by go_num, by omega, by omega, HB.out⟩
      ·
        obtain ⟨rc0, rc1, rc2, rc3, rc4, rc5, rc6, rc7, rc8, rc9, rc10, rc11, rcl⟩ : wr.cell? ⟨w.heap.size, 0, none⟩ = some (.int .i64 md) ∧ wr.cell? ⟨w.heap.size, 1, none⟩ = some (.slice ai nm ci) ∧ wr.cell? ⟨w.heap.size, 2, none⟩ = some (.slice ar nb cr) ∧ wr.cell? ⟨w.heap.size, 3, none⟩ = some (.slice ac nc cc) ∧ wr.cell? ⟨w.heap.size, 4, none⟩ = some (.slice ap nb cp) ∧ wr.cell? ⟨w.heap.size, 5, none⟩ = some (.slice aq nb cq) ∧ wr.cell? ⟨w.heap.size, 6, none⟩ = some (.slice am nm cm) ∧ wr.cell? ⟨w.heap.size, 7, none⟩ = some (.slice ab nb cb) ∧ wr.cell? ⟨w.heap.size, 8, none⟩ = some (.int .i64 model) ∧ wr.cell? ⟨w.heap.size, 9, none⟩ = some (.int .i64 room) ∧ wr.cell? ⟨w.heap.size, 10, none⟩ = some (.int .i64 t) ∧ wr.cell? ⟨w.heap.size, 11, none⟩ = some (.int .i64 loc) ∧ w.heap.size < wr.heap.size := ⟨Kr.out.cell 0, Kr.out.cell 1, Kr.out.cell 2, Kr.out.cell 3, Kr.out.cell 4, Kr.out.cell 5, Kr.out.cell 6, Kr.out.cell 7, Kr.out.cell 8, Kr.out.cell 9, Kr.out.cell 10, Kr.out.cell 11, Kr.out.lt⟩
        go_wp2_with fail
        clear rc0 rc1 rc2 rc3 rc4 rc5 rc6 rc7 rc8 rc9 rc10 rc11 rcl
        refine (HKN.out wr).mono ?_
        rintro e w3 ⟨rfl, b⟩
        go_wp2
        go_ret
        exact ⟨ret_bool rfl, Br.out.trans (b.mono Br.out.size)⟩

end Go.Proofs.Ytobmbkgeafbamaa
