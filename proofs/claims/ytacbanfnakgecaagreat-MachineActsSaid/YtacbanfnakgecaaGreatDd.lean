/- MachineActs: its walk. -/
import Derived.Test.YtacbanfnakgecaaGreatCf
import Derived.Test.YtacbanfnakgecaaGreatDc
import Derived.Test.YtacbanfnakgecaaGreatUm
import Derived.Test.YtacbanfnakgecaaGreatUo
namespace Go.Proofs.YtacbanfnakgecaaGreat
set_option linter.unusedSimpArgs false
set_option linter.unusedVariables false
open Go.RowKit
theorem case11_right {u : Un} {c : Cf} {model room : Int} (h : (lightU u && (lightC c && rightC u c model room)) = true) : lightU u = true ∧ lightC c = true ∧ RightP u c.pf model room := by
  rw [Bool.and_eq_true, Bool.and_eq_true] at h
  exact ⟨h.1, h.2.1, (rightC_iff u c model room).1 h.2.2⟩
theorem mact_own (u : Un) (c o : Cf) (ho : o.pf = c.pf) (model room a : Int) (vi vr vc xp xr xm xb : Value) (w : World) (hu : UnD w vi vr vc u) (hc : CfD w xp xr xm xb o) (hus : ∀ k pc, (iiAt u k pc).x.e.length ≤ 100000 ∧ (iiAt u k pc).x.f.length ≤ 100000) (hR : RightP u c.pf model room) :
    Calls Tryz.prog 15 #[.agg #[.int .i64 u.mod, vi, vr, vc], .agg #[xp, xr, xm, xb], .int .i64 model, .int .i64 room, .int .i64 a] w (StepIs (enA u c.pf model room a) (acA u c.pf model room a) w) := by
  have h := mact_any u o model room a vi vr vc xp xr xm xb w hu hc hus (by rw [ho]; exact hR)
  rw [ho] at h
  exact h
attribute [local go_sem ↓] Go.wp_at_zero Go.wp_at_succ
set_option maxRecDepth 100000 in
set_option maxHeartbeats 32000000 in
theorem macts_in (hkn : ∀ W : World, Calls Tryz.prog 14 #[] W fun e w' => e = .returned (.bool true) ∧ Below W.heap.size W w') (u : Un) (c : Cf) (model room t : Int) (vi vr vc xp xr xm xb : Value) (w : World) (hu : UnD w vi vr vc u) (hc : CfD w xp xr xm xb c) :
    Calls Tryz.prog 4 #[.agg #[.int .i64 u.mod, vi, vr, vc, xp, xr, xm, xb, .int .i64 model, .int .i64 room, .int .i64 t]] w fun e w' => e = .returned (.bool true) ∧ Below w.heap.size w w' := by
  have HKN := Lib.hid hkn
  have HU := Lib.hid hu
  have HC := Lib.hid hc
  obtain ⟨ai, ci, rfl⟩ := hu.i.shape0
  obtain ⟨ar, cr, rfl⟩ := hu.r.shape0
  obtain ⟨ac, cc, rfl⟩ := hu.c.shape0
  obtain ⟨ap, cp, rfl⟩ := hc.p.shape0
  obtain ⟨aq, cq, rfl⟩ := hc.r.shape0
  obtain ⟨am, cm, rfl⟩ := hc.m.shape0
  obtain ⟨ab, cb, rfl⟩ := hc.b.shape0
  clear hu hc hkn
  have HRT := Lib.hid (fun (W : World) (h : Below w.heap.size w W) => right11_any u c model room t _ _ _ _ _ _ _ W (HU.out.below h) (HC.out.below h) _ rfl)
  obtain ⟨q, hq⟩ : ∃ q, enA u c.pf model room t = q := ⟨_, rfl⟩
  obtain ⟨dq, hdq⟩ : ∃ q, deadA u c model room = q := ⟨_, rfl⟩
  have HCP := Lib.hid (fun (hr : (lightU u && (lightC c && rightC u c model room)) = true) (W : World) (h : Below w.heap.size w W) => rcopy_any c _ _ _ _ W (HC.out.below h) (short_right (case11_right hr).2.2))
  have HAO := Lib.hid (fun (hr : (lightU u && (lightC c && rightC u c model room)) = true) (o : Cf) (ho : o.pf = c.pf) (yp yr ym yb : Value) (W : World) (h : Below w.heap.size w W) (hd : CfD W yp yr ym yb o) => mact_own u c o ho model room t _ _ _ yp yr ym yb W (HU.out.below h) hd (usL (case11_right hr).1) (case11_right hr).2.2)
  have HAR := Lib.hid (fun (hr : (lightU u && (lightC c && rightC u c model room)) = true) (W : World) (h : Below w.heap.size w W) => ragact_any u c model room t _ _ _ _ _ _ _ W (HU.out.below h) (HC.out.below h) (lightU_short (case11_right hr).1) (usL (case11_right hr).1) (case11_right hr).2.2)
  have HEN := Lib.hid (fun (hr : (lightU u && (lightC c && rightC u c model room)) = true) (W : World) (h : Below w.heap.size w W) => menabled_any u c model room t _ _ _ _ _ _ _ W (HU.out.below h) (HC.out.below h) (usL (case11_right hr).1) (case11_right hr).2.2 q hq)
  have HMV := Lib.hid (fun (hr : (lightU u && (lightC c && rightC u c model room)) = true) (W : World) (h : Below w.heap.size w W) => mmoves_any u c model room _ _ _ _ _ _ _ W (HU.out.below h) (HC.out.below h) (usL (case11_right hr).1) (case11_right hr).2.2)
  have HMR := Lib.hid (fun (hr : (lightU u && (lightC c && rightC u c model room)) = true) (W : World) (h : Below w.heap.size w W) => rmoves_any u c model room _ _ _ _ _ _ _ W (HU.out.below h) (HC.out.below h) (lightU_short (case11_right hr).1) (usL (case11_right hr).1) (case11_right hr).2.2)
  have HDD := Lib.hid (fun (hr : (lightU u && (lightC c && rightC u c model room)) = true) (W : World) (h : Below w.heap.size w W) => mdead_any u c model room _ _ _ _ _ _ _ W (HU.out.below h) (HC.out.below h) (usL (case11_right hr).1) (case11_right hr).2.2 dq hdq)
  have HDR := Lib.hid (fun (hr : (lightU u && (lightC c && rightC u c model room)) = true) (W : World) (h : Below w.heap.size w W) => rdead_any u c model room _ _ _ _ _ _ _ W (HU.out.below h) (HC.out.below h) (lightU_short (case11_right hr).1) (usL (case11_right hr).1) (case11_right hr).2.2 dq hdq)
  have HSO := Lib.hid (fun (hr : (lightU u && (lightC c && rightC u c model room)) = true) (o : Cf) (ho : o.pf = c.pf) (yp yr ym yb : Value) (W : World) (h : Below w.heap.size w W) (hd : CfD W yp yr ym yb o) => csame_any o c yp yr ym yb _ _ _ _ W hd (HC.out.below h) (short_pf ho (short_right (case11_right hr).2.2)) true (by rw [sameC_pf]; exact decide_eq_true ho))
  have HSA := Lib.hid (fun (hr : (lightU u && (lightC c && rightC u c model room)) = true) (a : Cf) (ha : a.pf = acA u c.pf model room t) => (show ShortC a from short_right (u := u) (model := model) (room := room) (by rw [ha]; exact acG_right (case11_right hr).2.2 _)))
  have HLN := Lib.hid (fun (hr : (lightU u && (lightC c && rightC u c model room)) = true) => (show (mvA u c.pf model room).length ≤ 100000 from Nat.le_trans (mvG_len _ _) (Nat.le_trans (agN_le (case11_right hr).2.2.ru model) (by omega))))
  clear HU HC
  rw [hq] at HAO HAR
  clear hq hdq
  generalize acA u c.pf model room t = P at HAO HAR HSA
  generalize mvA u c.pf model room = ml at HMV HMR HLN
  generalize hni : u.init.length = ni at HRT HCP HAO HAR HEN HMV HMR HDD HDR HSO ⊢
  generalize hnr : u.regs.length = nr at HRT HCP HAO HAR HEN HMV HMR HDD HDR HSO ⊢
  generalize hnc : u.code.length = nc at HRT HCP HAO HAR HEN HMV HMR HDD HDR HSO ⊢
  generalize hnp : c.pc.length = np at HRT HCP HAO HAR HEN HMV HMR HDD HDR HSO ⊢
  generalize hnq : c.regs.length = nq at HRT HCP HAO HAR HEN HMV HMR HDD HDR HSO ⊢
  generalize hnm : c.mem.length = nm at HRT HCP HAO HAR HEN HMV HMR HDD HDR HSO ⊢
  generalize hnb : c.buf.length = nb at HRT HCP HAO HAR HEN HMV HMR HDD HDR HSO ⊢
  generalize hmd : u.mod = md at HRT HCP HAO HAR HEN HMV HMR HDD HDR HSO ⊢
  clear hni hnr hnc hnp hnq hnm hnb hmd
  obtain ⟨r, hr⟩ : ∃ q, (lightU u && (lightC c && rightC u c model room)) = q := ⟨_, rfl⟩
  rw [hr] at HRT HSA HLN HCP HAO HAR HEN HMV HMR HDD HDR HSO
  clear hr
  have Kc := Lib.hid (Bk.new w 40 #[.int .i64 md, .slice ai ni ci, .slice ar nr cr, .slice ac nc cc, .slice ap np cp, .slice aq nq cq, .slice am nm cm, .slice ab nb cb, .int .i64 model, .int .i64 room, .int .i64 t])
  have B : Hid (Below w.heap.size w (World.alloc w (.cells #[.int .i64 md, .slice ai ni ci, .slice ar nr cr, .slice ac nc cc, .slice ap np cp, .slice aq nq cq, .slice am nm cm, .slice ab nb cb, .int .i64 model, .int .i64 room, .int .i64 t] 40))) := Lib.hid (bal (Below.refl _ _) _)
  go_enter Tryz.func4, Tryz.ntmps4
  go_wp2_with fail
  generalize World.alloc w (.cells #[.int .i64 md, .slice ai ni ci, .slice ar nr cr, .slice ac nc cc, .slice ap np cp, .slice aq nq cq, .slice am nm cm, .slice ab nb cb, .int .i64 model, .int .i64 room, .int .i64 t] 40) = w1 at Kc B ⊢
  refine (HRT.out w1 B.out).mono ?_
  rintro e w2 ⟨rfl, b⟩
  replace Kc := Lib.hid (Kc.out.below b)
  replace B := Lib.hid (B.out.trans (b.mono B.out.size))
  clear b HRT
  cases r with
  | false =>
    go_wp2_with fail
    refine (HKN.out w2).mono ?_
    rintro e w3 ⟨rfl, b⟩
    replace Kc := Lib.hid (Kc.out.below b)
    replace B := Lib.hid (B.out.trans (b.mono B.out.size))
    clear b
    go_wp2
    go_ret
    exact ⟨ret_bool rfl, B.out⟩
  | true =>
    replace HSA := Lib.hid (HSA.out rfl)
    replace HLN := Lib.hid (HLN.out rfl)
    replace HCP := Lib.hid (HCP.out rfl)
    replace HAO := Lib.hid (HAO.out rfl)
    replace HAR := Lib.hid (HAR.out rfl)
    replace HEN := Lib.hid (HEN.out rfl)
    replace HMV := Lib.hid (HMV.out rfl)
    replace HMR := Lib.hid (HMR.out rfl)
    replace HDD := Lib.hid (HDD.out rfl)
    replace HDR := Lib.hid (HDR.out rfl)
    replace HSO := Lib.hid (HSO.out rfl)
    obtain ⟨cc0, cc1, cc2, cc3, cc4, cc5, cc6, cc7, cc8, cc9, cc10, ccl⟩ : w2.cell? ⟨w.heap.size, 0, none⟩ = some (.int .i64 md) ∧ w2.cell? ⟨w.heap.size, 1, none⟩ = some (.slice ai ni ci) ∧ w2.cell? ⟨w.heap.size, 2, none⟩ = some (.slice ar nr cr) ∧ w2.cell? ⟨w.heap.size, 3, none⟩ = some (.slice ac nc cc) ∧ w2.cell? ⟨w.heap.size, 4, none⟩ = some (.slice ap np cp) ∧ w2.cell? ⟨w.heap.size, 5, none⟩ = some (.slice aq nq cq) ∧ w2.cell? ⟨w.heap.size, 6, none⟩ = some (.slice am nm cm) ∧ w2.cell? ⟨w.heap.size, 7, none⟩ = some (.slice ab nb cb) ∧ w2.cell? ⟨w.heap.size, 8, none⟩ = some (.int .i64 model) ∧ w2.cell? ⟨w.heap.size, 9, none⟩ = some (.int .i64 room) ∧ w2.cell? ⟨w.heap.size, 10, none⟩ = some (.int .i64 t) ∧ w.heap.size < w2.heap.size := ⟨Kc.out.cell 0, Kc.out.cell 1, Kc.out.cell 2, Kc.out.cell 3, Kc.out.cell 4, Kc.out.cell 5, Kc.out.cell 6, Kc.out.cell 7, Kc.out.cell 8, Kc.out.cell 9, Kc.out.cell 10, Kc.out.lt⟩
    go_wp2_with fail
    clear cc0 cc1 cc2 cc3 cc4 cc5 cc6 cc7 cc8 cc9 cc10 ccl
    refine (HCP.out w2 B.out).mono ?_
    rintro e w3 ⟨ov, yp, yr, ym, yb, rfl, oc, po, b, _⟩
    have Po := Lib.hid po
    clear po
    replace Kc := Lib.hid (Kc.out.below b)
    replace B := Lib.hid (B.out.trans (b.mono B.out.size))
    clear b HCP
    obtain ⟨oa0, ok0, rfl, _⟩ := own_shape' oc.p
    obtain ⟨oa1, ok1, rfl, _⟩ := own_shape' oc.r.h
    obtain ⟨oa2, ok2, rfl, _⟩ := own_shape' oc.m
    obtain ⟨oa3, ok3, rfl, _⟩ := own_shape' oc.b.h
    obtain ⟨on0, hon0⟩ : ∃ z, z = ov.pc.length := ⟨_, rfl⟩
    obtain ⟨on1, hon1⟩ : ∃ z, z = ov.regs.length := ⟨_, rfl⟩
    obtain ⟨on2, hon2⟩ : ∃ z, z = ov.mem.length := ⟨_, rfl⟩
    obtain ⟨on3, hon3⟩ : ∃ z, z = ov.buf.length := ⟨_, rfl⟩
    rw [← hon0, ← hon1, ← hon2, ← hon3] at oc ⊢
    clear hon0 hon1 hon2 hon3
    have Do := Lib.hid oc.data
    clear oc
    have Ko := Lib.hid (Bk.new w3 29 #[.slice oa0 on0 ok0, .slice oa1 on1 ok1, .slice oa2 on2 ok2, .slice oa3 on3 ok3])
    have BW : Hid (Below w3.heap.size w3 (World.alloc w3 (.cells #[.slice oa0 on0 ok0, .slice oa1 on1 ok1, .slice oa2 on2 ok2, .slice oa3 on3 ok3] 29))) := Lib.hid (bal (Below.refl _ _) _)
    obtain ⟨w4, hw4⟩ : ∃ z, World.alloc w3 (.cells #[.slice oa0 on0 ok0, .slice oa1 on1 ok1, .slice oa2 on2 ok2, .slice oa3 on3 ok3] 29) = z := ⟨_, rfl⟩
    rw [hw4] at Ko BW
    replace Do := Lib.hid (Do.out.below BW.out)
    replace Kc := Lib.hid (Kc.out.below BW.out)
    replace B := Lib.hid (B.out.trans (BW.out.mono B.out.size))
    clear BW
    obtain ⟨cc0, cc1, cc2, cc3, cc4, cc5, cc6, cc7, cc8, cc9, cc10, ccl, oc0, oc1, oc2, oc3, ocl⟩ : w4.cell? ⟨w.heap.size, 0, none⟩ = some (.int .i64 md) ∧ w4.cell? ⟨w.heap.size, 1, none⟩ = some (.slice ai ni ci) ∧ w4.cell? ⟨w.heap.size, 2, none⟩ = some (.slice ar nr cr) ∧ w4.cell? ⟨w.heap.size, 3, none⟩ = some (.slice ac nc cc) ∧ w4.cell? ⟨w.heap.size, 4, none⟩ = some (.slice ap np cp) ∧ w4.cell? ⟨w.heap.size, 5, none⟩ = some (.slice aq nq cq) ∧ w4.cell? ⟨w.heap.size, 6, none⟩ = some (.slice am nm cm) ∧ w4.cell? ⟨w.heap.size, 7, none⟩ = some (.slice ab nb cb) ∧ w4.cell? ⟨w.heap.size, 8, none⟩ = some (.int .i64 model) ∧ w4.cell? ⟨w.heap.size, 9, none⟩ = some (.int .i64 room) ∧ w4.cell? ⟨w.heap.size, 10, none⟩ = some (.int .i64 t) ∧ w.heap.size < w4.heap.size ∧ w4.cell? ⟨w3.heap.size, 0, none⟩ = some (.slice oa0 on0 ok0) ∧ w4.cell? ⟨w3.heap.size, 1, none⟩ = some (.slice oa1 on1 ok1) ∧ w4.cell? ⟨w3.heap.size, 2, none⟩ = some (.slice oa2 on2 ok2) ∧ w4.cell? ⟨w3.heap.size, 3, none⟩ = some (.slice oa3 on3 ok3) ∧ w3.heap.size < w4.heap.size := ⟨Kc.out.cell 0, Kc.out.cell 1, Kc.out.cell 2, Kc.out.cell 3, Kc.out.cell 4, Kc.out.cell 5, Kc.out.cell 6, Kc.out.cell 7, Kc.out.cell 8, Kc.out.cell 9, Kc.out.cell 10, Kc.out.lt, Ko.out.cell 0, Ko.out.cell 1, Ko.out.cell 2, Ko.out.cell 3, Ko.out.lt⟩
    go_wp2_with fail
    clear cc0 cc1 cc2 cc3 cc4 cc5 cc6 cc7 cc8 cc9 cc10 ccl oc0 oc1 oc2 oc3 ocl
    refine (HAO.out ov Po.out _ _ _ _ w4 B.out Do.out).mono ?_
    rintro e w5 ⟨av, yp, yr, ym, yb, rfl, oc, pa, b⟩
    have Pa := Lib.hid pa
    clear pa
    replace Kc := Lib.hid (Kc.out.below b)
    replace Ko := Lib.hid (Ko.out.below b)
    replace Do := Lib.hid (Do.out.below b)
    replace B := Lib.hid (B.out.trans (b.mono B.out.size))
    clear b HAO
    obtain ⟨aa0, ak0, rfl, _⟩ := own_shape' oc.p
    obtain ⟨aa1, ak1, rfl, _⟩ := own_shape' oc.r.h
    obtain ⟨aa2, ak2, rfl, _⟩ := own_shape' oc.m
    obtain ⟨aa3, ak3, rfl, _⟩ := own_shape' oc.b.h
    obtain ⟨an0, han0⟩ : ∃ z, z = av.pc.length := ⟨_, rfl⟩
    obtain ⟨an1, han1⟩ : ∃ z, z = av.regs.length := ⟨_, rfl⟩
    obtain ⟨an2, han2⟩ : ∃ z, z = av.mem.length := ⟨_, rfl⟩
    obtain ⟨an3, han3⟩ : ∃ z, z = av.buf.length := ⟨_, rfl⟩
    rw [← han0, ← han1, ← han2, ← han3] at oc ⊢
    clear han0 han1 han2 han3
    have Da := Lib.hid oc.data
    clear oc
    have Ka := Lib.hid (Bk.new w5 29 #[.slice aa0 an0 ak0, .slice aa1 an1 ak1, .slice aa2 an2 ak2, .slice aa3 an3 ak3])
    have BW : Hid (Below w5.heap.size w5 (World.alloc w5 (.cells #[.slice aa0 an0 ak0, .slice aa1 an1 ak1, .slice aa2 an2 ak2, .slice aa3 an3 ak3] 29))) := Lib.hid (bal (Below.refl _ _) _)
    obtain ⟨w6, hw6⟩ : ∃ z, World.alloc w5 (.cells #[.slice aa0 an0 ak0, .slice aa1 an1 ak1, .slice aa2 an2 ak2, .slice aa3 an3 ak3] 29) = z := ⟨_, rfl⟩
    rw [hw6] at Ka BW
    replace Da := Lib.hid (Da.out.below BW.out)
    replace Kc := Lib.hid (Kc.out.below BW.out)
    replace Ko := Lib.hid (Ko.out.below BW.out)
    replace Do := Lib.hid (Do.out.below BW.out)
    replace B := Lib.hid (B.out.trans (BW.out.mono B.out.size))
    clear BW
    have HSH := Lib.hid (HSA.out av Pa.out)
    clear HSA
    obtain ⟨cc0, cc1, cc2, cc3, cc4, cc5, cc6, cc7, cc8, cc9, cc10, ccl, oc0, oc1, oc2, oc3, ocl, ac0, ac1, ac2, ac3, acl⟩ : w6.cell? ⟨w.heap.size, 0, none⟩ = some (.int .i64 md) ∧ w6.cell? ⟨w.heap.size, 1, none⟩ = some (.slice ai ni ci) ∧ w6.cell? ⟨w.heap.size, 2, none⟩ = some (.slice ar nr cr) ∧ w6.cell? ⟨w.heap.size, 3, none⟩ = some (.slice ac nc cc) ∧ w6.cell? ⟨w.heap.size, 4, none⟩ = some (.slice ap np cp) ∧ w6.cell? ⟨w.heap.size, 5, none⟩ = some (.slice aq nq cq) ∧ w6.cell? ⟨w.heap.size, 6, none⟩ = some (.slice am nm cm) ∧ w6.cell? ⟨w.heap.size, 7, none⟩ = some (.slice ab nb cb) ∧ w6.cell? ⟨w.heap.size, 8, none⟩ = some (.int .i64 model) ∧ w6.cell? ⟨w.heap.size, 9, none⟩ = some (.int .i64 room) ∧ w6.cell? ⟨w.heap.size, 10, none⟩ = some (.int .i64 t) ∧ w.heap.size < w6.heap.size ∧ w6.cell? ⟨w3.heap.size, 0, none⟩ = some (.slice oa0 on0 ok0) ∧ w6.cell? ⟨w3.heap.size, 1, none⟩ = some (.slice oa1 on1 ok1) ∧ w6.cell? ⟨w3.heap.size, 2, none⟩ = some (.slice oa2 on2 ok2) ∧ w6.cell? ⟨w3.heap.size, 3, none⟩ = some (.slice oa3 on3 ok3) ∧ w3.heap.size < w6.heap.size ∧ w6.cell? ⟨w5.heap.size, 0, none⟩ = some (.slice aa0 an0 ak0) ∧ w6.cell? ⟨w5.heap.size, 1, none⟩ = some (.slice aa1 an1 ak1) ∧ w6.cell? ⟨w5.heap.size, 2, none⟩ = some (.slice aa2 an2 ak2) ∧ w6.cell? ⟨w5.heap.size, 3, none⟩ = some (.slice aa3 an3 ak3) ∧ w5.heap.size < w6.heap.size := ⟨Kc.out.cell 0, Kc.out.cell 1, Kc.out.cell 2, Kc.out.cell 3, Kc.out.cell 4, Kc.out.cell 5, Kc.out.cell 6, Kc.out.cell 7, Kc.out.cell 8, Kc.out.cell 9, Kc.out.cell 10, Kc.out.lt, Ko.out.cell 0, Ko.out.cell 1, Ko.out.cell 2, Ko.out.cell 3, Ko.out.lt, Ka.out.cell 0, Ka.out.cell 1, Ka.out.cell 2, Ka.out.cell 3, Ka.out.lt⟩
    go_wp2_with fail
    clear cc0 cc1 cc2 cc3 cc4 cc5 cc6 cc7 cc8 cc9 cc10 ccl oc0 oc1 oc2 oc3 ocl ac0 ac1 ac2 ac3 acl
    refine (HAR.out w6 B.out).mono ?_
    rintro e w7 ⟨bv, yp, yr, ym, yb, rfl, oc, pb, b⟩
    have Pb := Lib.hid pb
    clear pb
    replace Kc := Lib.hid (Kc.out.below b)
    replace Ko := Lib.hid (Ko.out.below b)
    replace Ka := Lib.hid (Ka.out.below b)
    replace Do := Lib.hid (Do.out.below b)
    replace Da := Lib.hid (Da.out.below b)
    replace B := Lib.hid (B.out.trans (b.mono B.out.size))
    clear b HAR
    obtain ⟨ba0, bk0, rfl, _⟩ := own_shape' oc.p
    obtain ⟨ba1, bk1, rfl, _⟩ := own_shape' oc.r.h
    obtain ⟨ba2, bk2, rfl, _⟩ := own_shape' oc.m
    obtain ⟨ba3, bk3, rfl, _⟩ := own_shape' oc.b.h
    obtain ⟨bn0, hbn0⟩ : ∃ z, z = bv.pc.length := ⟨_, rfl⟩
    obtain ⟨bn1, hbn1⟩ : ∃ z, z = bv.regs.length := ⟨_, rfl⟩
    obtain ⟨bn2, hbn2⟩ : ∃ z, z = bv.mem.length := ⟨_, rfl⟩
    obtain ⟨bn3, hbn3⟩ : ∃ z, z = bv.buf.length := ⟨_, rfl⟩
    rw [← hbn0, ← hbn1, ← hbn2, ← hbn3] at oc ⊢
    clear hbn0 hbn1 hbn2 hbn3
    have Db := Lib.hid oc.data
    clear oc
    have Kb := Lib.hid (Bk.new w7 29 #[.slice ba0 bn0 bk0, .slice ba1 bn1 bk1, .slice ba2 bn2 bk2, .slice ba3 bn3 bk3])
    have BW : Hid (Below w7.heap.size w7 (World.alloc w7 (.cells #[.slice ba0 bn0 bk0, .slice ba1 bn1 bk1, .slice ba2 bn2 bk2, .slice ba3 bn3 bk3] 29))) := Lib.hid (bal (Below.refl _ _) _)
    obtain ⟨w8, hw8⟩ : ∃ z, World.alloc w7 (.cells #[.slice ba0 bn0 bk0, .slice ba1 bn1 bk1, .slice ba2 bn2 bk2, .slice ba3 bn3 bk3] 29) = z := ⟨_, rfl⟩
    rw [hw8] at Kb BW
    replace Db := Lib.hid (Db.out.below BW.out)
    replace Kc := Lib.hid (Kc.out.below BW.out)
    replace Ko := Lib.hid (Ko.out.below BW.out)
    replace Ka := Lib.hid (Ka.out.below BW.out)
    replace Do := Lib.hid (Do.out.below BW.out)
    replace Da := Lib.hid (Da.out.below BW.out)
    replace B := Lib.hid (B.out.trans (BW.out.mono B.out.size))
    clear BW
    have HSM := Lib.hid (fun (W : World) (h : Below w8.heap.size w8 W) => csame_any av bv _ _ _ _ _ _ _ _ W (Da.out.below h) (Db.out.below h) HSH.out true (by rw [sameC_pf]; exact decide_eq_true (Pa.out.trans Pb.out.symm)))
    have HS2 := Lib.hid (fun (W : World) (h : Below w8.heap.size w8 W) => HSO.out ov Po.out _ _ _ _ W (B.out.trans (h.mono B.out.size)) (Do.out.below h))
    have HE1 := Lib.hid (fun (W : World) (h : Below w8.heap.size w8 W) => HEN.out W (B.out.trans (h.mono B.out.size)))
    have HM1 := Lib.hid (fun (W : World) (h : Below w8.heap.size w8 W) => HMV.out W (B.out.trans (h.mono B.out.size)))
    have HM2 := Lib.hid (fun (W : World) (h : Below w8.heap.size w8 W) => HMR.out W (B.out.trans (h.mono B.out.size)))
    have HD1 := Lib.hid (fun (W : World) (h : Below w8.heap.size w8 W) => HDD.out W (B.out.trans (h.mono B.out.size)))
    have HD2 := Lib.hid (fun (W : World) (h : Below w8.heap.size w8 W) => HDR.out W (B.out.trans (h.mono B.out.size)))
    have HIN := Lib.hid (fun (v1 v2 : Value) (W : World) (h1 : IntsD W v1 ml) (h2 : IntsD W v2 ml) => ints_gen ml ml v1 v2 W h1 h2 HLN.out true (by simp))
    clear HEN HMV HMR HDD HDR HSO
    have HCC := Lib.hid (fun (w' : World) (h : Below w8.heap.size w8 w') => (⟨(h.cell (p := ⟨w.heap.size, _, none⟩) Kc.out.lt).trans (Kc.out.cell 0), (h.cell (p := ⟨w.heap.size, _, none⟩) Kc.out.lt).trans (Kc.out.cell 1), (h.cell (p := ⟨w.heap.size, _, none⟩) Kc.out.lt).trans (Kc.out.cell 2), (h.cell (p := ⟨w.heap.size, _, none⟩) Kc.out.lt).trans (Kc.out.cell 3), (h.cell (p := ⟨w.heap.size, _, none⟩) Kc.out.lt).trans (Kc.out.cell 4), (h.cell (p := ⟨w.heap.size, _, none⟩) Kc.out.lt).trans (Kc.out.cell 5), (h.cell (p := ⟨w.heap.size, _, none⟩) Kc.out.lt).trans (Kc.out.cell 6), (h.cell (p := ⟨w.heap.size, _, none⟩) Kc.out.lt).trans (Kc.out.cell 7), (h.cell (p := ⟨w.heap.size, _, none⟩) Kc.out.lt).trans (Kc.out.cell 8), (h.cell (p := ⟨w.heap.size, _, none⟩) Kc.out.lt).trans (Kc.out.cell 9), (h.cell (p := ⟨w.heap.size, _, none⟩) Kc.out.lt).trans (Kc.out.cell 10), (h.cell (p := ⟨w3.heap.size, _, none⟩) Ko.out.lt).trans (Ko.out.cell 0), (h.cell (p := ⟨w3.heap.size, _, none⟩) Ko.out.lt).trans (Ko.out.cell 1), (h.cell (p := ⟨w3.heap.size, _, none⟩) Ko.out.lt).trans (Ko.out.cell 2), (h.cell (p := ⟨w3.heap.size, _, none⟩) Ko.out.lt).trans (Ko.out.cell 3), (h.cell (p := ⟨w5.heap.size, _, none⟩) Ka.out.lt).trans (Ka.out.cell 0), (h.cell (p := ⟨w5.heap.size, _, none⟩) Ka.out.lt).trans (Ka.out.cell 1), (h.cell (p := ⟨w5.heap.size, _, none⟩) Ka.out.lt).trans (Ka.out.cell 2), (h.cell (p := ⟨w5.heap.size, _, none⟩) Ka.out.lt).trans (Ka.out.cell 3), (h.cell (p := ⟨w7.heap.size, _, none⟩) Kb.out.lt).trans (Kb.out.cell 0), (h.cell (p := ⟨w7.heap.size, _, none⟩) Kb.out.lt).trans (Kb.out.cell 1), (h.cell (p := ⟨w7.heap.size, _, none⟩) Kb.out.lt).trans (Kb.out.cell 2), (h.cell (p := ⟨w7.heap.size, _, none⟩) Kb.out.lt).trans (Kb.out.cell 3), h⟩ : (fun w' => w'.cell? ⟨w.heap.size, 0, none⟩ = some (.int .i64 md) ∧ w'.cell? ⟨w.heap.size, 1, none⟩ = some (.slice ai ni ci) ∧ w'.cell? ⟨w.heap.size, 2, none⟩ = some (.slice ar nr cr) ∧ w'.cell? ⟨w.heap.size, 3, none⟩ = some (.slice ac nc cc) ∧ w'.cell? ⟨w.heap.size, 4, none⟩ = some (.slice ap np cp) ∧ w'.cell? ⟨w.heap.size, 5, none⟩ = some (.slice aq nq cq) ∧ w'.cell? ⟨w.heap.size, 6, none⟩ = some (.slice am nm cm) ∧ w'.cell? ⟨w.heap.size, 7, none⟩ = some (.slice ab nb cb) ∧ w'.cell? ⟨w.heap.size, 8, none⟩ = some (.int .i64 model) ∧ w'.cell? ⟨w.heap.size, 9, none⟩ = some (.int .i64 room) ∧ w'.cell? ⟨w.heap.size, 10, none⟩ = some (.int .i64 t) ∧ w'.cell? ⟨w3.heap.size, 0, none⟩ = some (.slice oa0 on0 ok0) ∧ w'.cell? ⟨w3.heap.size, 1, none⟩ = some (.slice oa1 on1 ok1) ∧ w'.cell? ⟨w3.heap.size, 2, none⟩ = some (.slice oa2 on2 ok2) ∧ w'.cell? ⟨w3.heap.size, 3, none⟩ = some (.slice oa3 on3 ok3) ∧ w'.cell? ⟨w5.heap.size, 0, none⟩ = some (.slice aa0 an0 ak0) ∧ w'.cell? ⟨w5.heap.size, 1, none⟩ = some (.slice aa1 an1 ak1) ∧ w'.cell? ⟨w5.heap.size, 2, none⟩ = some (.slice aa2 an2 ak2) ∧ w'.cell? ⟨w5.heap.size, 3, none⟩ = some (.slice aa3 an3 ak3) ∧ w'.cell? ⟨w7.heap.size, 0, none⟩ = some (.slice ba0 bn0 bk0) ∧ w'.cell? ⟨w7.heap.size, 1, none⟩ = some (.slice ba1 bn1 bk1) ∧ w'.cell? ⟨w7.heap.size, 2, none⟩ = some (.slice ba2 bn2 bk2) ∧ w'.cell? ⟨w7.heap.size, 3, none⟩ = some (.slice ba3 bn3 bk3) ∧ Below w8.heap.size w8 w') w'))
    have ge : (q == q) = true := by simp
    have ge2 : (dq == dq) = true := by simp
    have bb : Below w8.heap.size w8 w8 := Below.refl _ _
    obtain ⟨cc0, cc1, cc2, cc3, cc4, cc5, cc6, cc7, cc8, cc9, cc10, ccl, oc0, oc1, oc2, oc3, ocl, ac0, ac1, ac2, ac3, acl, bc0, bc1, bc2, bc3, bcl⟩ : w8.cell? ⟨w.heap.size, 0, none⟩ = some (.int .i64 md) ∧ w8.cell? ⟨w.heap.size, 1, none⟩ = some (.slice ai ni ci) ∧ w8.cell? ⟨w.heap.size, 2, none⟩ = some (.slice ar nr cr) ∧ w8.cell? ⟨w.heap.size, 3, none⟩ = some (.slice ac nc cc) ∧ w8.cell? ⟨w.heap.size, 4, none⟩ = some (.slice ap np cp) ∧ w8.cell? ⟨w.heap.size, 5, none⟩ = some (.slice aq nq cq) ∧ w8.cell? ⟨w.heap.size, 6, none⟩ = some (.slice am nm cm) ∧ w8.cell? ⟨w.heap.size, 7, none⟩ = some (.slice ab nb cb) ∧ w8.cell? ⟨w.heap.size, 8, none⟩ = some (.int .i64 model) ∧ w8.cell? ⟨w.heap.size, 9, none⟩ = some (.int .i64 room) ∧ w8.cell? ⟨w.heap.size, 10, none⟩ = some (.int .i64 t) ∧ w.heap.size < w8.heap.size ∧ w8.cell? ⟨w3.heap.size, 0, none⟩ = some (.slice oa0 on0 ok0) ∧ w8.cell? ⟨w3.heap.size, 1, none⟩ = some (.slice oa1 on1 ok1) ∧ w8.cell? ⟨w3.heap.size, 2, none⟩ = some (.slice oa2 on2 ok2) ∧ w8.cell? ⟨w3.heap.size, 3, none⟩ = some (.slice oa3 on3 ok3) ∧ w3.heap.size < w8.heap.size ∧ w8.cell? ⟨w5.heap.size, 0, none⟩ = some (.slice aa0 an0 ak0) ∧ w8.cell? ⟨w5.heap.size, 1, none⟩ = some (.slice aa1 an1 ak1) ∧ w8.cell? ⟨w5.heap.size, 2, none⟩ = some (.slice aa2 an2 ak2) ∧ w8.cell? ⟨w5.heap.size, 3, none⟩ = some (.slice aa3 an3 ak3) ∧ w5.heap.size < w8.heap.size ∧ w8.cell? ⟨w7.heap.size, 0, none⟩ = some (.slice ba0 bn0 bk0) ∧ w8.cell? ⟨w7.heap.size, 1, none⟩ = some (.slice ba1 bn1 bk1) ∧ w8.cell? ⟨w7.heap.size, 2, none⟩ = some (.slice ba2 bn2 bk2) ∧ w8.cell? ⟨w7.heap.size, 3, none⟩ = some (.slice ba3 bn3 bk3) ∧ w7.heap.size < w8.heap.size := ⟨Kc.out.cell 0, Kc.out.cell 1, Kc.out.cell 2, Kc.out.cell 3, Kc.out.cell 4, Kc.out.cell 5, Kc.out.cell 6, Kc.out.cell 7, Kc.out.cell 8, Kc.out.cell 9, Kc.out.cell 10, Kc.out.lt, Ko.out.cell 0, Ko.out.cell 1, Ko.out.cell 2, Ko.out.cell 3, Ko.out.lt, Ka.out.cell 0, Ka.out.cell 1, Ka.out.cell 2, Ka.out.cell 3, Ka.out.lt, Kb.out.cell 0, Kb.out.cell 1, Kb.out.cell 2, Kb.out.cell 3, Kb.out.lt⟩
    go_wp2_with fail
    clear cc0 cc1 cc2 cc3 cc4 cc5 cc6 cc7 cc8 cc9 cc10 ccl oc0 oc1 oc2 oc3 ocl ac0 ac1 ac2 ac3 acl bc0 bc1 bc2 bc3 bcl
    simp only [List.append_eq, List.cons_append, List.nil_append]
    go_region_held3 (fun w' => w'.cell? ⟨w.heap.size, 0, none⟩ = some (.int .i64 md) ∧ w'.cell? ⟨w.heap.size, 1, none⟩ = some (.slice ai ni ci) ∧ w'.cell? ⟨w.heap.size, 2, none⟩ = some (.slice ar nr cr) ∧ w'.cell? ⟨w.heap.size, 3, none⟩ = some (.slice ac nc cc) ∧ w'.cell? ⟨w.heap.size, 4, none⟩ = some (.slice ap np cp) ∧ w'.cell? ⟨w.heap.size, 5, none⟩ = some (.slice aq nq cq) ∧ w'.cell? ⟨w.heap.size, 6, none⟩ = some (.slice am nm cm) ∧ w'.cell? ⟨w.heap.size, 7, none⟩ = some (.slice ab nb cb) ∧ w'.cell? ⟨w.heap.size, 8, none⟩ = some (.int .i64 model) ∧ w'.cell? ⟨w.heap.size, 9, none⟩ = some (.int .i64 room) ∧ w'.cell? ⟨w.heap.size, 10, none⟩ = some (.int .i64 t) ∧ w'.cell? ⟨w3.heap.size, 0, none⟩ = some (.slice oa0 on0 ok0) ∧ w'.cell? ⟨w3.heap.size, 1, none⟩ = some (.slice oa1 on1 ok1) ∧ w'.cell? ⟨w3.heap.size, 2, none⟩ = some (.slice oa2 on2 ok2) ∧ w'.cell? ⟨w3.heap.size, 3, none⟩ = some (.slice oa3 on3 ok3) ∧ w'.cell? ⟨w5.heap.size, 0, none⟩ = some (.slice aa0 an0 ak0) ∧ w'.cell? ⟨w5.heap.size, 1, none⟩ = some (.slice aa1 an1 ak1) ∧ w'.cell? ⟨w5.heap.size, 2, none⟩ = some (.slice aa2 an2 ak2) ∧ w'.cell? ⟨w5.heap.size, 3, none⟩ = some (.slice aa3 an3 ak3) ∧ w'.cell? ⟨w7.heap.size, 0, none⟩ = some (.slice ba0 bn0 bk0) ∧ w'.cell? ⟨w7.heap.size, 1, none⟩ = some (.slice ba1 bn1 bk1) ∧ w'.cell? ⟨w7.heap.size, 2, none⟩ = some (.slice ba2 bn2 bk2) ∧ w'.cell? ⟨w7.heap.size, 3, none⟩ = some (.slice ba3 bn3 bk3) ∧ Below w8.heap.size w8 w')
      (first | with_reducible exact HCC.out _ bb | with_reducible exact HCC.out _ bb.drew | with_reducible assumption | (go_split_ands; with_reducible exact HCC.out _ (by with_reducible assumption)))
      ((first | (go_split_ands; (with_reducible refine Calls.mono (HSM.out _ (by assumption)) ?_); rintro e wn ⟨rfl, bn⟩; (try replace id1 := IntsD.below id1 bn); (try replace id2 := IntsD.below id2 bn); have bb : Below w8.heap.size w8 wn := Below.trans (by assumption) (bn.mono (Below.size (by assumption)))) | (go_split_ands; (with_reducible refine Calls.mono (HE1.out _ (by assumption)) ?_); rintro e wn ⟨rfl, bn⟩; (try replace id1 := IntsD.below id1 bn); (try replace id2 := IntsD.below id2 bn); have bb : Below w8.heap.size w8 wn := Below.trans (by assumption) (bn.mono (Below.size (by assumption)))) | (go_split_ands; (with_reducible refine Calls.mono (HM1.out _ (by assumption)) ?_); rintro e wn ⟨v, rfl, ov, bn⟩; obtain ⟨ma1, mk1, rfl, _⟩ := own_shape' ov; (try replace id1 := IntsD.below id1 bn); (try replace id2 := IntsD.below id2 bn); have bb : Below w8.heap.size w8 wn := Below.trans (by assumption) (bn.mono (Below.size (by assumption))); have id1 := intsD_own ov; clear ov) | (go_split_ands; (with_reducible refine Calls.mono (HM2.out _ (by assumption)) ?_); rintro e wn ⟨v, rfl, ov, bn⟩; obtain ⟨ma2, mk2, rfl, _⟩ := own_shape' ov; (try replace id1 := IntsD.below id1 bn); (try replace id2 := IntsD.below id2 bn); have bb : Below w8.heap.size w8 wn := Below.trans (by assumption) (bn.mono (Below.size (by assumption))); have id2 := intsD_own ov; clear ov) | (go_split_ands; (with_reducible refine Calls.mono (HIN.out _ _ _ id1 id2) ?_); rintro e wn ⟨rfl, bn⟩; clear id1 id2; have bb : Below w8.heap.size w8 wn := Below.trans (by assumption) (bn.mono (Below.size (by assumption)))) | (go_split_ands; (with_reducible refine Calls.mono (HD1.out _ (by assumption)) ?_); rintro e wn ⟨rfl, bn⟩; (try replace id1 := IntsD.below id1 bn); (try replace id2 := IntsD.below id2 bn); have bb : Below w8.heap.size w8 wn := Below.trans (by assumption) (bn.mono (Below.size (by assumption)))) | (go_split_ands; (with_reducible refine Calls.mono (HD2.out _ (by assumption)) ?_); rintro e wn ⟨rfl, bn⟩; (try replace id1 := IntsD.below id1 bn); (try replace id2 := IntsD.below id2 bn); have bb : Below w8.heap.size w8 wn := Below.trans (by assumption) (bn.mono (Below.size (by assumption)))) | (go_split_ands; (with_reducible refine Calls.mono (HS2.out _ (by assumption)) ?_); rintro e wn ⟨rfl, bn⟩; (try replace id1 := IntsD.below id1 bn); (try replace id2 := IntsD.below id2 bn); have bb : Below w8.heap.size w8 wn := Below.trans (by assumption) (bn.mono (Below.size (by assumption)))) | (go_split_ands; (with_reducible refine Calls.mono (HKN.out _) ?_); rintro e wn ⟨rfl, bn⟩; have bb : Below w8.heap.size w8 wn := Below.trans (by assumption) (bn.mono (Below.size (by assumption))))))
    all_goals
      go_split_ands
      go_wp2
      go_ret
      exact ⟨rfl, B.out.trans (Below.mono (by assumption) B.out.size)⟩
end Go.Proofs.YtacbanfnakgecaaGreat
