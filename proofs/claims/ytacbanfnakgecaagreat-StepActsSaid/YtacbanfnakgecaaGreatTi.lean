/- StepActs: its walk. -/
import Derived.Test.YtacbanfnakgecaaGreatZr
import Derived.Test.YtacbanfnakgecaaGreatZb
import Derived.Test.YtacbanfnakgecaaGreatUo
import Derived.Test.YtacbanfnakgecaaGreatTh
import Derived.Test.YtacbanfnakgecaaGreatWg
namespace Go.Proofs.YtacbanfnakgecaaGreat
set_option linter.unusedSimpArgs false
set_option linter.unusedVariables false
open Go.RowKit

theorem act_own (u : Un) (c o : Cf) (ho : o.pf = c.pf) (model room t : Int) (vi vr vc xp xr xm xb : Value) (w : World) (hu : UnD w vi vr vc u) (hc : CfD w xp xr xm xb o) (hus : ∀ k pc, (iiAt u k pc).x.e.length ≤ 100000 ∧ (iiAt u k pc).x.f.length ≤ 100000) (hR : RightP u c.pf model room) :
    Calls Tryz.prog 8 #[.agg #[.int .i64 u.mod, vi, vr, vc], .agg #[xp, xr, xm, xb], .int .i64 model, .int .i64 room, .int .i64 t] w (StepIs (enT u c.pf model room t) (actT u c.pf model room t) w) := by
  have h := act_is u o model room t vi vr vc xp xr xm xb w hu hc hus (by rw [ho]; exact hR)
  rw [ho] at h
  exact h

attribute [local go_sem ↓] Go.wp_at_zero Go.wp_at_succ
set_option maxRecDepth 100000 in
set_option maxHeartbeats 32000000 in
theorem acts_in (u : Un) (c : Cf) (model room t loc : Int) (vi vr vc xp xr xm xb : Value) (w : World) (hu : UnD w vi vr vc u) (hc : CfD w xp xr xm xb c) :
    Calls Tryz.prog 3 #[.agg #[.int .i64 u.mod, vi, vr, vc, xp, xr, xm, xb, .int .i64 model, .int .i64 room, .int .i64 t, .int .i64 loc]] w fun e w' => e = .returned (.bool true) ∧ Below w.heap.size w w' := by
  have HKN := Lib.hid known_any
  have HU := Lib.hid hu
  have HC := Lib.hid hc
  obtain ⟨ai, ci, rfl⟩ := hu.i.shape0
  obtain ⟨ar, cr, rfl⟩ := hu.r.shape0
  obtain ⟨ac, cc, rfl⟩ := hu.c.shape0
  obtain ⟨ap, cp, rfl⟩ := hc.p.shape0
  obtain ⟨aq, cq, rfl⟩ := hc.r.shape0
  obtain ⟨am, cm, rfl⟩ := hc.m.shape0
  obtain ⟨ab, cb, rfl⟩ := hc.b.shape0
  clear hu hc
  have HRT := Lib.hid (fun (W : World) (h : Below w.heap.size w W) => right10_any u c model room t loc _ _ _ _ _ _ _ W (HU.out.below h) (HC.out.below h) _ rfl)
  obtain ⟨q, hq⟩ : ∃ q, enT u c.pf model room t = q := ⟨_, rfl⟩
  have HCP := Lib.hid (fun (hr : (lightU u && (lightC c && rightC u c model room)) = true) (W : World) (h : Below w.heap.size w W) => rcopy_any c _ _ _ _ W (HC.out.below h) (short_right (case_rightK hr).2.2))
  have HAO := Lib.hid (fun (hr : (lightU u && (lightC c && rightC u c model room)) = true) (o : Cf) (ho : o.pf = c.pf) (yp yr ym yb : Value) (W : World) (h : Below w.heap.size w W) (hd : CfD W yp yr ym yb o) => act_own u c o ho model room t _ _ _ yp yr ym yb W (HU.out.below h) hd (usL (case_rightK hr).1) (case_rightK hr).2.2)
  have HAR := Lib.hid (fun (hr : (lightU u && (lightC c && rightC u c model room)) = true) (W : World) (h : Below w.heap.size w W) => ract_any u c model room t _ _ _ _ _ _ _ W (HU.out.below h) (HC.out.below h) (short_right (case_rightK hr).2.2) (usL (case_rightK hr).1) (case_rightK hr).2.2)
  have HEN := Lib.hid (fun (hr : (lightU u && (lightC c && rightC u c model room)) = true) (W : World) (h : Below w.heap.size w W) => enabled_any u c model room t _ _ _ _ _ _ _ W (HU.out.below h) (HC.out.below h) (short_right (case_rightK hr).2.2) (usL (case_rightK hr).1) (case_rightK hr).2.2 q hq)
  have HER := Lib.hid (fun (hr : (lightU u && (lightC c && rightC u c model room)) = true) (W : World) (h : Below w.heap.size w W) => renabled_any u c model room t _ _ _ _ _ _ _ W (HU.out.below h) (HC.out.below h) (short_right (case_rightK hr).2.2) (usL (case_rightK hr).1) (case_rightK hr).2.2 q hq)
  have HSO := Lib.hid (fun (hr : (lightU u && (lightC c && rightC u c model room)) = true) (o : Cf) (ho : o.pf = c.pf) (yp yr ym yb : Value) (W : World) (h : Below w.heap.size w W) (hd : CfD W yp yr ym yb o) => csame_any o c yp yr ym yb _ _ _ _ W hd (HC.out.below h) (short_pf ho (short_right (case_rightK hr).2.2)) true (by rw [sameC_pf]; exact decide_eq_true ho))
  have HSA := Lib.hid (fun (hr : (lightU u && (lightC c && rightC u c model room)) = true) (a : Cf) (ha : a.pf = actT u c.pf model room t) => (show ShortC a from short_right (u := u) (model := model) (room := room) (by rw [ha]; exact act_right (case_rightK hr).2.2)))
  clear HU HC
  rw [hq] at HAO HAR
  clear hq
  generalize actT u c.pf model room t = P at HAO HAR HSA
  generalize hni : u.init.length = ni at HRT HCP HAO HAR HEN HER HSO ⊢
  generalize hnr : u.regs.length = nr at HRT HCP HAO HAR HEN HER HSO ⊢
  generalize hnc : u.code.length = nc at HRT HCP HAO HAR HEN HER HSO ⊢
  generalize hnp : c.pc.length = np at HRT HCP HAO HAR HEN HER HSO ⊢
  generalize hnq : c.regs.length = nq at HRT HCP HAO HAR HEN HER HSO ⊢
  generalize hnm : c.mem.length = nm at HRT HCP HAO HAR HEN HER HSO ⊢
  generalize hnb : c.buf.length = nb at HRT HCP HAO HAR HEN HER HSO ⊢
  generalize hmd : u.mod = md at HRT HCP HAO HAR HEN HER HSO ⊢
  clear hni hnr hnc hnp hnq hnm hnb hmd
  obtain ⟨r, hr⟩ : ∃ q, (lightU u && (lightC c && rightC u c model room)) = q := ⟨_, rfl⟩
  rw [hr] at HRT HSA HCP HAO HAR HEN HER HSO
  clear hr
  have Kc := Lib.hid (Bk.new w 31 #[.int .i64 md, .slice ai ni ci, .slice ar nr cr, .slice ac nc cc, .slice ap np cp, .slice aq nq cq, .slice am nm cm, .slice ab nb cb, .int .i64 model, .int .i64 room, .int .i64 t, .int .i64 loc])
  have B : Hid (Below w.heap.size w (World.alloc w (.cells #[.int .i64 md, .slice ai ni ci, .slice ar nr cr, .slice ac nc cc, .slice ap np cp, .slice aq nq cq, .slice am nm cm, .slice ab nb cb, .int .i64 model, .int .i64 room, .int .i64 t, .int .i64 loc] 31))) := Lib.hid (bal (Below.refl _ _) _)
  go_enter Tryz.func3, Tryz.ntmps3
  go_wp2_with fail
  generalize World.alloc w (.cells #[.int .i64 md, .slice ai ni ci, .slice ar nr cr, .slice ac nc cc, .slice ap np cp, .slice aq nq cq, .slice am nm cm, .slice ab nb cb, .int .i64 model, .int .i64 room, .int .i64 t, .int .i64 loc] 31) = w1 at Kc B ⊢
  refine (HRT.out w1 B.out).mono ?_
  rintro e w2 ⟨rfl, b⟩
  replace Kc := Lib.hid (Kc.out.below b)
  replace B := Lib.hid (B.out.trans (b.mono B.out.size))
  clear b HRT
  cases r with
  | false =>
    go_wp2_with fail
    refine (HKN.out w2).mono ?_
    rintro e w3 ⟨rfl, b⟩
    replace Kc := Lib.hid (Kc.out.below b)
    replace B := Lib.hid (B.out.trans (b.mono B.out.size))
    clear b
    go_wp2
    go_ret
    exact ⟨ret_bool rfl, B.out⟩
  | true =>
    replace HSA := Lib.hid (HSA.out rfl)
    replace HCP := Lib.hid (HCP.out rfl)
    replace HAO := Lib.hid (HAO.out rfl)
    replace HAR := Lib.hid (HAR.out rfl)
    replace HEN := Lib.hid (HEN.out rfl)
    replace HER := Lib.hid (HER.out rfl)
    replace HSO := Lib.hid (HSO.out rfl)
    obtain ⟨cc0, cc1, cc2, cc3, cc4, cc5, cc6, cc7, cc8, cc9, cc10, cc11, ccl⟩ : w2.cell? ⟨w.heap.size, 0, none⟩ = some (.int .i64 md) ∧ w2.cell? ⟨w.heap.size, 1, none⟩ = some (.slice ai ni ci) ∧ w2.cell? ⟨w.heap.size, 2, none⟩ = some (.slice ar nr cr) ∧ w2.cell? ⟨w.heap.size, 3, none⟩ = some (.slice ac nc cc) ∧ w2.cell? ⟨w.heap.size, 4, none⟩ = some (.slice ap np cp) ∧ w2.cell? ⟨w.heap.size, 5, none⟩ = some (.slice aq nq cq) ∧ w2.cell? ⟨w.heap.size, 6, none⟩ = some (.slice am nm cm) ∧ w2.cell? ⟨w.heap.size, 7, none⟩ = some (.slice ab nb cb) ∧ w2.cell? ⟨w.heap.size, 8, none⟩ = some (.int .i64 model) ∧ w2.cell? ⟨w.heap.size, 9, none⟩ = some (.int .i64 room) ∧ w2.cell? ⟨w.heap.size, 10, none⟩ = some (.int .i64 t) ∧ w2.cell? ⟨w.heap.size, 11, none⟩ = some (.int .i64 loc) ∧ w.heap.size < w2.heap.size := ⟨Kc.out.cell 0, Kc.out.cell 1, Kc.out.cell 2, Kc.out.cell 3, Kc.out.cell 4, Kc.out.cell 5, Kc.out.cell 6, Kc.out.cell 7, Kc.out.cell 8, Kc.out.cell 9, Kc.out.cell 10, Kc.out.cell 11, Kc.out.lt⟩
    go_wp2_with fail
    clear cc0 cc1 cc2 cc3 cc4 cc5 cc6 cc7 cc8 cc9 cc10 cc11 ccl
    refine (HCP.out w2 B.out).mono ?_
    rintro e w3 ⟨ov, yp, yr, ym, yb, rfl, oc, po, b, _⟩
    have Po := Lib.hid po
    clear po
    replace Kc := Lib.hid (Kc.out.below b)
    replace B := Lib.hid (B.out.trans (b.mono B.out.size))
    clear b HCP
    obtain ⟨oa0, ok0, rfl, _⟩ := own_shape' oc.p
    obtain ⟨oa1, ok1, rfl, _⟩ := own_shape' oc.r.h
    obtain ⟨oa2, ok2, rfl, _⟩ := own_shape' oc.m
    obtain ⟨oa3, ok3, rfl, _⟩ := own_shape' oc.b.h
    obtain ⟨on0, hon0⟩ : ∃ z, z = ov.pc.length := ⟨_, rfl⟩
    obtain ⟨on1, hon1⟩ : ∃ z, z = ov.regs.length := ⟨_, rfl⟩
    obtain ⟨on2, hon2⟩ : ∃ z, z = ov.mem.length := ⟨_, rfl⟩
    obtain ⟨on3, hon3⟩ : ∃ z, z = ov.buf.length := ⟨_, rfl⟩
    rw [← hon0, ← hon1, ← hon2, ← hon3] at oc ⊢
    have HLo0 := Lib.hid hon0
    have HLo1 := Lib.hid hon1
    have HLo2 := Lib.hid hon2
    have HLo3 := Lib.hid hon3
    clear hon0 hon1 hon2 hon3
    have Do := Lib.hid oc.data
    clear oc
    have Ko := Lib.hid (Bk.new w3 29 #[.slice oa0 on0 ok0, .slice oa1 on1 ok1, .slice oa2 on2 ok2, .slice oa3 on3 ok3])
    have BW : Hid (Below w3.heap.size w3 (World.alloc w3 (.cells #[.slice oa0 on0 ok0, .slice oa1 on1 ok1, .slice oa2 on2 ok2, .slice oa3 on3 ok3] 29))) := Lib.hid (bal (Below.refl _ _) _)
    obtain ⟨w4, hw4⟩ : ∃ z, World.alloc w3 (.cells #[.slice oa0 on0 ok0, .slice oa1 on1 ok1, .slice oa2 on2 ok2, .slice oa3 on3 ok3] 29) = z := ⟨_, rfl⟩
    rw [hw4] at Ko BW
    replace Do := Lib.hid (Do.out.below BW.out)
    replace Kc := Lib.hid (Kc.out.below BW.out)
    replace B := Lib.hid (B.out.trans (BW.out.mono B.out.size))
    clear BW
    have B4 : Hid (Below w4.heap.size w4 w4) := Lib.hid (Below.refl _ _)
    have HW4 : Hid (w.heap.size ≤ w4.heap.size) := Lib.hid B.out.size
    have HSO4 := Lib.hid (fun (W : World) (h : Below w.heap.size w W) (h4 : Below w4.heap.size w4 W) => HSO.out ov Po.out _ _ _ _ W h (Do.out.below h4))
    skip
    obtain ⟨cc0, cc1, cc2, cc3, cc4, cc5, cc6, cc7, cc8, cc9, cc10, cc11, ccl, oc0, oc1, oc2, oc3, ocl⟩ : w4.cell? ⟨w.heap.size, 0, none⟩ = some (.int .i64 md) ∧ w4.cell? ⟨w.heap.size, 1, none⟩ = some (.slice ai ni ci) ∧ w4.cell? ⟨w.heap.size, 2, none⟩ = some (.slice ar nr cr) ∧ w4.cell? ⟨w.heap.size, 3, none⟩ = some (.slice ac nc cc) ∧ w4.cell? ⟨w.heap.size, 4, none⟩ = some (.slice ap np cp) ∧ w4.cell? ⟨w.heap.size, 5, none⟩ = some (.slice aq nq cq) ∧ w4.cell? ⟨w.heap.size, 6, none⟩ = some (.slice am nm cm) ∧ w4.cell? ⟨w.heap.size, 7, none⟩ = some (.slice ab nb cb) ∧ w4.cell? ⟨w.heap.size, 8, none⟩ = some (.int .i64 model) ∧ w4.cell? ⟨w.heap.size, 9, none⟩ = some (.int .i64 room) ∧ w4.cell? ⟨w.heap.size, 10, none⟩ = some (.int .i64 t) ∧ w4.cell? ⟨w.heap.size, 11, none⟩ = some (.int .i64 loc) ∧ w.heap.size < w4.heap.size ∧ w4.cell? ⟨w3.heap.size, 0, none⟩ = some (.slice oa0 on0 ok0) ∧ w4.cell? ⟨w3.heap.size, 1, none⟩ = some (.slice oa1 on1 ok1) ∧ w4.cell? ⟨w3.heap.size, 2, none⟩ = some (.slice oa2 on2 ok2) ∧ w4.cell? ⟨w3.heap.size, 3, none⟩ = some (.slice oa3 on3 ok3) ∧ w3.heap.size < w4.heap.size := ⟨Kc.out.cell 0, Kc.out.cell 1, Kc.out.cell 2, Kc.out.cell 3, Kc.out.cell 4, Kc.out.cell 5, Kc.out.cell 6, Kc.out.cell 7, Kc.out.cell 8, Kc.out.cell 9, Kc.out.cell 10, Kc.out.cell 11, Kc.out.lt, Ko.out.cell 0, Ko.out.cell 1, Ko.out.cell 2, Ko.out.cell 3, Ko.out.lt⟩
    go_wp2_with fail
    clear cc0 cc1 cc2 cc3 cc4 cc5 cc6 cc7 cc8 cc9 cc10 cc11 ccl oc0 oc1 oc2 oc3 ocl
    refine (HAO.out ov Po.out _ _ _ _ w4 B.out Do.out).mono ?_
    rintro e w5 ⟨av, yp, yr, ym, yb, rfl, oc, pa, b⟩
    have Pa := Lib.hid pa
    clear pa
    replace Kc := Lib.hid (Kc.out.below b)
    replace Ko := Lib.hid (Ko.out.below b)
    replace B := Lib.hid (B.out.trans (b.mono B.out.size))
    replace B4 := Lib.hid (B4.out.trans (b.mono B4.out.size))
    clear b HAO HSO
    obtain ⟨aa0, ak0, rfl, _⟩ := own_shape' oc.p
    obtain ⟨aa1, ak1, rfl, _⟩ := own_shape' oc.r.h
    obtain ⟨aa2, ak2, rfl, _⟩ := own_shape' oc.m
    obtain ⟨aa3, ak3, rfl, _⟩ := own_shape' oc.b.h
    obtain ⟨an0, han0⟩ : ∃ z, z = av.pc.length := ⟨_, rfl⟩
    obtain ⟨an1, han1⟩ : ∃ z, z = av.regs.length := ⟨_, rfl⟩
    obtain ⟨an2, han2⟩ : ∃ z, z = av.mem.length := ⟨_, rfl⟩
    obtain ⟨an3, han3⟩ : ∃ z, z = av.buf.length := ⟨_, rfl⟩
    rw [← han0, ← han1, ← han2, ← han3] at oc ⊢
    have HLa0 := Lib.hid han0
    have HLa1 := Lib.hid han1
    have HLa2 := Lib.hid han2
    have HLa3 := Lib.hid han3
    clear han0 han1 han2 han3
    have Da := Lib.hid oc
    have HLM : Hid (∀ g, (Value.slice aa2 an2 ak2).ownBlock = some g → g < w5.heap.size) := Lib.hid (fun g hg => (oc.m.lt g hg).2)
    have HLR : Hid (∀ x ∈ av.regs, ∀ g, x.2.ownBlock = some g → g < w5.heap.size) := Lib.hid (fun x hx g hg => ((oc.r.r x hx).lt g hg).2)
    clear oc
    have Ka := Lib.hid (Bk.new w5 29 #[.slice aa0 an0 ak0, .slice aa1 an1 ak1, .slice aa2 an2 ak2, .slice aa3 an3 ak3])
    have BW : Hid (Below w5.heap.size w5 (World.alloc w5 (.cells #[.slice aa0 an0 ak0, .slice aa1 an1 ak1, .slice aa2 an2 ak2, .slice aa3 an3 ak3] 29))) := Lib.hid (bal (Below.refl _ _) _)
    obtain ⟨w6, hw6⟩ : ∃ z, World.alloc w5 (.cells #[.slice aa0 an0 ak0, .slice aa1 an1 ak1, .slice aa2 an2 ak2, .slice aa3 an3 ak3] 29) = z := ⟨_, rfl⟩
    rw [hw6] at Ka BW
    replace Da := Lib.hid (Da.out.below BW.out)
    replace Kc := Lib.hid (Kc.out.below BW.out)
    replace Ko := Lib.hid (Ko.out.below BW.out)
    replace B := Lib.hid (B.out.trans (BW.out.mono B.out.size))
    replace B4 := Lib.hid (B4.out.trans (BW.out.mono B4.out.size))
    clear BW
    have HSH := Lib.hid (HSA.out av Pa.out)
    clear HSA
    obtain ⟨cc0, cc1, cc2, cc3, cc4, cc5, cc6, cc7, cc8, cc9, cc10, cc11, ccl, oc0, oc1, oc2, oc3, ocl, ac0, ac1, ac2, ac3, acl⟩ : w6.cell? ⟨w.heap.size, 0, none⟩ = some (.int .i64 md) ∧ w6.cell? ⟨w.heap.size, 1, none⟩ = some (.slice ai ni ci) ∧ w6.cell? ⟨w.heap.size, 2, none⟩ = some (.slice ar nr cr) ∧ w6.cell? ⟨w.heap.size, 3, none⟩ = some (.slice ac nc cc) ∧ w6.cell? ⟨w.heap.size, 4, none⟩ = some (.slice ap np cp) ∧ w6.cell? ⟨w.heap.size, 5, none⟩ = some (.slice aq nq cq) ∧ w6.cell? ⟨w.heap.size, 6, none⟩ = some (.slice am nm cm) ∧ w6.cell? ⟨w.heap.size, 7, none⟩ = some (.slice ab nb cb) ∧ w6.cell? ⟨w.heap.size, 8, none⟩ = some (.int .i64 model) ∧ w6.cell? ⟨w.heap.size, 9, none⟩ = some (.int .i64 room) ∧ w6.cell? ⟨w.heap.size, 10, none⟩ = some (.int .i64 t) ∧ w6.cell? ⟨w.heap.size, 11, none⟩ = some (.int .i64 loc) ∧ w.heap.size < w6.heap.size ∧ w6.cell? ⟨w3.heap.size, 0, none⟩ = some (.slice oa0 on0 ok0) ∧ w6.cell? ⟨w3.heap.size, 1, none⟩ = some (.slice oa1 on1 ok1) ∧ w6.cell? ⟨w3.heap.size, 2, none⟩ = some (.slice oa2 on2 ok2) ∧ w6.cell? ⟨w3.heap.size, 3, none⟩ = some (.slice oa3 on3 ok3) ∧ w3.heap.size < w6.heap.size ∧ w6.cell? ⟨w5.heap.size, 0, none⟩ = some (.slice aa0 an0 ak0) ∧ w6.cell? ⟨w5.heap.size, 1, none⟩ = some (.slice aa1 an1 ak1) ∧ w6.cell? ⟨w5.heap.size, 2, none⟩ = some (.slice aa2 an2 ak2) ∧ w6.cell? ⟨w5.heap.size, 3, none⟩ = some (.slice aa3 an3 ak3) ∧ w5.heap.size < w6.heap.size := ⟨Kc.out.cell 0, Kc.out.cell 1, Kc.out.cell 2, Kc.out.cell 3, Kc.out.cell 4, Kc.out.cell 5, Kc.out.cell 6, Kc.out.cell 7, Kc.out.cell 8, Kc.out.cell 9, Kc.out.cell 10, Kc.out.cell 11, Kc.out.lt, Ko.out.cell 0, Ko.out.cell 1, Ko.out.cell 2, Ko.out.cell 3, Ko.out.lt, Ka.out.cell 0, Ka.out.cell 1, Ka.out.cell 2, Ka.out.cell 3, Ka.out.lt⟩
    go_wp2_with fail
    clear cc0 cc1 cc2 cc3 cc4 cc5 cc6 cc7 cc8 cc9 cc10 cc11 ccl oc0 oc1 oc2 oc3 ocl ac0 ac1 ac2 ac3 acl
    refine (HAR.out w6 B.out).mono ?_
    rintro e w7 ⟨bv, yp, yr, ym, yb, rfl, oc, pb, b⟩
    have Pb := Lib.hid pb
    clear pb
    replace Kc := Lib.hid (Kc.out.below b)
    replace Ko := Lib.hid (Ko.out.below b)
    replace Ka := Lib.hid (Ka.out.below b)
    replace Da := Lib.hid (Da.out.below b)
    replace B := Lib.hid (B.out.trans (b.mono B.out.size))
    replace B4 := Lib.hid (B4.out.trans (b.mono B4.out.size))
    clear b HAR
    obtain ⟨ba0, bk0, rfl, _⟩ := own_shape' oc.p
    obtain ⟨ba1, bk1, rfl, _⟩ := own_shape' oc.r.h
    obtain ⟨ba2, bk2, rfl, _⟩ := own_shape' oc.m
    obtain ⟨ba3, bk3, rfl, _⟩ := own_shape' oc.b.h
    obtain ⟨bn0, hbn0⟩ : ∃ z, z = bv.pc.length := ⟨_, rfl⟩
    obtain ⟨bn1, hbn1⟩ : ∃ z, z = bv.regs.length := ⟨_, rfl⟩
    obtain ⟨bn2, hbn2⟩ : ∃ z, z = bv.mem.length := ⟨_, rfl⟩
    obtain ⟨bn3, hbn3⟩ : ∃ z, z = bv.buf.length := ⟨_, rfl⟩
    rw [← hbn0, ← hbn1, ← hbn2, ← hbn3] at oc ⊢
    have HLb0 := Lib.hid hbn0
    have HLb1 := Lib.hid hbn1
    have HLb2 := Lib.hid hbn2
    have HLb3 := Lib.hid hbn3
    clear hbn0 hbn1 hbn2 hbn3
    have Db := Lib.hid oc.data
    clear oc
    have Kb := Lib.hid (Bk.new w7 29 #[.slice ba0 bn0 bk0, .slice ba1 bn1 bk1, .slice ba2 bn2 bk2, .slice ba3 bn3 bk3])
    have BW : Hid (Below w7.heap.size w7 (World.alloc w7 (.cells #[.slice ba0 bn0 bk0, .slice ba1 bn1 bk1, .slice ba2 bn2 bk2, .slice ba3 bn3 bk3] 29))) := Lib.hid (bal (Below.refl _ _) _)
    obtain ⟨w8, hw8⟩ : ∃ z, World.alloc w7 (.cells #[.slice ba0 bn0 bk0, .slice ba1 bn1 bk1, .slice ba2 bn2 bk2, .slice ba3 bn3 bk3] 29) = z := ⟨_, rfl⟩
    rw [hw8] at Kb BW
    replace Db := Lib.hid (Db.out.below BW.out)
    replace Kc := Lib.hid (Kc.out.below BW.out)
    replace Ko := Lib.hid (Ko.out.below BW.out)
    replace Ka := Lib.hid (Ka.out.below BW.out)
    replace Da := Lib.hid (Da.out.below BW.out)
    replace B := Lib.hid (B.out.trans (BW.out.mono B.out.size))
    replace B4 := Lib.hid (B4.out.trans (BW.out.mono B4.out.size))
    clear BW
    have HSM := Lib.hid (fun (W : World) (h : Below w8.heap.size w8 W) => csame_any av bv _ _ _ _ _ _ _ _ W (Da.out.below h).data (Db.out.below h) HSH.out true (by rw [sameC_pf]; exact decide_eq_true (Pa.out.trans Pb.out.symm)))
    have HE1 := Lib.hid (fun (W : World) (h : Below w8.heap.size w8 W) => HEN.out W (B.out.trans (h.mono B.out.size)))
    have HE2 := Lib.hid (fun (W : World) (h : Below w8.heap.size w8 W) => HER.out W (B.out.trans (h.mono B.out.size)))
    clear HEN HER
    have HCC := Lib.hid (fun (w' : World) (h : Below w8.heap.size w8 w') => (⟨(h.cell (p := ⟨w.heap.size, _, none⟩) Kc.out.lt).trans (Kc.out.cell 0), (h.cell (p := ⟨w.heap.size, _, none⟩) Kc.out.lt).trans (Kc.out.cell 1), (h.cell (p := ⟨w.heap.size, _, none⟩) Kc.out.lt).trans (Kc.out.cell 2), (h.cell (p := ⟨w.heap.size, _, none⟩) Kc.out.lt).trans (Kc.out.cell 3), (h.cell (p := ⟨w.heap.size, _, none⟩) Kc.out.lt).trans (Kc.out.cell 4), (h.cell (p := ⟨w.heap.size, _, none⟩) Kc.out.lt).trans (Kc.out.cell 5), (h.cell (p := ⟨w.heap.size, _, none⟩) Kc.out.lt).trans (Kc.out.cell 6), (h.cell (p := ⟨w.heap.size, _, none⟩) Kc.out.lt).trans (Kc.out.cell 7), (h.cell (p := ⟨w.heap.size, _, none⟩) Kc.out.lt).trans (Kc.out.cell 8), (h.cell (p := ⟨w.heap.size, _, none⟩) Kc.out.lt).trans (Kc.out.cell 9), (h.cell (p := ⟨w.heap.size, _, none⟩) Kc.out.lt).trans (Kc.out.cell 10), (h.cell (p := ⟨w.heap.size, _, none⟩) Kc.out.lt).trans (Kc.out.cell 11), (h.cell (p := ⟨w3.heap.size, _, none⟩) Ko.out.lt).trans (Ko.out.cell 0), (h.cell (p := ⟨w3.heap.size, _, none⟩) Ko.out.lt).trans (Ko.out.cell 1), (h.cell (p := ⟨w3.heap.size, _, none⟩) Ko.out.lt).trans (Ko.out.cell 2), (h.cell (p := ⟨w3.heap.size, _, none⟩) Ko.out.lt).trans (Ko.out.cell 3), (h.cell (p := ⟨w5.heap.size, _, none⟩) Ka.out.lt).trans (Ka.out.cell 0), (h.cell (p := ⟨w5.heap.size, _, none⟩) Ka.out.lt).trans (Ka.out.cell 1), (h.cell (p := ⟨w5.heap.size, _, none⟩) Ka.out.lt).trans (Ka.out.cell 2), (h.cell (p := ⟨w5.heap.size, _, none⟩) Ka.out.lt).trans (Ka.out.cell 3), (h.cell (p := ⟨w7.heap.size, _, none⟩) Kb.out.lt).trans (Kb.out.cell 0), (h.cell (p := ⟨w7.heap.size, _, none⟩) Kb.out.lt).trans (Kb.out.cell 1), (h.cell (p := ⟨w7.heap.size, _, none⟩) Kb.out.lt).trans (Kb.out.cell 2), (h.cell (p := ⟨w7.heap.size, _, none⟩) Kb.out.lt).trans (Kb.out.cell 3), h⟩ : (fun w' => w'.cell? ⟨w.heap.size, 0, none⟩ = some (.int .i64 md) ∧ w'.cell? ⟨w.heap.size, 1, none⟩ = some (.slice ai ni ci) ∧ w'.cell? ⟨w.heap.size, 2, none⟩ = some (.slice ar nr cr) ∧ w'.cell? ⟨w.heap.size, 3, none⟩ = some (.slice ac nc cc) ∧ w'.cell? ⟨w.heap.size, 4, none⟩ = some (.slice ap np cp) ∧ w'.cell? ⟨w.heap.size, 5, none⟩ = some (.slice aq nq cq) ∧ w'.cell? ⟨w.heap.size, 6, none⟩ = some (.slice am nm cm) ∧ w'.cell? ⟨w.heap.size, 7, none⟩ = some (.slice ab nb cb) ∧ w'.cell? ⟨w.heap.size, 8, none⟩ = some (.int .i64 model) ∧ w'.cell? ⟨w.heap.size, 9, none⟩ = some (.int .i64 room) ∧ w'.cell? ⟨w.heap.size, 10, none⟩ = some (.int .i64 t) ∧ w'.cell? ⟨w.heap.size, 11, none⟩ = some (.int .i64 loc) ∧ w'.cell? ⟨w3.heap.size, 0, none⟩ = some (.slice oa0 on0 ok0) ∧ w'.cell? ⟨w3.heap.size, 1, none⟩ = some (.slice oa1 on1 ok1) ∧ w'.cell? ⟨w3.heap.size, 2, none⟩ = some (.slice oa2 on2 ok2) ∧ w'.cell? ⟨w3.heap.size, 3, none⟩ = some (.slice oa3 on3 ok3) ∧ w'.cell? ⟨w5.heap.size, 0, none⟩ = some (.slice aa0 an0 ak0) ∧ w'.cell? ⟨w5.heap.size, 1, none⟩ = some (.slice aa1 an1 ak1) ∧ w'.cell? ⟨w5.heap.size, 2, none⟩ = some (.slice aa2 an2 ak2) ∧ w'.cell? ⟨w5.heap.size, 3, none⟩ = some (.slice aa3 an3 ak3) ∧ w'.cell? ⟨w7.heap.size, 0, none⟩ = some (.slice ba0 bn0 bk0) ∧ w'.cell? ⟨w7.heap.size, 1, none⟩ = some (.slice ba1 bn1 bk1) ∧ w'.cell? ⟨w7.heap.size, 2, none⟩ = some (.slice ba2 bn2 bk2) ∧ w'.cell? ⟨w7.heap.size, 3, none⟩ = some (.slice ba3 bn3 bk3) ∧ Below w8.heap.size w8 w') w'))
    have ge : (q == q) = true := by simp
    have bb : Below w8.heap.size w8 w8 := Below.refl _ _
    obtain ⟨cc0, cc1, cc2, cc3, cc4, cc5, cc6, cc7, cc8, cc9, cc10, cc11, ccl, oc0, oc1, oc2, oc3, ocl, ac0, ac1, ac2, ac3, acl, bc0, bc1, bc2, bc3, bcl⟩ : w8.cell? ⟨w.heap.size, 0, none⟩ = some (.int .i64 md) ∧ w8.cell? ⟨w.heap.size, 1, none⟩ = some (.slice ai ni ci) ∧ w8.cell? ⟨w.heap.size, 2, none⟩ = some (.slice ar nr cr) ∧ w8.cell? ⟨w.heap.size, 3, none⟩ = some (.slice ac nc cc) ∧ w8.cell? ⟨w.heap.size, 4, none⟩ = some (.slice ap np cp) ∧ w8.cell? ⟨w.heap.size, 5, none⟩ = some (.slice aq nq cq) ∧ w8.cell? ⟨w.heap.size, 6, none⟩ = some (.slice am nm cm) ∧ w8.cell? ⟨w.heap.size, 7, none⟩ = some (.slice ab nb cb) ∧ w8.cell? ⟨w.heap.size, 8, none⟩ = some (.int .i64 model) ∧ w8.cell? ⟨w.heap.size, 9, none⟩ = some (.int .i64 room) ∧ w8.cell? ⟨w.heap.size, 10, none⟩ = some (.int .i64 t) ∧ w8.cell? ⟨w.heap.size, 11, none⟩ = some (.int .i64 loc) ∧ w.heap.size < w8.heap.size ∧ w8.cell? ⟨w3.heap.size, 0, none⟩ = some (.slice oa0 on0 ok0) ∧ w8.cell? ⟨w3.heap.size, 1, none⟩ = some (.slice oa1 on1 ok1) ∧ w8.cell? ⟨w3.heap.size, 2, none⟩ = some (.slice oa2 on2 ok2) ∧ w8.cell? ⟨w3.heap.size, 3, none⟩ = some (.slice oa3 on3 ok3) ∧ w3.heap.size < w8.heap.size ∧ w8.cell? ⟨w5.heap.size, 0, none⟩ = some (.slice aa0 an0 ak0) ∧ w8.cell? ⟨w5.heap.size, 1, none⟩ = some (.slice aa1 an1 ak1) ∧ w8.cell? ⟨w5.heap.size, 2, none⟩ = some (.slice aa2 an2 ak2) ∧ w8.cell? ⟨w5.heap.size, 3, none⟩ = some (.slice aa3 an3 ak3) ∧ w5.heap.size < w8.heap.size ∧ w8.cell? ⟨w7.heap.size, 0, none⟩ = some (.slice ba0 bn0 bk0) ∧ w8.cell? ⟨w7.heap.size, 1, none⟩ = some (.slice ba1 bn1 bk1) ∧ w8.cell? ⟨w7.heap.size, 2, none⟩ = some (.slice ba2 bn2 bk2) ∧ w8.cell? ⟨w7.heap.size, 3, none⟩ = some (.slice ba3 bn3 bk3) ∧ w7.heap.size < w8.heap.size := ⟨Kc.out.cell 0, Kc.out.cell 1, Kc.out.cell 2, Kc.out.cell 3, Kc.out.cell 4, Kc.out.cell 5, Kc.out.cell 6, Kc.out.cell 7, Kc.out.cell 8, Kc.out.cell 9, Kc.out.cell 10, Kc.out.cell 11, Kc.out.lt, Ko.out.cell 0, Ko.out.cell 1, Ko.out.cell 2, Ko.out.cell 3, Ko.out.lt, Ka.out.cell 0, Ka.out.cell 1, Ka.out.cell 2, Ka.out.cell 3, Ka.out.lt, Kb.out.cell 0, Kb.out.cell 1, Kb.out.cell 2, Kb.out.cell 3, Kb.out.lt⟩
    go_wp2_with fail
    clear cc0 cc1 cc2 cc3 cc4 cc5 cc6 cc7 cc8 cc9 cc10 cc11 ccl oc0 oc1 oc2 oc3 ocl ac0 ac1 ac2 ac3 acl bc0 bc1 bc2 bc3 bcl
    go_region_held3 (fun w' => w'.cell? ⟨w.heap.size, 0, none⟩ = some (.int .i64 md) ∧ w'.cell? ⟨w.heap.size, 1, none⟩ = some (.slice ai ni ci) ∧ w'.cell? ⟨w.heap.size, 2, none⟩ = some (.slice ar nr cr) ∧ w'.cell? ⟨w.heap.size, 3, none⟩ = some (.slice ac nc cc) ∧ w'.cell? ⟨w.heap.size, 4, none⟩ = some (.slice ap np cp) ∧ w'.cell? ⟨w.heap.size, 5, none⟩ = some (.slice aq nq cq) ∧ w'.cell? ⟨w.heap.size, 6, none⟩ = some (.slice am nm cm) ∧ w'.cell? ⟨w.heap.size, 7, none⟩ = some (.slice ab nb cb) ∧ w'.cell? ⟨w.heap.size, 8, none⟩ = some (.int .i64 model) ∧ w'.cell? ⟨w.heap.size, 9, none⟩ = some (.int .i64 room) ∧ w'.cell? ⟨w.heap.size, 10, none⟩ = some (.int .i64 t) ∧ w'.cell? ⟨w.heap.size, 11, none⟩ = some (.int .i64 loc) ∧ w'.cell? ⟨w3.heap.size, 0, none⟩ = some (.slice oa0 on0 ok0) ∧ w'.cell? ⟨w3.heap.size, 1, none⟩ = some (.slice oa1 on1 ok1) ∧ w'.cell? ⟨w3.heap.size, 2, none⟩ = some (.slice oa2 on2 ok2) ∧ w'.cell? ⟨w3.heap.size, 3, none⟩ = some (.slice oa3 on3 ok3) ∧ w'.cell? ⟨w5.heap.size, 0, none⟩ = some (.slice aa0 an0 ak0) ∧ w'.cell? ⟨w5.heap.size, 1, none⟩ = some (.slice aa1 an1 ak1) ∧ w'.cell? ⟨w5.heap.size, 2, none⟩ = some (.slice aa2 an2 ak2) ∧ w'.cell? ⟨w5.heap.size, 3, none⟩ = some (.slice aa3 an3 ak3) ∧ w'.cell? ⟨w7.heap.size, 0, none⟩ = some (.slice ba0 bn0 bk0) ∧ w'.cell? ⟨w7.heap.size, 1, none⟩ = some (.slice ba1 bn1 bk1) ∧ w'.cell? ⟨w7.heap.size, 2, none⟩ = some (.slice ba2 bn2 bk2) ∧ w'.cell? ⟨w7.heap.size, 3, none⟩ = some (.slice ba3 bn3 bk3) ∧ Below w8.heap.size w8 w')
      (first | with_reducible exact HCC.out _ bb | with_reducible exact HCC.out _ bb.drew | with_reducible assumption | (go_split_ands; with_reducible exact HCC.out _ (by with_reducible assumption)))
      ((first | (go_split_ands; (with_reducible refine Calls.mono (HSM.out _ (by assumption)) ?_); rintro e wn ⟨rfl, bn⟩; have bb : Below w8.heap.size w8 wn := Below.trans (by assumption) (bn.mono (Below.size (by assumption)))) | (go_split_ands; (with_reducible refine Calls.mono (HE1.out _ (by assumption)) ?_); rintro e wn ⟨rfl, bn⟩; have bb : Below w8.heap.size w8 wn := Below.trans (by assumption) (bn.mono (Below.size (by assumption)))) | (go_split_ands; (with_reducible refine Calls.mono (HE2.out _ (by assumption)) ?_); rintro e wn ⟨rfl, bn⟩; have bb : Below w8.heap.size w8 wn := Below.trans (by assumption) (bn.mono (Below.size (by assumption))))))
    all_goals
      go_split_ands
      have b9 : Below w8.heap.size w8 wn := by with_reducible assumption
      clear HCC HSM HE1 HE2 ge
      replace Kc := Lib.hid (Kc.out.below b9)
      replace Ko := Lib.hid (Ko.out.below b9)
      replace Ka := Lib.hid (Ka.out.below b9)
      replace Kb := Lib.hid (Kb.out.below b9)
      replace Da := Lib.hid (Da.out.below b9)
      replace B := Lib.hid (B.out.trans (b9.mono B.out.size))
      replace B4 := Lib.hid (B4.out.trans (b9.mono B4.out.size))
      have OM7 : Hid (wn.ownsRow w4.heap.size 3 1 (.slice aa2 an2 ak2) an2 (rowI av.mem)) := Lib.hid (by have := Da.out.m; rw [OwnI, ← HLa2.out] at this; exact this)
      have OR7 : Hid (wn.ownsRow w4.heap.size 22 1 (.slice aa1 an1 ak1) an1 (av.regs.map (·.2))) := Lib.hid (by have := Da.out.r.h; rw [← HLa1.out] at this; exact this)
      have S7 : Hid (SC w4.heap.size w5.heap.size wn wn) := Lib.hid (SC.refl _ _ _)
      have N7 : Hid (an1 ≤ 100000 ∧ an2 ≤ 100000) := Lib.hid (by have := HSH.out; exact ⟨by rw [HLa1.out]; exact this.r, by rw [HLa2.out]; exact this.m⟩)
      clear b9 bb
      go_wp2_with fail
      go_loopg [9] an2 (fun fuel i' wr => ∃ (k : Nat), i' = .int .i64 k ∧ k ≤ an2 ∧ an2 - k ≤ fuel ∧ SC w4.heap.size w5.heap.size wn wr)
      case atStart => exact ⟨0, rfl, Nat.zero_le _, Nat.le_refl _, S7.out⟩
      case round =>
        obtain ⟨k, rfl, hk, hf, hi⟩ := hrel
        have HI := Lib.hid hi
        have KAR := Lib.hid (hi.bk Ka.out (by decide))
        clear hi
        have c2 : wr.cell? ⟨w5.heap.size, 2, none⟩ = some (.slice aa2 an2 ak2) := KAR.out.cell 2
        have l2 := KAR.out.lt
        have hn9 := N7.out.2
        by_cases hlt : k < an2
        · obtain ⟨g, cap, hv, hg, hr⟩ := HI.out.row OM7.out (.inl rfl) (.inr HLM.out) (by omega)
          injection hv with hv1 _ hv2
          subst hv1 hv2
          obtain ⟨⟨x0, d0⟩, f0, hst⟩ := hr k (by omega)
          have HST := Lib.hid (hst (.int .i64 (-7)))
          have e1 : (0 : Int) ≤ (k : Int) := Int.natCast_nonneg _
          have e2 : (k : Int) < (an2 : Int) := by omega
          clear hr hst
          go_wp2_with fail
          go_roundg (gk - 1)
          case measure => omega
          case rel => exact ⟨k + 1, by go_num, by omega, by omega, HST.out⟩
        · obtain ⟨wo, hwo⟩ : ∃ x, x = wr := ⟨_, rfl⟩
          go_wp2_with fail
          rw [← hwo] at HI KAR
          clear c2 l2
          go_loopg [10] an1 (fun fuel i' wi => ∃ (k : Nat), i' = .int .i64 k ∧ k ≤ an1 ∧ an1 - k ≤ fuel ∧ SC w4.heap.size w5.heap.size wn wi)
          case atStart => exact ⟨0, rfl, Nat.zero_le _, Nat.le_refl _, by rw [← hwo]; exact HI.out⟩
          case round =>
            clear hwo HI KAR wo hlt hk hf
            obtain ⟨k, rfl, hk, hf, hi⟩ := hrel
            have HI := Lib.hid hi
            have KAR := Lib.hid (hi.bk Ka.out (by decide))
            clear hi
            by_cases hlt : k < an1
            · obtain ⟨gh, cap, hv, hh⟩ := SC.head (C := w5.heap.size) OR7.out (by decide) hlt HLa1.out
              injection hv with hv1 _ hv2
              subst hv1 hv2
              have hk1 : k < av.regs.length := by rw [← HLa1.out]; exact hlt
              have hro := Da.out.r.r _ (List.getElem_mem hk1)
              have hlb := HLR.out _ (List.getElem_mem hk1)
              have hxl : av.regs[k].1.length ≤ 100000 := HSH.out.rr _ (List.getElem_mem hk1)
              obtain ⟨ax, kx, hrow, _⟩ := own_shape' hro
              rw [hrow] at hro hlb hh
              generalize av.regs[k].1 = xs at hro hlb hh hxl
              obtain ⟨nx, hnx⟩ : ∃ n, n = xs.length := ⟨_, rfl⟩
              have HRO : Hid (wn.ownsRow w4.heap.size 3 1 (.slice ax nx kx) nx (rowI xs)) := Lib.hid (by rw [hnx]; exact hro)
              rw [← hnx] at hlb hh hxl
              have HLX := Lib.hid hlb
              have HH := Lib.hid hh
              have HXL := Lib.hid hxl
              clear hro hlb hh hxl hnx hrow hk1
              have cx : wr.cell? ⟨w5.heap.size, 1, none⟩ = some (.slice (some ⟨gh, 0, none⟩) an1 ak1) := KAR.out.cell 1
              have l2 := KAR.out.lt
              obtain ⟨hx, lx⟩ := HH.out wr HI.out
              have e1 : (0 : Int) ≤ (k : Int) := Int.natCast_nonneg _
              have e2 : (k : Int) < (an1 : Int) := by omega
              have hn9 : an1 ≤ 100000 := by have := N7.out; omega
              generalize gk = gk1 at *
              obtain ⟨wo, hwo⟩ : ∃ x, x = wr := ⟨_, rfl⟩
              go_wp2_with fail
              rw [← hwo] at HI KAR
              clear cx l2 hx lx
              go_loopg [11] nx (fun fuel i' wi => ∃ (q : Nat), i' = .int .i64 q ∧ q ≤ nx ∧ nx - q ≤ fuel ∧ SC w4.heap.size w5.heap.size wn wi)
              case atStart => exact ⟨0, rfl, Nat.zero_le _, Nat.le_refl _, by rw [← hwo]; exact HI.out⟩
              case round =>
                clear hwo HI KAR wo
                obtain ⟨q, rfl, hq, hfq, hi⟩ := hrel
                have HI := Lib.hid hi
                have KAR := Lib.hid (hi.bk Ka.out (by decide))
                clear hi
                have cx : wr.cell? ⟨w5.heap.size, 1, none⟩ = some (.slice (some ⟨gh, 0, none⟩) an1 ak1) := KAR.out.cell 1
                have l2 := KAR.out.lt
                obtain ⟨hx, lx⟩ := HH.out wr HI.out
                have hx9 : nx ≤ 100000 := HXL.out
                have e1 : (0 : Int) ≤ (k : Int) := Int.natCast_nonneg _
                have e2 : (k : Int) < (an1 : Int) := by omega
                by_cases hlq : q < nx
                · obtain ⟨g, cap', hv, hg, hr⟩ := HI.out.row HRO.out (.inl rfl) (.inr HLX.out) (by omega)
                  injection hv with hv1 _ hv2
                  subst hv1 hv2
                  obtain ⟨⟨x0, d0⟩, f0, hst⟩ := hr (q) (by omega)
                  have HST := Lib.hid (hst (.int .i64 (-7)))
                  have e3 : (0 : Int) ≤ (q : Int) := Int.natCast_nonneg _
                  have e4 : (q : Int) < (nx : Int) := by omega
                  clear hr hst
                  go_wp2_with fail
                  go_roundg (gk - 1)
                  case measure => omega
                  case rel => exact ⟨q + 1, by go_num, by omega, by omega, HST.out⟩
                · go_wp2_with fail
                  go_roundg (gk1 - 1)
                  case measure => omega
                  case rel => exact ⟨k + 1, by go_num, by omega, by omega, HI.out⟩
            · have cx : wr.cell? ⟨w5.heap.size, 1, none⟩ = some (.slice aa1 an1 ak1) := KAR.out.cell 1
              have l2 := KAR.out.lt
              have KcR := Lib.hid (HI.out.bk Kc.out (by decide))
              have KoR := Lib.hid (HI.out.bk Ko.out (by decide))
              have GR := Lib.hid (B.out.trans (HI.out.b.mono HW4.out))
              have HF := Lib.hid (HSO4.out wr GR.out (B4.out.trans HI.out.b))
              obtain ⟨cc0, cc1, cc2, cc3, cc4, cc5, cc6, cc7, cc8, cc9, cc10, cc11, ccl, oc0, oc1, oc2, oc3, ocl⟩ : wr.cell? ⟨w.heap.size, 0, none⟩ = some (.int .i64 md) ∧ wr.cell? ⟨w.heap.size, 1, none⟩ = some (.slice ai ni ci) ∧ wr.cell? ⟨w.heap.size, 2, none⟩ = some (.slice ar nr cr) ∧ wr.cell? ⟨w.heap.size, 3, none⟩ = some (.slice ac nc cc) ∧ wr.cell? ⟨w.heap.size, 4, none⟩ = some (.slice ap np cp) ∧ wr.cell? ⟨w.heap.size, 5, none⟩ = some (.slice aq nq cq) ∧ wr.cell? ⟨w.heap.size, 6, none⟩ = some (.slice am nm cm) ∧ wr.cell? ⟨w.heap.size, 7, none⟩ = some (.slice ab nb cb) ∧ wr.cell? ⟨w.heap.size, 8, none⟩ = some (.int .i64 model) ∧ wr.cell? ⟨w.heap.size, 9, none⟩ = some (.int .i64 room) ∧ wr.cell? ⟨w.heap.size, 10, none⟩ = some (.int .i64 t) ∧ wr.cell? ⟨w.heap.size, 11, none⟩ = some (.int .i64 loc) ∧ w.heap.size < wr.heap.size ∧ wr.cell? ⟨w3.heap.size, 0, none⟩ = some (.slice oa0 on0 ok0) ∧ wr.cell? ⟨w3.heap.size, 1, none⟩ = some (.slice oa1 on1 ok1) ∧ wr.cell? ⟨w3.heap.size, 2, none⟩ = some (.slice oa2 on2 ok2) ∧ wr.cell? ⟨w3.heap.size, 3, none⟩ = some (.slice oa3 on3 ok3) ∧ w3.heap.size < wr.heap.size := ⟨KcR.out.cell 0, KcR.out.cell 1, KcR.out.cell 2, KcR.out.cell 3, KcR.out.cell 4, KcR.out.cell 5, KcR.out.cell 6, KcR.out.cell 7, KcR.out.cell 8, KcR.out.cell 9, KcR.out.cell 10, KcR.out.cell 11, KcR.out.lt, KoR.out.cell 0, KoR.out.cell 1, KoR.out.cell 2, KoR.out.cell 3, KoR.out.lt⟩
              go_wp2_with fail
              clear cc0 cc1 cc2 cc3 cc4 cc5 cc6 cc7 cc8 cc9 cc10 cc11 ccl oc0 oc1 oc2 oc3 ocl cx l2
              refine HF.out.mono ?_
              rintro e w18 ⟨rfl, b8⟩
              have L8 := Lib.hid (GR.out.trans (b8.mono GR.out.size))
              clear b8 HF
              go_wp2_with fail
              refine (HKN.out _).mono ?_
              rintro e w19 ⟨rfl, b9⟩
              have L9 := Lib.hid (L8.out.trans (b9.mono L8.out.size))
              clear b9
              go_wp2
              go_ret
              exact ⟨ret_bool rfl, L9.out⟩

end Go.Proofs.YtacbanfnakgecaaGreat
