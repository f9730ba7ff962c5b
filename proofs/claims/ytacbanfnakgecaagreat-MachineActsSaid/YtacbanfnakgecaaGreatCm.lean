/- Layer 11's law: what must come of fixed calls. -/
import Derived.Test.YtacbanfnakgecaaGreatCl
import Derived.Test.YtacbanfnakgecaaGreatCk
import Derived.Test.YtacbanfnakgecaaGreatCf
import Derived.Test.YtacbanfnakgecaaGreatWa
import Derived.Test.YtacbanfnakgecaaGreatUm
namespace Go.Proofs.YtacbanfnakgecaaGreat
set_option linter.unusedSimpArgs false
set_option linter.unusedVariables false
open Go.RowKit
def mf0 : Pf := ⟨[0, 0], [[], []], [0, 0], [[], []]⟩
def mf1 : Pf := ⟨[1, 0], [[], []], [0, 0], [[(0, 1)], []]⟩
def mf2 : Pf := ⟨[1, 0], [[], []], [1, 0], [[], []]⟩
theorem startM (v va vb : Value) : startP (unitM v va vb) = mf0 := by rfl
theorem rightM (v va vb : Value) (p : Pf) (model : Int) (h : (p.pc.length = 2 ∧ p.regs.length = 2 ∧ p.buf.length = 2 ∧ p.mem.length = 2) ∧ (p.mem.all fun n => inB n 4) = true ∧ thB 4 model 1 2 (p.pc.getD 0 0) (p.regs.getD 0 []) (p.buf.getD 0 []) 0 2 = true ∧ thB 4 model 1 2 (p.pc.getD 1 0) (p.regs.getD 1 []) (p.buf.getD 1 []) 0 2 = true ∧ rightL [] model 1 4 2 = true) : RightP (unitM v va vb) p model 1 := by
  obtain ⟨⟨h1, h2, h3, h4⟩, h5, h6, h7, h8⟩ := h
  refine ⟨rfl, h1, h2, h3, h4, fun n hn => List.all_eq_true.1 h5 n hn, fun k hk => ?_, h8⟩
  have hk2 : k = 0 ∨ k = 1 := by have : k < 2 := hk; omega
  rcases hk2 with rfl | rfl
  · exact h6
  · exact h7
theorem m0 (v va vb : Value) : RightP (unitM v va vb) mf0 3 1 := rightM v va vb _ _ ⟨⟨rfl, rfl, rfl, rfl⟩, rfl, rfl, rfl, rfl⟩
theorem m1 (v va vb : Value) : RightP (unitM v va vb) mf1 3 1 := rightM v va vb _ _ ⟨⟨rfl, rfl, rfl, rfl⟩, rfl, rfl, rfl, rfl⟩
theorem m2 (v va vb : Value) : RightP (unitM v va vb) mf2 3 1 := rightM v va vb _ _ ⟨⟨rfl, rfl, rfl, rfl⟩, rfl, rfl, rfl, rfl⟩
theorem ac0 (v va vb : Value) : enA (unitM v va vb) mf0 3 1 0 = true ∧ acA (unitM v va vb) mf0 3 1 0 = mf1 := ⟨by kernel_rfl, by kernel_rfl⟩
theorem ac2 (v va vb : Value) : enA (unitM v va vb) mf1 3 1 2 = true ∧ acA (unitM v va vb) mf1 3 1 2 = mf2 := ⟨by kernel_rfl, by kernel_rfl⟩
theorem ac1 (v va vb : Value) : enA (unitM v va vb) mf0 3 1 1 = false ∧ acA (unitM v va vb) mf0 3 1 1 = mf0 := ⟨by kernel_rfl, by kernel_rfl⟩
theorem mv0 (v va vb : Value) : mvA (unitM v va vb) mf0 3 1 = [0] := by kernel_rfl
theorem mv1 (v va vb : Value) : mvA (unitM v va vb) mf1 3 1 = [2] := by kernel_rfl
theorem mv2 (v va vb : Value) : mvA (unitM v va vb) mf2 3 1 = [] := by kernel_rfl
def sF11 : ByteArray := ⟨#[102, 49, 46, 49]⟩
def sF10 : ByteArray := ⟨#[102, 49, 46, 48]⟩
def sF0 : ByteArray := ⟨#[102, 48]⟩
theorem na5 (v va vb : Value) : nameA (unitM v va vb) 3 5 = sF11 ∧ nameA (unitM v va vb) 2 2 = sF0 := ⟨by kernel_rfl, by kernel_rfl⟩
theorem nu4 (v va vb : Value) : numA (unitM v va vb) 3 sF10 = 4 ∧ numA (unitM v va vb) 1 sF0 = -1 := ⟨by kernel_rfl, by kernel_rfl⟩
theorem mdead2 (v va vb : Value) {c : Cf} (h : c.pf = mf2) : deadA (unitM v va vb) c 3 1 = true := by
  unfold deadA
  rw [h, mv2]
  have hR : RightP (unitM v va vb) c.pf 3 1 := by rw [h]; exact m2 v va vb
  have hp : c.pc = [1, 0] := congrArg Pf.pc h
  have h1 : endedC (unitM v va vb) c 1 = false := by
    have := ended_op hR 1 (by show 1 < 2; decide)
    rw [hp] at this
    exact this
  have hf : finalC (unitM v va vb) c = false := by
    cases hq : finalC (unitM v va vb) c with
    | false => rfl
    | true =>
      unfold finalC at hq
      rw [Bool.and_eq_true, finF_iff] at hq
      have := hq.1 1 (by decide) (by show 1 < 0 + 2; decide)
      rw [show ((1 : Nat) : Int) = 1 from rfl, h1] at this
      cases this
  rw [hf]; rfl
theorem mdead1 (v va vb : Value) {c : Cf} (h : c.pf = mf1) : deadA (unitM v va vb) c 3 1 = false := by
  unfold deadA
  rw [h, mv1]; rfl
theorem usM (v va vb : Value) : ∀ k pc, (iiAt (unitM v va vb) k pc).x.e.length ≤ 100000 ∧ (iiAt (unitM v va vb) k pc).x.f.length ≤ 100000 := by
  intro k pc
  have key : ∀ (l : List II) (i : Nat), (∀ t ∈ l, t.x.e.length ≤ 100000 ∧ t.x.f.length ≤ 100000) → ((l.getD i noII).x.e.length ≤ 100000 ∧ (l.getD i noII).x.f.length ≤ 100000) := by
    intro l i hl
    rw [List.getD_eq_getElem?_getD]
    cases hg : l[i]? with
    | none => exact ⟨by simp [noII], by simp [noII]⟩
    | some t => exact hl t (List.mem_of_getElem? hg)
  unfold iiAt
  refine key _ _ fun t ht => ?_
  match k, ht with
  | 0, ht =>
    simp [unitM, codeE] at ht
    rcases ht with rfl | rfl <;> simp [insM, oneL]
  | 1, ht =>
    simp [unitM, codeF] at ht
    rcases ht with rfl | rfl <;> simp [insM, oneL]
  | k + 2, ht => simp [unitM] at ht
theorem shortM (v va vb : Value) : ShortU (unitM v va vb) := by
  refine ⟨by simp [unitM], by simp [unitM], fun r hr => ?_⟩
  simp [unitM] at hr
  rcases hr with rfl | rfl
  · refine ⟨by simp [codeE], fun t ht => ?_⟩
    simp [codeE] at ht
    rcases ht with rfl | rfl <;> simp [insM, oneL]
  · refine ⟨by simp [codeF], fun t ht => ?_⟩
    simp [codeF] at ht
    rcases ht with rfl | rfl <;> simp [insM, oneL]
theorem ltM (v va vb : Value) : LtU (unitM v va vb) := ⟨by simp [unitM], by simp [unitM]⟩
theorem rrM {v va vb : Value} {c : Cf} {p : Pf} (h : c.pf = p) (hp : RightP (unitM v va vb) p 3 1) : RightP (unitM v va vb) c.pf 3 1 := h ▸ hp
theorem mem2 {w : World} {B : Nat} {xp xr xm xb : Value} {c : Cf} (h : OwnC w B xp xr xm xb c) (hp : c.pf = mf2) : ∃ gm k2, xm = .slice (some ⟨gm, 0, none⟩) 2 k2 ∧ gm < w.heap.size ∧ w.cell? ⟨gm, 0, none⟩ = some (.int .i64 1) := by
  have hm : c.mem = [1, 0] := congrArg Pf.mem hp
  have hh := h.m
  rw [hm] at hh
  obtain ⟨gm, k2, e2, _, l2⟩ := World.ownsRow.form hh (by decide)
  subst e2
  exact ⟨gm, k2, rfl, l2, hh.cellAt 0 (by decide)⟩
attribute [local go_sem ↓] Go.wp_at_zero Go.wp_at_succ
set_option maxRecDepth 100000 in
set_option maxHeartbeats 16000000 in
theorem known11_any (w : World) :
    Calls Tryz.prog 14 #[] w fun e w' => e = .returned (.bool true) ∧ Below w.heap.size w w' := by
  have HUN := Lib.hid unit11_any
  go_enter Tryz.func14, Tryz.ntmps14
  go_wp2_with fail
  refine (HUN.out _).mono ?_
  rintro e w1 ⟨ai, ar, ac, v, va, vb, rfl, du, b1⟩
  have B := Lib.hid b1
  have DU := Lib.hid du
  clear b1 du HUN
  have Ku := Lib.hid (Bk.new w1 25 #[.int .i64 4, .slice ai 2 2, .slice ar 2 2, .slice ac 2 2])
  have BW : Hid (Below w1.heap.size w1 (World.alloc w1 (.cells #[.int .i64 4, .slice ai 2 2, .slice ar 2 2, .slice ac 2 2] 25))) := Lib.hid (bal (Below.refl _ _) _)
  obtain ⟨w2, hw2⟩ : ∃ z, World.alloc w1 (.cells #[.int .i64 4, .slice ai 2 2, .slice ar 2 2, .slice ac 2 2] 25) = z := ⟨_, rfl⟩
  rw [hw2] at Ku BW
  replace DU := Lib.hid (DU.out.below BW.out)
  replace B := Lib.hid (B.out.trans (BW.out.mono B.out.size))
  clear BW
  obtain ⟨uc0, uc1, uc2, uc3, ucl⟩ : w2.cell? ⟨w1.heap.size, 0, none⟩ = some (.int .i64 4) ∧ w2.cell? ⟨w1.heap.size, 1, none⟩ = some (.slice ai 2 2) ∧ w2.cell? ⟨w1.heap.size, 2, none⟩ = some (.slice ar 2 2) ∧ w2.cell? ⟨w1.heap.size, 3, none⟩ = some (.slice ac 2 2) ∧ w1.heap.size < w2.heap.size := ⟨Ku.out.cell 0, Ku.out.cell 1, Ku.out.cell 2, Ku.out.cell 3, Ku.out.lt⟩
  go_wp2_with fail
  clear uc0 uc1 uc2 uc3 ucl
  refine (rstart_yes (unitM v va vb) _ _ _ w2 DU.out (shortM v va vb) (unitM_right v va vb)).mono ?_
  rintro e w3 ⟨cv, xp, xr, xm, xb, rfl, oc, pcf, b⟩
  replace Ku := Lib.hid (Ku.out.below b)
  replace DU := Lib.hid (DU.out.below b)
  replace B := Lib.hid (B.out.trans (b.mono B.out.size))
  clear b
  rw [startM] at pcf
  have Pc := Lib.hid pcf
  clear pcf
  obtain ⟨ca0, ck0, rfl, _⟩ := own_shape' oc.p
  obtain ⟨ca1, ck1, rfl, _⟩ := own_shape' oc.r.h
  obtain ⟨ca2, ck2, rfl, _⟩ := own_shape' oc.m
  obtain ⟨ca3, ck3, rfl, _⟩ := own_shape' oc.b.h
  have Dc := Lib.hid oc.data
  clear oc
  have Kc := Lib.hid (Bk.new w3 29 #[.slice ca0 cv.pc.length ck0, .slice ca1 cv.regs.length ck1, .slice ca2 cv.mem.length ck2, .slice ca3 cv.buf.length ck3])
  have BW : Hid (Below w3.heap.size w3 (World.alloc w3 (.cells #[.slice ca0 cv.pc.length ck0, .slice ca1 cv.regs.length ck1, .slice ca2 cv.mem.length ck2, .slice ca3 cv.buf.length ck3] 29))) := Lib.hid (bal (Below.refl _ _) _)
  obtain ⟨w4, hw4⟩ : ∃ z, World.alloc w3 (.cells #[.slice ca0 cv.pc.length ck0, .slice ca1 cv.regs.length ck1, .slice ca2 cv.mem.length ck2, .slice ca3 cv.buf.length ck3] 29) = z := ⟨_, rfl⟩
  rw [hw4] at Kc BW
  replace Dc := Lib.hid (Dc.out.below BW.out)
  replace Ku := Lib.hid (Ku.out.below BW.out)
  replace DU := Lib.hid (DU.out.below BW.out)
  replace B := Lib.hid (B.out.trans (BW.out.mono B.out.size))
  clear BW
  have HA := mact_any (unitM v va vb) cv 3 1 0 _ _ _ _ _ _ _ w4 DU.out Dc.out (usM v va vb) (rrM Pc.out (m0 v va vb))
  rw [Pc.out, (ac0 v va vb).1, (ac0 v va vb).2] at HA
  replace HA := Lib.hid HA
  obtain ⟨uc0, uc1, uc2, uc3, ucl, cc0, cc1, cc2, cc3, ccl⟩ : w4.cell? ⟨w1.heap.size, 0, none⟩ = some (.int .i64 4) ∧ w4.cell? ⟨w1.heap.size, 1, none⟩ = some (.slice ai 2 2) ∧ w4.cell? ⟨w1.heap.size, 2, none⟩ = some (.slice ar 2 2) ∧ w4.cell? ⟨w1.heap.size, 3, none⟩ = some (.slice ac 2 2) ∧ w1.heap.size < w4.heap.size ∧ w4.cell? ⟨w3.heap.size, 0, none⟩ = some (.slice ca0 cv.pc.length ck0) ∧ w4.cell? ⟨w3.heap.size, 1, none⟩ = some (.slice ca1 cv.regs.length ck1) ∧ w4.cell? ⟨w3.heap.size, 2, none⟩ = some (.slice ca2 cv.mem.length ck2) ∧ w4.cell? ⟨w3.heap.size, 3, none⟩ = some (.slice ca3 cv.buf.length ck3) ∧ w3.heap.size < w4.heap.size := ⟨Ku.out.cell 0, Ku.out.cell 1, Ku.out.cell 2, Ku.out.cell 3, Ku.out.lt, Kc.out.cell 0, Kc.out.cell 1, Kc.out.cell 2, Kc.out.cell 3, Kc.out.lt⟩
  go_wp2_with fail
  clear uc0 uc1 uc2 uc3 ucl cc0 cc1 cc2 cc3 ccl
  refine HA.out.mono ?_
  rintro e w5 ⟨dv, xp, xr, xm, xb, rfl, oc, pdf, b⟩
  clear HA
  replace Ku := Lib.hid (Ku.out.below b)
  replace Kc := Lib.hid (Kc.out.below b)
  replace DU := Lib.hid (DU.out.below b)
  replace Dc := Lib.hid (Dc.out.below b)
  replace B := Lib.hid (B.out.trans (b.mono B.out.size))
  clear b
  have Pd := Lib.hid pdf
  clear pdf
  obtain ⟨da0, dk0, rfl, _⟩ := own_shape' oc.p
  obtain ⟨da1, dk1, rfl, _⟩ := own_shape' oc.r.h
  obtain ⟨da2, dk2, rfl, _⟩ := own_shape' oc.m
  obtain ⟨da3, dk3, rfl, _⟩ := own_shape' oc.b.h
  have Dd := Lib.hid oc.data
  clear oc
  have Kd := Lib.hid (Bk.new w5 29 #[.slice da0 dv.pc.length dk0, .slice da1 dv.regs.length dk1, .slice da2 dv.mem.length dk2, .slice da3 dv.buf.length dk3])
  have BW : Hid (Below w5.heap.size w5 (World.alloc w5 (.cells #[.slice da0 dv.pc.length dk0, .slice da1 dv.regs.length dk1, .slice da2 dv.mem.length dk2, .slice da3 dv.buf.length dk3] 29))) := Lib.hid (bal (Below.refl _ _) _)
  obtain ⟨w6, hw6⟩ : ∃ z, World.alloc w5 (.cells #[.slice da0 dv.pc.length dk0, .slice da1 dv.regs.length dk1, .slice da2 dv.mem.length dk2, .slice da3 dv.buf.length dk3] 29) = z := ⟨_, rfl⟩
  rw [hw6] at Kd BW
  replace Dd := Lib.hid (Dd.out.below BW.out)
  replace Ku := Lib.hid (Ku.out.below BW.out)
  replace Kc := Lib.hid (Kc.out.below BW.out)
  replace DU := Lib.hid (DU.out.below BW.out)
  replace Dc := Lib.hid (Dc.out.below BW.out)
  replace B := Lib.hid (B.out.trans (BW.out.mono B.out.size))
  clear BW
  have HA := mact_any (unitM v va vb) dv 3 1 2 _ _ _ _ _ _ _ w6 DU.out Dd.out (usM v va vb) (rrM Pd.out (m1 v va vb))
  rw [Pd.out, (ac2 v va vb).1, (ac2 v va vb).2] at HA
  replace HA := Lib.hid HA
  obtain ⟨uc0, uc1, uc2, uc3, ucl, cc0, cc1, cc2, cc3, ccl, dc0, dc1, dc2, dc3, dcl⟩ : w6.cell? ⟨w1.heap.size, 0, none⟩ = some (.int .i64 4) ∧ w6.cell? ⟨w1.heap.size, 1, none⟩ = some (.slice ai 2 2) ∧ w6.cell? ⟨w1.heap.size, 2, none⟩ = some (.slice ar 2 2) ∧ w6.cell? ⟨w1.heap.size, 3, none⟩ = some (.slice ac 2 2) ∧ w1.heap.size < w6.heap.size ∧ w6.cell? ⟨w3.heap.size, 0, none⟩ = some (.slice ca0 cv.pc.length ck0) ∧ w6.cell? ⟨w3.heap.size, 1, none⟩ = some (.slice ca1 cv.regs.length ck1) ∧ w6.cell? ⟨w3.heap.size, 2, none⟩ = some (.slice ca2 cv.mem.length ck2) ∧ w6.cell? ⟨w3.heap.size, 3, none⟩ = some (.slice ca3 cv.buf.length ck3) ∧ w3.heap.size < w6.heap.size ∧ w6.cell? ⟨w5.heap.size, 0, none⟩ = some (.slice da0 dv.pc.length dk0) ∧ w6.cell? ⟨w5.heap.size, 1, none⟩ = some (.slice da1 dv.regs.length dk1) ∧ w6.cell? ⟨w5.heap.size, 2, none⟩ = some (.slice da2 dv.mem.length dk2) ∧ w6.cell? ⟨w5.heap.size, 3, none⟩ = some (.slice da3 dv.buf.length dk3) ∧ w5.heap.size < w6.heap.size := ⟨Ku.out.cell 0, Ku.out.cell 1, Ku.out.cell 2, Ku.out.cell 3, Ku.out.lt, Kc.out.cell 0, Kc.out.cell 1, Kc.out.cell 2, Kc.out.cell 3, Kc.out.lt, Kd.out.cell 0, Kd.out.cell 1, Kd.out.cell 2, Kd.out.cell 3, Kd.out.lt⟩
  go_wp2_with fail
  clear uc0 uc1 uc2 uc3 ucl cc0 cc1 cc2 cc3 ccl dc0 dc1 dc2 dc3 dcl
  refine HA.out.mono ?_
  rintro e w7 ⟨xv, xp, xr, xm, xb, rfl, oc, pxf, b⟩
  clear HA
  replace Ku := Lib.hid (Ku.out.below b)
  replace Kc := Lib.hid (Kc.out.below b)
  replace Kd := Lib.hid (Kd.out.below b)
  replace DU := Lib.hid (DU.out.below b)
  replace Dc := Lib.hid (Dc.out.below b)
  replace Dd := Lib.hid (Dd.out.below b)
  replace B := Lib.hid (B.out.trans (b.mono B.out.size))
  clear b
  have Px := Lib.hid pxf
  clear pxf
  obtain ⟨gm, gk2, hgm, hgl, hgc⟩ := mem2 oc Px.out
  have hml : xv.mem.length = 2 := by have : xv.mem = [1, 0] := congrArg Pf.mem Px.out; rw [this]; rfl
  obtain ⟨xa0, xk0, rfl, _⟩ := own_shape' oc.p
  obtain ⟨xa1, xk1, rfl, _⟩ := own_shape' oc.r.h
  obtain ⟨xa3, xk3, rfl, _⟩ := own_shape' oc.b.h
  subst hgm
  have Dx := Lib.hid oc.data
  clear oc
  have FX := Lib.hid hgc
  have FL := Lib.hid hgl
  clear hgc hgl hml
  have Kx := Lib.hid (Bk.new w7 29 #[.slice xa0 xv.pc.length xk0, .slice xa1 xv.regs.length xk1, .slice (some ⟨gm, 0, none⟩) 2 gk2, .slice xa3 xv.buf.length xk3])
  have BW : Hid (Below w7.heap.size w7 (World.alloc w7 (.cells #[.slice xa0 xv.pc.length xk0, .slice xa1 xv.regs.length xk1, .slice (some ⟨gm, 0, none⟩) 2 gk2, .slice xa3 xv.buf.length xk3] 29))) := Lib.hid (bal (Below.refl _ _) _)
  obtain ⟨w8, hw8⟩ : ∃ z, World.alloc w7 (.cells #[.slice xa0 xv.pc.length xk0, .slice xa1 xv.regs.length xk1, .slice (some ⟨gm, 0, none⟩) 2 gk2, .slice xa3 xv.buf.length xk3] 29) = z := ⟨_, rfl⟩
  rw [hw8] at Kx BW
  replace Dx := Lib.hid (Dx.out.below BW.out)
  replace FX := Lib.hid ((BW.out.cell (p := ⟨gm, 0, none⟩) FL.out).trans FX.out)
  replace FL := Lib.hid (Nat.lt_of_lt_of_le FL.out BW.out.size)
  replace Ku := Lib.hid (Ku.out.below BW.out)
  replace Kc := Lib.hid (Kc.out.below BW.out)
  replace Kd := Lib.hid (Kd.out.below BW.out)
  replace DU := Lib.hid (DU.out.below BW.out)
  replace Dc := Lib.hid (Dc.out.below BW.out)
  replace Dd := Lib.hid (Dd.out.below BW.out)
  replace B := Lib.hid (B.out.trans (BW.out.mono B.out.size))
  clear BW
  have HA := mact_any (unitM v va vb) cv 3 1 1 _ _ _ _ _ _ _ w8 DU.out Dc.out (usM v va vb) (rrM Pc.out (m0 v va vb))
  rw [Pc.out, (ac1 v va vb).1, (ac1 v va vb).2] at HA
  replace HA := Lib.hid HA
  obtain ⟨uc0, uc1, uc2, uc3, ucl, cc0, cc1, cc2, cc3, ccl, dc0, dc1, dc2, dc3, dcl, xc0, xc1, xc2, xc3, xcl⟩ : w8.cell? ⟨w1.heap.size, 0, none⟩ = some (.int .i64 4) ∧ w8.cell? ⟨w1.heap.size, 1, none⟩ = some (.slice ai 2 2) ∧ w8.cell? ⟨w1.heap.size, 2, none⟩ = some (.slice ar 2 2) ∧ w8.cell? ⟨w1.heap.size, 3, none⟩ = some (.slice ac 2 2) ∧ w1.heap.size < w8.heap.size ∧ w8.cell? ⟨w3.heap.size, 0, none⟩ = some (.slice ca0 cv.pc.length ck0) ∧ w8.cell? ⟨w3.heap.size, 1, none⟩ = some (.slice ca1 cv.regs.length ck1) ∧ w8.cell? ⟨w3.heap.size, 2, none⟩ = some (.slice ca2 cv.mem.length ck2) ∧ w8.cell? ⟨w3.heap.size, 3, none⟩ = some (.slice ca3 cv.buf.length ck3) ∧ w3.heap.size < w8.heap.size ∧ w8.cell? ⟨w5.heap.size, 0, none⟩ = some (.slice da0 dv.pc.length dk0) ∧ w8.cell? ⟨w5.heap.size, 1, none⟩ = some (.slice da1 dv.regs.length dk1) ∧ w8.cell? ⟨w5.heap.size, 2, none⟩ = some (.slice da2 dv.mem.length dk2) ∧ w8.cell? ⟨w5.heap.size, 3, none⟩ = some (.slice da3 dv.buf.length dk3) ∧ w5.heap.size < w8.heap.size ∧ w8.cell? ⟨w7.heap.size, 0, none⟩ = some (.slice xa0 xv.pc.length xk0) ∧ w8.cell? ⟨w7.heap.size, 1, none⟩ = some (.slice xa1 xv.regs.length xk1) ∧ w8.cell? ⟨w7.heap.size, 2, none⟩ = some (.slice (some ⟨gm, 0, none⟩) 2 gk2) ∧ w8.cell? ⟨w7.heap.size, 3, none⟩ = some (.slice xa3 xv.buf.length xk3) ∧ w7.heap.size < w8.heap.size := ⟨Ku.out.cell 0, Ku.out.cell 1, Ku.out.cell 2, Ku.out.cell 3, Ku.out.lt, Kc.out.cell 0, Kc.out.cell 1, Kc.out.cell 2, Kc.out.cell 3, Kc.out.lt, Kd.out.cell 0, Kd.out.cell 1, Kd.out.cell 2, Kd.out.cell 3, Kd.out.lt, Kx.out.cell 0, Kx.out.cell 1, Kx.out.cell 2, Kx.out.cell 3, Kx.out.lt⟩
  go_wp2_with fail
  clear uc0 uc1 uc2 uc3 ucl cc0 cc1 cc2 cc3 ccl dc0 dc1 dc2 dc3 dcl xc0 xc1 xc2 xc3 xcl
  refine HA.out.mono ?_
  rintro e w9 ⟨nv, xp, xr, xm, xb, rfl, oc, pnf, b⟩
  clear HA
  replace Ku := Lib.hid (Ku.out.below b)
  replace Kc := Lib.hid (Kc.out.below b)
  replace Kd := Lib.hid (Kd.out.below b)
  replace Kx := Lib.hid (Kx.out.below b)
  replace DU := Lib.hid (DU.out.below b)
  replace Dc := Lib.hid (Dc.out.below b)
  replace Dd := Lib.hid (Dd.out.below b)
  replace Dx := Lib.hid (Dx.out.below b)
  replace B := Lib.hid (B.out.trans (b.mono B.out.size))
  replace FX := Lib.hid ((b.cell (p := ⟨gm, 0, none⟩) FL.out).trans FX.out)
  replace FL := Lib.hid (Nat.lt_of_lt_of_le FL.out b.size)
  clear b
  have Pn := Lib.hid pnf
  clear pnf
  obtain ⟨na0, nk0, rfl, _⟩ := own_shape' oc.p
  obtain ⟨na1, nk1, rfl, _⟩ := own_shape' oc.r.h
  obtain ⟨na2, nk2, rfl, _⟩ := own_shape' oc.m
  obtain ⟨na3, nk3, rfl, _⟩ := own_shape' oc.b.h
  have Dn := Lib.hid oc.data
  clear oc
  have Kn := Lib.hid (Bk.new w9 29 #[.slice na0 nv.pc.length nk0, .slice na1 nv.regs.length nk1, .slice na2 nv.mem.length nk2, .slice na3 nv.buf.length nk3])
  have BW : Hid (Below w9.heap.size w9 (World.alloc w9 (.cells #[.slice na0 nv.pc.length nk0, .slice na1 nv.regs.length nk1, .slice na2 nv.mem.length nk2, .slice na3 nv.buf.length nk3] 29))) := Lib.hid (bal (Below.refl _ _) _)
  obtain ⟨w10, hw10⟩ : ∃ z, World.alloc w9 (.cells #[.slice na0 nv.pc.length nk0, .slice na1 nv.regs.length nk1, .slice na2 nv.mem.length nk2, .slice na3 nv.buf.length nk3] 29) = z := ⟨_, rfl⟩
  rw [hw10] at Kn BW
  replace Dn := Lib.hid (Dn.out.below BW.out)
  replace Ku := Lib.hid (Ku.out.below BW.out)
  replace Kc := Lib.hid (Kc.out.below BW.out)
  replace Kd := Lib.hid (Kd.out.below BW.out)
  replace Kx := Lib.hid (Kx.out.below BW.out)
  replace DU := Lib.hid (DU.out.below BW.out)
  replace Dc := Lib.hid (Dc.out.below BW.out)
  replace Dd := Lib.hid (Dd.out.below BW.out)
  replace Dx := Lib.hid (Dx.out.below BW.out)
  replace B := Lib.hid (B.out.trans (BW.out.mono B.out.size))
  replace FX := Lib.hid ((BW.out.cell (p := ⟨gm, 0, none⟩) FL.out).trans FX.out)
  replace FL := Lib.hid (Nat.lt_of_lt_of_le FL.out BW.out.size)
  clear BW
  obtain ⟨uc0, uc1, uc2, uc3, ucl, cc0, cc1, cc2, cc3, ccl, dc0, dc1, dc2, dc3, dcl, xc0, xc1, xc2, xc3, xcl⟩ : w10.cell? ⟨w1.heap.size, 0, none⟩ = some (.int .i64 4) ∧ w10.cell? ⟨w1.heap.size, 1, none⟩ = some (.slice ai 2 2) ∧ w10.cell? ⟨w1.heap.size, 2, none⟩ = some (.slice ar 2 2) ∧ w10.cell? ⟨w1.heap.size, 3, none⟩ = some (.slice ac 2 2) ∧ w1.heap.size < w10.heap.size ∧ w10.cell? ⟨w3.heap.size, 0, none⟩ = some (.slice ca0 cv.pc.length ck0) ∧ w10.cell? ⟨w3.heap.size, 1, none⟩ = some (.slice ca1 cv.regs.length ck1) ∧ w10.cell? ⟨w3.heap.size, 2, none⟩ = some (.slice ca2 cv.mem.length ck2) ∧ w10.cell? ⟨w3.heap.size, 3, none⟩ = some (.slice ca3 cv.buf.length ck3) ∧ w3.heap.size < w10.heap.size ∧ w10.cell? ⟨w5.heap.size, 0, none⟩ = some (.slice da0 dv.pc.length dk0) ∧ w10.cell? ⟨w5.heap.size, 1, none⟩ = some (.slice da1 dv.regs.length dk1) ∧ w10.cell? ⟨w5.heap.size, 2, none⟩ = some (.slice da2 dv.mem.length dk2) ∧ w10.cell? ⟨w5.heap.size, 3, none⟩ = some (.slice da3 dv.buf.length dk3) ∧ w5.heap.size < w10.heap.size ∧ w10.cell? ⟨w7.heap.size, 0, none⟩ = some (.slice xa0 xv.pc.length xk0) ∧ w10.cell? ⟨w7.heap.size, 1, none⟩ = some (.slice xa1 xv.regs.length xk1) ∧ w10.cell? ⟨w7.heap.size, 2, none⟩ = some (.slice (some ⟨gm, 0, none⟩) 2 gk2) ∧ w10.cell? ⟨w7.heap.size, 3, none⟩ = some (.slice xa3 xv.buf.length xk3) ∧ w7.heap.size < w10.heap.size := ⟨Ku.out.cell 0, Ku.out.cell 1, Ku.out.cell 2, Ku.out.cell 3, Ku.out.lt, Kc.out.cell 0, Kc.out.cell 1, Kc.out.cell 2, Kc.out.cell 3, Kc.out.lt, Kd.out.cell 0, Kd.out.cell 1, Kd.out.cell 2, Kd.out.cell 3, Kd.out.lt, Kx.out.cell 0, Kx.out.cell 1, Kx.out.cell 2, Kx.out.cell 3, Kx.out.lt⟩
  go_wp2_with fail
  clear uc0 uc1 uc2 uc3 ucl cc0 cc1 cc2 cc3 ccl dc0 dc1 dc2 dc3 dcl xc0 xc1 xc2 xc3 xcl
  refine (magents_any (unitM v va vb) 1 _ _ _ w10 DU.out (ltM v va vb) (shortM v va vb) 2 (by kernel_rfl)).mono ?_
  rintro e w11 ⟨rfl, b⟩
  replace Ku := Lib.hid (Ku.out.below b)
  replace Kc := Lib.hid (Kc.out.below b)
  replace Kd := Lib.hid (Kd.out.below b)
  replace Kx := Lib.hid (Kx.out.below b)
  replace Kn := Lib.hid (Kn.out.below b)
  replace DU := Lib.hid (DU.out.below b)
  replace Dc := Lib.hid (Dc.out.below b)
  replace Dd := Lib.hid (Dd.out.below b)
  replace Dx := Lib.hid (Dx.out.below b)
  replace Dn := Lib.hid (Dn.out.below b)
  replace B := Lib.hid (B.out.trans (b.mono B.out.size))
  replace FX := Lib.hid ((b.cell (p := ⟨gm, 0, none⟩) FL.out).trans FX.out)
  replace FL := Lib.hid (Nat.lt_of_lt_of_le FL.out b.size)
  clear b
  obtain ⟨uc0, uc1, uc2, uc3, ucl, cc0, cc1, cc2, cc3, ccl, dc0, dc1, dc2, dc3, dcl, xc0, xc1, xc2, xc3, xcl⟩ : w11.cell? ⟨w1.heap.size, 0, none⟩ = some (.int .i64 4) ∧ w11.cell? ⟨w1.heap.size, 1, none⟩ = some (.slice ai 2 2) ∧ w11.cell? ⟨w1.heap.size, 2, none⟩ = some (.slice ar 2 2) ∧ w11.cell? ⟨w1.heap.size, 3, none⟩ = some (.slice ac 2 2) ∧ w1.heap.size < w11.heap.size ∧ w11.cell? ⟨w3.heap.size, 0, none⟩ = some (.slice ca0 cv.pc.length ck0) ∧ w11.cell? ⟨w3.heap.size, 1, none⟩ = some (.slice ca1 cv.regs.length ck1) ∧ w11.cell? ⟨w3.heap.size, 2, none⟩ = some (.slice ca2 cv.mem.length ck2) ∧ w11.cell? ⟨w3.heap.size, 3, none⟩ = some (.slice ca3 cv.buf.length ck3) ∧ w3.heap.size < w11.heap.size ∧ w11.cell? ⟨w5.heap.size, 0, none⟩ = some (.slice da0 dv.pc.length dk0) ∧ w11.cell? ⟨w5.heap.size, 1, none⟩ = some (.slice da1 dv.regs.length dk1) ∧ w11.cell? ⟨w5.heap.size, 2, none⟩ = some (.slice da2 dv.mem.length dk2) ∧ w11.cell? ⟨w5.heap.size, 3, none⟩ = some (.slice da3 dv.buf.length dk3) ∧ w5.heap.size < w11.heap.size ∧ w11.cell? ⟨w7.heap.size, 0, none⟩ = some (.slice xa0 xv.pc.length xk0) ∧ w11.cell? ⟨w7.heap.size, 1, none⟩ = some (.slice xa1 xv.regs.length xk1) ∧ w11.cell? ⟨w7.heap.size, 2, none⟩ = some (.slice (some ⟨gm, 0, none⟩) 2 gk2) ∧ w11.cell? ⟨w7.heap.size, 3, none⟩ = some (.slice xa3 xv.buf.length xk3) ∧ w7.heap.size < w11.heap.size := ⟨Ku.out.cell 0, Ku.out.cell 1, Ku.out.cell 2, Ku.out.cell 3, Ku.out.lt, Kc.out.cell 0, Kc.out.cell 1, Kc.out.cell 2, Kc.out.cell 3, Kc.out.lt, Kd.out.cell 0, Kd.out.cell 1, Kd.out.cell 2, Kd.out.cell 3, Kd.out.lt, Kx.out.cell 0, Kx.out.cell 1, Kx.out.cell 2, Kx.out.cell 3, Kx.out.lt⟩
  go_wp2_with fail
  clear uc0 uc1 uc2 uc3 ucl cc0 cc1 cc2 cc3 ccl dc0 dc1 dc2 dc3 dcl xc0 xc1 xc2 xc3 xcl
  refine (magents_any (unitM v va vb) 2 _ _ _ w11 DU.out (ltM v va vb) (shortM v va vb) 4 (by kernel_rfl)).mono ?_
  rintro e w12 ⟨rfl, b⟩
  replace Ku := Lib.hid (Ku.out.below b)
  replace Kc := Lib.hid (Kc.out.below b)
  replace Kd := Lib.hid (Kd.out.below b)
  replace Kx := Lib.hid (Kx.out.below b)
  replace Kn := Lib.hid (Kn.out.below b)
  replace DU := Lib.hid (DU.out.below b)
  replace Dc := Lib.hid (Dc.out.below b)
  replace Dd := Lib.hid (Dd.out.below b)
  replace Dx := Lib.hid (Dx.out.below b)
  replace Dn := Lib.hid (Dn.out.below b)
  replace B := Lib.hid (B.out.trans (b.mono B.out.size))
  replace FX := Lib.hid ((b.cell (p := ⟨gm, 0, none⟩) FL.out).trans FX.out)
  replace FL := Lib.hid (Nat.lt_of_lt_of_le FL.out b.size)
  clear b
  obtain ⟨uc0, uc1, uc2, uc3, ucl, cc0, cc1, cc2, cc3, ccl, dc0, dc1, dc2, dc3, dcl, xc0, xc1, xc2, xc3, xcl⟩ : w12.cell? ⟨w1.heap.size, 0, none⟩ = some (.int .i64 4) ∧ w12.cell? ⟨w1.heap.size, 1, none⟩ = some (.slice ai 2 2) ∧ w12.cell? ⟨w1.heap.size, 2, none⟩ = some (.slice ar 2 2) ∧ w12.cell? ⟨w1.heap.size, 3, none⟩ = some (.slice ac 2 2) ∧ w1.heap.size < w12.heap.size ∧ w12.cell? ⟨w3.heap.size, 0, none⟩ = some (.slice ca0 cv.pc.length ck0) ∧ w12.cell? ⟨w3.heap.size, 1, none⟩ = some (.slice ca1 cv.regs.length ck1) ∧ w12.cell? ⟨w3.heap.size, 2, none⟩ = some (.slice ca2 cv.mem.length ck2) ∧ w12.cell? ⟨w3.heap.size, 3, none⟩ = some (.slice ca3 cv.buf.length ck3) ∧ w3.heap.size < w12.heap.size ∧ w12.cell? ⟨w5.heap.size, 0, none⟩ = some (.slice da0 dv.pc.length dk0) ∧ w12.cell? ⟨w5.heap.size, 1, none⟩ = some (.slice da1 dv.regs.length dk1) ∧ w12.cell? ⟨w5.heap.size, 2, none⟩ = some (.slice da2 dv.mem.length dk2) ∧ w12.cell? ⟨w5.heap.size, 3, none⟩ = some (.slice da3 dv.buf.length dk3) ∧ w5.heap.size < w12.heap.size ∧ w12.cell? ⟨w7.heap.size, 0, none⟩ = some (.slice xa0 xv.pc.length xk0) ∧ w12.cell? ⟨w7.heap.size, 1, none⟩ = some (.slice xa1 xv.regs.length xk1) ∧ w12.cell? ⟨w7.heap.size, 2, none⟩ = some (.slice (some ⟨gm, 0, none⟩) 2 gk2) ∧ w12.cell? ⟨w7.heap.size, 3, none⟩ = some (.slice xa3 xv.buf.length xk3) ∧ w7.heap.size < w12.heap.size := ⟨Ku.out.cell 0, Ku.out.cell 1, Ku.out.cell 2, Ku.out.cell 3, Ku.out.lt, Kc.out.cell 0, Kc.out.cell 1, Kc.out.cell 2, Kc.out.cell 3, Kc.out.lt, Kd.out.cell 0, Kd.out.cell 1, Kd.out.cell 2, Kd.out.cell 3, Kd.out.lt, Kx.out.cell 0, Kx.out.cell 1, Kx.out.cell 2, Kx.out.cell 3, Kx.out.lt⟩
  go_wp2_with fail
  clear uc0 uc1 uc2 uc3 ucl cc0 cc1 cc2 cc3 ccl dc0 dc1 dc2 dc3 dcl xc0 xc1 xc2 xc3 xcl
  refine (magents_any (unitM v va vb) 3 _ _ _ w12 DU.out (ltM v va vb) (shortM v va vb) 6 (by kernel_rfl)).mono ?_
  rintro e w13 ⟨rfl, b⟩
  replace Ku := Lib.hid (Ku.out.below b)
  replace Kc := Lib.hid (Kc.out.below b)
  replace Kd := Lib.hid (Kd.out.below b)
  replace Kx := Lib.hid (Kx.out.below b)
  replace Kn := Lib.hid (Kn.out.below b)
  replace DU := Lib.hid (DU.out.below b)
  replace Dc := Lib.hid (Dc.out.below b)
  replace Dd := Lib.hid (Dd.out.below b)
  replace Dx := Lib.hid (Dx.out.below b)
  replace Dn := Lib.hid (Dn.out.below b)
  replace B := Lib.hid (B.out.trans (b.mono B.out.size))
  replace FX := Lib.hid ((b.cell (p := ⟨gm, 0, none⟩) FL.out).trans FX.out)
  replace FL := Lib.hid (Nat.lt_of_lt_of_le FL.out b.size)
  clear b
  obtain ⟨uc0, uc1, uc2, uc3, ucl, cc0, cc1, cc2, cc3, ccl, dc0, dc1, dc2, dc3, dcl, xc0, xc1, xc2, xc3, xcl⟩ : w13.cell? ⟨w1.heap.size, 0, none⟩ = some (.int .i64 4) ∧ w13.cell? ⟨w1.heap.size, 1, none⟩ = some (.slice ai 2 2) ∧ w13.cell? ⟨w1.heap.size, 2, none⟩ = some (.slice ar 2 2) ∧ w13.cell? ⟨w1.heap.size, 3, none⟩ = some (.slice ac 2 2) ∧ w1.heap.size < w13.heap.size ∧ w13.cell? ⟨w3.heap.size, 0, none⟩ = some (.slice ca0 cv.pc.length ck0) ∧ w13.cell? ⟨w3.heap.size, 1, none⟩ = some (.slice ca1 cv.regs.length ck1) ∧ w13.cell? ⟨w3.heap.size, 2, none⟩ = some (.slice ca2 cv.mem.length ck2) ∧ w13.cell? ⟨w3.heap.size, 3, none⟩ = some (.slice ca3 cv.buf.length ck3) ∧ w3.heap.size < w13.heap.size ∧ w13.cell? ⟨w5.heap.size, 0, none⟩ = some (.slice da0 dv.pc.length dk0) ∧ w13.cell? ⟨w5.heap.size, 1, none⟩ = some (.slice da1 dv.regs.length dk1) ∧ w13.cell? ⟨w5.heap.size, 2, none⟩ = some (.slice da2 dv.mem.length dk2) ∧ w13.cell? ⟨w5.heap.size, 3, none⟩ = some (.slice da3 dv.buf.length dk3) ∧ w5.heap.size < w13.heap.size ∧ w13.cell? ⟨w7.heap.size, 0, none⟩ = some (.slice xa0 xv.pc.length xk0) ∧ w13.cell? ⟨w7.heap.size, 1, none⟩ = some (.slice xa1 xv.regs.length xk1) ∧ w13.cell? ⟨w7.heap.size, 2, none⟩ = some (.slice (some ⟨gm, 0, none⟩) 2 gk2) ∧ w13.cell? ⟨w7.heap.size, 3, none⟩ = some (.slice xa3 xv.buf.length xk3) ∧ w7.heap.size < w13.heap.size := ⟨Ku.out.cell 0, Ku.out.cell 1, Ku.out.cell 2, Ku.out.cell 3, Ku.out.lt, Kc.out.cell 0, Kc.out.cell 1, Kc.out.cell 2, Kc.out.cell 3, Kc.out.lt, Kd.out.cell 0, Kd.out.cell 1, Kd.out.cell 2, Kd.out.cell 3, Kd.out.lt, Kx.out.cell 0, Kx.out.cell 1, Kx.out.cell 2, Kx.out.cell 3, Kx.out.lt⟩
  go_wp2_with fail
  clear uc0 uc1 uc2 uc3 ucl cc0 cc1 cc2 cc3 ccl dc0 dc1 dc2 dc3 dcl xc0 xc1 xc2 xc3 xcl
  refine (magents_any (unitM v va vb) 4 _ _ _ w13 DU.out (ltM v va vb) (shortM v va vb) 0 (by kernel_rfl)).mono ?_
  rintro e w14 ⟨rfl, b⟩
  replace Ku := Lib.hid (Ku.out.below b)
  replace Kc := Lib.hid (Kc.out.below b)
  replace Kd := Lib.hid (Kd.out.below b)
  replace Kx := Lib.hid (Kx.out.below b)
  replace Kn := Lib.hid (Kn.out.below b)
  replace DU := Lib.hid (DU.out.below b)
  replace Dc := Lib.hid (Dc.out.below b)
  replace Dd := Lib.hid (Dd.out.below b)
  replace Dx := Lib.hid (Dx.out.below b)
  replace Dn := Lib.hid (Dn.out.below b)
  replace B := Lib.hid (B.out.trans (b.mono B.out.size))
  replace FX := Lib.hid ((b.cell (p := ⟨gm, 0, none⟩) FL.out).trans FX.out)
  replace FL := Lib.hid (Nat.lt_of_lt_of_le FL.out b.size)
  clear b
  obtain ⟨uc0, uc1, uc2, uc3, ucl, cc0, cc1, cc2, cc3, ccl, dc0, dc1, dc2, dc3, dcl, xc0, xc1, xc2, xc3, xcl⟩ : w14.cell? ⟨w1.heap.size, 0, none⟩ = some (.int .i64 4) ∧ w14.cell? ⟨w1.heap.size, 1, none⟩ = some (.slice ai 2 2) ∧ w14.cell? ⟨w1.heap.size, 2, none⟩ = some (.slice ar 2 2) ∧ w14.cell? ⟨w1.heap.size, 3, none⟩ = some (.slice ac 2 2) ∧ w1.heap.size < w14.heap.size ∧ w14.cell? ⟨w3.heap.size, 0, none⟩ = some (.slice ca0 cv.pc.length ck0) ∧ w14.cell? ⟨w3.heap.size, 1, none⟩ = some (.slice ca1 cv.regs.length ck1) ∧ w14.cell? ⟨w3.heap.size, 2, none⟩ = some (.slice ca2 cv.mem.length ck2) ∧ w14.cell? ⟨w3.heap.size, 3, none⟩ = some (.slice ca3 cv.buf.length ck3) ∧ w3.heap.size < w14.heap.size ∧ w14.cell? ⟨w5.heap.size, 0, none⟩ = some (.slice da0 dv.pc.length dk0) ∧ w14.cell? ⟨w5.heap.size, 1, none⟩ = some (.slice da1 dv.regs.length dk1) ∧ w14.cell? ⟨w5.heap.size, 2, none⟩ = some (.slice da2 dv.mem.length dk2) ∧ w14.cell? ⟨w5.heap.size, 3, none⟩ = some (.slice da3 dv.buf.length dk3) ∧ w5.heap.size < w14.heap.size ∧ w14.cell? ⟨w7.heap.size, 0, none⟩ = some (.slice xa0 xv.pc.length xk0) ∧ w14.cell? ⟨w7.heap.size, 1, none⟩ = some (.slice xa1 xv.regs.length xk1) ∧ w14.cell? ⟨w7.heap.size, 2, none⟩ = some (.slice (some ⟨gm, 0, none⟩) 2 gk2) ∧ w14.cell? ⟨w7.heap.size, 3, none⟩ = some (.slice xa3 xv.buf.length xk3) ∧ w7.heap.size < w14.heap.size := ⟨Ku.out.cell 0, Ku.out.cell 1, Ku.out.cell 2, Ku.out.cell 3, Ku.out.lt, Kc.out.cell 0, Kc.out.cell 1, Kc.out.cell 2, Kc.out.cell 3, Kc.out.lt, Kd.out.cell 0, Kd.out.cell 1, Kd.out.cell 2, Kd.out.cell 3, Kd.out.lt, Kx.out.cell 0, Kx.out.cell 1, Kx.out.cell 2, Kx.out.cell 3, Kx.out.lt⟩
  go_wp2_with fail
  clear uc0 uc1 uc2 uc3 ucl cc0 cc1 cc2 cc3 ccl dc0 dc1 dc2 dc3 dcl xc0 xc1 xc2 xc3 xcl
  refine (mname_any (unitM v va vb) 3 5 _ _ _ w14 DU.out (ltM v va vb) (shortM v va vb) (⟨#[102, 49, 46, 49]⟩ : ByteArray) (na5 v va vb).1).mono ?_
  rintro e w15 ⟨rfl, b⟩
  replace Ku := Lib.hid (Ku.out.below b)
  replace Kc := Lib.hid (Kc.out.below b)
  replace Kd := Lib.hid (Kd.out.below b)
  replace Kx := Lib.hid (Kx.out.below b)
  replace Kn := Lib.hid (Kn.out.below b)
  replace DU := Lib.hid (DU.out.below b)
  replace Dc := Lib.hid (Dc.out.below b)
  replace Dd := Lib.hid (Dd.out.below b)
  replace Dx := Lib.hid (Dx.out.below b)
  replace Dn := Lib.hid (Dn.out.below b)
  replace B := Lib.hid (B.out.trans (b.mono B.out.size))
  replace FX := Lib.hid ((b.cell (p := ⟨gm, 0, none⟩) FL.out).trans FX.out)
  replace FL := Lib.hid (Nat.lt_of_lt_of_le FL.out b.size)
  clear b
  obtain ⟨uc0, uc1, uc2, uc3, ucl, cc0, cc1, cc2, cc3, ccl, dc0, dc1, dc2, dc3, dcl, xc0, xc1, xc2, xc3, xcl⟩ : w15.cell? ⟨w1.heap.size, 0, none⟩ = some (.int .i64 4) ∧ w15.cell? ⟨w1.heap.size, 1, none⟩ = some (.slice ai 2 2) ∧ w15.cell? ⟨w1.heap.size, 2, none⟩ = some (.slice ar 2 2) ∧ w15.cell? ⟨w1.heap.size, 3, none⟩ = some (.slice ac 2 2) ∧ w1.heap.size < w15.heap.size ∧ w15.cell? ⟨w3.heap.size, 0, none⟩ = some (.slice ca0 cv.pc.length ck0) ∧ w15.cell? ⟨w3.heap.size, 1, none⟩ = some (.slice ca1 cv.regs.length ck1) ∧ w15.cell? ⟨w3.heap.size, 2, none⟩ = some (.slice ca2 cv.mem.length ck2) ∧ w15.cell? ⟨w3.heap.size, 3, none⟩ = some (.slice ca3 cv.buf.length ck3) ∧ w3.heap.size < w15.heap.size ∧ w15.cell? ⟨w5.heap.size, 0, none⟩ = some (.slice da0 dv.pc.length dk0) ∧ w15.cell? ⟨w5.heap.size, 1, none⟩ = some (.slice da1 dv.regs.length dk1) ∧ w15.cell? ⟨w5.heap.size, 2, none⟩ = some (.slice da2 dv.mem.length dk2) ∧ w15.cell? ⟨w5.heap.size, 3, none⟩ = some (.slice da3 dv.buf.length dk3) ∧ w5.heap.size < w15.heap.size ∧ w15.cell? ⟨w7.heap.size, 0, none⟩ = some (.slice xa0 xv.pc.length xk0) ∧ w15.cell? ⟨w7.heap.size, 1, none⟩ = some (.slice xa1 xv.regs.length xk1) ∧ w15.cell? ⟨w7.heap.size, 2, none⟩ = some (.slice (some ⟨gm, 0, none⟩) 2 gk2) ∧ w15.cell? ⟨w7.heap.size, 3, none⟩ = some (.slice xa3 xv.buf.length xk3) ∧ w7.heap.size < w15.heap.size := ⟨Ku.out.cell 0, Ku.out.cell 1, Ku.out.cell 2, Ku.out.cell 3, Ku.out.lt, Kc.out.cell 0, Kc.out.cell 1, Kc.out.cell 2, Kc.out.cell 3, Kc.out.lt, Kd.out.cell 0, Kd.out.cell 1, Kd.out.cell 2, Kd.out.cell 3, Kd.out.lt, Kx.out.cell 0, Kx.out.cell 1, Kx.out.cell 2, Kx.out.cell 3, Kx.out.lt⟩
  go_wp2_with fail
  clear uc0 uc1 uc2 uc3 ucl cc0 cc1 cc2 cc3 ccl dc0 dc1 dc2 dc3 dcl xc0 xc1 xc2 xc3 xcl
  refine (mname_any (unitM v va vb) 2 2 _ _ _ w15 DU.out (ltM v va vb) (shortM v va vb) (⟨#[102, 48]⟩ : ByteArray) (na5 v va vb).2).mono ?_
  rintro e w16 ⟨rfl, b⟩
  replace Ku := Lib.hid (Ku.out.below b)
  replace Kc := Lib.hid (Kc.out.below b)
  replace Kd := Lib.hid (Kd.out.below b)
  replace Kx := Lib.hid (Kx.out.below b)
  replace Kn := Lib.hid (Kn.out.below b)
  replace DU := Lib.hid (DU.out.below b)
  replace Dc := Lib.hid (Dc.out.below b)
  replace Dd := Lib.hid (Dd.out.below b)
  replace Dx := Lib.hid (Dx.out.below b)
  replace Dn := Lib.hid (Dn.out.below b)
  replace B := Lib.hid (B.out.trans (b.mono B.out.size))
  replace FX := Lib.hid ((b.cell (p := ⟨gm, 0, none⟩) FL.out).trans FX.out)
  replace FL := Lib.hid (Nat.lt_of_lt_of_le FL.out b.size)
  clear b
  obtain ⟨uc0, uc1, uc2, uc3, ucl, cc0, cc1, cc2, cc3, ccl, dc0, dc1, dc2, dc3, dcl, xc0, xc1, xc2, xc3, xcl⟩ : w16.cell? ⟨w1.heap.size, 0, none⟩ = some (.int .i64 4) ∧ w16.cell? ⟨w1.heap.size, 1, none⟩ = some (.slice ai 2 2) ∧ w16.cell? ⟨w1.heap.size, 2, none⟩ = some (.slice ar 2 2) ∧ w16.cell? ⟨w1.heap.size, 3, none⟩ = some (.slice ac 2 2) ∧ w1.heap.size < w16.heap.size ∧ w16.cell? ⟨w3.heap.size, 0, none⟩ = some (.slice ca0 cv.pc.length ck0) ∧ w16.cell? ⟨w3.heap.size, 1, none⟩ = some (.slice ca1 cv.regs.length ck1) ∧ w16.cell? ⟨w3.heap.size, 2, none⟩ = some (.slice ca2 cv.mem.length ck2) ∧ w16.cell? ⟨w3.heap.size, 3, none⟩ = some (.slice ca3 cv.buf.length ck3) ∧ w3.heap.size < w16.heap.size ∧ w16.cell? ⟨w5.heap.size, 0, none⟩ = some (.slice da0 dv.pc.length dk0) ∧ w16.cell? ⟨w5.heap.size, 1, none⟩ = some (.slice da1 dv.regs.length dk1) ∧ w16.cell? ⟨w5.heap.size, 2, none⟩ = some (.slice da2 dv.mem.length dk2) ∧ w16.cell? ⟨w5.heap.size, 3, none⟩ = some (.slice da3 dv.buf.length dk3) ∧ w5.heap.size < w16.heap.size ∧ w16.cell? ⟨w7.heap.size, 0, none⟩ = some (.slice xa0 xv.pc.length xk0) ∧ w16.cell? ⟨w7.heap.size, 1, none⟩ = some (.slice xa1 xv.regs.length xk1) ∧ w16.cell? ⟨w7.heap.size, 2, none⟩ = some (.slice (some ⟨gm, 0, none⟩) 2 gk2) ∧ w16.cell? ⟨w7.heap.size, 3, none⟩ = some (.slice xa3 xv.buf.length xk3) ∧ w7.heap.size < w16.heap.size := ⟨Ku.out.cell 0, Ku.out.cell 1, Ku.out.cell 2, Ku.out.cell 3, Ku.out.lt, Kc.out.cell 0, Kc.out.cell 1, Kc.out.cell 2, Kc.out.cell 3, Kc.out.lt, Kd.out.cell 0, Kd.out.cell 1, Kd.out.cell 2, Kd.out.cell 3, Kd.out.lt, Kx.out.cell 0, Kx.out.cell 1, Kx.out.cell 2, Kx.out.cell 3, Kx.out.lt⟩
  go_wp2_with fail
  clear uc0 uc1 uc2 uc3 ucl cc0 cc1 cc2 cc3 ccl dc0 dc1 dc2 dc3 dcl xc0 xc1 xc2 xc3 xcl
  refine (mnumber_any (unitM v va vb) 3 sF10 _ _ _ w16 DU.out (ltM v va vb) (shortM v va vb) 4 (nu4 v va vb).1).mono ?_
  rintro e w17 ⟨rfl, b⟩
  replace Ku := Lib.hid (Ku.out.below b)
  replace Kc := Lib.hid (Kc.out.below b)
  replace Kd := Lib.hid (Kd.out.below b)
  replace Kx := Lib.hid (Kx.out.below b)
  replace Kn := Lib.hid (Kn.out.below b)
  replace DU := Lib.hid (DU.out.below b)
  replace Dc := Lib.hid (Dc.out.below b)
  replace Dd := Lib.hid (Dd.out.below b)
  replace Dx := Lib.hid (Dx.out.below b)
  replace Dn := Lib.hid (Dn.out.below b)
  replace B := Lib.hid (B.out.trans (b.mono B.out.size))
  replace FX := Lib.hid ((b.cell (p := ⟨gm, 0, none⟩) FL.out).trans FX.out)
  replace FL := Lib.hid (Nat.lt_of_lt_of_le FL.out b.size)
  clear b
  obtain ⟨uc0, uc1, uc2, uc3, ucl, cc0, cc1, cc2, cc3, ccl, dc0, dc1, dc2, dc3, dcl, xc0, xc1, xc2, xc3, xcl⟩ : w17.cell? ⟨w1.heap.size, 0, none⟩ = some (.int .i64 4) ∧ w17.cell? ⟨w1.heap.size, 1, none⟩ = some (.slice ai 2 2) ∧ w17.cell? ⟨w1.heap.size, 2, none⟩ = some (.slice ar 2 2) ∧ w17.cell? ⟨w1.heap.size, 3, none⟩ = some (.slice ac 2 2) ∧ w1.heap.size < w17.heap.size ∧ w17.cell? ⟨w3.heap.size, 0, none⟩ = some (.slice ca0 cv.pc.length ck0) ∧ w17.cell? ⟨w3.heap.size, 1, none⟩ = some (.slice ca1 cv.regs.length ck1) ∧ w17.cell? ⟨w3.heap.size, 2, none⟩ = some (.slice ca2 cv.mem.length ck2) ∧ w17.cell? ⟨w3.heap.size, 3, none⟩ = some (.slice ca3 cv.buf.length ck3) ∧ w3.heap.size < w17.heap.size ∧ w17.cell? ⟨w5.heap.size, 0, none⟩ = some (.slice da0 dv.pc.length dk0) ∧ w17.cell? ⟨w5.heap.size, 1, none⟩ = some (.slice da1 dv.regs.length dk1) ∧ w17.cell? ⟨w5.heap.size, 2, none⟩ = some (.slice da2 dv.mem.length dk2) ∧ w17.cell? ⟨w5.heap.size, 3, none⟩ = some (.slice da3 dv.buf.length dk3) ∧ w5.heap.size < w17.heap.size ∧ w17.cell? ⟨w7.heap.size, 0, none⟩ = some (.slice xa0 xv.pc.length xk0) ∧ w17.cell? ⟨w7.heap.size, 1, none⟩ = some (.slice xa1 xv.regs.length xk1) ∧ w17.cell? ⟨w7.heap.size, 2, none⟩ = some (.slice (some ⟨gm, 0, none⟩) 2 gk2) ∧ w17.cell? ⟨w7.heap.size, 3, none⟩ = some (.slice xa3 xv.buf.length xk3) ∧ w7.heap.size < w17.heap.size := ⟨Ku.out.cell 0, Ku.out.cell 1, Ku.out.cell 2, Ku.out.cell 3, Ku.out.lt, Kc.out.cell 0, Kc.out.cell 1, Kc.out.cell 2, Kc.out.cell 3, Kc.out.lt, Kd.out.cell 0, Kd.out.cell 1, Kd.out.cell 2, Kd.out.cell 3, Kd.out.lt, Kx.out.cell 0, Kx.out.cell 1, Kx.out.cell 2, Kx.out.cell 3, Kx.out.lt⟩
  go_wp2_with fail
  clear uc0 uc1 uc2 uc3 ucl cc0 cc1 cc2 cc3 ccl dc0 dc1 dc2 dc3 dcl xc0 xc1 xc2 xc3 xcl
  refine (mnumber_any (unitM v va vb) 1 sF0 _ _ _ w17 DU.out (ltM v va vb) (shortM v va vb) (-1) (nu4 v va vb).2).mono ?_
  rintro e w18 ⟨rfl, b⟩
  replace Ku := Lib.hid (Ku.out.below b)
  replace Kc := Lib.hid (Kc.out.below b)
  replace Kd := Lib.hid (Kd.out.below b)
  replace Kx := Lib.hid (Kx.out.below b)
  replace Kn := Lib.hid (Kn.out.below b)
  replace DU := Lib.hid (DU.out.below b)
  replace Dc := Lib.hid (Dc.out.below b)
  replace Dd := Lib.hid (Dd.out.below b)
  replace Dx := Lib.hid (Dx.out.below b)
  replace Dn := Lib.hid (Dn.out.below b)
  replace B := Lib.hid (B.out.trans (b.mono B.out.size))
  replace FX := Lib.hid ((b.cell (p := ⟨gm, 0, none⟩) FL.out).trans FX.out)
  replace FL := Lib.hid (Nat.lt_of_lt_of_le FL.out b.size)
  clear b
  obtain ⟨uc0, uc1, uc2, uc3, ucl, cc0, cc1, cc2, cc3, ccl, dc0, dc1, dc2, dc3, dcl, xc0, xc1, xc2, xc3, xcl⟩ : w18.cell? ⟨w1.heap.size, 0, none⟩ = some (.int .i64 4) ∧ w18.cell? ⟨w1.heap.size, 1, none⟩ = some (.slice ai 2 2) ∧ w18.cell? ⟨w1.heap.size, 2, none⟩ = some (.slice ar 2 2) ∧ w18.cell? ⟨w1.heap.size, 3, none⟩ = some (.slice ac 2 2) ∧ w1.heap.size < w18.heap.size ∧ w18.cell? ⟨w3.heap.size, 0, none⟩ = some (.slice ca0 cv.pc.length ck0) ∧ w18.cell? ⟨w3.heap.size, 1, none⟩ = some (.slice ca1 cv.regs.length ck1) ∧ w18.cell? ⟨w3.heap.size, 2, none⟩ = some (.slice ca2 cv.mem.length ck2) ∧ w18.cell? ⟨w3.heap.size, 3, none⟩ = some (.slice ca3 cv.buf.length ck3) ∧ w3.heap.size < w18.heap.size ∧ w18.cell? ⟨w5.heap.size, 0, none⟩ = some (.slice da0 dv.pc.length dk0) ∧ w18.cell? ⟨w5.heap.size, 1, none⟩ = some (.slice da1 dv.regs.length dk1) ∧ w18.cell? ⟨w5.heap.size, 2, none⟩ = some (.slice da2 dv.mem.length dk2) ∧ w18.cell? ⟨w5.heap.size, 3, none⟩ = some (.slice da3 dv.buf.length dk3) ∧ w5.heap.size < w18.heap.size ∧ w18.cell? ⟨w7.heap.size, 0, none⟩ = some (.slice xa0 xv.pc.length xk0) ∧ w18.cell? ⟨w7.heap.size, 1, none⟩ = some (.slice xa1 xv.regs.length xk1) ∧ w18.cell? ⟨w7.heap.size, 2, none⟩ = some (.slice (some ⟨gm, 0, none⟩) 2 gk2) ∧ w18.cell? ⟨w7.heap.size, 3, none⟩ = some (.slice xa3 xv.buf.length xk3) ∧ w7.heap.size < w18.heap.size := ⟨Ku.out.cell 0, Ku.out.cell 1, Ku.out.cell 2, Ku.out.cell 3, Ku.out.lt, Kc.out.cell 0, Kc.out.cell 1, Kc.out.cell 2, Kc.out.cell 3, Kc.out.lt, Kd.out.cell 0, Kd.out.cell 1, Kd.out.cell 2, Kd.out.cell 3, Kd.out.lt, Kx.out.cell 0, Kx.out.cell 1, Kx.out.cell 2, Kx.out.cell 3, Kx.out.lt⟩
  go_wp2_with fail
  clear uc0 uc1 uc2 uc3 ucl cc0 cc1 cc2 cc3 ccl dc0 dc1 dc2 dc3 dcl xc0 xc1 xc2 xc3 xcl
  have HM := mmoves_any (unitM v va vb) cv 3 1 _ _ _ _ _ _ _ w18 DU.out Dc.out (usM v va vb) (rrM Pc.out (m0 v va vb))
  rw [Pc.out, mv0 v va vb] at HM
  replace HM := Lib.hid HM
  refine HM.out.mono ?_
  rintro e w19 ⟨mv, rfl, ov, b⟩
  clear HM
  replace Ku := Lib.hid (Ku.out.below b)
  replace Kc := Lib.hid (Kc.out.below b)
  replace Kd := Lib.hid (Kd.out.below b)
  replace Kx := Lib.hid (Kx.out.below b)
  replace Kn := Lib.hid (Kn.out.below b)
  replace DU := Lib.hid (DU.out.below b)
  replace Dc := Lib.hid (Dc.out.below b)
  replace Dd := Lib.hid (Dd.out.below b)
  replace Dx := Lib.hid (Dx.out.below b)
  replace Dn := Lib.hid (Dn.out.below b)
  replace B := Lib.hid (B.out.trans (b.mono B.out.size))
  replace FX := Lib.hid ((b.cell (p := ⟨gm, 0, none⟩) FL.out).trans FX.out)
  replace FL := Lib.hid (Nat.lt_of_lt_of_le FL.out b.size)
  clear b
  obtain ⟨ma, mk, rfl, _⟩ := own_shape' ov
  have ID := Lib.hid (intsD_own ov)
  clear ov
  have KL := Lib.hid (Bk.new w19 3 #[.int .i64 0])
  have BW : Hid (Below w19.heap.size w19 (World.alloc w19 (.cells #[.int .i64 0] 3))) := Lib.hid (bal (Below.refl _ _) _)
  obtain ⟨uc0, uc1, uc2, uc3, ucl, cc0, cc1, cc2, cc3, ccl, dc0, dc1, dc2, dc3, dcl, xc0, xc1, xc2, xc3, xcl⟩ : w19.cell? ⟨w1.heap.size, 0, none⟩ = some (.int .i64 4) ∧ w19.cell? ⟨w1.heap.size, 1, none⟩ = some (.slice ai 2 2) ∧ w19.cell? ⟨w1.heap.size, 2, none⟩ = some (.slice ar 2 2) ∧ w19.cell? ⟨w1.heap.size, 3, none⟩ = some (.slice ac 2 2) ∧ w1.heap.size < w19.heap.size ∧ w19.cell? ⟨w3.heap.size, 0, none⟩ = some (.slice ca0 cv.pc.length ck0) ∧ w19.cell? ⟨w3.heap.size, 1, none⟩ = some (.slice ca1 cv.regs.length ck1) ∧ w19.cell? ⟨w3.heap.size, 2, none⟩ = some (.slice ca2 cv.mem.length ck2) ∧ w19.cell? ⟨w3.heap.size, 3, none⟩ = some (.slice ca3 cv.buf.length ck3) ∧ w3.heap.size < w19.heap.size ∧ w19.cell? ⟨w5.heap.size, 0, none⟩ = some (.slice da0 dv.pc.length dk0) ∧ w19.cell? ⟨w5.heap.size, 1, none⟩ = some (.slice da1 dv.regs.length dk1) ∧ w19.cell? ⟨w5.heap.size, 2, none⟩ = some (.slice da2 dv.mem.length dk2) ∧ w19.cell? ⟨w5.heap.size, 3, none⟩ = some (.slice da3 dv.buf.length dk3) ∧ w5.heap.size < w19.heap.size ∧ w19.cell? ⟨w7.heap.size, 0, none⟩ = some (.slice xa0 xv.pc.length xk0) ∧ w19.cell? ⟨w7.heap.size, 1, none⟩ = some (.slice xa1 xv.regs.length xk1) ∧ w19.cell? ⟨w7.heap.size, 2, none⟩ = some (.slice (some ⟨gm, 0, none⟩) 2 gk2) ∧ w19.cell? ⟨w7.heap.size, 3, none⟩ = some (.slice xa3 xv.buf.length xk3) ∧ w7.heap.size < w19.heap.size := ⟨Ku.out.cell 0, Ku.out.cell 1, Ku.out.cell 2, Ku.out.cell 3, Ku.out.lt, Kc.out.cell 0, Kc.out.cell 1, Kc.out.cell 2, Kc.out.cell 3, Kc.out.lt, Kd.out.cell 0, Kd.out.cell 1, Kd.out.cell 2, Kd.out.cell 3, Kd.out.lt, Kx.out.cell 0, Kx.out.cell 1, Kx.out.cell 2, Kx.out.cell 3, Kx.out.lt⟩
  go_wp2_with fail
  clear uc0 uc1 uc2 uc3 ucl cc0 cc1 cc2 cc3 ccl dc0 dc1 dc2 dc3 dcl xc0 xc1 xc2 xc3 xcl
  obtain ⟨w20, hw20⟩ : ∃ z, World.alloc w19 (.cells #[.int .i64 0] 3) = z := ⟨_, rfl⟩
  rw [hw20] at KL BW ⊢
  replace ID := Lib.hid (IntsD.below ID.out BW.out)
  replace Ku := Lib.hid (Ku.out.below BW.out)
  replace Kc := Lib.hid (Kc.out.below BW.out)
  replace Kd := Lib.hid (Kd.out.below BW.out)
  replace Kx := Lib.hid (Kx.out.below BW.out)
  replace Kn := Lib.hid (Kn.out.below BW.out)
  replace DU := Lib.hid (DU.out.below BW.out)
  replace Dc := Lib.hid (Dc.out.below BW.out)
  replace Dd := Lib.hid (Dd.out.below BW.out)
  replace Dx := Lib.hid (Dx.out.below BW.out)
  replace Dn := Lib.hid (Dn.out.below BW.out)
  replace B := Lib.hid (B.out.trans (BW.out.mono B.out.size))
  replace FX := Lib.hid ((BW.out.cell (p := ⟨gm, 0, none⟩) FL.out).trans FX.out)
  replace FL := Lib.hid (Nat.lt_of_lt_of_le FL.out BW.out.size)
  clear BW
  have HI := Lib.hid (ints_gen [0] [0] _ _ w20 ID.out (intsD_of_bk (T := 3) (xs := [0]) KL.out rfl (by decide)) (by decide) true (by rfl))
  clear KL ID hw20
  refine HI.out.mono ?_
  rintro e w21 ⟨rfl, b⟩
  clear HI
  replace Ku := Lib.hid (Ku.out.below b)
  replace Kc := Lib.hid (Kc.out.below b)
  replace Kd := Lib.hid (Kd.out.below b)
  replace Kx := Lib.hid (Kx.out.below b)
  replace Kn := Lib.hid (Kn.out.below b)
  replace DU := Lib.hid (DU.out.below b)
  replace Dc := Lib.hid (Dc.out.below b)
  replace Dd := Lib.hid (Dd.out.below b)
  replace Dx := Lib.hid (Dx.out.below b)
  replace Dn := Lib.hid (Dn.out.below b)
  replace B := Lib.hid (B.out.trans (b.mono B.out.size))
  replace FX := Lib.hid ((b.cell (p := ⟨gm, 0, none⟩) FL.out).trans FX.out)
  replace FL := Lib.hid (Nat.lt_of_lt_of_le FL.out b.size)
  clear b
  obtain ⟨uc0, uc1, uc2, uc3, ucl, cc0, cc1, cc2, cc3, ccl, dc0, dc1, dc2, dc3, dcl, xc0, xc1, xc2, xc3, xcl⟩ : w21.cell? ⟨w1.heap.size, 0, none⟩ = some (.int .i64 4) ∧ w21.cell? ⟨w1.heap.size, 1, none⟩ = some (.slice ai 2 2) ∧ w21.cell? ⟨w1.heap.size, 2, none⟩ = some (.slice ar 2 2) ∧ w21.cell? ⟨w1.heap.size, 3, none⟩ = some (.slice ac 2 2) ∧ w1.heap.size < w21.heap.size ∧ w21.cell? ⟨w3.heap.size, 0, none⟩ = some (.slice ca0 cv.pc.length ck0) ∧ w21.cell? ⟨w3.heap.size, 1, none⟩ = some (.slice ca1 cv.regs.length ck1) ∧ w21.cell? ⟨w3.heap.size, 2, none⟩ = some (.slice ca2 cv.mem.length ck2) ∧ w21.cell? ⟨w3.heap.size, 3, none⟩ = some (.slice ca3 cv.buf.length ck3) ∧ w3.heap.size < w21.heap.size ∧ w21.cell? ⟨w5.heap.size, 0, none⟩ = some (.slice da0 dv.pc.length dk0) ∧ w21.cell? ⟨w5.heap.size, 1, none⟩ = some (.slice da1 dv.regs.length dk1) ∧ w21.cell? ⟨w5.heap.size, 2, none⟩ = some (.slice da2 dv.mem.length dk2) ∧ w21.cell? ⟨w5.heap.size, 3, none⟩ = some (.slice da3 dv.buf.length dk3) ∧ w5.heap.size < w21.heap.size ∧ w21.cell? ⟨w7.heap.size, 0, none⟩ = some (.slice xa0 xv.pc.length xk0) ∧ w21.cell? ⟨w7.heap.size, 1, none⟩ = some (.slice xa1 xv.regs.length xk1) ∧ w21.cell? ⟨w7.heap.size, 2, none⟩ = some (.slice (some ⟨gm, 0, none⟩) 2 gk2) ∧ w21.cell? ⟨w7.heap.size, 3, none⟩ = some (.slice xa3 xv.buf.length xk3) ∧ w7.heap.size < w21.heap.size := ⟨Ku.out.cell 0, Ku.out.cell 1, Ku.out.cell 2, Ku.out.cell 3, Ku.out.lt, Kc.out.cell 0, Kc.out.cell 1, Kc.out.cell 2, Kc.out.cell 3, Kc.out.lt, Kd.out.cell 0, Kd.out.cell 1, Kd.out.cell 2, Kd.out.cell 3, Kd.out.lt, Kx.out.cell 0, Kx.out.cell 1, Kx.out.cell 2, Kx.out.cell 3, Kx.out.lt⟩
  go_wp2_with fail
  clear uc0 uc1 uc2 uc3 ucl cc0 cc1 cc2 cc3 ccl dc0 dc1 dc2 dc3 dcl xc0 xc1 xc2 xc3 xcl
  have HM := mmoves_any (unitM v va vb) dv 3 1 _ _ _ _ _ _ _ w21 DU.out Dd.out (usM v va vb) (rrM Pd.out (m1 v va vb))
  rw [Pd.out, mv1 v va vb] at HM
  replace HM := Lib.hid HM
  refine HM.out.mono ?_
  rintro e w22 ⟨mv, rfl, ov, b⟩
  clear HM
  replace Ku := Lib.hid (Ku.out.below b)
  replace Kc := Lib.hid (Kc.out.below b)
  replace Kd := Lib.hid (Kd.out.below b)
  replace Kx := Lib.hid (Kx.out.below b)
  replace Kn := Lib.hid (Kn.out.below b)
  replace DU := Lib.hid (DU.out.below b)
  replace Dc := Lib.hid (Dc.out.below b)
  replace Dd := Lib.hid (Dd.out.below b)
  replace Dx := Lib.hid (Dx.out.below b)
  replace Dn := Lib.hid (Dn.out.below b)
  replace B := Lib.hid (B.out.trans (b.mono B.out.size))
  replace FX := Lib.hid ((b.cell (p := ⟨gm, 0, none⟩) FL.out).trans FX.out)
  replace FL := Lib.hid (Nat.lt_of_lt_of_le FL.out b.size)
  clear b
  obtain ⟨ma, mk, rfl, _⟩ := own_shape' ov
  have ID := Lib.hid (intsD_own ov)
  clear ov
  have KL := Lib.hid (Bk.new w22 3 #[.int .i64 2])
  have BW : Hid (Below w22.heap.size w22 (World.alloc w22 (.cells #[.int .i64 2] 3))) := Lib.hid (bal (Below.refl _ _) _)
  obtain ⟨uc0, uc1, uc2, uc3, ucl, cc0, cc1, cc2, cc3, ccl, dc0, dc1, dc2, dc3, dcl, xc0, xc1, xc2, xc3, xcl⟩ : w22.cell? ⟨w1.heap.size, 0, none⟩ = some (.int .i64 4) ∧ w22.cell? ⟨w1.heap.size, 1, none⟩ = some (.slice ai 2 2) ∧ w22.cell? ⟨w1.heap.size, 2, none⟩ = some (.slice ar 2 2) ∧ w22.cell? ⟨w1.heap.size, 3, none⟩ = some (.slice ac 2 2) ∧ w1.heap.size < w22.heap.size ∧ w22.cell? ⟨w3.heap.size, 0, none⟩ = some (.slice ca0 cv.pc.length ck0) ∧ w22.cell? ⟨w3.heap.size, 1, none⟩ = some (.slice ca1 cv.regs.length ck1) ∧ w22.cell? ⟨w3.heap.size, 2, none⟩ = some (.slice ca2 cv.mem.length ck2) ∧ w22.cell? ⟨w3.heap.size, 3, none⟩ = some (.slice ca3 cv.buf.length ck3) ∧ w3.heap.size < w22.heap.size ∧ w22.cell? ⟨w5.heap.size, 0, none⟩ = some (.slice da0 dv.pc.length dk0) ∧ w22.cell? ⟨w5.heap.size, 1, none⟩ = some (.slice da1 dv.regs.length dk1) ∧ w22.cell? ⟨w5.heap.size, 2, none⟩ = some (.slice da2 dv.mem.length dk2) ∧ w22.cell? ⟨w5.heap.size, 3, none⟩ = some (.slice da3 dv.buf.length dk3) ∧ w5.heap.size < w22.heap.size ∧ w22.cell? ⟨w7.heap.size, 0, none⟩ = some (.slice xa0 xv.pc.length xk0) ∧ w22.cell? ⟨w7.heap.size, 1, none⟩ = some (.slice xa1 xv.regs.length xk1) ∧ w22.cell? ⟨w7.heap.size, 2, none⟩ = some (.slice (some ⟨gm, 0, none⟩) 2 gk2) ∧ w22.cell? ⟨w7.heap.size, 3, none⟩ = some (.slice xa3 xv.buf.length xk3) ∧ w7.heap.size < w22.heap.size := ⟨Ku.out.cell 0, Ku.out.cell 1, Ku.out.cell 2, Ku.out.cell 3, Ku.out.lt, Kc.out.cell 0, Kc.out.cell 1, Kc.out.cell 2, Kc.out.cell 3, Kc.out.lt, Kd.out.cell 0, Kd.out.cell 1, Kd.out.cell 2, Kd.out.cell 3, Kd.out.lt, Kx.out.cell 0, Kx.out.cell 1, Kx.out.cell 2, Kx.out.cell 3, Kx.out.lt⟩
  go_wp2_with fail
  clear uc0 uc1 uc2 uc3 ucl cc0 cc1 cc2 cc3 ccl dc0 dc1 dc2 dc3 dcl xc0 xc1 xc2 xc3 xcl
  obtain ⟨w23, hw23⟩ : ∃ z, World.alloc w22 (.cells #[.int .i64 2] 3) = z := ⟨_, rfl⟩
  rw [hw23] at KL BW ⊢
  replace ID := Lib.hid (IntsD.below ID.out BW.out)
  replace Ku := Lib.hid (Ku.out.below BW.out)
  replace Kc := Lib.hid (Kc.out.below BW.out)
  replace Kd := Lib.hid (Kd.out.below BW.out)
  replace Kx := Lib.hid (Kx.out.below BW.out)
  replace Kn := Lib.hid (Kn.out.below BW.out)
  replace DU := Lib.hid (DU.out.below BW.out)
  replace Dc := Lib.hid (Dc.out.below BW.out)
  replace Dd := Lib.hid (Dd.out.below BW.out)
  replace Dx := Lib.hid (Dx.out.below BW.out)
  replace Dn := Lib.hid (Dn.out.below BW.out)
  replace B := Lib.hid (B.out.trans (BW.out.mono B.out.size))
  replace FX := Lib.hid ((BW.out.cell (p := ⟨gm, 0, none⟩) FL.out).trans FX.out)
  replace FL := Lib.hid (Nat.lt_of_lt_of_le FL.out BW.out.size)
  clear BW
  have HI := Lib.hid (ints_gen [2] [2] _ _ w23 ID.out (intsD_of_bk (T := 3) (xs := [2]) KL.out rfl (by decide)) (by decide) true (by rfl))
  clear KL ID hw23
  refine HI.out.mono ?_
  rintro e w24 ⟨rfl, b⟩
  clear HI
  replace Ku := Lib.hid (Ku.out.below b)
  replace Kc := Lib.hid (Kc.out.below b)
  replace Kd := Lib.hid (Kd.out.below b)
  replace Kx := Lib.hid (Kx.out.below b)
  replace Kn := Lib.hid (Kn.out.below b)
  replace DU := Lib.hid (DU.out.below b)
  replace Dc := Lib.hid (Dc.out.below b)
  replace Dd := Lib.hid (Dd.out.below b)
  replace Dx := Lib.hid (Dx.out.below b)
  replace Dn := Lib.hid (Dn.out.below b)
  replace B := Lib.hid (B.out.trans (b.mono B.out.size))
  replace FX := Lib.hid ((b.cell (p := ⟨gm, 0, none⟩) FL.out).trans FX.out)
  replace FL := Lib.hid (Nat.lt_of_lt_of_le FL.out b.size)
  clear b
  obtain ⟨uc0, uc1, uc2, uc3, ucl, cc0, cc1, cc2, cc3, ccl, dc0, dc1, dc2, dc3, dcl, xc0, xc1, xc2, xc3, xcl⟩ : w24.cell? ⟨w1.heap.size, 0, none⟩ = some (.int .i64 4) ∧ w24.cell? ⟨w1.heap.size, 1, none⟩ = some (.slice ai 2 2) ∧ w24.cell? ⟨w1.heap.size, 2, none⟩ = some (.slice ar 2 2) ∧ w24.cell? ⟨w1.heap.size, 3, none⟩ = some (.slice ac 2 2) ∧ w1.heap.size < w24.heap.size ∧ w24.cell? ⟨w3.heap.size, 0, none⟩ = some (.slice ca0 cv.pc.length ck0) ∧ w24.cell? ⟨w3.heap.size, 1, none⟩ = some (.slice ca1 cv.regs.length ck1) ∧ w24.cell? ⟨w3.heap.size, 2, none⟩ = some (.slice ca2 cv.mem.length ck2) ∧ w24.cell? ⟨w3.heap.size, 3, none⟩ = some (.slice ca3 cv.buf.length ck3) ∧ w3.heap.size < w24.heap.size ∧ w24.cell? ⟨w5.heap.size, 0, none⟩ = some (.slice da0 dv.pc.length dk0) ∧ w24.cell? ⟨w5.heap.size, 1, none⟩ = some (.slice da1 dv.regs.length dk1) ∧ w24.cell? ⟨w5.heap.size, 2, none⟩ = some (.slice da2 dv.mem.length dk2) ∧ w24.cell? ⟨w5.heap.size, 3, none⟩ = some (.slice da3 dv.buf.length dk3) ∧ w5.heap.size < w24.heap.size ∧ w24.cell? ⟨w7.heap.size, 0, none⟩ = some (.slice xa0 xv.pc.length xk0) ∧ w24.cell? ⟨w7.heap.size, 1, none⟩ = some (.slice xa1 xv.regs.length xk1) ∧ w24.cell? ⟨w7.heap.size, 2, none⟩ = some (.slice (some ⟨gm, 0, none⟩) 2 gk2) ∧ w24.cell? ⟨w7.heap.size, 3, none⟩ = some (.slice xa3 xv.buf.length xk3) ∧ w7.heap.size < w24.heap.size := ⟨Ku.out.cell 0, Ku.out.cell 1, Ku.out.cell 2, Ku.out.cell 3, Ku.out.lt, Kc.out.cell 0, Kc.out.cell 1, Kc.out.cell 2, Kc.out.cell 3, Kc.out.lt, Kd.out.cell 0, Kd.out.cell 1, Kd.out.cell 2, Kd.out.cell 3, Kd.out.lt, Kx.out.cell 0, Kx.out.cell 1, Kx.out.cell 2, Kx.out.cell 3, Kx.out.lt⟩
  go_wp2_with fail
  clear uc0 uc1 uc2 uc3 ucl cc0 cc1 cc2 cc3 ccl dc0 dc1 dc2 dc3 dcl xc0 xc1 xc2 xc3 xcl
  refine (mdead_any (unitM v va vb) xv 3 1 _ _ _ _ _ _ _ w24 DU.out Dx.out (usM v va vb) (rrM Px.out (m2 v va vb)) true (mdead2 v va vb Px.out)).mono ?_
  rintro e w25 ⟨rfl, b⟩
  replace Ku := Lib.hid (Ku.out.below b)
  replace Kc := Lib.hid (Kc.out.below b)
  replace Kd := Lib.hid (Kd.out.below b)
  replace Kx := Lib.hid (Kx.out.below b)
  replace Kn := Lib.hid (Kn.out.below b)
  replace DU := Lib.hid (DU.out.below b)
  replace Dc := Lib.hid (Dc.out.below b)
  replace Dd := Lib.hid (Dd.out.below b)
  replace Dx := Lib.hid (Dx.out.below b)
  replace Dn := Lib.hid (Dn.out.below b)
  replace B := Lib.hid (B.out.trans (b.mono B.out.size))
  replace FX := Lib.hid ((b.cell (p := ⟨gm, 0, none⟩) FL.out).trans FX.out)
  replace FL := Lib.hid (Nat.lt_of_lt_of_le FL.out b.size)
  clear b
  obtain ⟨uc0, uc1, uc2, uc3, ucl, cc0, cc1, cc2, cc3, ccl, dc0, dc1, dc2, dc3, dcl, xc0, xc1, xc2, xc3, xcl⟩ : w25.cell? ⟨w1.heap.size, 0, none⟩ = some (.int .i64 4) ∧ w25.cell? ⟨w1.heap.size, 1, none⟩ = some (.slice ai 2 2) ∧ w25.cell? ⟨w1.heap.size, 2, none⟩ = some (.slice ar 2 2) ∧ w25.cell? ⟨w1.heap.size, 3, none⟩ = some (.slice ac 2 2) ∧ w1.heap.size < w25.heap.size ∧ w25.cell? ⟨w3.heap.size, 0, none⟩ = some (.slice ca0 cv.pc.length ck0) ∧ w25.cell? ⟨w3.heap.size, 1, none⟩ = some (.slice ca1 cv.regs.length ck1) ∧ w25.cell? ⟨w3.heap.size, 2, none⟩ = some (.slice ca2 cv.mem.length ck2) ∧ w25.cell? ⟨w3.heap.size, 3, none⟩ = some (.slice ca3 cv.buf.length ck3) ∧ w3.heap.size < w25.heap.size ∧ w25.cell? ⟨w5.heap.size, 0, none⟩ = some (.slice da0 dv.pc.length dk0) ∧ w25.cell? ⟨w5.heap.size, 1, none⟩ = some (.slice da1 dv.regs.length dk1) ∧ w25.cell? ⟨w5.heap.size, 2, none⟩ = some (.slice da2 dv.mem.length dk2) ∧ w25.cell? ⟨w5.heap.size, 3, none⟩ = some (.slice da3 dv.buf.length dk3) ∧ w5.heap.size < w25.heap.size ∧ w25.cell? ⟨w7.heap.size, 0, none⟩ = some (.slice xa0 xv.pc.length xk0) ∧ w25.cell? ⟨w7.heap.size, 1, none⟩ = some (.slice xa1 xv.regs.length xk1) ∧ w25.cell? ⟨w7.heap.size, 2, none⟩ = some (.slice (some ⟨gm, 0, none⟩) 2 gk2) ∧ w25.cell? ⟨w7.heap.size, 3, none⟩ = some (.slice xa3 xv.buf.length xk3) ∧ w7.heap.size < w25.heap.size := ⟨Ku.out.cell 0, Ku.out.cell 1, Ku.out.cell 2, Ku.out.cell 3, Ku.out.lt, Kc.out.cell 0, Kc.out.cell 1, Kc.out.cell 2, Kc.out.cell 3, Kc.out.lt, Kd.out.cell 0, Kd.out.cell 1, Kd.out.cell 2, Kd.out.cell 3, Kd.out.lt, Kx.out.cell 0, Kx.out.cell 1, Kx.out.cell 2, Kx.out.cell 3, Kx.out.lt⟩
  go_wp2_with fail
  clear uc0 uc1 uc2 uc3 ucl cc0 cc1 cc2 cc3 ccl dc0 dc1 dc2 dc3 dcl xc0 xc1 xc2 xc3 xcl
  refine (mdead_any (unitM v va vb) dv 3 1 _ _ _ _ _ _ _ w25 DU.out Dd.out (usM v va vb) (rrM Pd.out (m1 v va vb)) false (mdead1 v va vb Pd.out)).mono ?_
  rintro e w26 ⟨rfl, b⟩
  replace Ku := Lib.hid (Ku.out.below b)
  replace Kc := Lib.hid (Kc.out.below b)
  replace Kd := Lib.hid (Kd.out.below b)
  replace Kx := Lib.hid (Kx.out.below b)
  replace Kn := Lib.hid (Kn.out.below b)
  replace DU := Lib.hid (DU.out.below b)
  replace Dc := Lib.hid (Dc.out.below b)
  replace Dd := Lib.hid (Dd.out.below b)
  replace Dx := Lib.hid (Dx.out.below b)
  replace Dn := Lib.hid (Dn.out.below b)
  replace B := Lib.hid (B.out.trans (b.mono B.out.size))
  replace FX := Lib.hid ((b.cell (p := ⟨gm, 0, none⟩) FL.out).trans FX.out)
  replace FL := Lib.hid (Nat.lt_of_lt_of_le FL.out b.size)
  clear b
  have fx := FX.out
  have fl := FL.out
  obtain ⟨uc0, uc1, uc2, uc3, ucl, cc0, cc1, cc2, cc3, ccl, dc0, dc1, dc2, dc3, dcl, xc0, xc1, xc2, xc3, xcl⟩ : w26.cell? ⟨w1.heap.size, 0, none⟩ = some (.int .i64 4) ∧ w26.cell? ⟨w1.heap.size, 1, none⟩ = some (.slice ai 2 2) ∧ w26.cell? ⟨w1.heap.size, 2, none⟩ = some (.slice ar 2 2) ∧ w26.cell? ⟨w1.heap.size, 3, none⟩ = some (.slice ac 2 2) ∧ w1.heap.size < w26.heap.size ∧ w26.cell? ⟨w3.heap.size, 0, none⟩ = some (.slice ca0 cv.pc.length ck0) ∧ w26.cell? ⟨w3.heap.size, 1, none⟩ = some (.slice ca1 cv.regs.length ck1) ∧ w26.cell? ⟨w3.heap.size, 2, none⟩ = some (.slice ca2 cv.mem.length ck2) ∧ w26.cell? ⟨w3.heap.size, 3, none⟩ = some (.slice ca3 cv.buf.length ck3) ∧ w3.heap.size < w26.heap.size ∧ w26.cell? ⟨w5.heap.size, 0, none⟩ = some (.slice da0 dv.pc.length dk0) ∧ w26.cell? ⟨w5.heap.size, 1, none⟩ = some (.slice da1 dv.regs.length dk1) ∧ w26.cell? ⟨w5.heap.size, 2, none⟩ = some (.slice da2 dv.mem.length dk2) ∧ w26.cell? ⟨w5.heap.size, 3, none⟩ = some (.slice da3 dv.buf.length dk3) ∧ w5.heap.size < w26.heap.size ∧ w26.cell? ⟨w7.heap.size, 0, none⟩ = some (.slice xa0 xv.pc.length xk0) ∧ w26.cell? ⟨w7.heap.size, 1, none⟩ = some (.slice xa1 xv.regs.length xk1) ∧ w26.cell? ⟨w7.heap.size, 2, none⟩ = some (.slice (some ⟨gm, 0, none⟩) 2 gk2) ∧ w26.cell? ⟨w7.heap.size, 3, none⟩ = some (.slice xa3 xv.buf.length xk3) ∧ w7.heap.size < w26.heap.size := ⟨Ku.out.cell 0, Ku.out.cell 1, Ku.out.cell 2, Ku.out.cell 3, Ku.out.lt, Kc.out.cell 0, Kc.out.cell 1, Kc.out.cell 2, Kc.out.cell 3, Kc.out.lt, Kd.out.cell 0, Kd.out.cell 1, Kd.out.cell 2, Kd.out.cell 3, Kd.out.lt, Kx.out.cell 0, Kx.out.cell 1, Kx.out.cell 2, Kx.out.cell 3, Kx.out.lt⟩
  go_wp2_with fail
  clear fx fl
  clear uc0 uc1 uc2 uc3 ucl cc0 cc1 cc2 cc3 ccl dc0 dc1 dc2 dc3 dcl xc0 xc1 xc2 xc3 xcl
  refine (menabled_any (unitM v va vb) cv 3 1 0 _ _ _ _ _ _ _ w26 DU.out Dc.out (usM v va vb) (rrM Pc.out (m0 v va vb)) true (by rw [Pc.out]; exact (ac0 v va vb).1)).mono ?_
  rintro e w27 ⟨rfl, b⟩
  replace Ku := Lib.hid (Ku.out.below b)
  replace Kc := Lib.hid (Kc.out.below b)
  replace Kd := Lib.hid (Kd.out.below b)
  replace Kx := Lib.hid (Kx.out.below b)
  replace Kn := Lib.hid (Kn.out.below b)
  replace DU := Lib.hid (DU.out.below b)
  replace Dc := Lib.hid (Dc.out.below b)
  replace Dd := Lib.hid (Dd.out.below b)
  replace Dx := Lib.hid (Dx.out.below b)
  replace Dn := Lib.hid (Dn.out.below b)
  replace B := Lib.hid (B.out.trans (b.mono B.out.size))
  replace FX := Lib.hid ((b.cell (p := ⟨gm, 0, none⟩) FL.out).trans FX.out)
  replace FL := Lib.hid (Nat.lt_of_lt_of_le FL.out b.size)
  clear b
  go_wp2_with fail
  refine bodyPost_ret (v := .bool true) (by simp [results, Tryz.results14, go_sem]) rfl ⟨rfl, B.out⟩
end Go.Proofs.YtacbanfnakgecaaGreat
