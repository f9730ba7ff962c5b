/- PackBack: its walk, by what the code does. -/
import Derived.Test.YtmkgijedchpgcaaEe
import Derived.Test.YtmkgijedchpgcaaEg
import Derived.Test.YtmkgijedchpgcaaUp
import Derived.Test.YtmkgijedchpgcaaUx
namespace Go.Proofs.Ytmkgijedchpgcaa
set_option linter.unusedSimpArgs false
set_option linter.unusedVariables false
open Go.RowKit

theorem right_small {u : Un} {c : Cf} {model room : Int} (h : rightC u c model room = true) : (bytZ (encP c.pf)).size = sizeP c.pf ∧ decZ u (bytZ (encP c.pf)) model room = some c.pf ∧ (bytZ (encP c.pf)).size ≤ 100000 := by
  have hR := (rightC_iff u c model room).1 h
  have hu := rightU_lc hR.ru
  have hl : (bytZ (encP c.pf)).size = sizeP c.pf := by rw [byt_len, hR.small.len]
  refine ⟨hl, decZ_enc hR, ?_⟩
  have h1 : c.pc.length = u.regs.length := hR.lp
  have h2 : c.mem.length = u.init.length := hR.lm
  have h3 : c.regs.length = u.regs.length := by have := hR.lr; simpa [Cf.pf] using this
  have h4 : c.buf.length = u.regs.length := by have := hR.lb; simpa [Cf.pf] using this
  rw [hl, size_cf]
  have r1 := sumF_le (regF c) 6 c.regs.length (fun k hk => by
    obtain ⟨pc, x, T⟩ := hR.thr k (by omega)
    have h5 := T.rl
    have h6 := ((thrF_iff u.init.length u.regs u.code hu.2.2.2.2.2.symm).1 (by have := hR.ru; unfold rightU at this; rw [Bool.and_eq_true, Bool.and_eq_true] at this; exact this.2.2) k (by omega)).1
    have h7 := (inB_iff _ _).1 h6
    rw [show c.pf.regs.getD k [] = (c.regs.getD k ([], undef)).1 from getD_map _ _] at h5
    unfold regF
    omega)
  have r2 := sumF_le (bufF c) 48 c.buf.length (fun k hk => by unfold bufF; rw [List.getD_eq_getElem?_getD, List.getElem?_eq_getElem hk]; have h9 := (hR.small.b (c.buf[k]).1 (List.mem_map_of_mem (List.getElem_mem hk))).1; show 2 * (c.buf[k]).1.length ≤ 48; omega)
  omega

/-- Decode gives what p holds. -/
def DecIs (p : Pf) (w : World) (e : Ending) (w' : World) : Prop := ∃ (d : Cf) (yp yr ym yb : Value), e = .returned (.tuple #[.agg #[yp, yr, ym, yb], .int .i64 0]) ∧ OwnC w' w.heap.size yp yr ym yb d ∧ d.pf = p ∧ Below w.heap.size w w'

attribute [local go_sem ↓] Go.wp_at_zero Go.wp_at_succ
set_option maxRecDepth 100000 in
set_option maxHeartbeats 16000000 in
theorem pback_in (hkn : ∀ W : World, Calls Try.prog 9 #[] W fun e w' => e = .returned (.bool true) ∧ Below W.heap.size W w')
    (hpe : ∀ (u : Un) (c : Cf) (model room : Int) (vi vr vc xp xr xm xb : Value) (w : World), UnD w vi vr vc u → CfD w xp xr xm xb c → ShortU u → ShortC c → ∀ q : Bool, rightC u c model room = q → Calls Try.prog 10 #[.agg #[.int .i64 u.mod, vi, vr, vc], .agg #[xp, xr, xm, xb], .int .i64 model, .int .i64 room] w fun e w' => e = .returned (.tuple #[.string (if q = true then bytZ (encP c.pf) else ⟨#[]⟩), .int .i64 (if q = true then 0 else 8)]) ∧ Below w.heap.size w w')
    (hps : ∀ (c : Cf) (xp xr xm xb : Value) (w : World), CfD w xp xr xm xb c → ShortC c → Calls Try.prog 12 #[.agg #[xp, xr, xm, xb]] w fun e w' => e = .returned (.int .i64 (sizeP c.pf)) ∧ Below w.heap.size w w')
    (hpd : ∀ (u : Un) (s : ByteArray) (model room : Int) (p : Pf) (vi vr vc : Value) (w : World), UnD w vi vr vc u → ShortU u → s.size ≤ 100000 → decZ u s model room = some p → Calls Try.prog 15 #[.agg #[.int .i64 u.mod, vi, vr, vc], .string s, .int .i64 model, .int .i64 room] w (DecIs p w))
    (u : Un) (c : Cf) (model room : Int) (vi vr vc xp xr xm xb : Value) (w : World) (hu : UnD w vi vr vc u) (hc : CfD w xp xr xm xb c) :
    Calls Try.prog 5 #[.agg #[.int .i64 u.mod, vi, vr, vc, xp, xr, xm, xb, .int .i64 model, .int .i64 room]] w fun e w' => e = .returned (.bool true) ∧ Below w.heap.size w w' := by
  have HKN := Lib.hid hkn
  have HU := Lib.hid hu
  have HC := Lib.hid hc
  obtain ⟨ai, ci, rfl⟩ := hu.i.shape0
  obtain ⟨ar, cr, rfl⟩ := hu.r.shape0
  obtain ⟨ac, cc, rfl⟩ := hu.c.shape0
  obtain ⟨ap, cp, rfl⟩ := hc.p.shape0
  obtain ⟨aq, cq, rfl⟩ := hc.r.shape0
  obtain ⟨am, cm, rfl⟩ := hc.m.shape0
  obtain ⟨ab, cb, rfl⟩ := hc.b.shape0
  clear hu hc hkn
  have HRT := Lib.hid (fun (W : World) (h : Below w.heap.size w W) => light12_any u c model room _ _ _ _ _ _ _ W (HU.out.below h) (HC.out.below h) _ rfl)
  obtain ⟨q, hq⟩ : ∃ q, rightC u c model room = q := ⟨_, rfl⟩
  have HRR := Lib.hid (fun (h1 : lightU u = true) (h2 : lightC c = true) (W : World) (h : Below w.heap.size w W) => rcright_any u c model room _ _ _ _ _ _ _ W (HU.out.below h) (HC.out.below h) (lightU_short h1) (lightC_short h2) q hq)
  have HE := Lib.hid (fun (h1 : lightU u = true) (h2 : lightC c = true) (h3 : q = true) (W : World) (h : Below w.heap.size w W) => hpe u c model room _ _ _ _ _ _ _ W (HU.out.below h) (HC.out.below h) (lightU_short h1) (lightC_short h2) true (hq.trans h3))
  have HD := Lib.hid (fun (h1 : lightU u = true) (h2 : lightC c = true) (h3 : q = true) (W : World) (h : Below w.heap.size w W) => hpd u (bytZ (encP c.pf)) model room c.pf _ _ _ W (HU.out.below h) (lightU_short h1) (right_small (hq.trans h3)).2.2 (right_small (hq.trans h3)).2.1)
  have HG := Lib.hid (fun (h1 : lightU u = true) (h2 : lightC c = true) (W : World) (h : Below w.heap.size w W) => hps c _ _ _ _ W (HC.out.below h) (lightC_short h2))
  have HSO := Lib.hid (fun (h1 : lightU u = true) (h2 : lightC c = true) (o : Cf) (ho : o.pf = c.pf) (yp yr ym yb : Value) (W : World) (h : Below w.heap.size w W) (hd : CfD W yp yr ym yb o) => csame_any c o _ _ _ _ yp yr ym yb W (HC.out.below h) hd (lightC_short h2) true (by rw [sameC_pf]; exact decide_eq_true ho.symm))
  have HSZ := Lib.hid (fun (h3 : q = true) => (right_small (hq.trans h3)).1)
  clear HU HC hpe hps hpd hq
  generalize hni : u.init.length = ni at HRT HRR HE HD HG HSO ⊢
  generalize hnr : u.regs.length = nr at HRT HRR HE HD HG HSO ⊢
  generalize hnc : u.code.length = nc at HRT HRR HE HD HG HSO ⊢
  generalize hnp : c.pc.length = np at HRT HRR HE HD HG HSO ⊢
  generalize hnq : c.regs.length = nq at HRT HRR HE HD HG HSO ⊢
  generalize hnm : c.mem.length = nm at HRT HRR HE HD HG HSO ⊢
  generalize hnb : c.buf.length = nb at HRT HRR HE HD HG HSO ⊢
  generalize hmd : u.mod = md at HRT HRR HE HD HG HSO ⊢
  clear hni hnr hnc hnp hnq hnm hnb hmd
  skip
  obtain ⟨r1, hr1⟩ : ∃ q, lightU u = q := ⟨_, rfl⟩
  obtain ⟨r2, hr2⟩ : ∃ q, lightC c = q := ⟨_, rfl⟩
  rw [hr1, hr2] at HRT HRR HE HD HG HSO
  clear hr1 hr2
  have Kc := Lib.hid (Bk.new w 31 #[.int .i64 md, .slice ai ni ci, .slice ar nr cr, .slice ac nc cc, .slice ap np cp, .slice aq nq cq, .slice am nm cm, .slice ab nb cb, .int .i64 model, .int .i64 room])
  have B : Hid (Below w.heap.size w (World.alloc w (.cells #[.int .i64 md, .slice ai ni ci, .slice ar nr cr, .slice ac nc cc, .slice ap np cp, .slice aq nq cq, .slice am nm cm, .slice ab nb cb, .int .i64 model, .int .i64 room] 31))) := Lib.hid (bal (Below.refl _ _) _)
  go_enter Try.func5, Try.ntmps5
  go_wp2_with fail
  generalize World.alloc w (.cells #[.int .i64 md, .slice ai ni ci, .slice ar nr cr, .slice ac nc cc, .slice ap np cp, .slice aq nq cq, .slice am nm cm, .slice ab nb cb, .int .i64 model, .int .i64 room] 31) = w1 at Kc B ⊢
  refine (HRT.out w1 B.out).mono ?_
  rintro e w2 ⟨rfl, b⟩
  replace Kc := Lib.hid (Kc.out.below b)
  replace B := Lib.hid (B.out.trans (b.mono B.out.size))
  clear b HRT
  by_cases hl : r1 = true ∧ r2 = true
  ·
    obtain ⟨hl1, hl2⟩ := hl
    subst hl1 hl2
    replace HRR := Lib.hid (HRR.out rfl rfl)
    replace HG := Lib.hid (HG.out rfl rfl)
    replace HSO := Lib.hid (HSO.out rfl rfl)
    replace HE := Lib.hid (HE.out rfl rfl)
    replace HD := Lib.hid (HD.out rfl rfl)
    obtain ⟨cc0, cc1, cc2, cc3, cc4, cc5, cc6, cc7, cc8, cc9, ccl⟩ : w2.cell? ⟨w.heap.size, 0, none⟩ = some (.int .i64 md) ∧ w2.cell? ⟨w.heap.size, 1, none⟩ = some (.slice ai ni ci) ∧ w2.cell? ⟨w.heap.size, 2, none⟩ = some (.slice ar nr cr) ∧ w2.cell? ⟨w.heap.size, 3, none⟩ = some (.slice ac nc cc) ∧ w2.cell? ⟨w.heap.size, 4, none⟩ = some (.slice ap np cp) ∧ w2.cell? ⟨w.heap.size, 5, none⟩ = some (.slice aq nq cq) ∧ w2.cell? ⟨w.heap.size, 6, none⟩ = some (.slice am nm cm) ∧ w2.cell? ⟨w.heap.size, 7, none⟩ = some (.slice ab nb cb) ∧ w2.cell? ⟨w.heap.size, 8, none⟩ = some (.int .i64 model) ∧ w2.cell? ⟨w.heap.size, 9, none⟩ = some (.int .i64 room) ∧ w.heap.size < w2.heap.size := ⟨Kc.out.cell 0, Kc.out.cell 1, Kc.out.cell 2, Kc.out.cell 3, Kc.out.cell 4, Kc.out.cell 5, Kc.out.cell 6, Kc.out.cell 7, Kc.out.cell 8, Kc.out.cell 9, Kc.out.lt⟩
    go_wp2_with fail
    clear cc0 cc1 cc2 cc3 cc4 cc5 cc6 cc7 cc8 cc9 ccl
    refine (HRR.out w2 B.out).mono ?_
    rintro e w3 ⟨rfl, b⟩
    replace Kc := Lib.hid (Kc.out.below b)
    replace B := Lib.hid (B.out.trans (b.mono B.out.size))
    clear b HRR
    cases q with
    | false =>
      go_wp2_with fail
      refine (HKN.out w3).mono ?_
      rintro e w4 ⟨rfl, b⟩
      replace Kc := Lib.hid (Kc.out.below b)
      replace B := Lib.hid (B.out.trans (b.mono B.out.size))
      clear b
      go_wp2
      go_ret
      exact ⟨ret_bool rfl, B.out⟩
    | true =>
      replace HE := Lib.hid (HE.out rfl)
      replace HD := Lib.hid (HD.out rfl)
      replace HSZ := Lib.hid (HSZ.out rfl)
      obtain ⟨es, hes⟩ : ∃ z, z = bytZ (encP c.pf) := ⟨_, rfl⟩
      rw [← hes] at HD HSZ
      simp only [if_true, ← hes] at HE
      clear hes
      obtain ⟨cc0, cc1, cc2, cc3, cc4, cc5, cc6, cc7, cc8, cc9, ccl⟩ : w3.cell? ⟨w.heap.size, 0, none⟩ = some (.int .i64 md) ∧ w3.cell? ⟨w.heap.size, 1, none⟩ = some (.slice ai ni ci) ∧ w3.cell? ⟨w.heap.size, 2, none⟩ = some (.slice ar nr cr) ∧ w3.cell? ⟨w.heap.size, 3, none⟩ = some (.slice ac nc cc) ∧ w3.cell? ⟨w.heap.size, 4, none⟩ = some (.slice ap np cp) ∧ w3.cell? ⟨w.heap.size, 5, none⟩ = some (.slice aq nq cq) ∧ w3.cell? ⟨w.heap.size, 6, none⟩ = some (.slice am nm cm) ∧ w3.cell? ⟨w.heap.size, 7, none⟩ = some (.slice ab nb cb) ∧ w3.cell? ⟨w.heap.size, 8, none⟩ = some (.int .i64 model) ∧ w3.cell? ⟨w.heap.size, 9, none⟩ = some (.int .i64 room) ∧ w.heap.size < w3.heap.size := ⟨Kc.out.cell 0, Kc.out.cell 1, Kc.out.cell 2, Kc.out.cell 3, Kc.out.cell 4, Kc.out.cell 5, Kc.out.cell 6, Kc.out.cell 7, Kc.out.cell 8, Kc.out.cell 9, Kc.out.lt⟩
      go_wp2_with fail
      clear cc0 cc1 cc2 cc3 cc4 cc5 cc6 cc7 cc8 cc9 ccl
      refine (HE.out w3 B.out).mono ?_
      rintro e w4 ⟨rfl, b⟩
      replace Kc := Lib.hid (Kc.out.below b)
      replace B := Lib.hid (B.out.trans (b.mono B.out.size))
      clear b HE
      obtain ⟨cc0, cc1, cc2, cc3, cc4, cc5, cc6, cc7, cc8, cc9, ccl⟩ : w4.cell? ⟨w.heap.size, 0, none⟩ = some (.int .i64 md) ∧ w4.cell? ⟨w.heap.size, 1, none⟩ = some (.slice ai ni ci) ∧ w4.cell? ⟨w.heap.size, 2, none⟩ = some (.slice ar nr cr) ∧ w4.cell? ⟨w.heap.size, 3, none⟩ = some (.slice ac nc cc) ∧ w4.cell? ⟨w.heap.size, 4, none⟩ = some (.slice ap np cp) ∧ w4.cell? ⟨w.heap.size, 5, none⟩ = some (.slice aq nq cq) ∧ w4.cell? ⟨w.heap.size, 6, none⟩ = some (.slice am nm cm) ∧ w4.cell? ⟨w.heap.size, 7, none⟩ = some (.slice ab nb cb) ∧ w4.cell? ⟨w.heap.size, 8, none⟩ = some (.int .i64 model) ∧ w4.cell? ⟨w.heap.size, 9, none⟩ = some (.int .i64 room) ∧ w.heap.size < w4.heap.size := ⟨Kc.out.cell 0, Kc.out.cell 1, Kc.out.cell 2, Kc.out.cell 3, Kc.out.cell 4, Kc.out.cell 5, Kc.out.cell 6, Kc.out.cell 7, Kc.out.cell 8, Kc.out.cell 9, Kc.out.lt⟩
      go_wp2_with fail
      clear cc0 cc1 cc2 cc3 cc4 cc5 cc6 cc7 cc8 cc9 ccl
      refine (HD.out w4 B.out).mono ?_
      rintro e w5 ⟨dv, yp, yr, ym, yb, rfl, oc, pd, b⟩
      have Pd := Lib.hid pd
      clear pd
      replace Kc := Lib.hid (Kc.out.below b)
      replace B := Lib.hid (B.out.trans (b.mono B.out.size))
      clear b HD
      obtain ⟨da0, dk0, rfl, _⟩ := own_shape' oc.p
      obtain ⟨da1, dk1, rfl, _⟩ := own_shape' oc.r.h
      obtain ⟨da2, dk2, rfl, _⟩ := own_shape' oc.m
      obtain ⟨da3, dk3, rfl, _⟩ := own_shape' oc.b.h
      obtain ⟨dn0, hdn0⟩ : ∃ z, z = dv.pc.length := ⟨_, rfl⟩
      obtain ⟨dn1, hdn1⟩ : ∃ z, z = dv.regs.length := ⟨_, rfl⟩
      obtain ⟨dn2, hdn2⟩ : ∃ z, z = dv.mem.length := ⟨_, rfl⟩
      obtain ⟨dn3, hdn3⟩ : ∃ z, z = dv.buf.length := ⟨_, rfl⟩
      rw [← hdn0, ← hdn1, ← hdn2, ← hdn3] at oc ⊢
      clear hdn0 hdn1 hdn2 hdn3
      have Dd := Lib.hid oc.data
      clear oc
      have Kd := Lib.hid (Bk.new w5 29 #[.slice da0 dn0 dk0, .slice da1 dn1 dk1, .slice da2 dn2 dk2, .slice da3 dn3 dk3])
      have BW : Hid (Below w5.heap.size w5 (World.alloc w5 (.cells #[.slice da0 dn0 dk0, .slice da1 dn1 dk1, .slice da2 dn2 dk2, .slice da3 dn3 dk3] 29))) := Lib.hid (bal (Below.refl _ _) _)
      obtain ⟨w6, hw6⟩ : ∃ z, World.alloc w5 (.cells #[.slice da0 dn0 dk0, .slice da1 dn1 dk1, .slice da2 dn2 dk2, .slice da3 dn3 dk3] 29) = z := ⟨_, rfl⟩
      rw [hw6] at Kd BW
      replace Dd := Lib.hid (Dd.out.below BW.out)
      replace Kc := Lib.hid (Kc.out.below BW.out)
      replace B := Lib.hid (B.out.trans (BW.out.mono B.out.size))
      clear BW
      have HG2 := Lib.hid (fun (W : World) (h : Below w6.heap.size w6 W) => HG.out W (B.out.trans (h.mono B.out.size)))
      have HS2 := Lib.hid (fun (W : World) (h : Below w6.heap.size w6 W) => HSO.out dv Pd.out _ _ _ _ W (B.out.trans (h.mono B.out.size)) (Dd.out.below h))
      rw [← HSZ.out] at HG2
      clear HG HSO HSZ
      have ge3 : ((es.size : Int) == (es.size : Int)) = true := by simp
      have B6 : Hid (Below w6.heap.size w6 w6) := Lib.hid (Below.refl _ _)
      obtain ⟨cc0, cc1, cc2, cc3, cc4, cc5, cc6, cc7, cc8, cc9, ccl, dc0, dc1, dc2, dc3, dcl⟩ : w6.cell? ⟨w.heap.size, 0, none⟩ = some (.int .i64 md) ∧ w6.cell? ⟨w.heap.size, 1, none⟩ = some (.slice ai ni ci) ∧ w6.cell? ⟨w.heap.size, 2, none⟩ = some (.slice ar nr cr) ∧ w6.cell? ⟨w.heap.size, 3, none⟩ = some (.slice ac nc cc) ∧ w6.cell? ⟨w.heap.size, 4, none⟩ = some (.slice ap np cp) ∧ w6.cell? ⟨w.heap.size, 5, none⟩ = some (.slice aq nq cq) ∧ w6.cell? ⟨w.heap.size, 6, none⟩ = some (.slice am nm cm) ∧ w6.cell? ⟨w.heap.size, 7, none⟩ = some (.slice ab nb cb) ∧ w6.cell? ⟨w.heap.size, 8, none⟩ = some (.int .i64 model) ∧ w6.cell? ⟨w.heap.size, 9, none⟩ = some (.int .i64 room) ∧ w.heap.size < w6.heap.size ∧ w6.cell? ⟨w5.heap.size, 0, none⟩ = some (.slice da0 dn0 dk0) ∧ w6.cell? ⟨w5.heap.size, 1, none⟩ = some (.slice da1 dn1 dk1) ∧ w6.cell? ⟨w5.heap.size, 2, none⟩ = some (.slice da2 dn2 dk2) ∧ w6.cell? ⟨w5.heap.size, 3, none⟩ = some (.slice da3 dn3 dk3) ∧ w5.heap.size < w6.heap.size := ⟨Kc.out.cell 0, Kc.out.cell 1, Kc.out.cell 2, Kc.out.cell 3, Kc.out.cell 4, Kc.out.cell 5, Kc.out.cell 6, Kc.out.cell 7, Kc.out.cell 8, Kc.out.cell 9, Kc.out.lt, Kd.out.cell 0, Kd.out.cell 1, Kd.out.cell 2, Kd.out.cell 3, Kd.out.lt⟩
      go_wp2_with fail
      clear cc0 cc1 cc2 cc3 cc4 cc5 cc6 cc7 cc8 cc9 ccl dc0 dc1 dc2 dc3 dcl
      refine (HS2.out w6 B6.out).mono ?_
      rintro e w7 ⟨rfl, b⟩
      replace Kc := Lib.hid (Kc.out.below b)
      replace Kd := Lib.hid (Kd.out.below b)
      replace Dd := Lib.hid (Dd.out.below b)
      replace B := Lib.hid (B.out.trans (b.mono B.out.size))
      replace B6 := Lib.hid (B6.out.trans (b.mono B6.out.size))
      clear b HS2
      obtain ⟨cc0, cc1, cc2, cc3, cc4, cc5, cc6, cc7, cc8, cc9, ccl, dc0, dc1, dc2, dc3, dcl⟩ : w7.cell? ⟨w.heap.size, 0, none⟩ = some (.int .i64 md) ∧ w7.cell? ⟨w.heap.size, 1, none⟩ = some (.slice ai ni ci) ∧ w7.cell? ⟨w.heap.size, 2, none⟩ = some (.slice ar nr cr) ∧ w7.cell? ⟨w.heap.size, 3, none⟩ = some (.slice ac nc cc) ∧ w7.cell? ⟨w.heap.size, 4, none⟩ = some (.slice ap np cp) ∧ w7.cell? ⟨w.heap.size, 5, none⟩ = some (.slice aq nq cq) ∧ w7.cell? ⟨w.heap.size, 6, none⟩ = some (.slice am nm cm) ∧ w7.cell? ⟨w.heap.size, 7, none⟩ = some (.slice ab nb cb) ∧ w7.cell? ⟨w.heap.size, 8, none⟩ = some (.int .i64 model) ∧ w7.cell? ⟨w.heap.size, 9, none⟩ = some (.int .i64 room) ∧ w.heap.size < w7.heap.size ∧ w7.cell? ⟨w5.heap.size, 0, none⟩ = some (.slice da0 dn0 dk0) ∧ w7.cell? ⟨w5.heap.size, 1, none⟩ = some (.slice da1 dn1 dk1) ∧ w7.cell? ⟨w5.heap.size, 2, none⟩ = some (.slice da2 dn2 dk2) ∧ w7.cell? ⟨w5.heap.size, 3, none⟩ = some (.slice da3 dn3 dk3) ∧ w5.heap.size < w7.heap.size := ⟨Kc.out.cell 0, Kc.out.cell 1, Kc.out.cell 2, Kc.out.cell 3, Kc.out.cell 4, Kc.out.cell 5, Kc.out.cell 6, Kc.out.cell 7, Kc.out.cell 8, Kc.out.cell 9, Kc.out.lt, Kd.out.cell 0, Kd.out.cell 1, Kd.out.cell 2, Kd.out.cell 3, Kd.out.lt⟩
      go_wp2_with fail
      clear cc0 cc1 cc2 cc3 cc4 cc5 cc6 cc7 cc8 cc9 ccl dc0 dc1 dc2 dc3 dcl
      refine (HG2.out w7 B6.out).mono ?_
      rintro e w8 ⟨rfl, b⟩
      replace Kc := Lib.hid (Kc.out.below b)
      replace Kd := Lib.hid (Kd.out.below b)
      replace Dd := Lib.hid (Dd.out.below b)
      replace B := Lib.hid (B.out.trans (b.mono B.out.size))
      replace B6 := Lib.hid (B6.out.trans (b.mono B6.out.size))
      clear b HG2
      obtain ⟨cc0, cc1, cc2, cc3, cc4, cc5, cc6, cc7, cc8, cc9, ccl, dc0, dc1, dc2, dc3, dcl⟩ : w8.cell? ⟨w.heap.size, 0, none⟩ = some (.int .i64 md) ∧ w8.cell? ⟨w.heap.size, 1, none⟩ = some (.slice ai ni ci) ∧ w8.cell? ⟨w.heap.size, 2, none⟩ = some (.slice ar nr cr) ∧ w8.cell? ⟨w.heap.size, 3, none⟩ = some (.slice ac nc cc) ∧ w8.cell? ⟨w.heap.size, 4, none⟩ = some (.slice ap np cp) ∧ w8.cell? ⟨w.heap.size, 5, none⟩ = some (.slice aq nq cq) ∧ w8.cell? ⟨w.heap.size, 6, none⟩ = some (.slice am nm cm) ∧ w8.cell? ⟨w.heap.size, 7, none⟩ = some (.slice ab nb cb) ∧ w8.cell? ⟨w.heap.size, 8, none⟩ = some (.int .i64 model) ∧ w8.cell? ⟨w.heap.size, 9, none⟩ = some (.int .i64 room) ∧ w.heap.size < w8.heap.size ∧ w8.cell? ⟨w5.heap.size, 0, none⟩ = some (.slice da0 dn0 dk0) ∧ w8.cell? ⟨w5.heap.size, 1, none⟩ = some (.slice da1 dn1 dk1) ∧ w8.cell? ⟨w5.heap.size, 2, none⟩ = some (.slice da2 dn2 dk2) ∧ w8.cell? ⟨w5.heap.size, 3, none⟩ = some (.slice da3 dn3 dk3) ∧ w5.heap.size < w8.heap.size := ⟨Kc.out.cell 0, Kc.out.cell 1, Kc.out.cell 2, Kc.out.cell 3, Kc.out.cell 4, Kc.out.cell 5, Kc.out.cell 6, Kc.out.cell 7, Kc.out.cell 8, Kc.out.cell 9, Kc.out.lt, Kd.out.cell 0, Kd.out.cell 1, Kd.out.cell 2, Kd.out.cell 3, Kd.out.lt⟩
      go_wp2_with fail
      clear cc0 cc1 cc2 cc3 cc4 cc5 cc6 cc7 cc8 cc9 ccl dc0 dc1 dc2 dc3 dcl
      refine (HKN.out w8).mono ?_
      rintro e w9 ⟨rfl, b⟩
      replace Kc := Lib.hid (Kc.out.below b)
      replace Kd := Lib.hid (Kd.out.below b)
      replace Dd := Lib.hid (Dd.out.below b)
      replace B := Lib.hid (B.out.trans (b.mono B.out.size))
      replace B6 := Lib.hid (B6.out.trans (b.mono B6.out.size))
      clear b
      go_wp2
      go_ret
      exact ⟨ret_bool (by simp), B.out⟩
  have hz : (r1 && r2) = false := by cases r1 <;> cases r2 <;> simp_all
  try rw [hz]
  go_wp2_with fail
  refine (HKN.out w2).mono ?_
  rintro e w3 ⟨rfl, b⟩
  replace Kc := Lib.hid (Kc.out.below b)
  replace B := Lib.hid (B.out.trans (b.mono B.out.size))
  clear b
  go_wp2
  go_ret
  exact ⟨ret_bool rfl, B.out⟩

end Go.Proofs.Ytmkgijedchpgcaa
