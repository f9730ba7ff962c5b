/- PackOnce: its walk, by what the code does. -/
import Derived.Test.YtmkgijedchpgcaaEj
namespace Go.Proofs.Ytmkgijedchpgcaa
set_option linter.unusedSimpArgs false
set_option linter.unusedVariables false
open Go.RowKit

theorem shortZ {u : Un} {c : Cf} {model room : Int} (h : RightP u c.pf model room) : ShortC c := by
  have hu := rightU_lc h.ru
  have h1 : c.pc.length = u.regs.length := h.lp
  have h2 : c.mem.length = u.init.length := h.lm
  have h3 : c.regs.length = u.regs.length := by have := h.lr; simpa [Cf.pf] using this
  have h4 : c.buf.length = u.regs.length := by have := h.lb; simpa [Cf.pf] using this
  refine ⟨by omega, by omega, by omega, by omega, fun x hx => ?_, fun x hx => ?_⟩
  · obtain ⟨k, hk, rfl⟩ := List.mem_iff_getElem.1 hx
    obtain ⟨pc, y, T⟩ := h.thr k (by omega)
    have h5 := T.rl
    have h6 := ((thrF_iff u.init.length u.regs u.code hu.2.2.2.2.2.symm).1 (by have := h.ru; unfold rightU at this; rw [Bool.and_eq_true, Bool.and_eq_true] at this; exact this.2.2) k (by omega)).1
    have h7 := (inB_iff _ _).1 h6
    rw [show c.pf.regs.getD k [] = (c.regs.getD k ([], undef)).1 from getD_map _ _, List.getD_eq_getElem?_getD, List.getElem?_eq_getElem hk] at h5
    replace h5 : ((c.regs[k]).1.length : Int) = _ := h5
    omega
  · have := (h.small.b x.1 (List.mem_map_of_mem hx)).1
    omega
theorem str_ne {a b : ByteArray} (h : a ≠ b) : (a.toList == b.toList) = false := by
  rw [ByteArray.toList_eq, ByteArray.toList_eq]
  refine beq_eq_false_iff_ne.2 fun e => h ?_
  cases a; cases b
  exact congrArg ByteArray.mk (Array.toList_inj.1 e)

def nilC : Cf := ⟨[], [], [], []⟩
theorem nilC_data (w : World) : CfD w (.slice none 0 0) (.slice none 0 0) (.slice none 0 0) (.slice none 0 0) nilC :=
  (show OwnC w w.heap.size (.slice none 0 0) (.slice none 0 0) (.slice none 0 0) (.slice none 0 0) nilC from
    ⟨World.ownsRow_nil _ _ _ _, ⟨World.ownsRow_nil _ _ _ _, fun x hx => absurd hx (by simp [nilC])⟩, World.ownsRow_nil _ _ _ _, ⟨World.ownsRow_nil _ _ _ _, fun x hx => absurd hx (by simp [nilC])⟩⟩).data
theorem nilC_short : ShortC nilC := ⟨by simp [nilC], by simp [nilC], by simp [nilC], by simp [nilC], fun x hx => absurd hx (by simp [nilC]), fun x hx => absurd hx (by simp [nilC])⟩

attribute [local go_sem ↓] Go.wp_at_zero Go.wp_at_succ
set_option maxRecDepth 100000 in
set_option maxHeartbeats 16000000 in
theorem ponce_in (hkn : ∀ W : World, Calls Try.prog 9 #[] W fun e w' => e = .returned (.bool true) ∧ Below W.heap.size W w')
    (hpe : ∀ (u : Un) (c : Cf) (model room : Int) (vi vr vc xp xr xm xb : Value) (w : World), UnD w vi vr vc u → CfD w xp xr xm xb c → ShortU u → ShortC c → ∀ q : Bool, rightC u c model room = q → Calls Try.prog 10 #[.agg #[.int .i64 u.mod, vi, vr, vc], .agg #[xp, xr, xm, xb], .int .i64 model, .int .i64 room] w fun e w' => e = .returned (.tuple #[.string (if q = true then bytZ (encP c.pf) else ⟨#[]⟩), .int .i64 (if q = true then 0 else 8)]) ∧ Below w.heap.size w w')
    (hpd : ∀ (u : Un) (s : ByteArray) (model room : Int) (p : Pf) (vi vr vc : Value) (w : World), UnD w vi vr vc u → ShortU u → s.size ≤ 100000 → decZ u s model room = some p → Calls Try.prog 15 #[.agg #[.int .i64 u.mod, vi, vr, vc], .string s, .int .i64 model, .int .i64 room] w (DecIs p w))
    (hpd0 : ∀ (u : Un) (s : ByteArray) (model room : Int) (vi vr vc : Value) (w : World), UnD w vi vr vc u → ShortU u → s.size ≤ 100000 → decZ u s model room = none → Calls Try.prog 15 #[.agg #[.int .i64 u.mod, vi, vr, vc], .string s, .int .i64 model, .int .i64 room] w fun e w' => e = .returned (.tuple #[.agg #[.slice none 0 0, .slice none 0 0, .slice none 0 0, .slice none 0 0], .int .i64 8]) ∧ Below w.heap.size w w')
    (u : Un) (c d : Cf) (s : ByteArray) (model room : Int) (vi vr vc xp xr xm xb yp yr ym yb : Value) (w : World) (hu : UnD w vi vr vc u) (hc : CfD w xp xr xm xb c) (hd : CfD w yp yr ym yb d) :
    Calls Try.prog 6 #[.agg #[.int .i64 u.mod, vi, vr, vc, xp, xr, xm, xb, .int .i64 model, .int .i64 room], .agg #[yp, yr, ym, yb], .string s] w fun e w' => e = .returned (.bool true) ∧ Below w.heap.size w w' := by
  have HKN := Lib.hid hkn
  have HU := Lib.hid hu
  have HC := Lib.hid hc
  have HCD := Lib.hid hd
  obtain ⟨ai, ci, rfl⟩ := hu.i.shape0
  obtain ⟨ar, cr, rfl⟩ := hu.r.shape0
  obtain ⟨ac, cc, rfl⟩ := hu.c.shape0
  obtain ⟨ap, cp, rfl⟩ := hc.p.shape0
  obtain ⟨aq, cq, rfl⟩ := hc.r.shape0
  obtain ⟨am, cm, rfl⟩ := hc.m.shape0
  obtain ⟨ab, cb, rfl⟩ := hc.b.shape0
  obtain ⟨dap, dcp, rfl⟩ := hd.p.shape0
  obtain ⟨dar, dcr, rfl⟩ := hd.r.shape0
  obtain ⟨dam, dcm, rfl⟩ := hd.m.shape0
  obtain ⟨dab, dcb, rfl⟩ := hd.b.shape0
  clear hu hc hd hkn
  have HRT := Lib.hid (fun (W : World) (h : Below w.heap.size w W) => light12_any u c model room _ _ _ _ _ _ _ W (HU.out.below h) (HC.out.below h) _ rfl)
  have HLD := Lib.hid (fun (W : World) (h : Below w.heap.size w W) => clight_any d _ _ _ _ W (HCD.out.below h) _ rfl)
  obtain ⟨q1, hq1⟩ : ∃ q, rightC u c model room = q := ⟨_, rfl⟩
  obtain ⟨q2, hq2⟩ : ∃ q, rightC u d model room = q := ⟨_, rfl⟩
  have HR1 := Lib.hid (fun (h1 : lightU u = true) (h2 : lightC c = true) (h3 : lightC d = true) (W : World) (h : Below w.heap.size w W) => rcright_any u c model room _ _ _ _ _ _ _ W (HU.out.below h) (HC.out.below h) (lightU_short h1) (lightC_short h2) q1 hq1)
  have HR2 := Lib.hid (fun (h1 : lightU u = true) (h2 : lightC c = true) (h3 : lightC d = true) (W : World) (h : Below w.heap.size w W) => rcright_any u d model room _ _ _ _ _ _ _ W (HU.out.below h) (HCD.out.below h) (lightU_short h1) (lightC_short h3) q2 hq2)
  have HE1 := Lib.hid (fun (h1 : lightU u = true) (h2 : lightC c = true) (h3 : lightC d = true) (h4 : q1 = true) (W : World) (h : Below w.heap.size w W) => hpe u c model room _ _ _ _ _ _ _ W (HU.out.below h) (HC.out.below h) (lightU_short h1) (lightC_short h2) true (hq1.trans h4))
  have HE2 := Lib.hid (fun (h1 : lightU u = true) (h2 : lightC c = true) (h3 : lightC d = true) (h4 : q2 = true) (W : World) (h : Below w.heap.size w W) => hpe u d model room _ _ _ _ _ _ _ W (HU.out.below h) (HCD.out.below h) (lightU_short h1) (lightC_short h3) true (hq2.trans h4))
  have HSM := Lib.hid (fun (h1 : lightU u = true) (h2 : lightC c = true) (h3 : lightC d = true) (W : World) (h : Below w.heap.size w W) => csame_any c d _ _ _ _ _ _ _ _ W (HC.out.below h) (HCD.out.below h) (lightC_short h2) (decide (c.pf = d.pf)) (sameC_pf c d))
  have HES : Hid (q1 = true → q2 = true → (bytZ (encP c.pf) = bytZ (encP d.pf) ↔ c.pf = d.pf)) := Lib.hid (fun h4 h5 => encZ_inj ((rightC_iff u c model room).1 (hq1.trans h4)) ((rightC_iff u d model room).1 (hq2.trans h5)))
  have HD0 := Lib.hid (fun (h1 : lightU u = true) (h2 : lightC c = true) (h3 : lightC d = true) (hs : s.size ≤ 100000) (h4 : decZ u s model room = none) (W : World) (h : Below w.heap.size w W) => hpd0 u s model room _ _ _ W (HU.out.below h) (lightU_short h1) hs h4)
  have HD1 := Lib.hid (fun (h1 : lightU u = true) (h2 : lightC c = true) (h3 : lightC d = true) (hs : s.size ≤ 100000) (p : Pf) (h4 : decZ u s model room = some p) (W : World) (h : Below w.heap.size w W) => hpd u s model room p _ _ _ W (HU.out.below h) (lightU_short h1) hs h4)
  have HE3 : Hid (∀ (h1 : lightU u = true) (p : Pf) (h4 : decZ u s model room = some p) (x : Cf) (hx : x.pf = p) (yp yr ym yb : Value) (W : World) (h : Below w.heap.size w W) (hw : CfD W yp yr ym yb x), Calls Try.prog 10 #[.agg #[.int .i64 u.mod, .slice ai u.init.length ci, .slice ar u.regs.length cr, .slice ac u.code.length cc], .agg #[yp, yr, ym, yb], .int .i64 model, .int .i64 room] W fun e w' => e = .returned (.tuple #[.string s, .int .i64 0]) ∧ Below W.heap.size W w') := Lib.hid (fun h1 p h4 x hx yp yr ym yb W h hw => by
      obtain ⟨hR, hE⟩ := decZ_some.1 h4
      rw [← hx] at hR hE
      have hb : bytZ (encP x.pf) = s := by rw [hE, byt_num]
      have := hpe u x model room _ _ _ yp yr ym yb W (HU.out.below h) hw (lightU_short h1) (shortZ hR) true ((rightC_iff u x model room).2 hR)
      simp only [if_true, hb] at this
      exact this)
  clear HU HC HCD hpe hpd hpd0 hq1 hq2
  obtain ⟨dz, hdz⟩ : ∃ z, decZ u s model room = z := ⟨_, rfl⟩
  rw [hdz] at HD0 HD1 HE3
  clear hdz
  generalize bytZ (encP c.pf) = es1 at HE1 HES
  generalize bytZ (encP d.pf) = es2 at HE2 HES
  simp only [if_true] at HE1 HE2
  generalize hni : u.init.length = ni at HRT HLD HE3 HR1 HR2 HE1 HE2 HSM HD0 HD1 ⊢
  clear hni
  generalize hnr : u.regs.length = nr at HRT HLD HE3 HR1 HR2 HE1 HE2 HSM HD0 HD1 ⊢
  clear hnr
  generalize hnc : u.code.length = nc at HRT HLD HE3 HR1 HR2 HE1 HE2 HSM HD0 HD1 ⊢
  clear hnc
  generalize hnp : c.pc.length = np at HRT HLD HE3 HR1 HR2 HE1 HE2 HSM HD0 HD1 ⊢
  clear hnp
  generalize hnq : c.regs.length = nq at HRT HLD HE3 HR1 HR2 HE1 HE2 HSM HD0 HD1 ⊢
  clear hnq
  generalize hnm : c.mem.length = nm at HRT HLD HE3 HR1 HR2 HE1 HE2 HSM HD0 HD1 ⊢
  clear hnm
  generalize hnb : c.buf.length = nb at HRT HLD HE3 HR1 HR2 HE1 HE2 HSM HD0 HD1 ⊢
  clear hnb
  generalize hdnp : d.pc.length = dnp at HRT HLD HE3 HR1 HR2 HE1 HE2 HSM HD0 HD1 ⊢
  clear hdnp
  generalize hdnr : d.regs.length = dnr at HRT HLD HE3 HR1 HR2 HE1 HE2 HSM HD0 HD1 ⊢
  clear hdnr
  generalize hdnm : d.mem.length = dnm at HRT HLD HE3 HR1 HR2 HE1 HE2 HSM HD0 HD1 ⊢
  clear hdnm
  generalize hdnb : d.buf.length = dnb at HRT HLD HE3 HR1 HR2 HE1 HE2 HSM HD0 HD1 ⊢
  clear hdnb
  generalize hmd : u.mod = md at HRT HLD HE3 HR1 HR2 HE1 HE2 HSM HD0 HD1 ⊢
  clear hmd
  obtain ⟨r1, hr1⟩ : ∃ q, lightU u = q := ⟨_, rfl⟩
  obtain ⟨r2, hr2⟩ : ∃ q, lightC c = q := ⟨_, rfl⟩
  obtain ⟨r3, hr3⟩ : ∃ q, lightC d = q := ⟨_, rfl⟩
  rw [hr1, hr2, hr3] at HR1 HR2 HE1 HE2 HSM HD0 HD1
  rw [hr1, hr2] at HRT
  rw [hr3] at HLD
  rw [hr1] at HE3
  clear hr1 hr2 hr3
  obtain ⟨sm, hsm⟩ : ∃ b, decide (c.pf = d.pf) = b := ⟨_, rfl⟩
  rw [hsm] at HSM
  have HSD := Lib.hid hsm
  clear hsm
  obtain ⟨L0, KA0, KB0⟩ := two_new w 31 29 #[.int .i64 md, .slice ai ni ci, .slice ar nr cr, .slice ac nc cc, .slice ap np cp, .slice aq nq cq, .slice am nm cm, .slice ab nb cb, .int .i64 model, .int .i64 room] #[.slice dap dnp dcp, .slice dar dnr dcr, .slice dam dnm dcm, .slice dab dnb dcb]
  have B := Lib.hid L0
  have Kc := Lib.hid KA0
  have Kd := Lib.hid KB0
  clear L0 KA0 KB0
  go_enter Try.func6, Try.ntmps6
  go_wp2_with fail
  generalize World.alloc (World.alloc w _) _ = w1 at B Kc Kd ⊢
  refine (HRT.out w1 B.out).mono ?_
  rintro e w2 ⟨rfl, b⟩
  replace Kc := Lib.hid (Kc.out.below b)
  replace Kd := Lib.hid (Kd.out.below b)
  replace B := Lib.hid (B.out.trans (b.mono B.out.size))
  clear b HRT
  by_cases hl : r1 = true ∧ r2 = true
  ·
    obtain ⟨hl1, hl2⟩ := hl
    subst hl1 hl2
    obtain ⟨cc0, cc1, cc2, cc3, cc4, cc5, cc6, cc7, cc8, cc9, ccl, dc0, dc1, dc2, dc3, dcl⟩ : w2.cell? ⟨w.heap.size, 0, none⟩ = some (.int .i64 md) ∧ w2.cell? ⟨w.heap.size, 1, none⟩ = some (.slice ai ni ci) ∧ w2.cell? ⟨w.heap.size, 2, none⟩ = some (.slice ar nr cr) ∧ w2.cell? ⟨w.heap.size, 3, none⟩ = some (.slice ac nc cc) ∧ w2.cell? ⟨w.heap.size, 4, none⟩ = some (.slice ap np cp) ∧ w2.cell? ⟨w.heap.size, 5, none⟩ = some (.slice aq nq cq) ∧ w2.cell? ⟨w.heap.size, 6, none⟩ = some (.slice am nm cm) ∧ w2.cell? ⟨w.heap.size, 7, none⟩ = some (.slice ab nb cb) ∧ w2.cell? ⟨w.heap.size, 8, none⟩ = some (.int .i64 model) ∧ w2.cell? ⟨w.heap.size, 9, none⟩ = some (.int .i64 room) ∧ w.heap.size < w2.heap.size ∧ w2.cell? ⟨w.heap.size + 1, 0, none⟩ = some (.slice dap dnp dcp) ∧ w2.cell? ⟨w.heap.size + 1, 1, none⟩ = some (.slice dar dnr dcr) ∧ w2.cell? ⟨w.heap.size + 1, 2, none⟩ = some (.slice dam dnm dcm) ∧ w2.cell? ⟨w.heap.size + 1, 3, none⟩ = some (.slice dab dnb dcb) ∧ w.heap.size + 1 < w2.heap.size := ⟨Kc.out.cell 0, Kc.out.cell 1, Kc.out.cell 2, Kc.out.cell 3, Kc.out.cell 4, Kc.out.cell 5, Kc.out.cell 6, Kc.out.cell 7, Kc.out.cell 8, Kc.out.cell 9, Kc.out.lt, Kd.out.cell 0, Kd.out.cell 1, Kd.out.cell 2, Kd.out.cell 3, Kd.out.lt⟩
    go_wp2_with fail
    clear cc0 cc1 cc2 cc3 cc4 cc5 cc6 cc7 cc8 cc9 ccl dc0 dc1 dc2 dc3 dcl
    refine (HLD.out w2 B.out).mono ?_
    rintro e w3 ⟨rfl, b⟩
    replace Kc := Lib.hid (Kc.out.below b)
    replace Kd := Lib.hid (Kd.out.below b)
    replace B := Lib.hid (B.out.trans (b.mono B.out.size))
    clear b HLD
    cases r3 with
    | false =>
      go_wp2_with fail
      refine (HKN.out w3).mono ?_
      rintro e wk ⟨rfl, b⟩
      replace Kc := Lib.hid (Kc.out.below b)
      replace Kd := Lib.hid (Kd.out.below b)
      replace B := Lib.hid (B.out.trans (b.mono B.out.size))
      clear b
      go_wp2
      go_ret
      exact ⟨ret_bool rfl, B.out⟩
    | true =>
      replace HR1 := Lib.hid (HR1.out (by trivial) (by trivial) (by trivial))
      replace HR2 := Lib.hid (HR2.out (by trivial) (by trivial) (by trivial))
      replace HE1 := Lib.hid (HE1.out (by trivial) (by trivial) (by trivial))
      replace HE2 := Lib.hid (HE2.out (by trivial) (by trivial) (by trivial))
      replace HSM := Lib.hid (HSM.out (by trivial) (by trivial) (by trivial))
      replace HD0 := Lib.hid (HD0.out (by trivial) (by trivial) (by trivial))
      replace HD1 := Lib.hid (HD1.out (by trivial) (by trivial) (by trivial))
      replace HE3 := Lib.hid (HE3.out (by trivial))
      by_cases hlen : s.size ≤ 500
      ·
        have hln : ¬ (500 : Int) < (s.size : Int) := by omega
        replace HD0 := Lib.hid (HD0.out (by omega))
        replace HD1 := Lib.hid (HD1.out (by omega))
        obtain ⟨cc0, cc1, cc2, cc3, cc4, cc5, cc6, cc7, cc8, cc9, ccl, dc0, dc1, dc2, dc3, dcl⟩ : w3.cell? ⟨w.heap.size, 0, none⟩ = some (.int .i64 md) ∧ w3.cell? ⟨w.heap.size, 1, none⟩ = some (.slice ai ni ci) ∧ w3.cell? ⟨w.heap.size, 2, none⟩ = some (.slice ar nr cr) ∧ w3.cell? ⟨w.heap.size, 3, none⟩ = some (.slice ac nc cc) ∧ w3.cell? ⟨w.heap.size, 4, none⟩ = some (.slice ap np cp) ∧ w3.cell? ⟨w.heap.size, 5, none⟩ = some (.slice aq nq cq) ∧ w3.cell? ⟨w.heap.size, 6, none⟩ = some (.slice am nm cm) ∧ w3.cell? ⟨w.heap.size, 7, none⟩ = some (.slice ab nb cb) ∧ w3.cell? ⟨w.heap.size, 8, none⟩ = some (.int .i64 model) ∧ w3.cell? ⟨w.heap.size, 9, none⟩ = some (.int .i64 room) ∧ w.heap.size < w3.heap.size ∧ w3.cell? ⟨w.heap.size + 1, 0, none⟩ = some (.slice dap dnp dcp) ∧ w3.cell? ⟨w.heap.size + 1, 1, none⟩ = some (.slice dar dnr dcr) ∧ w3.cell? ⟨w.heap.size + 1, 2, none⟩ = some (.slice dam dnm dcm) ∧ w3.cell? ⟨w.heap.size + 1, 3, none⟩ = some (.slice dab dnb dcb) ∧ w.heap.size + 1 < w3.heap.size := ⟨Kc.out.cell 0, Kc.out.cell 1, Kc.out.cell 2, Kc.out.cell 3, Kc.out.cell 4, Kc.out.cell 5, Kc.out.cell 6, Kc.out.cell 7, Kc.out.cell 8, Kc.out.cell 9, Kc.out.lt, Kd.out.cell 0, Kd.out.cell 1, Kd.out.cell 2, Kd.out.cell 3, Kd.out.lt⟩
        go_wp2_with fail
        clear cc0 cc1 cc2 cc3 cc4 cc5 cc6 cc7 cc8 cc9 ccl dc0 dc1 dc2 dc3 dcl
        refine (HR1.out w3 B.out).mono ?_
        rintro e w4 ⟨rfl, b⟩
        replace Kc := Lib.hid (Kc.out.below b)
        replace Kd := Lib.hid (Kd.out.below b)
        replace B := Lib.hid (B.out.trans (b.mono B.out.size))
        clear b HR1
        cases q1 with
        | false =>
          go_wp2_with fail
          refine (HKN.out w4).mono ?_
          rintro e wk ⟨rfl, b⟩
          replace Kc := Lib.hid (Kc.out.below b)
          replace Kd := Lib.hid (Kd.out.below b)
          replace B := Lib.hid (B.out.trans (b.mono B.out.size))
          clear b
          go_wp2
          go_ret
          exact ⟨ret_bool rfl, B.out⟩
        | true =>
          obtain ⟨cc0, cc1, cc2, cc3, cc4, cc5, cc6, cc7, cc8, cc9, ccl, dc0, dc1, dc2, dc3, dcl⟩ : w4.cell? ⟨w.heap.size, 0, none⟩ = some (.int .i64 md) ∧ w4.cell? ⟨w.heap.size, 1, none⟩ = some (.slice ai ni ci) ∧ w4.cell? ⟨w.heap.size, 2, none⟩ = some (.slice ar nr cr) ∧ w4.cell? ⟨w.heap.size, 3, none⟩ = some (.slice ac nc cc) ∧ w4.cell? ⟨w.heap.size, 4, none⟩ = some (.slice ap np cp) ∧ w4.cell? ⟨w.heap.size, 5, none⟩ = some (.slice aq nq cq) ∧ w4.cell? ⟨w.heap.size, 6, none⟩ = some (.slice am nm cm) ∧ w4.cell? ⟨w.heap.size, 7, none⟩ = some (.slice ab nb cb) ∧ w4.cell? ⟨w.heap.size, 8, none⟩ = some (.int .i64 model) ∧ w4.cell? ⟨w.heap.size, 9, none⟩ = some (.int .i64 room) ∧ w.heap.size < w4.heap.size ∧ w4.cell? ⟨w.heap.size + 1, 0, none⟩ = some (.slice dap dnp dcp) ∧ w4.cell? ⟨w.heap.size + 1, 1, none⟩ = some (.slice dar dnr dcr) ∧ w4.cell? ⟨w.heap.size + 1, 2, none⟩ = some (.slice dam dnm dcm) ∧ w4.cell? ⟨w.heap.size + 1, 3, none⟩ = some (.slice dab dnb dcb) ∧ w.heap.size + 1 < w4.heap.size := ⟨Kc.out.cell 0, Kc.out.cell 1, Kc.out.cell 2, Kc.out.cell 3, Kc.out.cell 4, Kc.out.cell 5, Kc.out.cell 6, Kc.out.cell 7, Kc.out.cell 8, Kc.out.cell 9, Kc.out.lt, Kd.out.cell 0, Kd.out.cell 1, Kd.out.cell 2, Kd.out.cell 3, Kd.out.lt⟩
          go_wp2_with fail
          clear cc0 cc1 cc2 cc3 cc4 cc5 cc6 cc7 cc8 cc9 ccl dc0 dc1 dc2 dc3 dcl
          refine (HR2.out w4 B.out).mono ?_
          rintro e w5 ⟨rfl, b⟩
          replace Kc := Lib.hid (Kc.out.below b)
          replace Kd := Lib.hid (Kd.out.below b)
          replace B := Lib.hid (B.out.trans (b.mono B.out.size))
          clear b HR2
          cases q2 with
          | false =>
            go_wp2_with fail
            refine (HKN.out w5).mono ?_
            rintro e wk ⟨rfl, b⟩
            replace Kc := Lib.hid (Kc.out.below b)
            replace Kd := Lib.hid (Kd.out.below b)
            replace B := Lib.hid (B.out.trans (b.mono B.out.size))
            clear b
            go_wp2
            go_ret
            exact ⟨ret_bool rfl, B.out⟩
          | true =>
            replace HE1 := Lib.hid (HE1.out (by trivial))
            replace HE2 := Lib.hid (HE2.out (by trivial))
            replace HES := Lib.hid (HES.out (by trivial) (by trivial))
            obtain ⟨cc0, cc1, cc2, cc3, cc4, cc5, cc6, cc7, cc8, cc9, ccl, dc0, dc1, dc2, dc3, dcl⟩ : w5.cell? ⟨w.heap.size, 0, none⟩ = some (.int .i64 md) ∧ w5.cell? ⟨w.heap.size, 1, none⟩ = some (.slice ai ni ci) ∧ w5.cell? ⟨w.heap.size, 2, none⟩ = some (.slice ar nr cr) ∧ w5.cell? ⟨w.heap.size, 3, none⟩ = some (.slice ac nc cc) ∧ w5.cell? ⟨w.heap.size, 4, none⟩ = some (.slice ap np cp) ∧ w5.cell? ⟨w.heap.size, 5, none⟩ = some (.slice aq nq cq) ∧ w5.cell? ⟨w.heap.size, 6, none⟩ = some (.slice am nm cm) ∧ w5.cell? ⟨w.heap.size, 7, none⟩ = some (.slice ab nb cb) ∧ w5.cell? ⟨w.heap.size, 8, none⟩ = some (.int .i64 model) ∧ w5.cell? ⟨w.heap.size, 9, none⟩ = some (.int .i64 room) ∧ w.heap.size < w5.heap.size ∧ w5.cell? ⟨w.heap.size + 1, 0, none⟩ = some (.slice dap dnp dcp) ∧ w5.cell? ⟨w.heap.size + 1, 1, none⟩ = some (.slice dar dnr dcr) ∧ w5.cell? ⟨w.heap.size + 1, 2, none⟩ = some (.slice dam dnm dcm) ∧ w5.cell? ⟨w.heap.size + 1, 3, none⟩ = some (.slice dab dnb dcb) ∧ w.heap.size + 1 < w5.heap.size := ⟨Kc.out.cell 0, Kc.out.cell 1, Kc.out.cell 2, Kc.out.cell 3, Kc.out.cell 4, Kc.out.cell 5, Kc.out.cell 6, Kc.out.cell 7, Kc.out.cell 8, Kc.out.cell 9, Kc.out.lt, Kd.out.cell 0, Kd.out.cell 1, Kd.out.cell 2, Kd.out.cell 3, Kd.out.lt⟩
            go_wp2_with fail
            clear cc0 cc1 cc2 cc3 cc4 cc5 cc6 cc7 cc8 cc9 ccl dc0 dc1 dc2 dc3 dcl
            refine (HE1.out w5 B.out).mono ?_
            rintro e w6 ⟨rfl, b⟩
            replace Kc := Lib.hid (Kc.out.below b)
            replace Kd := Lib.hid (Kd.out.below b)
            replace B := Lib.hid (B.out.trans (b.mono B.out.size))
            clear b HE1
            obtain ⟨cc0, cc1, cc2, cc3, cc4, cc5, cc6, cc7, cc8, cc9, ccl, dc0, dc1, dc2, dc3, dcl⟩ : w6.cell? ⟨w.heap.size, 0, none⟩ = some (.int .i64 md) ∧ w6.cell? ⟨w.heap.size, 1, none⟩ = some (.slice ai ni ci) ∧ w6.cell? ⟨w.heap.size, 2, none⟩ = some (.slice ar nr cr) ∧ w6.cell? ⟨w.heap.size, 3, none⟩ = some (.slice ac nc cc) ∧ w6.cell? ⟨w.heap.size, 4, none⟩ = some (.slice ap np cp) ∧ w6.cell? ⟨w.heap.size, 5, none⟩ = some (.slice aq nq cq) ∧ w6.cell? ⟨w.heap.size, 6, none⟩ = some (.slice am nm cm) ∧ w6.cell? ⟨w.heap.size, 7, none⟩ = some (.slice ab nb cb) ∧ w6.cell? ⟨w.heap.size, 8, none⟩ = some (.int .i64 model) ∧ w6.cell? ⟨w.heap.size, 9, none⟩ = some (.int .i64 room) ∧ w.heap.size < w6.heap.size ∧ w6.cell? ⟨w.heap.size + 1, 0, none⟩ = some (.slice dap dnp dcp) ∧ w6.cell? ⟨w.heap.size + 1, 1, none⟩ = some (.slice dar dnr dcr) ∧ w6.cell? ⟨w.heap.size + 1, 2, none⟩ = some (.slice dam dnm dcm) ∧ w6.cell? ⟨w.heap.size + 1, 3, none⟩ = some (.slice dab dnb dcb) ∧ w.heap.size + 1 < w6.heap.size := ⟨Kc.out.cell 0, Kc.out.cell 1, Kc.out.cell 2, Kc.out.cell 3, Kc.out.cell 4, Kc.out.cell 5, Kc.out.cell 6, Kc.out.cell 7, Kc.out.cell 8, Kc.out.cell 9, Kc.out.lt, Kd.out.cell 0, Kd.out.cell 1, Kd.out.cell 2, Kd.out.cell 3, Kd.out.lt⟩
            go_wp2_with fail
            clear cc0 cc1 cc2 cc3 cc4 cc5 cc6 cc7 cc8 cc9 ccl dc0 dc1 dc2 dc3 dcl
            refine (HE2.out w6 B.out).mono ?_
            rintro e w7 ⟨rfl, b⟩
            replace Kc := Lib.hid (Kc.out.below b)
            replace Kd := Lib.hid (Kd.out.below b)
            replace B := Lib.hid (B.out.trans (b.mono B.out.size))
            clear b HE2
            have hee : (es1.toList == es2.toList) = sm := by
              by_cases hp : c.pf = d.pf
              · have h9 := HES.out.2 hp
                rw [← HSD.out, decide_eq_true hp, h9]; simp
              · rw [← HSD.out, decide_eq_false hp]; exact str_ne (fun h => hp (HES.out.1 h))
            have hss : (sm == sm) = true := by simp
            obtain ⟨cc0, cc1, cc2, cc3, cc4, cc5, cc6, cc7, cc8, cc9, ccl, dc0, dc1, dc2, dc3, dcl⟩ : w7.cell? ⟨w.heap.size, 0, none⟩ = some (.int .i64 md) ∧ w7.cell? ⟨w.heap.size, 1, none⟩ = some (.slice ai ni ci) ∧ w7.cell? ⟨w.heap.size, 2, none⟩ = some (.slice ar nr cr) ∧ w7.cell? ⟨w.heap.size, 3, none⟩ = some (.slice ac nc cc) ∧ w7.cell? ⟨w.heap.size, 4, none⟩ = some (.slice ap np cp) ∧ w7.cell? ⟨w.heap.size, 5, none⟩ = some (.slice aq nq cq) ∧ w7.cell? ⟨w.heap.size, 6, none⟩ = some (.slice am nm cm) ∧ w7.cell? ⟨w.heap.size, 7, none⟩ = some (.slice ab nb cb) ∧ w7.cell? ⟨w.heap.size, 8, none⟩ = some (.int .i64 model) ∧ w7.cell? ⟨w.heap.size, 9, none⟩ = some (.int .i64 room) ∧ w.heap.size < w7.heap.size ∧ w7.cell? ⟨w.heap.size + 1, 0, none⟩ = some (.slice dap dnp dcp) ∧ w7.cell? ⟨w.heap.size + 1, 1, none⟩ = some (.slice dar dnr dcr) ∧ w7.cell? ⟨w.heap.size + 1, 2, none⟩ = some (.slice dam dnm dcm) ∧ w7.cell? ⟨w.heap.size + 1, 3, none⟩ = some (.slice dab dnb dcb) ∧ w.heap.size + 1 < w7.heap.size := ⟨Kc.out.cell 0, Kc.out.cell 1, Kc.out.cell 2, Kc.out.cell 3, Kc.out.cell 4, Kc.out.cell 5, Kc.out.cell 6, Kc.out.cell 7, Kc.out.cell 8, Kc.out.cell 9, Kc.out.lt, Kd.out.cell 0, Kd.out.cell 1, Kd.out.cell 2, Kd.out.cell 3, Kd.out.lt⟩
            go_wp2_with fail
            clear cc0 cc1 cc2 cc3 cc4 cc5 cc6 cc7 cc8 cc9 ccl dc0 dc1 dc2 dc3 dcl
            refine (HSM.out w7 B.out).mono ?_
            rintro e w8 ⟨rfl, b⟩
            replace Kc := Lib.hid (Kc.out.below b)
            replace Kd := Lib.hid (Kd.out.below b)
            replace B := Lib.hid (B.out.trans (b.mono B.out.size))
            clear b HSM
            obtain ⟨cc0, cc1, cc2, cc3, cc4, cc5, cc6, cc7, cc8, cc9, ccl, dc0, dc1, dc2, dc3, dcl⟩ : w8.cell? ⟨w.heap.size, 0, none⟩ = some (.int .i64 md) ∧ w8.cell? ⟨w.heap.size, 1, none⟩ = some (.slice ai ni ci) ∧ w8.cell? ⟨w.heap.size, 2, none⟩ = some (.slice ar nr cr) ∧ w8.cell? ⟨w.heap.size, 3, none⟩ = some (.slice ac nc cc) ∧ w8.cell? ⟨w.heap.size, 4, none⟩ = some (.slice ap np cp) ∧ w8.cell? ⟨w.heap.size, 5, none⟩ = some (.slice aq nq cq) ∧ w8.cell? ⟨w.heap.size, 6, none⟩ = some (.slice am nm cm) ∧ w8.cell? ⟨w.heap.size, 7, none⟩ = some (.slice ab nb cb) ∧ w8.cell? ⟨w.heap.size, 8, none⟩ = some (.int .i64 model) ∧ w8.cell? ⟨w.heap.size, 9, none⟩ = some (.int .i64 room) ∧ w.heap.size < w8.heap.size ∧ w8.cell? ⟨w.heap.size + 1, 0, none⟩ = some (.slice dap dnp dcp) ∧ w8.cell? ⟨w.heap.size + 1, 1, none⟩ = some (.slice dar dnr dcr) ∧ w8.cell? ⟨w.heap.size + 1, 2, none⟩ = some (.slice dam dnm dcm) ∧ w8.cell? ⟨w.heap.size + 1, 3, none⟩ = some (.slice dab dnb dcb) ∧ w.heap.size + 1 < w8.heap.size := ⟨Kc.out.cell 0, Kc.out.cell 1, Kc.out.cell 2, Kc.out.cell 3, Kc.out.cell 4, Kc.out.cell 5, Kc.out.cell 6, Kc.out.cell 7, Kc.out.cell 8, Kc.out.cell 9, Kc.out.lt, Kd.out.cell 0, Kd.out.cell 1, Kd.out.cell 2, Kd.out.cell 3, Kd.out.lt⟩
            go_wp2_with fail
            clear cc0 cc1 cc2 cc3 cc4 cc5 cc6 cc7 cc8 cc9 ccl dc0 dc1 dc2 dc3 dcl
            cases dz with
            | none =>
              obtain ⟨na, hna⟩ : ∃ a : Option Addr, none = a := ⟨_, rfl⟩
              refine (HD0.out rfl w8 B.out).mono ?_
              rintro e w9 ⟨he, b⟩
              rw [hna] at he
              subst he
              replace Kc := Lib.hid (Kc.out.below b)
              replace Kd := Lib.hid (Kd.out.below b)
              replace B := Lib.hid (B.out.trans (b.mono B.out.size))
              clear b HD0 HD1
              have HSN := Lib.hid (fun (W : World) => csame_any nilC nilC (.slice na 0 0) (.slice na 0 0) (.slice na 0 0) (.slice na 0 0) _ _ _ _ W (hna ▸ nilC_data W) (nilC_data W) nilC_short true (by rw [sameC_pf]; exact decide_eq_true rfl))
              have HNA := Lib.hid hna
              clear hna
              have Kx := Lib.hid (Bk.new w9 29 #[.slice na 0 0, .slice na 0 0, .slice na 0 0, .slice na 0 0])
              have BW : Hid (Below w9.heap.size w9 (World.alloc w9 (.cells #[.slice na 0 0, .slice na 0 0, .slice na 0 0, .slice na 0 0] 29))) := Lib.hid (bal (Below.refl _ _) _)
              obtain ⟨w10, hw10⟩ : ∃ z, World.alloc w9 (.cells #[.slice na 0 0, .slice na 0 0, .slice na 0 0, .slice na 0 0] 29) = z := ⟨_, rfl⟩
              rw [hw10] at Kx BW
              replace Kc := Lib.hid (Kc.out.below BW.out)
              replace Kd := Lib.hid (Kd.out.below BW.out)
              replace B := Lib.hid (B.out.trans (BW.out.mono B.out.size))
              clear BW
              obtain ⟨cc0, cc1, cc2, cc3, cc4, cc5, cc6, cc7, cc8, cc9, ccl, dc0, dc1, dc2, dc3, dcl, xc0, xc1, xc2, xc3, xcl⟩ : w10.cell? ⟨w.heap.size, 0, none⟩ = some (.int .i64 md) ∧ w10.cell? ⟨w.heap.size, 1, none⟩ = some (.slice ai ni ci) ∧ w10.cell? ⟨w.heap.size, 2, none⟩ = some (.slice ar nr cr) ∧ w10.cell? ⟨w.heap.size, 3, none⟩ = some (.slice ac nc cc) ∧ w10.cell? ⟨w.heap.size, 4, none⟩ = some (.slice ap np cp) ∧ w10.cell? ⟨w.heap.size, 5, none⟩ = some (.slice aq nq cq) ∧ w10.cell? ⟨w.heap.size, 6, none⟩ = some (.slice am nm cm) ∧ w10.cell? ⟨w.heap.size, 7, none⟩ = some (.slice ab nb cb) ∧ w10.cell? ⟨w.heap.size, 8, none⟩ = some (.int .i64 model) ∧ w10.cell? ⟨w.heap.size, 9, none⟩ = some (.int .i64 room) ∧ w.heap.size < w10.heap.size ∧ w10.cell? ⟨w.heap.size + 1, 0, none⟩ = some (.slice dap dnp dcp) ∧ w10.cell? ⟨w.heap.size + 1, 1, none⟩ = some (.slice dar dnr dcr) ∧ w10.cell? ⟨w.heap.size + 1, 2, none⟩ = some (.slice dam dnm dcm) ∧ w10.cell? ⟨w.heap.size + 1, 3, none⟩ = some (.slice dab dnb dcb) ∧ w.heap.size + 1 < w10.heap.size ∧ w10.cell? ⟨w9.heap.size, 0, none⟩ = some (.slice na 0 0) ∧ w10.cell? ⟨w9.heap.size, 1, none⟩ = some (.slice na 0 0) ∧ w10.cell? ⟨w9.heap.size, 2, none⟩ = some (.slice na 0 0) ∧ w10.cell? ⟨w9.heap.size, 3, none⟩ = some (.slice na 0 0) ∧ w9.heap.size < w10.heap.size := ⟨Kc.out.cell 0, Kc.out.cell 1, Kc.out.cell 2, Kc.out.cell 3, Kc.out.cell 4, Kc.out.cell 5, Kc.out.cell 6, Kc.out.cell 7, Kc.out.cell 8, Kc.out.cell 9, Kc.out.lt, Kd.out.cell 0, Kd.out.cell 1, Kd.out.cell 2, Kd.out.cell 3, Kd.out.lt, Kx.out.cell 0, Kx.out.cell 1, Kx.out.cell 2, Kx.out.cell 3, Kx.out.lt⟩
              go_wp2_with fail
              clear cc0 cc1 cc2 cc3 cc4 cc5 cc6 cc7 cc8 cc9 ccl dc0 dc1 dc2 dc3 dcl xc0 xc1 xc2 xc3 xcl
              refine (HSN.out _).mono ?_
              rintro e w11 ⟨rfl, b⟩
              have b2 := b
              go_wp2_with fail
              refine (HKN.out _).mono ?_
              rintro e w12 ⟨rfl, b3⟩
              go_wp2
              go_ret
              exact ⟨rfl, B.out.trans ((b2.trans (b3.mono b2.size)).mono B.out.size)⟩
            | some p =>
              refine (HD1.out p rfl w8 B.out).mono ?_
              rintro e w9 ⟨dv, yp, yr, ym, yb, rfl, oc, pd, b⟩
              replace Kc := Lib.hid (Kc.out.below b)
              replace Kd := Lib.hid (Kd.out.below b)
              replace B := Lib.hid (B.out.trans (b.mono B.out.size))
              clear b HD1 HD0
              obtain ⟨xa0, xk0, rfl, _⟩ := own_shape' oc.p
              obtain ⟨xa1, xk1, rfl, _⟩ := own_shape' oc.r.h
              obtain ⟨xa2, xk2, rfl, _⟩ := own_shape' oc.m
              obtain ⟨xa3, xk3, rfl, _⟩ := own_shape' oc.b.h
              obtain ⟨xn0, hxn0⟩ : ∃ z, z = dv.pc.length := ⟨_, rfl⟩
              obtain ⟨xn1, hxn1⟩ : ∃ z, z = dv.regs.length := ⟨_, rfl⟩
              obtain ⟨xn2, hxn2⟩ : ∃ z, z = dv.mem.length := ⟨_, rfl⟩
              obtain ⟨xn3, hxn3⟩ : ∃ z, z = dv.buf.length := ⟨_, rfl⟩
              rw [← hxn0, ← hxn1, ← hxn2, ← hxn3] at oc ⊢
              clear hxn0 hxn1 hxn2 hxn3
              have Dx := Lib.hid oc.data
              clear oc
              have Kx := Lib.hid (Bk.new w9 29 #[.slice xa0 xn0 xk0, .slice xa1 xn1 xk1, .slice xa2 xn2 xk2, .slice xa3 xn3 xk3])
              have BW : Hid (Below w9.heap.size w9 (World.alloc w9 (.cells #[.slice xa0 xn0 xk0, .slice xa1 xn1 xk1, .slice xa2 xn2 xk2, .slice xa3 xn3 xk3] 29))) := Lib.hid (bal (Below.refl _ _) _)
              obtain ⟨w10, hw10⟩ : ∃ z, World.alloc w9 (.cells #[.slice xa0 xn0 xk0, .slice xa1 xn1 xk1, .slice xa2 xn2 xk2, .slice xa3 xn3 xk3] 29) = z := ⟨_, rfl⟩
              rw [hw10] at Kx BW
              replace Dx := Lib.hid (Dx.out.below BW.out)
              replace Kc := Lib.hid (Kc.out.below BW.out)
              replace Kd := Lib.hid (Kd.out.below BW.out)
              replace B := Lib.hid (B.out.trans (BW.out.mono B.out.size))
              clear BW
              have HX := Lib.hid (HE3.out p rfl dv pd _ _ _ _ w10 B.out Dx.out)
              clear HE3 pd
              obtain ⟨cc0, cc1, cc2, cc3, cc4, cc5, cc6, cc7, cc8, cc9, ccl, dc0, dc1, dc2, dc3, dcl, xc0, xc1, xc2, xc3, xcl⟩ : w10.cell? ⟨w.heap.size, 0, none⟩ = some (.int .i64 md) ∧ w10.cell? ⟨w.heap.size, 1, none⟩ = some (.slice ai ni ci) ∧ w10.cell? ⟨w.heap.size, 2, none⟩ = some (.slice ar nr cr) ∧ w10.cell? ⟨w.heap.size, 3, none⟩ = some (.slice ac nc cc) ∧ w10.cell? ⟨w.heap.size, 4, none⟩ = some (.slice ap np cp) ∧ w10.cell? ⟨w.heap.size, 5, none⟩ = some (.slice aq nq cq) ∧ w10.cell? ⟨w.heap.size, 6, none⟩ = some (.slice am nm cm) ∧ w10.cell? ⟨w.heap.size, 7, none⟩ = some (.slice ab nb cb) ∧ w10.cell? ⟨w.heap.size, 8, none⟩ = some (.int .i64 model) ∧ w10.cell? ⟨w.heap.size, 9, none⟩ = some (.int .i64 room) ∧ w.heap.size < w10.heap.size ∧ w10.cell? ⟨w.heap.size + 1, 0, none⟩ = some (.slice dap dnp dcp) ∧ w10.cell? ⟨w.heap.size + 1, 1, none⟩ = some (.slice dar dnr dcr) ∧ w10.cell? ⟨w.heap.size + 1, 2, none⟩ = some (.slice dam dnm dcm) ∧ w10.cell? ⟨w.heap.size + 1, 3, none⟩ = some (.slice dab dnb dcb) ∧ w.heap.size + 1 < w10.heap.size ∧ w10.cell? ⟨w9.heap.size, 0, none⟩ = some (.slice xa0 xn0 xk0) ∧ w10.cell? ⟨w9.heap.size, 1, none⟩ = some (.slice xa1 xn1 xk1) ∧ w10.cell? ⟨w9.heap.size, 2, none⟩ = some (.slice xa2 xn2 xk2) ∧ w10.cell? ⟨w9.heap.size, 3, none⟩ = some (.slice xa3 xn3 xk3) ∧ w9.heap.size < w10.heap.size := ⟨Kc.out.cell 0, Kc.out.cell 1, Kc.out.cell 2, Kc.out.cell 3, Kc.out.cell 4, Kc.out.cell 5, Kc.out.cell 6, Kc.out.cell 7, Kc.out.cell 8, Kc.out.cell 9, Kc.out.lt, Kd.out.cell 0, Kd.out.cell 1, Kd.out.cell 2, Kd.out.cell 3, Kd.out.lt, Kx.out.cell 0, Kx.out.cell 1, Kx.out.cell 2, Kx.out.cell 3, Kx.out.lt⟩
              go_wp2_with fail
              clear cc0 cc1 cc2 cc3 cc4 cc5 cc6 cc7 cc8 cc9 ccl dc0 dc1 dc2 dc3 dcl xc0 xc1 xc2 xc3 xcl
              refine HX.out.mono ?_
              rintro e w11 ⟨rfl, b⟩
              replace Kc := Lib.hid (Kc.out.below b)
              replace Kd := Lib.hid (Kd.out.below b)
              replace Kx := Lib.hid (Kx.out.below b)
              replace B := Lib.hid (B.out.trans (b.mono B.out.size))
              clear b HX
              have hst : (s.toList == s.toList) = true := by simp
              obtain ⟨cc0, cc1, cc2, cc3, cc4, cc5, cc6, cc7, cc8, cc9, ccl, dc0, dc1, dc2, dc3, dcl, xc0, xc1, xc2, xc3, xcl⟩ : w11.cell? ⟨w.heap.size, 0, none⟩ = some (.int .i64 md) ∧ w11.cell? ⟨w.heap.size, 1, none⟩ = some (.slice ai ni ci) ∧ w11.cell? ⟨w.heap.size, 2, none⟩ = some (.slice ar nr cr) ∧ w11.cell? ⟨w.heap.size, 3, none⟩ = some (.slice ac nc cc) ∧ w11.cell? ⟨w.heap.size, 4, none⟩ = some (.slice ap np cp) ∧ w11.cell? ⟨w.heap.size, 5, none⟩ = some (.slice aq nq cq) ∧ w11.cell? ⟨w.heap.size, 6, none⟩ = some (.slice am nm cm) ∧ w11.cell? ⟨w.heap.size, 7, none⟩ = some (.slice ab nb cb) ∧ w11.cell? ⟨w.heap.size, 8, none⟩ = some (.int .i64 model) ∧ w11.cell? ⟨w.heap.size, 9, none⟩ = some (.int .i64 room) ∧ w.heap.size < w11.heap.size ∧ w11.cell? ⟨w.heap.size + 1, 0, none⟩ = some (.slice dap dnp dcp) ∧ w11.cell? ⟨w.heap.size + 1, 1, none⟩ = some (.slice dar dnr dcr) ∧ w11.cell? ⟨w.heap.size + 1, 2, none⟩ = some (.slice dam dnm dcm) ∧ w11.cell? ⟨w.heap.size + 1, 3, none⟩ = some (.slice dab dnb dcb) ∧ w.heap.size + 1 < w11.heap.size ∧ w11.cell? ⟨w9.heap.size, 0, none⟩ = some (.slice xa0 xn0 xk0) ∧ w11.cell? ⟨w9.heap.size, 1, none⟩ = some (.slice xa1 xn1 xk1) ∧ w11.cell? ⟨w9.heap.size, 2, none⟩ = some (.slice xa2 xn2 xk2) ∧ w11.cell? ⟨w9.heap.size, 3, none⟩ = some (.slice xa3 xn3 xk3) ∧ w9.heap.size < w11.heap.size := ⟨Kc.out.cell 0, Kc.out.cell 1, Kc.out.cell 2, Kc.out.cell 3, Kc.out.cell 4, Kc.out.cell 5, Kc.out.cell 6, Kc.out.cell 7, Kc.out.cell 8, Kc.out.cell 9, Kc.out.lt, Kd.out.cell 0, Kd.out.cell 1, Kd.out.cell 2, Kd.out.cell 3, Kd.out.lt, Kx.out.cell 0, Kx.out.cell 1, Kx.out.cell 2, Kx.out.cell 3, Kx.out.lt⟩
              go_wp2_with fail
              clear cc0 cc1 cc2 cc3 cc4 cc5 cc6 cc7 cc8 cc9 ccl dc0 dc1 dc2 dc3 dcl xc0 xc1 xc2 xc3 xcl
              refine (HKN.out w11).mono ?_
              rintro e w12 ⟨rfl, b⟩
              replace Kc := Lib.hid (Kc.out.below b)
              replace Kd := Lib.hid (Kd.out.below b)
              replace Kx := Lib.hid (Kx.out.below b)
              replace B := Lib.hid (B.out.trans (b.mono B.out.size))
              clear b
              go_wp2
              go_ret
              exact ⟨ret_bool (by simp), B.out⟩
      have hln : (500 : Int) < (s.size : Int) := by omega
      go_wp2_with fail
      refine (HKN.out w3).mono ?_
      rintro e wk ⟨rfl, b⟩
      replace Kc := Lib.hid (Kc.out.below b)
      replace Kd := Lib.hid (Kd.out.below b)
      replace B := Lib.hid (B.out.trans (b.mono B.out.size))
      clear b
      go_wp2
      go_ret
      exact ⟨ret_bool rfl, B.out⟩
  have hz : (r1 && r2) = false := by cases r1 <;> cases r2 <;> simp_all
  try rw [hz]
  go_wp2_with fail
  refine (HKN.out w2).mono ?_
  rintro e wk ⟨rfl, b⟩
  replace Kc := Lib.hid (Kc.out.below b)
  replace Kd := Lib.hid (Kd.out.below b)
  replace B := Lib.hid (B.out.trans (b.mono B.out.size))
  clear b
  go_wp2
  go_ret
  exact ⟨ret_bool rfl, B.out⟩

end Go.Proofs.Ytmkgijedchpgcaa
