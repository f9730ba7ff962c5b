/- StepOwn: its walk. -/
import Derived.Test.YtobmbkgeafbamaaZr
import Derived.Test.YtobmbkgeafbamaaZj
import Derived.Test.YtobmbkgeafbamaaZb
import Derived.Test.YtobmbkgeafbamaaXl
import Derived.Test.YtobmbkgeafbamaaYc
namespace Go.Proofs.Ytobmbkgeafbamaa
set_option linter.unusedSimpArgs false
set_option linter.unusedVariables false
open Go.RowKit

/-- Where a thread stands, and its instruction, in the heap. -/
theorem ins_at {u : Un} {c : Cf} {model room : Int} {w : World} {ac ap : Option Addr} {ncd ccd npp cpp : Nat} {vi vr xr xm xb : Value} (hu : UnD w vi vr (.slice ac ncd ccd) u) (hc : CfD w (.slice ap npp cpp) xr xm xb c) (hR : RightP u c.pf model room) (k : Nat) (hk : k < u.code.length) :
    ∃ bp op bc oc bi oi nl mx pc x, ap = some ⟨bp, op, none⟩ ∧ ac = some ⟨bc, oc, none⟩ ∧ bp < w.heap.size ∧ bc < w.heap.size ∧ bi < w.heap.size ∧ w.cell? ⟨bp, op + k, none⟩ = some (.int .i64 (pc : Nat)) ∧ w.cell? ⟨bc, oc + k, none⟩ = some (.slice (some ⟨bi, oi, none⟩) nl mx) ∧ pc < nl ∧ nl ≤ 1000 ∧
      IsAt w bi (oi + pc * 7) x ∧ x = iiAt u k (c.pc.getD k 0) := by
  have hlc := rightU_lc hR.ru
  have hkr : k < u.regs.length := by omega
  have hkp : k < c.pc.length := by have : c.pc.length = u.regs.length := hR.lp; omega
  obtain ⟨pc, x, T⟩ := hR.thr k hkr
  obtain ⟨bp, op, rfl, hbp, yp⟩ := IntsD.at2 hc.p k hkp
  obtain ⟨bc, oc, rfl, hbc, hx⟩ := SlD.at hu.c k hk
  obtain ⟨hx1, hx2⟩ := hx
  obtain ⟨ax, mx, hxv⟩ := hx2.shape0
  rw [hxv] at hx1 hx2
  have hg : u.code.getD k ([], undef) = u.code[k] := by rw [List.getD_eq_getElem?_getD, List.getElem?_eq_getElem hk]; rfl
  have hpl : pc < (u.code[k]).1.length := by have := T.hpl; rw [hg] at this; exact this
  have hle : (u.code[k]).1.length ≤ 1000 := by have := T.hl; rw [hg] at this; exact this
  obtain ⟨bi, oi, rfl, hbi, hI⟩ := SlD.at hx2 pc hpl
  have hp : c.pc[k] = (pc : Int) := by have h1 : c.pc.getD k 0 = (pc : Int) := T.hp; rw [List.getD_eq_getElem?_getD, List.getElem?_eq_getElem hkp] at h1; exact h1
  rw [hp] at yp
  refine ⟨bp, op, bc, oc, bi, oi, _, mx, pc, _, rfl, rfl, hbp, hbc, hbi, yp, by rw [Nat.mul_one] at hx1; exact hx1, hpl, hle, hI, ?_⟩
  unfold iiAt
  rw [show c.pc.getD k 0 = (pc : Int) from T.hp, hg, show ((pc : Int)).toNat = pc by omega, List.getD_eq_getElem?_getD, List.getElem?_eq_getElem hpl]
  rfl

theorem own_reads2 {u : Un} {c dv : Cf} {model room : Int} {j : Nat} {x : II} (h : RightP u c.pf model room) (hj : j < u.regs.length) (he : enT u c.pf model room (j : Int) = true) (hx : x = iiAt u j (c.pc.getD j 0)) (ho : x.x.op = 4) (pd : dv.pf = actT u c.pf model room (j : Int)) (hm : model ≠ 1) (t : Int) (ht : t ≠ (j : Int)) :
    readsP (actT u dv.pf model room t) (j : Int) x.x.loc = readsP dv.pf (j : Int) x.x.loc := by
  obtain ⟨v, h1, h2⟩ := own_reads h hm j hj he (by show (iiAt u j (c.pc.getD j 0)).x.op = 4; rw [← hx]; exact ho)
  have e : (insAt u j (c.pf.pc.getD j 0)).loc = x.x.loc := by show (iiAt u j (c.pc.getD j 0)).x.loc = _; rw [← hx]
  rw [e] at h1 h2
  rw [pd, h1]
  exact h2 t ht
theorem mem_at {w : World} {c : Cf} {am : Option Addr} {nm cm : Nat} {vp vq vb : Value} (hc : CfD w vp vq (.slice am nm cm) vb c) (k : Nat) (h : k < c.mem.length) : ∃ b off, am = some ⟨b, off, none⟩ ∧ b < w.heap.size ∧ w.cell? ⟨b, off + k, none⟩ = some (.int .i64 (c.pf.mem.getD k 0)) := by
  obtain ⟨b, off, h1, h2, h3⟩ := IntsD.at2 hc.m k h
  have e : c.pf.mem.getD k 0 = c.mem[k] := by show c.mem.getD k 0 = _; rw [List.getD_eq_getElem?_getD, List.getElem?_eq_getElem h]; rfl
  exact ⟨b, off, h1, h2, by rw [e]; exact h3⟩

attribute [local go_sem ↓] Go.wp_at_zero Go.wp_at_succ
set_option maxRecDepth 100000 in
set_option maxHeartbeats 16000000 in
theorem own_in (u : Un) (c : Cf) (model room t loc : Int) (vi vr vc xp xr xm xb : Value) (w : World) (hu : UnD w vi vr vc u) (hc : CfD w xp xr xm xb c) :
    Calls Try.prog 4 #[.agg #[.int .i64 u.mod, vi, vr, vc, xp, xr, xm, xb, .int .i64 model, .int .i64 room, .int .i64 t, .int .i64 loc]] w fun e w' => e = .returned (.bool true) ∧ Below w.heap.size w w' := by
  have HKN := Lib.hid known_any
  have HU := Lib.hid hu
  have HC := Lib.hid hc
  obtain ⟨ai, ci, rfl⟩ := hu.i.shape0
  obtain ⟨ar, cr, rfl⟩ := hu.r.shape0
  obtain ⟨ac, cc, rfl⟩ := hu.c.shape0
  obtain ⟨ap, cp, rfl⟩ := hc.p.shape0
  obtain ⟨aq, cq, rfl⟩ := hc.r.shape0
  obtain ⟨am, cm, rfl⟩ := hc.m.shape0
  obtain ⟨ab, cb, rfl⟩ := hc.b.shape0
  clear hu hc
  have HRT := Lib.hid (fun (W : World) (h : Below w.heap.size w W) => right10_any u c model room t loc _ _ _ _ _ _ _ W (HU.out.below h) (HC.out.below h) _ rfl)
  have HAC := Lib.hid (fun (hr : (lightU u && (lightC c && rightC u c model room)) = true) (W : World) (h : Below w.heap.size w W) => act_is u c model room t _ _ _ _ _ _ _ W (HU.out.below h) (HC.out.below h) (usL (case_rightK hr).1) (case_rightK hr).2.2)
  have HA2 := Lib.hid (fun (hr : (lightU u && (lightC c && rightC u c model room)) = true) (d : Cf) (hR : RightP u d.pf model room) (k : Int) (yp yr ym yb : Value) (W : World) (h : Below w.heap.size w W) (hd : CfD W yp yr ym yb d) => act_is u d model room k _ _ _ yp yr ym yb W (HU.out.below h) hd (usL (case_rightK hr).1) hR)
  have HRD := Lib.hid (fun (hr : (lightU u && (lightC c && rightC u c model room)) = true) (d : Cf) (hR : RightP u d.pf model room) (k l : Int) (yp yr ym yb : Value) (W : World) (hd : CfD W yp yr ym yb d) => reads_any d k l yp yr ym yb W hd (short_right hR).bb _ rfl)
  have HRC := Lib.hid (fun (hr : (lightU u && (lightC c && rightC u c model room)) = true) (k l : Int) (W : World) (h : Below w.heap.size w W) => reads_any c k l _ _ _ _ W (HC.out.below h) (lightC_short (case_rightK hr).2.1).bb _ (readsC_pf c k l))
  have HRP := Lib.hid (fun (hr : (lightU u && (lightC c && rightC u c model room)) = true) => (case_rightK hr).2.2)
  have HLN := Lib.hid (fun (hr : (lightU u && (lightC c && rightC u c model room)) = true) => right_lens (case_rightK hr).2.2)
  have HNC := Lib.hid (fun (hr : (lightU u && (lightC c && rightC u c model room)) = true) => (show u.code.length = u.regs.length from (rightU_lc (case_rightK hr).2.2.ru).2.2.2.2.2))
  have HAT := Lib.hid (fun (hr : (lightU u && (lightC c && rightC u c model room)) = true) (k : Nat) (hk : k < u.regs.length) => conf_at HC.out k (by rw [(right_lens (case_rightK hr).2.2).1]; exact hk) (by rw [(right_lens (case_rightK hr).2.2).2.1]; exact hk) (by rw [(right_lens (case_rightK hr).2.2).2.2.1]; exact hk))
  have HSL := Lib.hid (fun (hr : (lightU u && (lightC c && rightC u c model room)) = true) (k : Nat) => short_row (lightC_short (case_rightK hr).2.1) k)
  have HMA := Lib.hid (fun (hr : (lightU u && (lightC c && rightC u c model room)) = true) (k : Nat) (hk : k < c.mem.length) => mem_at HC.out k hk)
  have HIN := Lib.hid (fun (hr : (lightU u && (lightC c && rightC u c model room)) = true) (k : Nat) (hk : k < u.code.length) => ins_at HU.out HC.out (case_rightK hr).2.2 k hk)
  have HQ4 := Lib.hid (fun (hr : (lightU u && (lightC c && rightC u c model room)) = true) => (show u.regs.length ≤ 4 ∧ 1 ≤ u.regs.length ∧ u.init.length ≤ 6 by have := rightU_lc (case_rightK hr).2.2.ru; omega))
  clear HU HC
  generalize hni : u.init.length = ni at HRT HAC HA2 HRC HAT HMA HIN HLN HQ4 ⊢
  generalize hnr : u.regs.length = nr at HRT HAC HA2 HRC HAT HMA HIN HLN HQ4 HNC ⊢
  generalize hnc : u.code.length = nc at HRT HAC HA2 HRC HAT HMA HIN HNC ⊢
  generalize hnp : c.pc.length = np at HRT HAC HA2 HRC HAT HMA HIN HLN ⊢
  generalize hnq : c.regs.length = nq at HRT HAC HA2 HRC HAT HMA HIN HLN ⊢
  generalize hnm : c.mem.length = nm at HRT HAC HA2 HRC HAT HMA HIN HLN ⊢
  generalize hnb : c.buf.length = nb at HRT HAC HA2 HRC HAT HMA HIN HLN ⊢
  generalize hmd : u.mod = md at HRT HAC HA2 HRC HAT HMA HIN ⊢
  replace hni := Lib.hid hni
  replace hnr := Lib.hid hnr
  replace hnc := Lib.hid hnc
  replace hnp := Lib.hid hnp
  replace hnq := Lib.hid hnq
  replace hnm := Lib.hid hnm
  replace hnb := Lib.hid hnb
  replace hmd := Lib.hid hmd
  obtain ⟨r, hr⟩ : ∃ q, (lightU u && (lightC c && rightC u c model room)) = q := ⟨_, rfl⟩
  rw [hr] at HRT HRP HLN HQ4 HNC HRD HSL HAC HA2 HRC HAT HMA HIN
  clear hr
  have Kc := Lib.hid (Bk.new w 31 #[.int .i64 md, .slice ai ni ci, .slice ar nr cr, .slice ac nc cc, .slice ap np cp, .slice aq nq cq, .slice am nm cm, .slice ab nb cb, .int .i64 model, .int .i64 room, .int .i64 t, .int .i64 loc])
  have B : Hid (Below w.heap.size w (World.alloc w (.cells #[.int .i64 md, .slice ai ni ci, .slice ar nr cr, .slice ac nc cc, .slice ap np cp, .slice aq nq cq, .slice am nm cm, .slice ab nb cb, .int .i64 model, .int .i64 room, .int .i64 t, .int .i64 loc] 31))) := Lib.hid (bal (Below.refl _ _) _)
  go_enter Try.func4, Try.ntmps4
  go_wp2_with fail
  generalize World.alloc w (.cells #[.int .i64 md, .slice ai ni ci, .slice ar nr cr, .slice ac nc cc, .slice ap np cp, .slice aq nq cq, .slice am nm cm, .slice ab nb cb, .int .i64 model, .int .i64 room, .int .i64 t, .int .i64 loc] 31) = w1 at Kc B ⊢
  refine (HRT.out w1 B.out).mono ?_
  rintro e w2 ⟨rfl, b⟩
  replace Kc := Lib.hid (Kc.out.below b)
  replace B := Lib.hid (B.out.trans (b.mono B.out.size))
  clear b HRT
  cases r with
  | false =>
    go_wp2_with fail
    refine (HKN.out w2).mono ?_
    rintro e w3 ⟨rfl, b⟩
    replace Kc := Lib.hid (Kc.out.below b)
    replace B := Lib.hid (B.out.trans (b.mono B.out.size))
    clear b
    go_wp2
    go_ret
    exact ⟨ret_bool rfl, B.out⟩
  | true =>
    replace HAC := Lib.hid (HAC.out rfl)
    replace HA2 := Lib.hid (HA2.out rfl)
    replace HRC := Lib.hid (HRC.out rfl)
    replace HAT := Lib.hid (HAT.out rfl)
    replace HMA := Lib.hid (HMA.out rfl)
    replace HIN := Lib.hid (HIN.out rfl)
    replace HRP := Lib.hid (HRP.out rfl)
    replace HLN := Lib.hid (HLN.out rfl)
    replace HQ4 := Lib.hid (HQ4.out rfl)
    replace HNC := Lib.hid (HNC.out rfl)
    replace HRD := Lib.hid (HRD.out rfl)
    replace HSL := Lib.hid (HSL.out rfl)
    obtain ⟨e1, e2, e3, e4⟩ := HLN.out
    have e5 := HNC.out
    subst e1 e2 e3 e4 e5
    obtain ⟨hn4, hn1, hm6⟩ := HQ4.out
    by_cases t0 : t < 0
    ·
      obtain ⟨cc0, cc1, cc2, cc3, cc4, cc5, cc6, cc7, cc8, cc9, cc10, cc11, ccl⟩ : w2.cell? ⟨w.heap.size, 0, none⟩ = some (.int .i64 md) ∧ w2.cell? ⟨w.heap.size, 1, none⟩ = some (.slice ai nm ci) ∧ w2.cell? ⟨w.heap.size, 2, none⟩ = some (.slice ar nc cr) ∧ w2.cell? ⟨w.heap.size, 3, none⟩ = some (.slice ac nc cc) ∧ w2.cell? ⟨w.heap.size, 4, none⟩ = some (.slice ap nc cp) ∧ w2.cell? ⟨w.heap.size, 5, none⟩ = some (.slice aq nc cq) ∧ w2.cell? ⟨w.heap.size, 6, none⟩ = some (.slice am nm cm) ∧ w2.cell? ⟨w.heap.size, 7, none⟩ = some (.slice ab nc cb) ∧ w2.cell? ⟨w.heap.size, 8, none⟩ = some (.int .i64 model) ∧ w2.cell? ⟨w.heap.size, 9, none⟩ = some (.int .i64 room) ∧ w2.cell? ⟨w.heap.size, 10, none⟩ = some (.int .i64 t) ∧ w2.cell? ⟨w.heap.size, 11, none⟩ = some (.int .i64 loc) ∧ w.heap.size < w2.heap.size := ⟨Kc.out.cell 0, Kc.out.cell 1, Kc.out.cell 2, Kc.out.cell 3, Kc.out.cell 4, Kc.out.cell 5, Kc.out.cell 6, Kc.out.cell 7, Kc.out.cell 8, Kc.out.cell 9, Kc.out.cell 10, Kc.out.cell 11, Kc.out.lt⟩
      go_wp2_with fail
      refine (HKN.out w2).mono ?_
      rintro e w3 ⟨rfl, b⟩
      replace Kc := Lib.hid (Kc.out.below b)
      replace B := Lib.hid (B.out.trans (b.mono B.out.size))
      clear b
      go_wp2
      go_ret
      exact ⟨ret_bool rfl, B.out⟩
    by_cases tn : (nc : Int) ≤ t
    ·
      have t1 : ¬ t < 0 := t0
      obtain ⟨cc0, cc1, cc2, cc3, cc4, cc5, cc6, cc7, cc8, cc9, cc10, cc11, ccl⟩ : w2.cell? ⟨w.heap.size, 0, none⟩ = some (.int .i64 md) ∧ w2.cell? ⟨w.heap.size, 1, none⟩ = some (.slice ai nm ci) ∧ w2.cell? ⟨w.heap.size, 2, none⟩ = some (.slice ar nc cr) ∧ w2.cell? ⟨w.heap.size, 3, none⟩ = some (.slice ac nc cc) ∧ w2.cell? ⟨w.heap.size, 4, none⟩ = some (.slice ap nc cp) ∧ w2.cell? ⟨w.heap.size, 5, none⟩ = some (.slice aq nc cq) ∧ w2.cell? ⟨w.heap.size, 6, none⟩ = some (.slice am nm cm) ∧ w2.cell? ⟨w.heap.size, 7, none⟩ = some (.slice ab nc cb) ∧ w2.cell? ⟨w.heap.size, 8, none⟩ = some (.int .i64 model) ∧ w2.cell? ⟨w.heap.size, 9, none⟩ = some (.int .i64 room) ∧ w2.cell? ⟨w.heap.size, 10, none⟩ = some (.int .i64 t) ∧ w2.cell? ⟨w.heap.size, 11, none⟩ = some (.int .i64 loc) ∧ w.heap.size < w2.heap.size := ⟨Kc.out.cell 0, Kc.out.cell 1, Kc.out.cell 2, Kc.out.cell 3, Kc.out.cell 4, Kc.out.cell 5, Kc.out.cell 6, Kc.out.cell 7, Kc.out.cell 8, Kc.out.cell 9, Kc.out.cell 10, Kc.out.cell 11, Kc.out.lt⟩
      go_wp2_with fail
      refine (HKN.out w2).mono ?_
      rintro e w3 ⟨rfl, b⟩
      replace Kc := Lib.hid (Kc.out.below b)
      replace B := Lib.hid (B.out.trans (b.mono B.out.size))
      clear b
      go_wp2
      go_ret
      exact ⟨ret_bool rfl, B.out⟩
    obtain ⟨j, hj⟩ : ∃ j : Nat, t = (j : Int) := ⟨t.toNat, by omega⟩
    subst hj
    have hj : j < nc := by omega
    have t1 : ¬ (j : Int) < 0 := t0
    have t2 : ¬ (nc : Int) ≤ (j : Int) := tn
    obtain ⟨bp, op, bc, oc, bi, oi, nl, mx, pc, x, hz1, hz2, l1, l2, l3, y1, y2, hpl, hnl, hI, hx⟩ := HIN.out j hj
    have HX := Lib.hid hx
    clear hx
    subst hz1 hz2
    have HII := Lib.hid (IsAt.below hI B.out l3)
    replace y1 := (B.out.cell (p := ⟨bp, _, none⟩) l1).trans y1
    replace y2 := (B.out.cell (p := ⟨bc, _, none⟩) l2).trans y2
    replace l1 := Nat.lt_of_lt_of_le l1 B.out.size
    replace l2 := Nat.lt_of_lt_of_le l2 B.out.size
    replace l3 := Nat.lt_of_lt_of_le l3 B.out.size
    clear hI
    obtain ⟨ae, ke, hev⟩ := HII.out.e.shape0
    obtain ⟨af, kf, hfv⟩ := HII.out.f.shape0
    have HONE : (#[.int .i64 x.x.op, .int .i64 x.x.reg, .int .i64 x.x.loc, x.ev, x.fv, .bool x.x.ne, .int .i64 x.x.to] : Array Value).all (·.oneCell') = true := by rw [hev, hfv]; simp [Value.oneCell']
    clear hev hfv
    have HCC := Lib.hid (fun (W1 : World) (h : Below w2.heap.size w2 W1) => (⟨(h.cell (p := ⟨w.heap.size, _, none⟩) Kc.out.lt).trans (Kc.out.cell 3), (h.cell (p := ⟨w.heap.size, _, none⟩) Kc.out.lt).trans (Kc.out.cell 4), (h.cell (p := ⟨w.heap.size, _, none⟩) Kc.out.lt).trans (Kc.out.cell 10), (h.cell (p := ⟨bc, _, none⟩) l2).trans y2, (h.cell (p := ⟨bp, _, none⟩) l1).trans y1, ⟨(h.cell (p := ⟨bi, _, none⟩) l3).trans HII.out.c0, (h.cell (p := ⟨bi, _, none⟩) l3).trans HII.out.c1, (h.cell (p := ⟨bi, _, none⟩) l3).trans HII.out.c2, (h.cell (p := ⟨bi, _, none⟩) l3).trans HII.out.c3, (h.cell (p := ⟨bi, _, none⟩) l3).trans HII.out.c4, (h.cell (p := ⟨bi, _, none⟩) l3).trans HII.out.c5, (h.cell (p := ⟨bi, _, none⟩) l3).trans HII.out.c6⟩, h⟩ : (fun W1 => W1.cell? ⟨w.heap.size, 3, none⟩ = some (.slice (some ⟨bc, oc, none⟩) nc cc) ∧ W1.cell? ⟨w.heap.size, 4, none⟩ = some (.slice (some ⟨bp, op, none⟩) nc cp) ∧ W1.cell? ⟨w.heap.size, 10, none⟩ = some (.int .i64 j) ∧ W1.cell? ⟨bc, oc + j, none⟩ = some (.slice (some ⟨bi, oi, none⟩) nl mx) ∧ W1.cell? ⟨bp, op + j, none⟩ = some (.int .i64 pc) ∧ (W1.cell? ⟨bi, oi + pc * 7, none⟩ = some (.int .i64 x.x.op) ∧ W1.cell? ⟨bi, oi + pc * 7 + 1, none⟩ = some (.int .i64 x.x.reg) ∧ W1.cell? ⟨bi, oi + pc * 7 + 2, none⟩ = some (.int .i64 x.x.loc) ∧ W1.cell? ⟨bi, oi + pc * 7 + 3, none⟩ = some (x.ev) ∧ W1.cell? ⟨bi, oi + pc * 7 + 4, none⟩ = some (x.fv) ∧ W1.cell? ⟨bi, oi + pc * 7 + 5, none⟩ = some (.bool x.x.ne) ∧ W1.cell? ⟨bi, oi + pc * 7 + 6, none⟩ = some (.int .i64 x.x.to)) ∧ Below w2.heap.size w2 W1) W1))
    have g1 : (0 : Int) ≤ (j : Int) := by omega
    have g2 : (j : Int) < (nc : Int) := by omega
    have g3 : (0 : Int) ≤ (pc : Int) := by omega
    have g4 : (pc : Int) < (nl : Int) := by omega
    have BQ : Below w2.heap.size w2 w2 := Below.refl _ _
    obtain ⟨cc0, cc1, cc2, cc3, cc4, cc5, cc6, cc7, cc8, cc9, cc10, cc11, ccl⟩ : w2.cell? ⟨w.heap.size, 0, none⟩ = some (.int .i64 md) ∧ w2.cell? ⟨w.heap.size, 1, none⟩ = some (.slice ai nm ci) ∧ w2.cell? ⟨w.heap.size, 2, none⟩ = some (.slice ar nc cr) ∧ w2.cell? ⟨w.heap.size, 3, none⟩ = some (.slice (some ⟨bc, oc, none⟩) nc cc) ∧ w2.cell? ⟨w.heap.size, 4, none⟩ = some (.slice (some ⟨bp, op, none⟩) nc cp) ∧ w2.cell? ⟨w.heap.size, 5, none⟩ = some (.slice aq nc cq) ∧ w2.cell? ⟨w.heap.size, 6, none⟩ = some (.slice am nm cm) ∧ w2.cell? ⟨w.heap.size, 7, none⟩ = some (.slice ab nc cb) ∧ w2.cell? ⟨w.heap.size, 8, none⟩ = some (.int .i64 model) ∧ w2.cell? ⟨w.heap.size, 9, none⟩ = some (.int .i64 room) ∧ w2.cell? ⟨w.heap.size, 10, none⟩ = some (.int .i64 j) ∧ w2.cell? ⟨w.heap.size, 11, none⟩ = some (.int .i64 loc) ∧ w.heap.size < w2.heap.size := ⟨Kc.out.cell 0, Kc.out.cell 1, Kc.out.cell 2, Kc.out.cell 3, Kc.out.cell 4, Kc.out.cell 5, Kc.out.cell 6, Kc.out.cell 7, Kc.out.cell 8, Kc.out.cell 9, Kc.out.cell 10, Kc.out.cell 11, Kc.out.lt⟩
    go_wp2_with fail
    clear cc0 cc1 cc2 cc3 cc4 cc5 cc6 cc7 cc8 cc9 cc10 cc11 ccl
    refine wp_region_held_drew (S := fun W1 => W1.cell? ⟨w.heap.size, 3, none⟩ = some (.slice (some ⟨bc, oc, none⟩) nc cc) ∧ W1.cell? ⟨w.heap.size, 4, none⟩ = some (.slice (some ⟨bp, op, none⟩) nc cp) ∧ W1.cell? ⟨w.heap.size, 10, none⟩ = some (.int .i64 j) ∧ W1.cell? ⟨bc, oc + j, none⟩ = some (.slice (some ⟨bi, oi, none⟩) nl mx) ∧ W1.cell? ⟨bp, op + j, none⟩ = some (.int .i64 pc) ∧ (W1.cell? ⟨bi, oi + pc * 7, none⟩ = some (.int .i64 x.x.op) ∧ W1.cell? ⟨bi, oi + pc * 7 + 1, none⟩ = some (.int .i64 x.x.reg) ∧ W1.cell? ⟨bi, oi + pc * 7 + 2, none⟩ = some (.int .i64 x.x.loc) ∧ W1.cell? ⟨bi, oi + pc * 7 + 3, none⟩ = some (x.ev) ∧ W1.cell? ⟨bi, oi + pc * 7 + 4, none⟩ = some (x.fv) ∧ W1.cell? ⟨bi, oi + pc * 7 + 5, none⟩ = some (.bool x.x.ne) ∧ W1.cell? ⟨bi, oi + pc * 7 + 6, none⟩ = some (.int .i64 x.x.to)) ∧ Below w2.heap.size w2 W1) (by kernel_rfl) (HCC.out _ BQ.drew) (fun hS => ?_)
    refine wpAnyH_take (i := 0) (v := .pointer (some ⟨w.heap.size, 0, none⟩)) rfl (by kernel_rfl) (by kernel_rfl) (by kernel_rfl) (fun _ _ _ h => h) (Or.inl ⟨by rfl, fun w hSw => by obtain ⟨s1, s2, s3, s4, s5, ⟨t0, t1, t2, t3, t4, t5, t6⟩, s6⟩ := hSw; first | (go_simp; done) | (go_simp; with_reducible rfl)⟩) hS ?_
    simp only [Act.put, List.setIfInBounds_toArray, List.set_cons_zero, List.set_cons_succ]
    refine wpAnyH_take (i := 1) (v := .pointer (some ⟨w.heap.size, 3, none⟩)) rfl (by kernel_rfl) (by kernel_rfl) (by kernel_rfl) (fun _ _ _ h => h) (Or.inl ⟨by rfl, fun w hSw => by obtain ⟨s1, s2, s3, s4, s5, ⟨t0, t1, t2, t3, t4, t5, t6⟩, s6⟩ := hSw; first | (go_simp; done) | (go_simp; with_reducible rfl)⟩) hS ?_
    simp only [Act.put, List.setIfInBounds_toArray, List.set_cons_zero, List.set_cons_succ]
    refine wpAnyH_take (i := 2) (v := .slice (some ⟨bc, oc, none⟩) nc cc) rfl (by kernel_rfl) (by kernel_rfl) (by kernel_rfl) (fun _ _ _ h => h) (Or.inl ⟨by rfl, fun w hSw => by obtain ⟨s1, s2, s3, s4, s5, ⟨t0, t1, t2, t3, t4, t5, t6⟩, s6⟩ := hSw; first | (go_simp; done) | (go_simp; with_reducible rfl)⟩) hS ?_
    simp only [Act.put, List.setIfInBounds_toArray, List.set_cons_zero, List.set_cons_succ]
    refine wpAnyH_take (i := 3) (v := .pointer (some ⟨w.heap.size, 10, none⟩)) rfl (by kernel_rfl) (by kernel_rfl) (by kernel_rfl) (fun _ _ _ h => h) (Or.inl ⟨by rfl, fun w hSw => by obtain ⟨s1, s2, s3, s4, s5, ⟨t0, t1, t2, t3, t4, t5, t6⟩, s6⟩ := hSw; first | (go_simp; done) | (go_simp; with_reducible rfl)⟩) hS ?_
    simp only [Act.put, List.setIfInBounds_toArray, List.set_cons_zero, List.set_cons_succ]
    refine wpAnyH_take (i := 4) (v := .int .i64 j) rfl (by kernel_rfl) (by kernel_rfl) (by kernel_rfl) (fun _ _ _ h => h) (Or.inl ⟨by rfl, fun w hSw => by obtain ⟨s1, s2, s3, s4, s5, ⟨t0, t1, t2, t3, t4, t5, t6⟩, s6⟩ := hSw; first | (go_simp; done) | (go_simp; with_reducible rfl)⟩) hS ?_
    simp only [Act.put, List.setIfInBounds_toArray, List.set_cons_zero, List.set_cons_succ]
    refine wpAnyH_take (i := 5) (v := .pointer (some ⟨bc, oc + j, none⟩)) rfl (by kernel_rfl) (by kernel_rfl) (by kernel_rfl) (fun _ _ _ h => h) (Or.inl ⟨by rfl, fun w hSw => by obtain ⟨s1, s2, s3, s4, s5, ⟨t0, t1, t2, t3, t4, t5, t6⟩, s6⟩ := hSw; first | (go_simp; done) | (go_simp; with_reducible rfl)⟩) hS ?_
    simp only [Act.put, List.setIfInBounds_toArray, List.set_cons_zero, List.set_cons_succ]
    refine wpAnyH_take (i := 6) (v := .slice (some ⟨bi, oi, none⟩) nl mx) rfl (by kernel_rfl) (by kernel_rfl) (by kernel_rfl) (fun _ _ _ h => h) (Or.inl ⟨by rfl, fun w hSw => by obtain ⟨s1, s2, s3, s4, s5, ⟨t0, t1, t2, t3, t4, t5, t6⟩, s6⟩ := hSw; first | (go_simp; done) | (go_simp; with_reducible rfl)⟩) hS ?_
    simp only [Act.put, List.setIfInBounds_toArray, List.set_cons_zero, List.set_cons_succ]
    refine wpAnyH_take (i := 7) (v := .pointer (some ⟨w.heap.size, 4, none⟩)) rfl (by kernel_rfl) (by kernel_rfl) (by kernel_rfl) (fun _ _ _ h => h) (Or.inl ⟨by rfl, fun w hSw => by obtain ⟨s1, s2, s3, s4, s5, ⟨t0, t1, t2, t3, t4, t5, t6⟩, s6⟩ := hSw; first | (go_simp; done) | (go_simp; with_reducible rfl)⟩) hS ?_
    simp only [Act.put, List.setIfInBounds_toArray, List.set_cons_zero, List.set_cons_succ]
    refine wpAnyH_take (i := 8) (v := .pointer (some ⟨w.heap.size, 4, none⟩)) rfl (by kernel_rfl) (by kernel_rfl) (by kernel_rfl) (fun _ _ _ h => h) (Or.inl ⟨by rfl, fun w hSw => by obtain ⟨s1, s2, s3, s4, s5, ⟨t0, t1, t2, t3, t4, t5, t6⟩, s6⟩ := hSw; first | (go_simp; done) | (go_simp; with_reducible rfl)⟩) hS ?_
    simp only [Act.put, List.setIfInBounds_toArray, List.set_cons_zero, List.set_cons_succ]
    refine wpAnyH_take (i := 9) (v := .slice (some ⟨bp, op, none⟩) nc cp) rfl (by kernel_rfl) (by kernel_rfl) (by kernel_rfl) (fun _ _ _ h => h) (Or.inl ⟨by rfl, fun w hSw => by obtain ⟨s1, s2, s3, s4, s5, ⟨t0, t1, t2, t3, t4, t5, t6⟩, s6⟩ := hSw; first | (go_simp; done) | (go_simp; with_reducible rfl)⟩) hS ?_
    simp only [Act.put, List.setIfInBounds_toArray, List.set_cons_zero, List.set_cons_succ]
    refine wpAnyH_take (i := 10) (v := .pointer (some ⟨w.heap.size, 10, none⟩)) rfl (by kernel_rfl) (by kernel_rfl) (by kernel_rfl) (fun _ _ _ h => h) (Or.inl ⟨by rfl, fun w hSw => by obtain ⟨s1, s2, s3, s4, s5, ⟨t0, t1, t2, t3, t4, t5, t6⟩, s6⟩ := hSw; first | (go_simp; done) | (go_simp; with_reducible rfl)⟩) hS ?_
    simp only [Act.put, List.setIfInBounds_toArray, List.set_cons_zero, List.set_cons_succ]
    refine wpAnyH_take (i := 11) (v := .int .i64 j) rfl (by kernel_rfl) (by kernel_rfl) (by kernel_rfl) (fun _ _ _ h => h) (Or.inl ⟨by rfl, fun w hSw => by obtain ⟨s1, s2, s3, s4, s5, ⟨t0, t1, t2, t3, t4, t5, t6⟩, s6⟩ := hSw; first | (go_simp; done) | (go_simp; with_reducible rfl)⟩) hS ?_
    simp only [Act.put, List.setIfInBounds_toArray, List.set_cons_zero, List.set_cons_succ]
    refine wpAnyH_take (i := 12) (v := .pointer (some ⟨bp, op + j, none⟩)) rfl (by kernel_rfl) (by kernel_rfl) (by kernel_rfl) (fun _ _ _ h => h) (Or.inl ⟨by rfl, fun w hSw => by obtain ⟨s1, s2, s3, s4, s5, ⟨t0, t1, t2, t3, t4, t5, t6⟩, s6⟩ := hSw; first | (go_simp; done) | (go_simp; with_reducible rfl)⟩) hS ?_
    simp only [Act.put, List.setIfInBounds_toArray, List.set_cons_zero, List.set_cons_succ]
    refine wpAnyH_take (i := 13) (v := .int .i64 pc) rfl (by kernel_rfl) (by kernel_rfl) (by kernel_rfl) (fun _ _ _ h => h) (Or.inl ⟨by rfl, fun w hSw => by obtain ⟨s1, s2, s3, s4, s5, ⟨t0, t1, t2, t3, t4, t5, t6⟩, s6⟩ := hSw; first | (go_simp; done) | (go_simp; with_reducible rfl)⟩) hS ?_
    simp only [Act.put, List.setIfInBounds_toArray, List.set_cons_zero, List.set_cons_succ]
    refine wpAnyH_take (i := 14) (v := .pointer (some ⟨bi, oi + pc * 7, none⟩)) rfl (by kernel_rfl) (by kernel_rfl) (by kernel_rfl) (fun _ _ _ h => h) (Or.inl ⟨by rfl, fun w hSw => by obtain ⟨s1, s2, s3, s4, s5, ⟨t0, t1, t2, t3, t4, t5, t6⟩, s6⟩ := hSw; first | (go_simp; done) | (go_simp; with_reducible rfl)⟩) hS ?_
    simp only [Act.put, List.setIfInBounds_toArray, List.set_cons_zero, List.set_cons_succ]
    refine wpAnyH_take (i := 15) (v := .agg #[.int .i64 x.x.op, .int .i64 x.x.reg, .int .i64 x.x.loc, x.ev, x.fv, .bool x.x.ne, .int .i64 x.x.to]) rfl (by kernel_rfl) (by kernel_rfl) (by kernel_rfl) (fun _ _ _ h => h) (Or.inl ⟨by rfl, fun w hSw => by obtain ⟨s1, s2, s3, s4, s5, ⟨t0, t1, t2, t3, t4, t5, t6⟩, s6⟩ := hSw; first | (go_simp; done) | (go_simp; with_reducible rfl)⟩) hS ?_
    simp only [Act.put, List.setIfInBounds_toArray, List.set_cons_zero, List.set_cons_succ]
    refine wpAnyH_ready (rs := [16]) (by kernel_rfl) (by simp) ?_
    refine AllReadyH.cons rfl (fun K hK => ?_) AllReadyH.nil
    go_simp
    have KZ5 := Bk.new w2.drew 46 #[.int .i64 0, .int .i64 0, .int .i64 0, .slice none 0 0, .slice none 0 0, .bool false, .int .i64 0]
    have BZ5 : Below w2.heap.size w2 (World.alloc w2 (.cells #[.int .i64 0, .int .i64 0, .int .i64 0, .slice none 0 0, .slice none 0 0, .bool false, .int .i64 0] 46)).drew := bdr (bal BQ _)
    refine hK.out _ _ (HCC.out _ BZ5) (fun hS => ?_)
    clear hK K
    refine wpAnyH_ready (rs := [17]) (by kernel_rfl) (by simp) ?_
    refine AllReadyH.cons rfl (fun K hK => ?_) AllReadyH.nil
    rw [if_pos (by rfl)]
    refine wp_store_row 46 (.tmp 3) (.tmp 47) rfl w2.heap.size #[.int .i64 x.x.op, .int .i64 x.x.reg, .int .i64 x.x.loc, x.ev, x.fv, .bool x.x.ne, .int .i64 x.x.to] rfl rfl 46 #[.int .i64 0, .int .i64 0, .int .i64 0, .slice none 0 0, .slice none 0 0, .bool false, .int .i64 0] KZ5 i_instr rfl HONE ?_
    have KI : Bk ((World.alloc w2 (.cells #[.int .i64 0, .int .i64 0, .int .i64 0, .slice none 0 0, .slice none 0 0, .bool false, .int .i64 0] 46)).drew.setRow w2.heap.size #[.int .i64 x.x.op, .int .i64 x.x.reg, .int .i64 x.x.loc, x.ev, x.fv, .bool x.x.ne, .int .i64 x.x.to]) w2.heap.size 46 #[.int .i64 x.x.op, .int .i64 x.x.reg, .int .i64 x.x.loc, x.ev, x.fv, .bool x.x.ne, .int .i64 x.x.to] := setRow_heap _ _ _ _ _ _ KZ5
    have B5 : Below w2.heap.size w2 ((World.alloc w2 (.cells #[.int .i64 0, .int .i64 0, .int .i64 0, .slice none 0 0, .slice none 0 0, .bool false, .int .i64 0] 46)).drew.setRow w2.heap.size #[.int .i64 x.x.op, .int .i64 x.x.reg, .int .i64 x.x.loc, x.ev, x.fv, .bool x.x.ne, .int .i64 x.x.to]) := below_setRow BZ5 BQ.size _
    refine hK.out _ _ (HCC.out _ B5) (fun hS => ?_)
    clear hK K hS
    refine wpAnyH_done (by kernel_rfl) ?_ _
    have Kx := Lib.hid KI
    have b := B5
    generalize World.setRow _ _ _ = w3 at Kx b ⊢
    simp only [Act.put, List.setIfInBounds_toArray, List.set_cons_zero, List.set_cons_succ]
    clear KZ5 BZ5 BQ KI B5 HCC HONE y1 y2 l1 l2 l3
    replace Kc := Lib.hid (Kc.out.below b)
    replace B := Lib.hid (B.out.trans (b.mono B.out.size))
    clear b
    obtain ⟨cc0, cc1, cc2, cc3, cc4, cc5, cc6, cc7, cc8, cc9, cc10, cc11, ccl, xc0, xc1, xc2, xc3, xc4, xc5, xc6, xcl⟩ : w3.cell? ⟨w.heap.size, 0, none⟩ = some (.int .i64 md) ∧ w3.cell? ⟨w.heap.size, 1, none⟩ = some (.slice ai nm ci) ∧ w3.cell? ⟨w.heap.size, 2, none⟩ = some (.slice ar nc cr) ∧ w3.cell? ⟨w.heap.size, 3, none⟩ = some (.slice (some ⟨bc, oc, none⟩) nc cc) ∧ w3.cell? ⟨w.heap.size, 4, none⟩ = some (.slice (some ⟨bp, op, none⟩) nc cp) ∧ w3.cell? ⟨w.heap.size, 5, none⟩ = some (.slice aq nc cq) ∧ w3.cell? ⟨w.heap.size, 6, none⟩ = some (.slice am nm cm) ∧ w3.cell? ⟨w.heap.size, 7, none⟩ = some (.slice ab nc cb) ∧ w3.cell? ⟨w.heap.size, 8, none⟩ = some (.int .i64 model) ∧ w3.cell? ⟨w.heap.size, 9, none⟩ = some (.int .i64 room) ∧ w3.cell? ⟨w.heap.size, 10, none⟩ = some (.int .i64 j) ∧ w3.cell? ⟨w.heap.size, 11, none⟩ = some (.int .i64 loc) ∧ w.heap.size < w3.heap.size ∧ w3.cell? ⟨w2.heap.size, 0, none⟩ = some (.int .i64 x.x.op) ∧ w3.cell? ⟨w2.heap.size, 1, none⟩ = some (.int .i64 x.x.reg) ∧ w3.cell? ⟨w2.heap.size, 2, none⟩ = some (.int .i64 x.x.loc) ∧ w3.cell? ⟨w2.heap.size, 3, none⟩ = some (x.ev) ∧ w3.cell? ⟨w2.heap.size, 4, none⟩ = some (x.fv) ∧ w3.cell? ⟨w2.heap.size, 5, none⟩ = some (.bool x.x.ne) ∧ w3.cell? ⟨w2.heap.size, 6, none⟩ = some (.int .i64 x.x.to) ∧ w2.heap.size < w3.heap.size := ⟨Kc.out.cell 0, Kc.out.cell 1, Kc.out.cell 2, Kc.out.cell 3, Kc.out.cell 4, Kc.out.cell 5, Kc.out.cell 6, Kc.out.cell 7, Kc.out.cell 8, Kc.out.cell 9, Kc.out.cell 10, Kc.out.cell 11, Kc.out.lt, Kx.out.cell 0, Kx.out.cell 1, Kx.out.cell 2, Kx.out.cell 3, Kx.out.cell 4, Kx.out.cell 5, Kx.out.cell 6, Kx.out.lt⟩
    go_wp2_with fail
    clear cc0 cc1 cc2 cc3 cc4 cc5 cc6 cc7 cc8 cc9 cc10 cc11 ccl xc0 xc1 xc2 xc3 xc4 xc5 xc6 xcl
    refine (HAC.out w3 B.out).mono ?_
    rintro e w4 ⟨dv, xp, xr, xm, xb, rfl, oc0, pd, b⟩
    replace Kc := Lib.hid (Kc.out.below b)
    replace Kx := Lib.hid (Kx.out.below b)
    replace B := Lib.hid (B.out.trans (b.mono B.out.size))
    clear b HAC
    have hdR : RightP u dv.pf model room := by rw [pd]; exact act_right HRP.out
    have HDR := Lib.hid hdR
    have PD := Lib.hid pd
    have ld := right_lens hdR
    rw [hnr.out] at ld
    have LD := Lib.hid ld.1
    clear pd hdR ld
    obtain ⟨da0, dk0, rfl, _⟩ := own_shape' oc0.p
    obtain ⟨da1, dk1, rfl, _⟩ := own_shape' oc0.r.h
    obtain ⟨da2, dk2, rfl, _⟩ := own_shape' oc0.m
    obtain ⟨da3, dk3, rfl, _⟩ := own_shape' oc0.b.h
    have Dd := Lib.hid oc0.data
    clear oc0
    have Kd := Lib.hid (Bk.new w4 29 #[.slice da0 dv.pc.length dk0, .slice da1 dv.regs.length dk1, .slice da2 dv.mem.length dk2, .slice da3 dv.buf.length dk3])
    have BW : Hid (Below w4.heap.size w4 (World.alloc w4 (.cells #[.slice da0 dv.pc.length dk0, .slice da1 dv.regs.length dk1, .slice da2 dv.mem.length dk2, .slice da3 dv.buf.length dk3] 29))) := Lib.hid (bal (Below.refl _ _) _)
    obtain ⟨w5, hw5⟩ : ∃ z, World.alloc w4 (.cells #[.slice da0 dv.pc.length dk0, .slice da1 dv.regs.length dk1, .slice da2 dv.mem.length dk2, .slice da3 dv.buf.length dk3] 29) = z := ⟨_, rfl⟩
    rw [hw5] at Kd BW
    replace Dd := Lib.hid (Dd.out.below BW.out)
    replace Kc := Lib.hid (Kc.out.below BW.out)
    replace Kx := Lib.hid (Kx.out.below BW.out)
    replace B := Lib.hid (B.out.trans (BW.out.mono B.out.size))
    clear BW
    obtain ⟨q, hq⟩ : ∃ q, enT u c.pf model room (j : Int) = q := ⟨_, rfl⟩
    rw [hq]
    have HQ := Lib.hid hq
    clear hq
    by_cases hop : x.x.op = 4
    ·
      cases q with
      | false =>
        obtain ⟨cc0, cc1, cc2, cc3, cc4, cc5, cc6, cc7, cc8, cc9, cc10, cc11, ccl, xc0, xc1, xc2, xc3, xc4, xc5, xc6, xcl, dc0, dc1, dc2, dc3, dcl⟩ : w5.cell? ⟨w.heap.size, 0, none⟩ = some (.int .i64 md) ∧ w5.cell? ⟨w.heap.size, 1, none⟩ = some (.slice ai nm ci) ∧ w5.cell? ⟨w.heap.size, 2, none⟩ = some (.slice ar nc cr) ∧ w5.cell? ⟨w.heap.size, 3, none⟩ = some (.slice (some ⟨bc, oc, none⟩) nc cc) ∧ w5.cell? ⟨w.heap.size, 4, none⟩ = some (.slice (some ⟨bp, op, none⟩) nc cp) ∧ w5.cell? ⟨w.heap.size, 5, none⟩ = some (.slice aq nc cq) ∧ w5.cell? ⟨w.heap.size, 6, none⟩ = some (.slice am nm cm) ∧ w5.cell? ⟨w.heap.size, 7, none⟩ = some (.slice ab nc cb) ∧ w5.cell? ⟨w.heap.size, 8, none⟩ = some (.int .i64 model) ∧ w5.cell? ⟨w.heap.size, 9, none⟩ = some (.int .i64 room) ∧ w5.cell? ⟨w.heap.size, 10, none⟩ = some (.int .i64 j) ∧ w5.cell? ⟨w.heap.size, 11, none⟩ = some (.int .i64 loc) ∧ w.heap.size < w5.heap.size ∧ w5.cell? ⟨w2.heap.size, 0, none⟩ = some (.int .i64 x.x.op) ∧ w5.cell? ⟨w2.heap.size, 1, none⟩ = some (.int .i64 x.x.reg) ∧ w5.cell? ⟨w2.heap.size, 2, none⟩ = some (.int .i64 x.x.loc) ∧ w5.cell? ⟨w2.heap.size, 3, none⟩ = some (x.ev) ∧ w5.cell? ⟨w2.heap.size, 4, none⟩ = some (x.fv) ∧ w5.cell? ⟨w2.heap.size, 5, none⟩ = some (.bool x.x.ne) ∧ w5.cell? ⟨w2.heap.size, 6, none⟩ = some (.int .i64 x.x.to) ∧ w2.heap.size < w5.heap.size ∧ w5.cell? ⟨w4.heap.size, 0, none⟩ = some (.slice da0 dv.pc.length dk0) ∧ w5.cell? ⟨w4.heap.size, 1, none⟩ = some (.slice da1 dv.regs.length dk1) ∧ w5.cell? ⟨w4.heap.size, 2, none⟩ = some (.slice da2 dv.mem.length dk2) ∧ w5.cell? ⟨w4.heap.size, 3, none⟩ = some (.slice da3 dv.buf.length dk3) ∧ w4.heap.size < w5.heap.size := ⟨Kc.out.cell 0, Kc.out.cell 1, Kc.out.cell 2, Kc.out.cell 3, Kc.out.cell 4, Kc.out.cell 5, Kc.out.cell 6, Kc.out.cell 7, Kc.out.cell 8, Kc.out.cell 9, Kc.out.cell 10, Kc.out.cell 11, Kc.out.lt, Kx.out.cell 0, Kx.out.cell 1, Kx.out.cell 2, Kx.out.cell 3, Kx.out.cell 4, Kx.out.cell 5, Kx.out.cell 6, Kx.out.lt, Kd.out.cell 0, Kd.out.cell 1, Kd.out.cell 2, Kd.out.cell 3, Kd.out.lt⟩
        go_wp2_with fail
        clear cc0 cc1 cc2 cc3 cc4 cc5 cc6 cc7 cc8 cc9 cc10 cc11 ccl xc0 xc1 xc2 xc3 xc4 xc5 xc6 xcl dc0 dc1 dc2 dc3 dcl
        go_loopg [10] nc (fun fuel i' wr => ∃ (k : Nat), i' = .int .i64 k ∧ k ≤ nc ∧ nc - k ≤ fuel ∧ Below w5.heap.size w5 wr)
        case atStart => exact ⟨0, rfl, Nat.zero_le _, Nat.le_refl _, Below.refl _ _⟩
        case round =>
          obtain ⟨a, rfl, ha, hf, hb⟩ := hrel
          obtain ⟨ga, rfl⟩ : ∃ a, a = gk := ⟨_, rfl⟩
          have HB := Lib.hid hb
          replace Kc := Lib.hid (Kc.out.below hb)
          replace Kx := Lib.hid (Kx.out.below hb)
          replace Kd := Lib.hid (Kd.out.below hb)
          replace B := Lib.hid (B.out.trans (hb.mono B.out.size))
          clear hb
          by_cases hla : a < nc
          ·
            obtain ⟨bp1, op1, bq, oq, bb, ob, rq, mq, rb, mb, hz1, hz2, hz3, l1, l2, l3, y1, y2, y3, y4, y5⟩ := HAT.out a hla
            have hs2 := (HSL.out a).2
            replace y3 := (B.out.cell (p := ⟨bb, _, none⟩) l3).trans y3
            replace y5 := EntsD.below y5 B.out
            replace l3 := Nat.lt_of_lt_of_le l3 B.out.size
            have Y3 := Lib.hid y3
            have Y5 := Lib.hid y5
            have L3 := Lib.hid l3
            have HS2 := Lib.hid hs2
            clear y1 y2 y3 y4 y5 l1 l2 l3 hz1 hz2 hs2
            obtain ⟨wa, hwa⟩ : ∃ z, z = wr := ⟨_, rfl⟩
            rw [← hwa] at Y3 Y5 L3
            have BA : Hid (Below wa.heap.size wa wr) := Lib.hid (by rw [hwa]; exact Below.refl _ _)
            clear hwa
            subst hz3
            obtain ⟨cc0, cc1, cc2, cc3, cc4, cc5, cc6, cc7, cc8, cc9, cc10, cc11, ccl, xc0, xc1, xc2, xc3, xc4, xc5, xc6, xcl, dc0, dc1, dc2, dc3, dcl⟩ : wr.cell? ⟨w.heap.size, 0, none⟩ = some (.int .i64 md) ∧ wr.cell? ⟨w.heap.size, 1, none⟩ = some (.slice ai nm ci) ∧ wr.cell? ⟨w.heap.size, 2, none⟩ = some (.slice ar nc cr) ∧ wr.cell? ⟨w.heap.size, 3, none⟩ = some (.slice (some ⟨bc, oc, none⟩) nc cc) ∧ wr.cell? ⟨w.heap.size, 4, none⟩ = some (.slice (some ⟨bp, op, none⟩) nc cp) ∧ wr.cell? ⟨w.heap.size, 5, none⟩ = some (.slice aq nc cq) ∧ wr.cell? ⟨w.heap.size, 6, none⟩ = some (.slice am nm cm) ∧ wr.cell? ⟨w.heap.size, 7, none⟩ = some (.slice (some ⟨bb, ob, none⟩) nc cb) ∧ wr.cell? ⟨w.heap.size, 8, none⟩ = some (.int .i64 model) ∧ wr.cell? ⟨w.heap.size, 9, none⟩ = some (.int .i64 room) ∧ wr.cell? ⟨w.heap.size, 10, none⟩ = some (.int .i64 j) ∧ wr.cell? ⟨w.heap.size, 11, none⟩ = some (.int .i64 loc) ∧ w.heap.size < wr.heap.size ∧ wr.cell? ⟨w2.heap.size, 0, none⟩ = some (.int .i64 x.x.op) ∧ wr.cell? ⟨w2.heap.size, 1, none⟩ = some (.int .i64 x.x.reg) ∧ wr.cell? ⟨w2.heap.size, 2, none⟩ = some (.int .i64 x.x.loc) ∧ wr.cell? ⟨w2.heap.size, 3, none⟩ = some (x.ev) ∧ wr.cell? ⟨w2.heap.size, 4, none⟩ = some (x.fv) ∧ wr.cell? ⟨w2.heap.size, 5, none⟩ = some (.bool x.x.ne) ∧ wr.cell? ⟨w2.heap.size, 6, none⟩ = some (.int .i64 x.x.to) ∧ w2.heap.size < wr.heap.size ∧ wr.cell? ⟨w4.heap.size, 0, none⟩ = some (.slice da0 dv.pc.length dk0) ∧ wr.cell? ⟨w4.heap.size, 1, none⟩ = some (.slice da1 dv.regs.length dk1) ∧ wr.cell? ⟨w4.heap.size, 2, none⟩ = some (.slice da2 dv.mem.length dk2) ∧ wr.cell? ⟨w4.heap.size, 3, none⟩ = some (.slice da3 dv.buf.length dk3) ∧ w4.heap.size < wr.heap.size := ⟨Kc.out.cell 0, Kc.out.cell 1, Kc.out.cell 2, Kc.out.cell 3, Kc.out.cell 4, Kc.out.cell 5, Kc.out.cell 6, Kc.out.cell 7, Kc.out.cell 8, Kc.out.cell 9, Kc.out.cell 10, Kc.out.cell 11, Kc.out.lt, Kx.out.cell 0, Kx.out.cell 1, Kx.out.cell 2, Kx.out.cell 3, Kx.out.cell 4, Kx.out.cell 5, Kx.out.cell 6, Kx.out.lt, Kd.out.cell 0, Kd.out.cell 1, Kd.out.cell 2, Kd.out.cell 3, Kd.out.lt⟩
            go_wp2_with fail
            clear cc0 cc1 cc2 cc3 cc4 cc5 cc6 cc7 cc8 cc9 cc10 cc11 ccl xc0 xc1 xc2 xc3 xc4 xc5 xc6 xcl dc0 dc1 dc2 dc3 dcl
            go_loopg [11] nm (fun fuel i' w2 => ∃ (k : Nat), i' = .int .i64 k ∧ k ≤ nm ∧ nm - k ≤ fuel ∧ Below wr.heap.size wr w2)
            case atStart => exact ⟨0, rfl, Nat.zero_le _, Nat.le_refl _, Below.refl _ _⟩
            case round =>
              obtain ⟨b, rfl, hbn, hf2, hb2⟩ := hrel
              have HW := Lib.hid hb2
              replace Kc := Lib.hid (Kc.out.below hb2)
              replace Kx := Lib.hid (Kx.out.below hb2)
              replace Kd := Lib.hid (Kd.out.below hb2)
              replace B := Lib.hid (B.out.trans (hb2.mono B.out.size))
              replace HB := Lib.hid (HB.out.trans (hb2.mono HB.out.size))
              replace BA := Lib.hid (BA.out.trans (hb2.mono BA.out.size))
              clear hb2
              by_cases hlb : b < nm
              ·
                obtain ⟨bm, om, hzm, lm, ym⟩ := HMA.out b hlb
                replace ym := (B.out.cell (p := ⟨bm, _, none⟩) lm).trans ym
                replace lm := Nat.lt_of_lt_of_le lm B.out.size
                subst hzm
                have y3 := (BA.out.cell (p := ⟨bb, _, none⟩) L3.out).trans Y3.out
                have l3 := Nat.lt_of_lt_of_le L3.out BA.out.size
                obtain ⟨⟨z1, q1⟩, hzl⟩ : ∃ r, lastL (c.pf.buf.getD a []) (b : Int) = r := ⟨_, rfl⟩
                have HLS := Lib.hid (rlast_any (c.pf.buf.getD a []) _ (b : Int) wr (EntsD.below Y5.out BA.out) HS2.out z1 q1 hzl)
                have HRM := Lib.hid (fun (hq : q1 = false) => reads_mem (p := c.pf) (k := a) (j := b) (by rw [HRP.out.lb, hnr.out]; exact hla) (by show b < c.mem.length; rw [hnm.out]; exact hlb) (by rw [hzl]; exact hq))
                clear hzl
                generalize c.pf.mem.getD b 0 = xm at ym HRM
                generalize (c.pf.buf.getD a []).length = bl at y3 HLS
                have g1 : (0 : Int) ≤ (a : Int) := by omega
                have g2 : (a : Int) < (nc : Int) := by omega
                have g3 : (0 : Int) ≤ (b : Int) := by omega
                have g4 : (b : Int) < (nm : Int) := by omega
                obtain ⟨cc0, cc1, cc2, cc3, cc4, cc5, cc6, cc7, cc8, cc9, cc10, cc11, ccl, xc0, xc1, xc2, xc3, xc4, xc5, xc6, xcl, dc0, dc1, dc2, dc3, dcl⟩ : wr.cell? ⟨w.heap.size, 0, none⟩ = some (.int .i64 md) ∧ wr.cell? ⟨w.heap.size, 1, none⟩ = some (.slice ai nm ci) ∧ wr.cell? ⟨w.heap.size, 2, none⟩ = some (.slice ar nc cr) ∧ wr.cell? ⟨w.heap.size, 3, none⟩ = some (.slice (some ⟨bc, oc, none⟩) nc cc) ∧ wr.cell? ⟨w.heap.size, 4, none⟩ = some (.slice (some ⟨bp, op, none⟩) nc cp) ∧ wr.cell? ⟨w.heap.size, 5, none⟩ = some (.slice aq nc cq) ∧ wr.cell? ⟨w.heap.size, 6, none⟩ = some (.slice (some ⟨bm, om, none⟩) nm cm) ∧ wr.cell? ⟨w.heap.size, 7, none⟩ = some (.slice (some ⟨bb, ob, none⟩) nc cb) ∧ wr.cell? ⟨w.heap.size, 8, none⟩ = some (.int .i64 model) ∧ wr.cell? ⟨w.heap.size, 9, none⟩ = some (.int .i64 room) ∧ wr.cell? ⟨w.heap.size, 10, none⟩ = some (.int .i64 j) ∧ wr.cell? ⟨w.heap.size, 11, none⟩ = some (.int .i64 loc) ∧ w.heap.size < wr.heap.size ∧ wr.cell? ⟨w2.heap.size, 0, none⟩ = some (.int .i64 x.x.op) ∧ wr.cell? ⟨w2.heap.size, 1, none⟩ = some (.int .i64 x.x.reg) ∧ wr.cell? ⟨w2.heap.size, 2, none⟩ = some (.int .i64 x.x.loc) ∧ wr.cell? ⟨w2.heap.size, 3, none⟩ = some (x.ev) ∧ wr.cell? ⟨w2.heap.size, 4, none⟩ = some (x.fv) ∧ wr.cell? ⟨w2.heap.size, 5, none⟩ = some (.bool x.x.ne) ∧ wr.cell? ⟨w2.heap.size, 6, none⟩ = some (.int .i64 x.x.to) ∧ w2.heap.size < wr.heap.size ∧ wr.cell? ⟨w4.heap.size, 0, none⟩ = some (.slice da0 dv.pc.length dk0) ∧ wr.cell? ⟨w4.heap.size, 1, none⟩ = some (.slice da1 dv.regs.length dk1) ∧ wr.cell? ⟨w4.heap.size, 2, none⟩ = some (.slice da2 dv.mem.length dk2) ∧ wr.cell? ⟨w4.heap.size, 3, none⟩ = some (.slice da3 dv.buf.length dk3) ∧ w4.heap.size < wr.heap.size := ⟨Kc.out.cell 0, Kc.out.cell 1, Kc.out.cell 2, Kc.out.cell 3, Kc.out.cell 4, Kc.out.cell 5, Kc.out.cell 6, Kc.out.cell 7, Kc.out.cell 8, Kc.out.cell 9, Kc.out.cell 10, Kc.out.cell 11, Kc.out.lt, Kx.out.cell 0, Kx.out.cell 1, Kx.out.cell 2, Kx.out.cell 3, Kx.out.cell 4, Kx.out.cell 5, Kx.out.cell 6, Kx.out.lt, Kd.out.cell 0, Kd.out.cell 1, Kd.out.cell 2, Kd.out.cell 3, Kd.out.lt⟩
                go_wp2_with fail
                refine HLS.out.mono ?_
                rintro e wz ⟨rfl, rfl⟩
                clear HLS
                cases q1 with
                | true =>
                  go_wp2_with fail
                  go_quiet (fail)
                  go_wp2_with fail
                  go_roundg (gk - 1)
                  case measure => omega
                  case rel => exact ⟨b + 1, by go_num, by omega, by omega, below_drewN' HW.out _⟩
                | false =>
                  have HRR := Lib.hid (fun (W : World) (h : Below wr.heap.size wr W) => HRC.out (a : Int) (b : Int) W (B.out.trans (h.mono B.out.size)))
                  rw [HRM.out rfl] at HRR
                  have hxx : (xm != xm) = false := by simp
                  have HCC := Lib.hid (fun (w' : World) (h : Below wr.heap.size wr w') => (⟨(h.cell (p := ⟨w.heap.size, _, none⟩) Kc.out.lt).trans (Kc.out.cell 0), (h.cell (p := ⟨w.heap.size, _, none⟩) Kc.out.lt).trans (Kc.out.cell 1), (h.cell (p := ⟨w.heap.size, _, none⟩) Kc.out.lt).trans (Kc.out.cell 2), (h.cell (p := ⟨w.heap.size, _, none⟩) Kc.out.lt).trans (Kc.out.cell 3), (h.cell (p := ⟨w.heap.size, _, none⟩) Kc.out.lt).trans (Kc.out.cell 4), (h.cell (p := ⟨w.heap.size, _, none⟩) Kc.out.lt).trans (Kc.out.cell 5), (h.cell (p := ⟨w.heap.size, _, none⟩) Kc.out.lt).trans (Kc.out.cell 6), (h.cell (p := ⟨w.heap.size, _, none⟩) Kc.out.lt).trans (Kc.out.cell 7), (h.cell (p := ⟨w.heap.size, _, none⟩) Kc.out.lt).trans (Kc.out.cell 8), (h.cell (p := ⟨w.heap.size, _, none⟩) Kc.out.lt).trans (Kc.out.cell 9), (h.cell (p := ⟨w.heap.size, _, none⟩) Kc.out.lt).trans (Kc.out.cell 10), (h.cell (p := ⟨w.heap.size, _, none⟩) Kc.out.lt).trans (Kc.out.cell 11), (h.cell (p := ⟨bm, _, none⟩) lm).trans ym, h⟩ : (fun w' => w'.cell? ⟨w.heap.size, 0, none⟩ = some (.int .i64 md) ∧ w'.cell? ⟨w.heap.size, 1, none⟩ = some (.slice ai nm ci) ∧ w'.cell? ⟨w.heap.size, 2, none⟩ = some (.slice ar nc cr) ∧ w'.cell? ⟨w.heap.size, 3, none⟩ = some (.slice (some ⟨bc, oc, none⟩) nc cc) ∧ w'.cell? ⟨w.heap.size, 4, none⟩ = some (.slice (some ⟨bp, op, none⟩) nc cp) ∧ w'.cell? ⟨w.heap.size, 5, none⟩ = some (.slice aq nc cq) ∧ w'.cell? ⟨w.heap.size, 6, none⟩ = some (.slice (some ⟨bm, om, none⟩) nm cm) ∧ w'.cell? ⟨w.heap.size, 7, none⟩ = some (.slice (some ⟨bb, ob, none⟩) nc cb) ∧ w'.cell? ⟨w.heap.size, 8, none⟩ = some (.int .i64 model) ∧ w'.cell? ⟨w.heap.size, 9, none⟩ = some (.int .i64 room) ∧ w'.cell? ⟨w.heap.size, 10, none⟩ = some (.int .i64 j) ∧ w'.cell? ⟨w.heap.size, 11, none⟩ = some (.int .i64 loc) ∧ w'.cell? ⟨bm, om + b, none⟩ = some (.int .i64 xm) ∧ Below wr.heap.size wr w') w'))
                  have bb0 : Below wr.heap.size wr wr := Below.refl _ _
                  go_wp2_with fail
                  clear cc0 cc1 cc2 cc3 cc4 cc5 cc6 cc7 cc8 cc9 cc10 cc11 ccl xc0 xc1 xc2 xc3 xc4 xc5 xc6 xcl dc0 dc1 dc2 dc3 dcl
                  clear ym y3 l3 lm
                  go_region_held3 (fun w' => w'.cell? ⟨w.heap.size, 0, none⟩ = some (.int .i64 md) ∧ w'.cell? ⟨w.heap.size, 1, none⟩ = some (.slice ai nm ci) ∧ w'.cell? ⟨w.heap.size, 2, none⟩ = some (.slice ar nc cr) ∧ w'.cell? ⟨w.heap.size, 3, none⟩ = some (.slice (some ⟨bc, oc, none⟩) nc cc) ∧ w'.cell? ⟨w.heap.size, 4, none⟩ = some (.slice (some ⟨bp, op, none⟩) nc cp) ∧ w'.cell? ⟨w.heap.size, 5, none⟩ = some (.slice aq nc cq) ∧ w'.cell? ⟨w.heap.size, 6, none⟩ = some (.slice (some ⟨bm, om, none⟩) nm cm) ∧ w'.cell? ⟨w.heap.size, 7, none⟩ = some (.slice (some ⟨bb, ob, none⟩) nc cb) ∧ w'.cell? ⟨w.heap.size, 8, none⟩ = some (.int .i64 model) ∧ w'.cell? ⟨w.heap.size, 9, none⟩ = some (.int .i64 room) ∧ w'.cell? ⟨w.heap.size, 10, none⟩ = some (.int .i64 j) ∧ w'.cell? ⟨w.heap.size, 11, none⟩ = some (.int .i64 loc) ∧ w'.cell? ⟨bm, om + b, none⟩ = some (.int .i64 xm) ∧ Below wr.heap.size wr w')
                    (first | with_reducible exact HCC.out _ bb0 | with_reducible exact HCC.out _ bb0.drew | with_reducible assumption | (go_split_ands; with_reducible exact HCC.out _ (by with_reducible assumption)))
                    ((first | (go_split_ands; (with_reducible refine Calls.mono (HRR.out _ (by assumption)) ?_); rintro e wn ⟨rfl, bn⟩; have bb1 : Below wr.heap.size wr wn := Below.trans (by assumption) (bn.mono (Below.size (by assumption))))))
                  all_goals
                    go_split_ands
                    go_wp2_with fail
                    go_roundg (gk - 1)
                    case measure => omega
                    case rel => exact ⟨b + 1, by go_num, by omega, by omega, HW.out.trans (Below.mono (by assumption) HW.out.size)⟩
              ·
                obtain ⟨cc0, cc1, cc2, cc3, cc4, cc5, cc6, cc7, cc8, cc9, cc10, cc11, ccl, xc0, xc1, xc2, xc3, xc4, xc5, xc6, xcl, dc0, dc1, dc2, dc3, dcl⟩ : wr.cell? ⟨w.heap.size, 0, none⟩ = some (.int .i64 md) ∧ wr.cell? ⟨w.heap.size, 1, none⟩ = some (.slice ai nm ci) ∧ wr.cell? ⟨w.heap.size, 2, none⟩ = some (.slice ar nc cr) ∧ wr.cell? ⟨w.heap.size, 3, none⟩ = some (.slice (some ⟨bc, oc, none⟩) nc cc) ∧ wr.cell? ⟨w.heap.size, 4, none⟩ = some (.slice (some ⟨bp, op, none⟩) nc cp) ∧ wr.cell? ⟨w.heap.size, 5, none⟩ = some (.slice aq nc cq) ∧ wr.cell? ⟨w.heap.size, 6, none⟩ = some (.slice am nm cm) ∧ wr.cell? ⟨w.heap.size, 7, none⟩ = some (.slice (some ⟨bb, ob, none⟩) nc cb) ∧ wr.cell? ⟨w.heap.size, 8, none⟩ = some (.int .i64 model) ∧ wr.cell? ⟨w.heap.size, 9, none⟩ = some (.int .i64 room) ∧ wr.cell? ⟨w.heap.size, 10, none⟩ = some (.int .i64 j) ∧ wr.cell? ⟨w.heap.size, 11, none⟩ = some (.int .i64 loc) ∧ w.heap.size < wr.heap.size ∧ wr.cell? ⟨w2.heap.size, 0, none⟩ = some (.int .i64 x.x.op) ∧ wr.cell? ⟨w2.heap.size, 1, none⟩ = some (.int .i64 x.x.reg) ∧ wr.cell? ⟨w2.heap.size, 2, none⟩ = some (.int .i64 x.x.loc) ∧ wr.cell? ⟨w2.heap.size, 3, none⟩ = some (x.ev) ∧ wr.cell? ⟨w2.heap.size, 4, none⟩ = some (x.fv) ∧ wr.cell? ⟨w2.heap.size, 5, none⟩ = some (.bool x.x.ne) ∧ wr.cell? ⟨w2.heap.size, 6, none⟩ = some (.int .i64 x.x.to) ∧ w2.heap.size < wr.heap.size ∧ wr.cell? ⟨w4.heap.size, 0, none⟩ = some (.slice da0 dv.pc.length dk0) ∧ wr.cell? ⟨w4.heap.size, 1, none⟩ = some (.slice da1 dv.regs.length dk1) ∧ wr.cell? ⟨w4.heap.size, 2, none⟩ = some (.slice da2 dv.mem.length dk2) ∧ wr.cell? ⟨w4.heap.size, 3, none⟩ = some (.slice da3 dv.buf.length dk3) ∧ w4.heap.size < wr.heap.size := ⟨Kc.out.cell 0, Kc.out.cell 1, Kc.out.cell 2, Kc.out.cell 3, Kc.out.cell 4, Kc.out.cell 5, Kc.out.cell 6, Kc.out.cell 7, Kc.out.cell 8, Kc.out.cell 9, Kc.out.cell 10, Kc.out.cell 11, Kc.out.lt, Kx.out.cell 0, Kx.out.cell 1, Kx.out.cell 2, Kx.out.cell 3, Kx.out.cell 4, Kx.out.cell 5, Kx.out.cell 6, Kx.out.lt, Kd.out.cell 0, Kd.out.cell 1, Kd.out.cell 2, Kd.out.cell 3, Kd.out.lt⟩
                go_wp2_with fail
                clear cc0 cc1 cc2 cc3 cc4 cc5 cc6 cc7 cc8 cc9 cc10 cc11 ccl xc0 xc1 xc2 xc3 xc4 xc5 xc6 xcl dc0 dc1 dc2 dc3 dcl
                go_roundg (ga - 1)
                case measure => omega
                case rel => exact ⟨a + 1, by go_num, by omega, by omega, HB.out⟩
          ·
            have HX1 := Lib.hid (HRC.out (-1) 0 wr B.out)
            rw [reads_out _ _ (Or.inl (by omega))] at HX1
            obtain ⟨cc0, cc1, cc2, cc3, cc4, cc5, cc6, cc7, cc8, cc9, cc10, cc11, ccl, xc0, xc1, xc2, xc3, xc4, xc5, xc6, xcl, dc0, dc1, dc2, dc3, dcl⟩ : wr.cell? ⟨w.heap.size, 0, none⟩ = some (.int .i64 md) ∧ wr.cell? ⟨w.heap.size, 1, none⟩ = some (.slice ai nm ci) ∧ wr.cell? ⟨w.heap.size, 2, none⟩ = some (.slice ar nc cr) ∧ wr.cell? ⟨w.heap.size, 3, none⟩ = some (.slice (some ⟨bc, oc, none⟩) nc cc) ∧ wr.cell? ⟨w.heap.size, 4, none⟩ = some (.slice (some ⟨bp, op, none⟩) nc cp) ∧ wr.cell? ⟨w.heap.size, 5, none⟩ = some (.slice aq nc cq) ∧ wr.cell? ⟨w.heap.size, 6, none⟩ = some (.slice am nm cm) ∧ wr.cell? ⟨w.heap.size, 7, none⟩ = some (.slice ab nc cb) ∧ wr.cell? ⟨w.heap.size, 8, none⟩ = some (.int .i64 model) ∧ wr.cell? ⟨w.heap.size, 9, none⟩ = some (.int .i64 room) ∧ wr.cell? ⟨w.heap.size, 10, none⟩ = some (.int .i64 j) ∧ wr.cell? ⟨w.heap.size, 11, none⟩ = some (.int .i64 loc) ∧ w.heap.size < wr.heap.size ∧ wr.cell? ⟨w2.heap.size, 0, none⟩ = some (.int .i64 x.x.op) ∧ wr.cell? ⟨w2.heap.size, 1, none⟩ = some (.int .i64 x.x.reg) ∧ wr.cell? ⟨w2.heap.size, 2, none⟩ = some (.int .i64 x.x.loc) ∧ wr.cell? ⟨w2.heap.size, 3, none⟩ = some (x.ev) ∧ wr.cell? ⟨w2.heap.size, 4, none⟩ = some (x.fv) ∧ wr.cell? ⟨w2.heap.size, 5, none⟩ = some (.bool x.x.ne) ∧ wr.cell? ⟨w2.heap.size, 6, none⟩ = some (.int .i64 x.x.to) ∧ w2.heap.size < wr.heap.size ∧ wr.cell? ⟨w4.heap.size, 0, none⟩ = some (.slice da0 dv.pc.length dk0) ∧ wr.cell? ⟨w4.heap.size, 1, none⟩ = some (.slice da1 dv.regs.length dk1) ∧ wr.cell? ⟨w4.heap.size, 2, none⟩ = some (.slice da2 dv.mem.length dk2) ∧ wr.cell? ⟨w4.heap.size, 3, none⟩ = some (.slice da3 dv.buf.length dk3) ∧ w4.heap.size < wr.heap.size := ⟨Kc.out.cell 0, Kc.out.cell 1, Kc.out.cell 2, Kc.out.cell 3, Kc.out.cell 4, Kc.out.cell 5, Kc.out.cell 6, Kc.out.cell 7, Kc.out.cell 8, Kc.out.cell 9, Kc.out.cell 10, Kc.out.cell 11, Kc.out.lt, Kx.out.cell 0, Kx.out.cell 1, Kx.out.cell 2, Kx.out.cell 3, Kx.out.cell 4, Kx.out.cell 5, Kx.out.cell 6, Kx.out.lt, Kd.out.cell 0, Kd.out.cell 1, Kd.out.cell 2, Kd.out.cell 3, Kd.out.lt⟩
            go_wp2_with fail
            clear cc0 cc1 cc2 cc3 cc4 cc5 cc6 cc7 cc8 cc9 cc10 cc11 ccl xc0 xc1 xc2 xc3 xc4 xc5 xc6 xcl dc0 dc1 dc2 dc3 dcl
            refine HX1.out.mono ?_
            rintro e v1 ⟨rfl, b⟩
            clear HX1
            replace Kc := Lib.hid (Kc.out.below b)
            replace Kx := Lib.hid (Kx.out.below b)
            replace Kd := Lib.hid (Kd.out.below b)
            replace B := Lib.hid (B.out.trans (b.mono B.out.size))
            clear b
            have HX2 := Lib.hid (HRC.out 0 (nm : Int) v1 B.out)
            rw [reads_out _ _ (Or.inr (Or.inr (by show (c.mem.length : Int) ≤ _; rw [hnm.out]; exact Int.le_refl _)))] at HX2
            obtain ⟨cc0, cc1, cc2, cc3, cc4, cc5, cc6, cc7, cc8, cc9, cc10, cc11, ccl, xc0, xc1, xc2, xc3, xc4, xc5, xc6, xcl, dc0, dc1, dc2, dc3, dcl⟩ : v1.cell? ⟨w.heap.size, 0, none⟩ = some (.int .i64 md) ∧ v1.cell? ⟨w.heap.size, 1, none⟩ = some (.slice ai nm ci) ∧ v1.cell? ⟨w.heap.size, 2, none⟩ = some (.slice ar nc cr) ∧ v1.cell? ⟨w.heap.size, 3, none⟩ = some (.slice (some ⟨bc, oc, none⟩) nc cc) ∧ v1.cell? ⟨w.heap.size, 4, none⟩ = some (.slice (some ⟨bp, op, none⟩) nc cp) ∧ v1.cell? ⟨w.heap.size, 5, none⟩ = some (.slice aq nc cq) ∧ v1.cell? ⟨w.heap.size, 6, none⟩ = some (.slice am nm cm) ∧ v1.cell? ⟨w.heap.size, 7, none⟩ = some (.slice ab nc cb) ∧ v1.cell? ⟨w.heap.size, 8, none⟩ = some (.int .i64 model) ∧ v1.cell? ⟨w.heap.size, 9, none⟩ = some (.int .i64 room) ∧ v1.cell? ⟨w.heap.size, 10, none⟩ = some (.int .i64 j) ∧ v1.cell? ⟨w.heap.size, 11, none⟩ = some (.int .i64 loc) ∧ w.heap.size < v1.heap.size ∧ v1.cell? ⟨w2.heap.size, 0, none⟩ = some (.int .i64 x.x.op) ∧ v1.cell? ⟨w2.heap.size, 1, none⟩ = some (.int .i64 x.x.reg) ∧ v1.cell? ⟨w2.heap.size, 2, none⟩ = some (.int .i64 x.x.loc) ∧ v1.cell? ⟨w2.heap.size, 3, none⟩ = some (x.ev) ∧ v1.cell? ⟨w2.heap.size, 4, none⟩ = some (x.fv) ∧ v1.cell? ⟨w2.heap.size, 5, none⟩ = some (.bool x.x.ne) ∧ v1.cell? ⟨w2.heap.size, 6, none⟩ = some (.int .i64 x.x.to) ∧ w2.heap.size < v1.heap.size ∧ v1.cell? ⟨w4.heap.size, 0, none⟩ = some (.slice da0 dv.pc.length dk0) ∧ v1.cell? ⟨w4.heap.size, 1, none⟩ = some (.slice da1 dv.regs.length dk1) ∧ v1.cell? ⟨w4.heap.size, 2, none⟩ = some (.slice da2 dv.mem.length dk2) ∧ v1.cell? ⟨w4.heap.size, 3, none⟩ = some (.slice da3 dv.buf.length dk3) ∧ w4.heap.size < v1.heap.size := ⟨Kc.out.cell 0, Kc.out.cell 1, Kc.out.cell 2, Kc.out.cell 3, Kc.out.cell 4, Kc.out.cell 5, Kc.out.cell 6, Kc.out.cell 7, Kc.out.cell 8, Kc.out.cell 9, Kc.out.cell 10, Kc.out.cell 11, Kc.out.lt, Kx.out.cell 0, Kx.out.cell 1, Kx.out.cell 2, Kx.out.cell 3, Kx.out.cell 4, Kx.out.cell 5, Kx.out.cell 6, Kx.out.lt, Kd.out.cell 0, Kd.out.cell 1, Kd.out.cell 2, Kd.out.cell 3, Kd.out.lt⟩
            go_wp2_with fail
            clear cc0 cc1 cc2 cc3 cc4 cc5 cc6 cc7 cc8 cc9 cc10 cc11 ccl xc0 xc1 xc2 xc3 xc4 xc5 xc6 xcl dc0 dc1 dc2 dc3 dcl
            refine HX2.out.mono ?_
            rintro e v2 ⟨rfl, b⟩
            clear HX2
            replace Kc := Lib.hid (Kc.out.below b)
            replace Kx := Lib.hid (Kx.out.below b)
            replace Kd := Lib.hid (Kd.out.below b)
            replace B := Lib.hid (B.out.trans (b.mono B.out.size))
            clear b
            go_wp2_with fail
            refine (HKN.out v2).mono ?_
            rintro e v3 ⟨rfl, b⟩
            replace Kc := Lib.hid (Kc.out.below b)
            replace Kx := Lib.hid (Kx.out.below b)
            replace Kd := Lib.hid (Kd.out.below b)
            replace B := Lib.hid (B.out.trans (b.mono B.out.size))
            clear b
            go_wp2
            go_ret
            exact ⟨ret_bool rfl, B.out⟩
      | true =>
        have hopb : (x.x.op == 4) = true := by simp [hop]
        have HR1 := Lib.hid (HRD.out dv HDR.out (j : Int) x.x.loc _ _ _ _ w5 Dd.out)
        rw [readsC_pf] at HR1
        obtain ⟨v0, hv0⟩ : ∃ v, readsP dv.pf (j : Int) x.x.loc = v := ⟨_, rfl⟩
        rw [hv0] at HR1
        have HVV := Lib.hid (fun (hm : model ≠ 1) (t : Int) (ht : t ≠ (j : Int)) => (own_reads2 HRP.out (by rw [hnr.out]; exact hj) HQ.out HX.out hop PD.out hm t ht).trans hv0)
        replace hop := Lib.hid hop
        clear hv0
        obtain ⟨cc0, cc1, cc2, cc3, cc4, cc5, cc6, cc7, cc8, cc9, cc10, cc11, ccl, xc0, xc1, xc2, xc3, xc4, xc5, xc6, xcl, dc0, dc1, dc2, dc3, dcl⟩ : w5.cell? ⟨w.heap.size, 0, none⟩ = some (.int .i64 md) ∧ w5.cell? ⟨w.heap.size, 1, none⟩ = some (.slice ai nm ci) ∧ w5.cell? ⟨w.heap.size, 2, none⟩ = some (.slice ar nc cr) ∧ w5.cell? ⟨w.heap.size, 3, none⟩ = some (.slice (some ⟨bc, oc, none⟩) nc cc) ∧ w5.cell? ⟨w.heap.size, 4, none⟩ = some (.slice (some ⟨bp, op, none⟩) nc cp) ∧ w5.cell? ⟨w.heap.size, 5, none⟩ = some (.slice aq nc cq) ∧ w5.cell? ⟨w.heap.size, 6, none⟩ = some (.slice am nm cm) ∧ w5.cell? ⟨w.heap.size, 7, none⟩ = some (.slice ab nc cb) ∧ w5.cell? ⟨w.heap.size, 8, none⟩ = some (.int .i64 model) ∧ w5.cell? ⟨w.heap.size, 9, none⟩ = some (.int .i64 room) ∧ w5.cell? ⟨w.heap.size, 10, none⟩ = some (.int .i64 j) ∧ w5.cell? ⟨w.heap.size, 11, none⟩ = some (.int .i64 loc) ∧ w.heap.size < w5.heap.size ∧ w5.cell? ⟨w2.heap.size, 0, none⟩ = some (.int .i64 x.x.op) ∧ w5.cell? ⟨w2.heap.size, 1, none⟩ = some (.int .i64 x.x.reg) ∧ w5.cell? ⟨w2.heap.size, 2, none⟩ = some (.int .i64 x.x.loc) ∧ w5.cell? ⟨w2.heap.size, 3, none⟩ = some (x.ev) ∧ w5.cell? ⟨w2.heap.size, 4, none⟩ = some (x.fv) ∧ w5.cell? ⟨w2.heap.size, 5, none⟩ = some (.bool x.x.ne) ∧ w5.cell? ⟨w2.heap.size, 6, none⟩ = some (.int .i64 x.x.to) ∧ w2.heap.size < w5.heap.size ∧ w5.cell? ⟨w4.heap.size, 0, none⟩ = some (.slice da0 dv.pc.length dk0) ∧ w5.cell? ⟨w4.heap.size, 1, none⟩ = some (.slice da1 dv.regs.length dk1) ∧ w5.cell? ⟨w4.heap.size, 2, none⟩ = some (.slice da2 dv.mem.length dk2) ∧ w5.cell? ⟨w4.heap.size, 3, none⟩ = some (.slice da3 dv.buf.length dk3) ∧ w4.heap.size < w5.heap.size := ⟨Kc.out.cell 0, Kc.out.cell 1, Kc.out.cell 2, Kc.out.cell 3, Kc.out.cell 4, Kc.out.cell 5, Kc.out.cell 6, Kc.out.cell 7, Kc.out.cell 8, Kc.out.cell 9, Kc.out.cell 10, Kc.out.cell 11, Kc.out.lt, Kx.out.cell 0, Kx.out.cell 1, Kx.out.cell 2, Kx.out.cell 3, Kx.out.cell 4, Kx.out.cell 5, Kx.out.cell 6, Kx.out.lt, Kd.out.cell 0, Kd.out.cell 1, Kd.out.cell 2, Kd.out.cell 3, Kd.out.lt⟩
        go_wp2_with fail
        clear cc0 cc1 cc2 cc3 cc4 cc5 cc6 cc7 cc8 cc9 cc10 cc11 ccl xc0 xc1 xc2 xc3 xc4 xc5 xc6 xcl dc0 dc1 dc2 dc3 dcl
        refine HR1.out.mono ?_
        rintro e w6 ⟨rfl, b⟩
        clear HR1
        replace Kc := Lib.hid (Kc.out.below b)
        replace Kx := Lib.hid (Kx.out.below b)
        replace Kd := Lib.hid (Kd.out.below b)
        replace Dd := Lib.hid (Dd.out.below b)
        replace B := Lib.hid (B.out.trans (b.mono B.out.size))
        clear b
        obtain ⟨cc0, cc1, cc2, cc3, cc4, cc5, cc6, cc7, cc8, cc9, cc10, cc11, ccl, xc0, xc1, xc2, xc3, xc4, xc5, xc6, xcl, dc0, dc1, dc2, dc3, dcl⟩ : w6.cell? ⟨w.heap.size, 0, none⟩ = some (.int .i64 md) ∧ w6.cell? ⟨w.heap.size, 1, none⟩ = some (.slice ai nm ci) ∧ w6.cell? ⟨w.heap.size, 2, none⟩ = some (.slice ar nc cr) ∧ w6.cell? ⟨w.heap.size, 3, none⟩ = some (.slice (some ⟨bc, oc, none⟩) nc cc) ∧ w6.cell? ⟨w.heap.size, 4, none⟩ = some (.slice (some ⟨bp, op, none⟩) nc cp) ∧ w6.cell? ⟨w.heap.size, 5, none⟩ = some (.slice aq nc cq) ∧ w6.cell? ⟨w.heap.size, 6, none⟩ = some (.slice am nm cm) ∧ w6.cell? ⟨w.heap.size, 7, none⟩ = some (.slice ab nc cb) ∧ w6.cell? ⟨w.heap.size, 8, none⟩ = some (.int .i64 model) ∧ w6.cell? ⟨w.heap.size, 9, none⟩ = some (.int .i64 room) ∧ w6.cell? ⟨w.heap.size, 10, none⟩ = some (.int .i64 j) ∧ w6.cell? ⟨w.heap.size, 11, none⟩ = some (.int .i64 loc) ∧ w.heap.size < w6.heap.size ∧ w6.cell? ⟨w2.heap.size, 0, none⟩ = some (.int .i64 x.x.op) ∧ w6.cell? ⟨w2.heap.size, 1, none⟩ = some (.int .i64 x.x.reg) ∧ w6.cell? ⟨w2.heap.size, 2, none⟩ = some (.int .i64 x.x.loc) ∧ w6.cell? ⟨w2.heap.size, 3, none⟩ = some (x.ev) ∧ w6.cell? ⟨w2.heap.size, 4, none⟩ = some (x.fv) ∧ w6.cell? ⟨w2.heap.size, 5, none⟩ = some (.bool x.x.ne) ∧ w6.cell? ⟨w2.heap.size, 6, none⟩ = some (.int .i64 x.x.to) ∧ w2.heap.size < w6.heap.size ∧ w6.cell? ⟨w4.heap.size, 0, none⟩ = some (.slice da0 dv.pc.length dk0) ∧ w6.cell? ⟨w4.heap.size, 1, none⟩ = some (.slice da1 dv.regs.length dk1) ∧ w6.cell? ⟨w4.heap.size, 2, none⟩ = some (.slice da2 dv.mem.length dk2) ∧ w6.cell? ⟨w4.heap.size, 3, none⟩ = some (.slice da3 dv.buf.length dk3) ∧ w4.heap.size < w6.heap.size := ⟨Kc.out.cell 0, Kc.out.cell 1, Kc.out.cell 2, Kc.out.cell 3, Kc.out.cell 4, Kc.out.cell 5, Kc.out.cell 6, Kc.out.cell 7, Kc.out.cell 8, Kc.out.cell 9, Kc.out.cell 10, Kc.out.cell 11, Kc.out.lt, Kx.out.cell 0, Kx.out.cell 1, Kx.out.cell 2, Kx.out.cell 3, Kx.out.cell 4, Kx.out.cell 5, Kx.out.cell 6, Kx.out.lt, Kd.out.cell 0, Kd.out.cell 1, Kd.out.cell 2, Kd.out.cell 3, Kd.out.lt⟩
        go_wp2_with fail
        clear cc0 cc1 cc2 cc3 cc4 cc5 cc6 cc7 cc8 cc9 cc10 cc11 ccl xc0 xc1 xc2 xc3 xc4 xc5 xc6 xcl dc0 dc1 dc2 dc3 dcl
        go_loopg [7] nc (fun fuel i' wr => ∃ (k : Nat), i' = .int .i64 k ∧ k ≤ nc ∧ nc - k ≤ fuel ∧ Below w6.heap.size w6 wr)
        case atStart => exact ⟨0, rfl, Nat.zero_le _, Nat.le_refl _, Below.refl _ _⟩
        case round =>
          obtain ⟨k, rfl, hk, hf, hb⟩ := hrel
          have HB := Lib.hid hb
          replace Kc := Lib.hid (Kc.out.below hb)
          replace Kx := Lib.hid (Kx.out.below hb)
          replace Kd := Lib.hid (Kd.out.below hb)
          replace Dd := Lib.hid (Dd.out.below hb)
          replace B := Lib.hid (B.out.trans (hb.mono B.out.size))
          clear hb
          by_cases hlt : k < nc
          ·
            have hlt2 : (k : Int) < (dv.pc.length : Int) := by have := LD.out; omega
            have hlt3 : k < dv.pc.length := by have := LD.out; omega
            have HA := Lib.hid (HA2.out dv HDR.out (k : Int) _ _ _ _ wr B.out Dd.out)
            obtain ⟨cc0, cc1, cc2, cc3, cc4, cc5, cc6, cc7, cc8, cc9, cc10, cc11, ccl, xc0, xc1, xc2, xc3, xc4, xc5, xc6, xcl, dc0, dc1, dc2, dc3, dcl⟩ : wr.cell? ⟨w.heap.size, 0, none⟩ = some (.int .i64 md) ∧ wr.cell? ⟨w.heap.size, 1, none⟩ = some (.slice ai nm ci) ∧ wr.cell? ⟨w.heap.size, 2, none⟩ = some (.slice ar nc cr) ∧ wr.cell? ⟨w.heap.size, 3, none⟩ = some (.slice (some ⟨bc, oc, none⟩) nc cc) ∧ wr.cell? ⟨w.heap.size, 4, none⟩ = some (.slice (some ⟨bp, op, none⟩) nc cp) ∧ wr.cell? ⟨w.heap.size, 5, none⟩ = some (.slice aq nc cq) ∧ wr.cell? ⟨w.heap.size, 6, none⟩ = some (.slice am nm cm) ∧ wr.cell? ⟨w.heap.size, 7, none⟩ = some (.slice ab nc cb) ∧ wr.cell? ⟨w.heap.size, 8, none⟩ = some (.int .i64 model) ∧ wr.cell? ⟨w.heap.size, 9, none⟩ = some (.int .i64 room) ∧ wr.cell? ⟨w.heap.size, 10, none⟩ = some (.int .i64 j) ∧ wr.cell? ⟨w.heap.size, 11, none⟩ = some (.int .i64 loc) ∧ w.heap.size < wr.heap.size ∧ wr.cell? ⟨w2.heap.size, 0, none⟩ = some (.int .i64 x.x.op) ∧ wr.cell? ⟨w2.heap.size, 1, none⟩ = some (.int .i64 x.x.reg) ∧ wr.cell? ⟨w2.heap.size, 2, none⟩ = some (.int .i64 x.x.loc) ∧ wr.cell? ⟨w2.heap.size, 3, none⟩ = some (x.ev) ∧ wr.cell? ⟨w2.heap.size, 4, none⟩ = some (x.fv) ∧ wr.cell? ⟨w2.heap.size, 5, none⟩ = some (.bool x.x.ne) ∧ wr.cell? ⟨w2.heap.size, 6, none⟩ = some (.int .i64 x.x.to) ∧ w2.heap.size < wr.heap.size ∧ wr.cell? ⟨w4.heap.size, 0, none⟩ = some (.slice da0 dv.pc.length dk0) ∧ wr.cell? ⟨w4.heap.size, 1, none⟩ = some (.slice da1 dv.regs.length dk1) ∧ wr.cell? ⟨w4.heap.size, 2, none⟩ = some (.slice da2 dv.mem.length dk2) ∧ wr.cell? ⟨w4.heap.size, 3, none⟩ = some (.slice da3 dv.buf.length dk3) ∧ w4.heap.size < wr.heap.size := ⟨Kc.out.cell 0, Kc.out.cell 1, Kc.out.cell 2, Kc.out.cell 3, Kc.out.cell 4, Kc.out.cell 5, Kc.out.cell 6, Kc.out.cell 7, Kc.out.cell 8, Kc.out.cell 9, Kc.out.cell 10, Kc.out.cell 11, Kc.out.lt, Kx.out.cell 0, Kx.out.cell 1, Kx.out.cell 2, Kx.out.cell 3, Kx.out.cell 4, Kx.out.cell 5, Kx.out.cell 6, Kx.out.lt, Kd.out.cell 0, Kd.out.cell 1, Kd.out.cell 2, Kd.out.cell 3, Kd.out.lt⟩
            go_wp2_with fail
            clear cc0 cc1 cc2 cc3 cc4 cc5 cc6 cc7 cc8 cc9 cc10 cc11 ccl xc0 xc1 xc2 xc3 xc4 xc5 xc6 xcl dc0 dc1 dc2 dc3 dcl
            refine HA.out.mono ?_
            rintro e w8 ⟨fv, xp, xr, xm, xb, rfl, oc0, pf, b⟩
            clear HA
            replace Kc := Lib.hid (Kc.out.below b)
            replace Kx := Lib.hid (Kx.out.below b)
            replace Kd := Lib.hid (Kd.out.below b)
            replace Dd := Lib.hid (Dd.out.below b)
            replace B := Lib.hid (B.out.trans (b.mono B.out.size))
            replace HB := Lib.hid (HB.out.trans (b.mono HB.out.size))
            clear b
            have hfR : RightP u fv.pf model room := by rw [pf]; exact act_right HDR.out
            have HFR := Lib.hid hfR
            have PF := Lib.hid pf
            clear pf hfR
            obtain ⟨fa0, fk0, rfl, _⟩ := own_shape' oc0.p
            obtain ⟨fa1, fk1, rfl, _⟩ := own_shape' oc0.r.h
            obtain ⟨fa2, fk2, rfl, _⟩ := own_shape' oc0.m
            obtain ⟨fa3, fk3, rfl, _⟩ := own_shape' oc0.b.h
            have Df := Lib.hid oc0.data
            clear oc0
            have Kf := Lib.hid (Bk.new w8 29 #[.slice fa0 fv.pc.length fk0, .slice fa1 fv.regs.length fk1, .slice fa2 fv.mem.length fk2, .slice fa3 fv.buf.length fk3])
            have BW : Hid (Below w8.heap.size w8 (World.alloc w8 (.cells #[.slice fa0 fv.pc.length fk0, .slice fa1 fv.regs.length fk1, .slice fa2 fv.mem.length fk2, .slice fa3 fv.buf.length fk3] 29))) := Lib.hid (bal (Below.refl _ _) _)
            obtain ⟨w9, hw9⟩ : ∃ z, World.alloc w8 (.cells #[.slice fa0 fv.pc.length fk0, .slice fa1 fv.regs.length fk1, .slice fa2 fv.mem.length fk2, .slice fa3 fv.buf.length fk3] 29) = z := ⟨_, rfl⟩
            rw [hw9] at Kf BW
            replace Df := Lib.hid (Df.out.below BW.out)
            replace Kc := Lib.hid (Kc.out.below BW.out)
            replace Kx := Lib.hid (Kx.out.below BW.out)
            replace Kd := Lib.hid (Kd.out.below BW.out)
            replace Dd := Lib.hid (Dd.out.below BW.out)
            replace B := Lib.hid (B.out.trans (BW.out.mono B.out.size))
            replace HB := Lib.hid (HB.out.trans (BW.out.mono HB.out.size))
            clear BW
            by_cases hkj : k = j
            ·
              subst hkj
              have hne : ((k : Int) != (k : Int)) = false := by simp
              obtain ⟨cc0, cc1, cc2, cc3, cc4, cc5, cc6, cc7, cc8, cc9, cc10, cc11, ccl, xc0, xc1, xc2, xc3, xc4, xc5, xc6, xcl, dc0, dc1, dc2, dc3, dcl, fc0, fc1, fc2, fc3, fcl⟩ : w9.cell? ⟨w.heap.size, 0, none⟩ = some (.int .i64 md) ∧ w9.cell? ⟨w.heap.size, 1, none⟩ = some (.slice ai nm ci) ∧ w9.cell? ⟨w.heap.size, 2, none⟩ = some (.slice ar nc cr) ∧ w9.cell? ⟨w.heap.size, 3, none⟩ = some (.slice (some ⟨bc, oc, none⟩) nc cc) ∧ w9.cell? ⟨w.heap.size, 4, none⟩ = some (.slice (some ⟨bp, op, none⟩) nc cp) ∧ w9.cell? ⟨w.heap.size, 5, none⟩ = some (.slice aq nc cq) ∧ w9.cell? ⟨w.heap.size, 6, none⟩ = some (.slice am nm cm) ∧ w9.cell? ⟨w.heap.size, 7, none⟩ = some (.slice ab nc cb) ∧ w9.cell? ⟨w.heap.size, 8, none⟩ = some (.int .i64 model) ∧ w9.cell? ⟨w.heap.size, 9, none⟩ = some (.int .i64 room) ∧ w9.cell? ⟨w.heap.size, 10, none⟩ = some (.int .i64 k) ∧ w9.cell? ⟨w.heap.size, 11, none⟩ = some (.int .i64 loc) ∧ w.heap.size < w9.heap.size ∧ w9.cell? ⟨w2.heap.size, 0, none⟩ = some (.int .i64 x.x.op) ∧ w9.cell? ⟨w2.heap.size, 1, none⟩ = some (.int .i64 x.x.reg) ∧ w9.cell? ⟨w2.heap.size, 2, none⟩ = some (.int .i64 x.x.loc) ∧ w9.cell? ⟨w2.heap.size, 3, none⟩ = some (x.ev) ∧ w9.cell? ⟨w2.heap.size, 4, none⟩ = some (x.fv) ∧ w9.cell? ⟨w2.heap.size, 5, none⟩ = some (.bool x.x.ne) ∧ w9.cell? ⟨w2.heap.size, 6, none⟩ = some (.int .i64 x.x.to) ∧ w2.heap.size < w9.heap.size ∧ w9.cell? ⟨w4.heap.size, 0, none⟩ = some (.slice da0 dv.pc.length dk0) ∧ w9.cell? ⟨w4.heap.size, 1, none⟩ = some (.slice da1 dv.regs.length dk1) ∧ w9.cell? ⟨w4.heap.size, 2, none⟩ = some (.slice da2 dv.mem.length dk2) ∧ w9.cell? ⟨w4.heap.size, 3, none⟩ = some (.slice da3 dv.buf.length dk3) ∧ w4.heap.size < w9.heap.size ∧ w9.cell? ⟨w8.heap.size, 0, none⟩ = some (.slice fa0 fv.pc.length fk0) ∧ w9.cell? ⟨w8.heap.size, 1, none⟩ = some (.slice fa1 fv.regs.length fk1) ∧ w9.cell? ⟨w8.heap.size, 2, none⟩ = some (.slice fa2 fv.mem.length fk2) ∧ w9.cell? ⟨w8.heap.size, 3, none⟩ = some (.slice fa3 fv.buf.length fk3) ∧ w8.heap.size < w9.heap.size := ⟨Kc.out.cell 0, Kc.out.cell 1, Kc.out.cell 2, Kc.out.cell 3, Kc.out.cell 4, Kc.out.cell 5, Kc.out.cell 6, Kc.out.cell 7, Kc.out.cell 8, Kc.out.cell 9, Kc.out.cell 10, Kc.out.cell 11, Kc.out.lt, Kx.out.cell 0, Kx.out.cell 1, Kx.out.cell 2, Kx.out.cell 3, Kx.out.cell 4, Kx.out.cell 5, Kx.out.cell 6, Kx.out.lt, Kd.out.cell 0, Kd.out.cell 1, Kd.out.cell 2, Kd.out.cell 3, Kd.out.lt, Kf.out.cell 0, Kf.out.cell 1, Kf.out.cell 2, Kf.out.cell 3, Kf.out.lt⟩
              go_wp2_with fail
              clear cc0 cc1 cc2 cc3 cc4 cc5 cc6 cc7 cc8 cc9 cc10 cc11 ccl xc0 xc1 xc2 xc3 xc4 xc5 xc6 xcl dc0 dc1 dc2 dc3 dcl fc0 fc1 fc2 fc3 fcl
              go_roundg (gk - 1)
              case measure => omega
              case rel => exact ⟨k + 1, by go_num, by omega, by omega, HB.out⟩
            ·
              have hne : ((k : Int) != (j : Int)) = true := by simp; omega
              by_cases hm : model = 1
              ·
                have hmb : (model != 1) = false := by simp [hm]
                replace hm := Lib.hid hm
                obtain ⟨cc0, cc1, cc2, cc3, cc4, cc5, cc6, cc7, cc8, cc9, cc10, cc11, ccl, xc0, xc1, xc2, xc3, xc4, xc5, xc6, xcl, dc0, dc1, dc2, dc3, dcl, fc0, fc1, fc2, fc3, fcl⟩ : w9.cell? ⟨w.heap.size, 0, none⟩ = some (.int .i64 md) ∧ w9.cell? ⟨w.heap.size, 1, none⟩ = some (.slice ai nm ci) ∧ w9.cell? ⟨w.heap.size, 2, none⟩ = some (.slice ar nc cr) ∧ w9.cell? ⟨w.heap.size, 3, none⟩ = some (.slice (some ⟨bc, oc, none⟩) nc cc) ∧ w9.cell? ⟨w.heap.size, 4, none⟩ = some (.slice (some ⟨bp, op, none⟩) nc cp) ∧ w9.cell? ⟨w.heap.size, 5, none⟩ = some (.slice aq nc cq) ∧ w9.cell? ⟨w.heap.size, 6, none⟩ = some (.slice am nm cm) ∧ w9.cell? ⟨w.heap.size, 7, none⟩ = some (.slice ab nc cb) ∧ w9.cell? ⟨w.heap.size, 8, none⟩ = some (.int .i64 model) ∧ w9.cell? ⟨w.heap.size, 9, none⟩ = some (.int .i64 room) ∧ w9.cell? ⟨w.heap.size, 10, none⟩ = some (.int .i64 j) ∧ w9.cell? ⟨w.heap.size, 11, none⟩ = some (.int .i64 loc) ∧ w.heap.size < w9.heap.size ∧ w9.cell? ⟨w2.heap.size, 0, none⟩ = some (.int .i64 x.x.op) ∧ w9.cell? ⟨w2.heap.size, 1, none⟩ = some (.int .i64 x.x.reg) ∧ w9.cell? ⟨w2.heap.size, 2, none⟩ = some (.int .i64 x.x.loc) ∧ w9.cell? ⟨w2.heap.size, 3, none⟩ = some (x.ev) ∧ w9.cell? ⟨w2.heap.size, 4, none⟩ = some (x.fv) ∧ w9.cell? ⟨w2.heap.size, 5, none⟩ = some (.bool x.x.ne) ∧ w9.cell? ⟨w2.heap.size, 6, none⟩ = some (.int .i64 x.x.to) ∧ w2.heap.size < w9.heap.size ∧ w9.cell? ⟨w4.heap.size, 0, none⟩ = some (.slice da0 dv.pc.length dk0) ∧ w9.cell? ⟨w4.heap.size, 1, none⟩ = some (.slice da1 dv.regs.length dk1) ∧ w9.cell? ⟨w4.heap.size, 2, none⟩ = some (.slice da2 dv.mem.length dk2) ∧ w9.cell? ⟨w4.heap.size, 3, none⟩ = some (.slice da3 dv.buf.length dk3) ∧ w4.heap.size < w9.heap.size ∧ w9.cell? ⟨w8.heap.size, 0, none⟩ = some (.slice fa0 fv.pc.length fk0) ∧ w9.cell? ⟨w8.heap.size, 1, none⟩ = some (.slice fa1 fv.regs.length fk1) ∧ w9.cell? ⟨w8.heap.size, 2, none⟩ = some (.slice fa2 fv.mem.length fk2) ∧ w9.cell? ⟨w8.heap.size, 3, none⟩ = some (.slice fa3 fv.buf.length fk3) ∧ w8.heap.size < w9.heap.size := ⟨Kc.out.cell 0, Kc.out.cell 1, Kc.out.cell 2, Kc.out.cell 3, Kc.out.cell 4, Kc.out.cell 5, Kc.out.cell 6, Kc.out.cell 7, Kc.out.cell 8, Kc.out.cell 9, Kc.out.cell 10, Kc.out.cell 11, Kc.out.lt, Kx.out.cell 0, Kx.out.cell 1, Kx.out.cell 2, Kx.out.cell 3, Kx.out.cell 4, Kx.out.cell 5, Kx.out.cell 6, Kx.out.lt, Kd.out.cell 0, Kd.out.cell 1, Kd.out.cell 2, Kd.out.cell 3, Kd.out.lt, Kf.out.cell 0, Kf.out.cell 1, Kf.out.cell 2, Kf.out.cell 3, Kf.out.lt⟩
                go_wp2_with fail
                clear cc0 cc1 cc2 cc3 cc4 cc5 cc6 cc7 cc8 cc9 cc10 cc11 ccl xc0 xc1 xc2 xc3 xc4 xc5 xc6 xcl dc0 dc1 dc2 dc3 dcl fc0 fc1 fc2 fc3 fcl
                go_roundg (gk - 1)
                case measure => omega
                case rel => exact ⟨k + 1, by go_num, by omega, by omega, HB.out⟩
              ·
                have hmb : (model != 1) = true := by simp [hm]
                have HR2 := Lib.hid (HRD.out fv HFR.out (j : Int) x.x.loc _ _ _ _ w9 Df.out)
                rw [readsC_pf, PF.out, HVV.out hm (k : Int) (by omega)] at HR2
                replace hm := Lib.hid hm
                have hvv : (v0 != v0) = false := by simp
                obtain ⟨cc0, cc1, cc2, cc3, cc4, cc5, cc6, cc7, cc8, cc9, cc10, cc11, ccl, xc0, xc1, xc2, xc3, xc4, xc5, xc6, xcl, dc0, dc1, dc2, dc3, dcl, fc0, fc1, fc2, fc3, fcl⟩ : w9.cell? ⟨w.heap.size, 0, none⟩ = some (.int .i64 md) ∧ w9.cell? ⟨w.heap.size, 1, none⟩ = some (.slice ai nm ci) ∧ w9.cell? ⟨w.heap.size, 2, none⟩ = some (.slice ar nc cr) ∧ w9.cell? ⟨w.heap.size, 3, none⟩ = some (.slice (some ⟨bc, oc, none⟩) nc cc) ∧ w9.cell? ⟨w.heap.size, 4, none⟩ = some (.slice (some ⟨bp, op, none⟩) nc cp) ∧ w9.cell? ⟨w.heap.size, 5, none⟩ = some (.slice aq nc cq) ∧ w9.cell? ⟨w.heap.size, 6, none⟩ = some (.slice am nm cm) ∧ w9.cell? ⟨w.heap.size, 7, none⟩ = some (.slice ab nc cb) ∧ w9.cell? ⟨w.heap.size, 8, none⟩ = some (.int .i64 model) ∧ w9.cell? ⟨w.heap.size, 9, none⟩ = some (.int .i64 room) ∧ w9.cell? ⟨w.heap.size, 10, none⟩ = some (.int .i64 j) ∧ w9.cell? ⟨w.heap.size, 11, none⟩ = some (.int .i64 loc) ∧ w.heap.size < w9.heap.size ∧ w9.cell? ⟨w2.heap.size, 0, none⟩ = some (.int .i64 x.x.op) ∧ w9.cell? ⟨w2.heap.size, 1, none⟩ = some (.int .i64 x.x.reg) ∧ w9.cell? ⟨w2.heap.size, 2, none⟩ = some (.int .i64 x.x.loc) ∧ w9.cell? ⟨w2.heap.size, 3, none⟩ = some (x.ev) ∧ w9.cell? ⟨w2.heap.size, 4, none⟩ = some (x.fv) ∧ w9.cell? ⟨w2.heap.size, 5, none⟩ = some (.bool x.x.ne) ∧ w9.cell? ⟨w2.heap.size, 6, none⟩ = some (.int .i64 x.x.to) ∧ w2.heap.size < w9.heap.size ∧ w9.cell? ⟨w4.heap.size, 0, none⟩ = some (.slice da0 dv.pc.length dk0) ∧ w9.cell? ⟨w4.heap.size, 1, none⟩ = some (.slice da1 dv.regs.length dk1) ∧ w9.cell? ⟨w4.heap.size, 2, none⟩ = some (.slice da2 dv.mem.length dk2) ∧ w9.cell? ⟨w4.heap.size, 3, none⟩ = some (.slice da3 dv.buf.length dk3) ∧ w4.heap.size < w9.heap.size ∧ w9.cell? ⟨w8.heap.size, 0, none⟩ = some (.slice fa0 fv.pc.length fk0) ∧ w9.cell? ⟨w8.heap.size, 1, none⟩ = some (.slice fa1 fv.regs.length fk1) ∧ w9.cell? ⟨w8.heap.size, 2, none⟩ = some (.slice fa2 fv.mem.length fk2) ∧ w9.cell? ⟨w8.heap.size, 3, none⟩ = some (.slice fa3 fv.buf.length fk3) ∧ w8.heap.size < w9.heap.size := ⟨Kc.out.cell 0, Kc.out.cell 1, Kc.out.cell 2, Kc.out.cell 3, Kc.out.cell 4, Kc.out.cell 5, Kc.out.cell 6, Kc.out.cell 7, Kc.out.cell 8, Kc.out.cell 9, Kc.out.cell 10, Kc.out.cell 11, Kc.out.lt, Kx.out.cell 0, Kx.out.cell 1, Kx.out.cell 2, Kx.out.cell 3, Kx.out.cell 4, Kx.out.cell 5, Kx.out.cell 6, Kx.out.lt, Kd.out.cell 0, Kd.out.cell 1, Kd.out.cell 2, Kd.out.cell 3, Kd.out.lt, Kf.out.cell 0, Kf.out.cell 1, Kf.out.cell 2, Kf.out.cell 3, Kf.out.lt⟩
                go_wp2_with fail
                clear cc0 cc1 cc2 cc3 cc4 cc5 cc6 cc7 cc8 cc9 cc10 cc11 ccl xc0 xc1 xc2 xc3 xc4 xc5 xc6 xcl dc0 dc1 dc2 dc3 dcl fc0 fc1 fc2 fc3 fcl
                refine HR2.out.mono ?_
                rintro e w10 ⟨rfl, b⟩
                clear HR2
                replace Kc := Lib.hid (Kc.out.below b)
                replace Kx := Lib.hid (Kx.out.below b)
                replace Kd := Lib.hid (Kd.out.below b)
                replace Kf := Lib.hid (Kf.out.below b)
                replace Dd := Lib.hid (Dd.out.below b)
                replace Df := Lib.hid (Df.out.below b)
                replace B := Lib.hid (B.out.trans (b.mono B.out.size))
                replace HB := Lib.hid (HB.out.trans (b.mono HB.out.size))
                clear b
                go_wp2_with fail
                go_roundg (gk - 1)
                case measure => omega
                case rel => exact ⟨k + 1, by go_num, by omega, by omega, HB.out⟩
          ·
            have hlt2 : ¬ (k : Int) < (dv.pc.length : Int) := by have := LD.out; omega
            have hlt3 : ¬ k < dv.pc.length := by have := LD.out; omega
            obtain ⟨cc0, cc1, cc2, cc3, cc4, cc5, cc6, cc7, cc8, cc9, cc10, cc11, ccl, xc0, xc1, xc2, xc3, xc4, xc5, xc6, xcl, dc0, dc1, dc2, dc3, dcl⟩ : wr.cell? ⟨w.heap.size, 0, none⟩ = some (.int .i64 md) ∧ wr.cell? ⟨w.heap.size, 1, none⟩ = some (.slice ai nm ci) ∧ wr.cell? ⟨w.heap.size, 2, none⟩ = some (.slice ar nc cr) ∧ wr.cell? ⟨w.heap.size, 3, none⟩ = some (.slice (some ⟨bc, oc, none⟩) nc cc) ∧ wr.cell? ⟨w.heap.size, 4, none⟩ = some (.slice (some ⟨bp, op, none⟩) nc cp) ∧ wr.cell? ⟨w.heap.size, 5, none⟩ = some (.slice aq nc cq) ∧ wr.cell? ⟨w.heap.size, 6, none⟩ = some (.slice am nm cm) ∧ wr.cell? ⟨w.heap.size, 7, none⟩ = some (.slice ab nc cb) ∧ wr.cell? ⟨w.heap.size, 8, none⟩ = some (.int .i64 model) ∧ wr.cell? ⟨w.heap.size, 9, none⟩ = some (.int .i64 room) ∧ wr.cell? ⟨w.heap.size, 10, none⟩ = some (.int .i64 j) ∧ wr.cell? ⟨w.heap.size, 11, none⟩ = some (.int .i64 loc) ∧ w.heap.size < wr.heap.size ∧ wr.cell? ⟨w2.heap.size, 0, none⟩ = some (.int .i64 x.x.op) ∧ wr.cell? ⟨w2.heap.size, 1, none⟩ = some (.int .i64 x.x.reg) ∧ wr.cell? ⟨w2.heap.size, 2, none⟩ = some (.int .i64 x.x.loc) ∧ wr.cell? ⟨w2.heap.size, 3, none⟩ = some (x.ev) ∧ wr.cell? ⟨w2.heap.size, 4, none⟩ = some (x.fv) ∧ wr.cell? ⟨w2.heap.size, 5, none⟩ = some (.bool x.x.ne) ∧ wr.cell? ⟨w2.heap.size, 6, none⟩ = some (.int .i64 x.x.to) ∧ w2.heap.size < wr.heap.size ∧ wr.cell? ⟨w4.heap.size, 0, none⟩ = some (.slice da0 dv.pc.length dk0) ∧ wr.cell? ⟨w4.heap.size, 1, none⟩ = some (.slice da1 dv.regs.length dk1) ∧ wr.cell? ⟨w4.heap.size, 2, none⟩ = some (.slice da2 dv.mem.length dk2) ∧ wr.cell? ⟨w4.heap.size, 3, none⟩ = some (.slice da3 dv.buf.length dk3) ∧ w4.heap.size < wr.heap.size := ⟨Kc.out.cell 0, Kc.out.cell 1, Kc.out.cell 2, Kc.out.cell 3, Kc.out.cell 4, Kc.out.cell 5, Kc.out.cell 6, Kc.out.cell 7, Kc.out.cell 8, Kc.out.cell 9, Kc.out.cell 10, Kc.out.cell 11, Kc.out.lt, Kx.out.cell 0, Kx.out.cell 1, Kx.out.cell 2, Kx.out.cell 3, Kx.out.cell 4, Kx.out.cell 5, Kx.out.cell 6, Kx.out.lt, Kd.out.cell 0, Kd.out.cell 1, Kd.out.cell 2, Kd.out.cell 3, Kd.out.lt⟩
            go_wp2_with fail
            clear cc0 cc1 cc2 cc3 cc4 cc5 cc6 cc7 cc8 cc9 cc10 cc11 ccl xc0 xc1 xc2 xc3 xc4 xc5 xc6 xcl dc0 dc1 dc2 dc3 dcl
            obtain ⟨wt, rfl⟩ : ∃ z, z = wr := ⟨_, rfl⟩
            go_loopg [10] nc (fun fuel i' wr => ∃ (k : Nat), i' = .int .i64 k ∧ k ≤ nc ∧ nc - k ≤ fuel ∧ Below wt.heap.size wt wr)
            case atStart => exact ⟨0, rfl, Nat.zero_le _, Nat.le_refl _, Below.refl _ _⟩
            case round =>
              obtain ⟨a, rfl, ha, hf, hb⟩ := hrel
              obtain ⟨ga, rfl⟩ : ∃ a, a = gk := ⟨_, rfl⟩
              have HB := Lib.hid hb
              replace Kc := Lib.hid (Kc.out.below hb)
              replace Kx := Lib.hid (Kx.out.below hb)
              replace Kd := Lib.hid (Kd.out.below hb)
              replace B := Lib.hid (B.out.trans (hb.mono B.out.size))
              clear hb
              by_cases hla : a < nc
              ·
                obtain ⟨bp1, op1, bq, oq, bb, ob, rq, mq, rb, mb, hz1, hz2, hz3, l1, l2, l3, y1, y2, y3, y4, y5⟩ := HAT.out a hla
                have hs2 := (HSL.out a).2
                replace y3 := (B.out.cell (p := ⟨bb, _, none⟩) l3).trans y3
                replace y5 := EntsD.below y5 B.out
                replace l3 := Nat.lt_of_lt_of_le l3 B.out.size
                have Y3 := Lib.hid y3
                have Y5 := Lib.hid y5
                have L3 := Lib.hid l3
                have HS2 := Lib.hid hs2
                clear y1 y2 y3 y4 y5 l1 l2 l3 hz1 hz2 hs2
                obtain ⟨wa, hwa⟩ : ∃ z, z = wr := ⟨_, rfl⟩
                rw [← hwa] at Y3 Y5 L3
                have BA : Hid (Below wa.heap.size wa wr) := Lib.hid (by rw [hwa]; exact Below.refl _ _)
                clear hwa
                subst hz3
                obtain ⟨cc0, cc1, cc2, cc3, cc4, cc5, cc6, cc7, cc8, cc9, cc10, cc11, ccl, xc0, xc1, xc2, xc3, xc4, xc5, xc6, xcl, dc0, dc1, dc2, dc3, dcl⟩ : wr.cell? ⟨w.heap.size, 0, none⟩ = some (.int .i64 md) ∧ wr.cell? ⟨w.heap.size, 1, none⟩ = some (.slice ai nm ci) ∧ wr.cell? ⟨w.heap.size, 2, none⟩ = some (.slice ar nc cr) ∧ wr.cell? ⟨w.heap.size, 3, none⟩ = some (.slice (some ⟨bc, oc, none⟩) nc cc) ∧ wr.cell? ⟨w.heap.size, 4, none⟩ = some (.slice (some ⟨bp, op, none⟩) nc cp) ∧ wr.cell? ⟨w.heap.size, 5, none⟩ = some (.slice aq nc cq) ∧ wr.cell? ⟨w.heap.size, 6, none⟩ = some (.slice am nm cm) ∧ wr.cell? ⟨w.heap.size, 7, none⟩ = some (.slice (some ⟨bb, ob, none⟩) nc cb) ∧ wr.cell? ⟨w.heap.size, 8, none⟩ = some (.int .i64 model) ∧ wr.cell? ⟨w.heap.size, 9, none⟩ = some (.int .i64 room) ∧ wr.cell? ⟨w.heap.size, 10, none⟩ = some (.int .i64 j) ∧ wr.cell? ⟨w.heap.size, 11, none⟩ = some (.int .i64 loc) ∧ w.heap.size < wr.heap.size ∧ wr.cell? ⟨w2.heap.size, 0, none⟩ = some (.int .i64 x.x.op) ∧ wr.cell? ⟨w2.heap.size, 1, none⟩ = some (.int .i64 x.x.reg) ∧ wr.cell? ⟨w2.heap.size, 2, none⟩ = some (.int .i64 x.x.loc) ∧ wr.cell? ⟨w2.heap.size, 3, none⟩ = some (x.ev) ∧ wr.cell? ⟨w2.heap.size, 4, none⟩ = some (x.fv) ∧ wr.cell? ⟨w2.heap.size, 5, none⟩ = some (.bool x.x.ne) ∧ wr.cell? ⟨w2.heap.size, 6, none⟩ = some (.int .i64 x.x.to) ∧ w2.heap.size < wr.heap.size ∧ wr.cell? ⟨w4.heap.size, 0, none⟩ = some (.slice da0 dv.pc.length dk0) ∧ wr.cell? ⟨w4.heap.size, 1, none⟩ = some (.slice da1 dv.regs.length dk1) ∧ wr.cell? ⟨w4.heap.size, 2, none⟩ = some (.slice da2 dv.mem.length dk2) ∧ wr.cell? ⟨w4.heap.size, 3, none⟩ = some (.slice da3 dv.buf.length dk3) ∧ w4.heap.size < wr.heap.size := ⟨Kc.out.cell 0, Kc.out.cell 1, Kc.out.cell 2, Kc.out.cell 3, Kc.out.cell 4, Kc.out.cell 5, Kc.out.cell 6, Kc.out.cell 7, Kc.out.cell 8, Kc.out.cell 9, Kc.out.cell 10, Kc.out.cell 11, Kc.out.lt, Kx.out.cell 0, Kx.out.cell 1, Kx.out.cell 2, Kx.out.cell 3, Kx.out.cell 4, Kx.out.cell 5, Kx.out.cell 6, Kx.out.lt, Kd.out.cell 0, Kd.out.cell 1, Kd.out.cell 2, Kd.out.cell 3, Kd.out.lt⟩
                go_wp2_with fail
                clear cc0 cc1 cc2 cc3 cc4 cc5 cc6 cc7 cc8 cc9 cc10 cc11 ccl xc0 xc1 xc2 xc3 xc4 xc5 xc6 xcl dc0 dc1 dc2 dc3 dcl
                go_loopg [11] nm (fun fuel i' w2 => ∃ (k : Nat), i' = .int .i64 k ∧ k ≤ nm ∧ nm - k ≤ fuel ∧ Below wr.heap.size wr w2)
                case atStart => exact ⟨0, rfl, Nat.zero_le _, Nat.le_refl _, Below.refl _ _⟩
                case round =>
                  obtain ⟨b, rfl, hbn, hf2, hb2⟩ := hrel
                  have HW := Lib.hid hb2
                  replace Kc := Lib.hid (Kc.out.below hb2)
                  replace Kx := Lib.hid (Kx.out.below hb2)
                  replace Kd := Lib.hid (Kd.out.below hb2)
                  replace B := Lib.hid (B.out.trans (hb2.mono B.out.size))
                  replace HB := Lib.hid (HB.out.trans (hb2.mono HB.out.size))
                  replace BA := Lib.hid (BA.out.trans (hb2.mono BA.out.size))
                  clear hb2
                  by_cases hlb : b < nm
                  ·
                    obtain ⟨bm, om, hzm, lm, ym⟩ := HMA.out b hlb
                    replace ym := (B.out.cell (p := ⟨bm, _, none⟩) lm).trans ym
                    replace lm := Nat.lt_of_lt_of_le lm B.out.size
                    subst hzm
                    have y3 := (BA.out.cell (p := ⟨bb, _, none⟩) L3.out).trans Y3.out
                    have l3 := Nat.lt_of_lt_of_le L3.out BA.out.size
                    obtain ⟨⟨z1, q1⟩, hzl⟩ : ∃ r, lastL (c.pf.buf.getD a []) (b : Int) = r := ⟨_, rfl⟩
                    have HLS := Lib.hid (rlast_any (c.pf.buf.getD a []) _ (b : Int) wr (EntsD.below Y5.out BA.out) HS2.out z1 q1 hzl)
                    have HRM := Lib.hid (fun (hq : q1 = false) => reads_mem (p := c.pf) (k := a) (j := b) (by rw [HRP.out.lb, hnr.out]; exact hla) (by show b < c.mem.length; rw [hnm.out]; exact hlb) (by rw [hzl]; exact hq))
                    clear hzl
                    generalize c.pf.mem.getD b 0 = xm at ym HRM
                    generalize (c.pf.buf.getD a []).length = bl at y3 HLS
                    have g1 : (0 : Int) ≤ (a : Int) := by omega
                    have g2 : (a : Int) < (nc : Int) := by omega
                    have g3 : (0 : Int) ≤ (b : Int) := by omega
                    have g4 : (b : Int) < (nm : Int) := by omega
                    obtain ⟨cc0, cc1, cc2, cc3, cc4, cc5, cc6, cc7, cc8, cc9, cc10, cc11, ccl, xc0, xc1, xc2, xc3, xc4, xc5, xc6, xcl, dc0, dc1, dc2, dc3, dcl⟩ : wr.cell? ⟨w.heap.size, 0, none⟩ = some (.int .i64 md) ∧ wr.cell? ⟨w.heap.size, 1, none⟩ = some (.slice ai nm ci) ∧ wr.cell? ⟨w.heap.size, 2, none⟩ = some (.slice ar nc cr) ∧ wr.cell? ⟨w.heap.size, 3, none⟩ = some (.slice (some ⟨bc, oc, none⟩) nc cc) ∧ wr.cell? ⟨w.heap.size, 4, none⟩ = some (.slice (some ⟨bp, op, none⟩) nc cp) ∧ wr.cell? ⟨w.heap.size, 5, none⟩ = some (.slice aq nc cq) ∧ wr.cell? ⟨w.heap.size, 6, none⟩ = some (.slice (some ⟨bm, om, none⟩) nm cm) ∧ wr.cell? ⟨w.heap.size, 7, none⟩ = some (.slice (some ⟨bb, ob, none⟩) nc cb) ∧ wr.cell? ⟨w.heap.size, 8, none⟩ = some (.int .i64 model) ∧ wr.cell? ⟨w.heap.size, 9, none⟩ = some (.int .i64 room) ∧ wr.cell? ⟨w.heap.size, 10, none⟩ = some (.int .i64 j) ∧ wr.cell? ⟨w.heap.size, 11, none⟩ = some (.int .i64 loc) ∧ w.heap.size < wr.heap.size ∧ wr.cell? ⟨w2.heap.size, 0, none⟩ = some (.int .i64 x.x.op) ∧ wr.cell? ⟨w2.heap.size, 1, none⟩ = some (.int .i64 x.x.reg) ∧ wr.cell? ⟨w2.heap.size, 2, none⟩ = some (.int .i64 x.x.loc) ∧ wr.cell? ⟨w2.heap.size, 3, none⟩ = some (x.ev) ∧ wr.cell? ⟨w2.heap.size, 4, none⟩ = some (x.fv) ∧ wr.cell? ⟨w2.heap.size, 5, none⟩ = some (.bool x.x.ne) ∧ wr.cell? ⟨w2.heap.size, 6, none⟩ = some (.int .i64 x.x.to) ∧ w2.heap.size < wr.heap.size ∧ wr.cell? ⟨w4.heap.size, 0, none⟩ = some (.slice da0 dv.pc.length dk0) ∧ wr.cell? ⟨w4.heap.size, 1, none⟩ = some (.slice da1 dv.regs.length dk1) ∧ wr.cell? ⟨w4.heap.size, 2, none⟩ = some (.slice da2 dv.mem.length dk2) ∧ wr.cell? ⟨w4.heap.size, 3, none⟩ = some (.slice da3 dv.buf.length dk3) ∧ w4.heap.size < wr.heap.size := ⟨Kc.out.cell 0, Kc.out.cell 1, Kc.out.cell 2, Kc.out.cell 3, Kc.out.cell 4, Kc.out.cell 5, Kc.out.cell 6, Kc.out.cell 7, Kc.out.cell 8, Kc.out.cell 9, Kc.out.cell 10, Kc.out.cell 11, Kc.out.lt, Kx.out.cell 0, Kx.out.cell 1, Kx.out.cell 2, Kx.out.cell 3, Kx.out.cell 4, Kx.out.cell 5, Kx.out.cell 6, Kx.out.lt, Kd.out.cell 0, Kd.out.cell 1, Kd.out.cell 2, Kd.out.cell 3, Kd.out.lt⟩
                    go_wp2_with fail
                    refine HLS.out.mono ?_
                    rintro e wz ⟨rfl, rfl⟩
                    clear HLS
                    cases q1 with
                    | true =>
                      go_wp2_with fail
                      go_quiet (fail)
                      go_wp2_with fail
                      go_roundg (gk - 1)
                      case measure => omega
                      case rel => exact ⟨b + 1, by go_num, by omega, by omega, below_drewN' HW.out _⟩
                    | false =>
                      have HRR := Lib.hid (fun (W : World) (h : Below wr.heap.size wr W) => HRC.out (a : Int) (b : Int) W (B.out.trans (h.mono B.out.size)))
                      rw [HRM.out rfl] at HRR
                      have hxx : (xm != xm) = false := by simp
                      have HCC := Lib.hid (fun (w' : World) (h : Below wr.heap.size wr w') => (⟨(h.cell (p := ⟨w.heap.size, _, none⟩) Kc.out.lt).trans (Kc.out.cell 0), (h.cell (p := ⟨w.heap.size, _, none⟩) Kc.out.lt).trans (Kc.out.cell 1), (h.cell (p := ⟨w.heap.size, _, none⟩) Kc.out.lt).trans (Kc.out.cell 2), (h.cell (p := ⟨w.heap.size, _, none⟩) Kc.out.lt).trans (Kc.out.cell 3), (h.cell (p := ⟨w.heap.size, _, none⟩) Kc.out.lt).trans (Kc.out.cell 4), (h.cell (p := ⟨w.heap.size, _, none⟩) Kc.out.lt).trans (Kc.out.cell 5), (h.cell (p := ⟨w.heap.size, _, none⟩) Kc.out.lt).trans (Kc.out.cell 6), (h.cell (p := ⟨w.heap.size, _, none⟩) Kc.out.lt).trans (Kc.out.cell 7), (h.cell (p := ⟨w.heap.size, _, none⟩) Kc.out.lt).trans (Kc.out.cell 8), (h.cell (p := ⟨w.heap.size, _, none⟩) Kc.out.lt).trans (Kc.out.cell 9), (h.cell (p := ⟨w.heap.size, _, none⟩) Kc.out.lt).trans (Kc.out.cell 10), (h.cell (p := ⟨w.heap.size, _, none⟩) Kc.out.lt).trans (Kc.out.cell 11), (h.cell (p := ⟨bm, _, none⟩) lm).trans ym, h⟩ : (fun w' => w'.cell? ⟨w.heap.size, 0, none⟩ = some (.int .i64 md) ∧ w'.cell? ⟨w.heap.size, 1, none⟩ = some (.slice ai nm ci) ∧ w'.cell? ⟨w.heap.size, 2, none⟩ = some (.slice ar nc cr) ∧ w'.cell? ⟨w.heap.size, 3, none⟩ = some (.slice (some ⟨bc, oc, none⟩) nc cc) ∧ w'.cell? ⟨w.heap.size, 4, none⟩ = some (.slice (some ⟨bp, op, none⟩) nc cp) ∧ w'.cell? ⟨w.heap.size, 5, none⟩ = some (.slice aq nc cq) ∧ w'.cell? ⟨w.heap.size, 6, none⟩ = some (.slice (some ⟨bm, om, none⟩) nm cm) ∧ w'.cell? ⟨w.heap.size, 7, none⟩ = some (.slice (some ⟨bb, ob, none⟩) nc cb) ∧ w'.cell? ⟨w.heap.size, 8, none⟩ = some (.int .i64 model) ∧ w'.cell? ⟨w.heap.size, 9, none⟩ = some (.int .i64 room) ∧ w'.cell? ⟨w.heap.size, 10, none⟩ = some (.int .i64 j) ∧ w'.cell? ⟨w.heap.size, 11, none⟩ = some (.int .i64 loc) ∧ w'.cell? ⟨bm, om + b, none⟩ = some (.int .i64 xm) ∧ Below wr.heap.size wr w') w'))
                      have bb0 : Below wr.heap.size wr wr := Below.refl _ _
                      go_wp2_with fail
                      clear cc0 cc1 cc2 cc3 cc4 cc5 cc6 cc7 cc8 cc9 cc10 cc11 ccl xc0 xc1 xc2 xc3 xc4 xc5 xc6 xcl dc0 dc1 dc2 dc3 dcl
                      clear ym y3 l3 lm
                      go_region_held3 (fun w' => w'.cell? ⟨w.heap.size, 0, none⟩ = some (.int .i64 md) ∧ w'.cell? ⟨w.heap.size, 1, none⟩ = some (.slice ai nm ci) ∧ w'.cell? ⟨w.heap.size, 2, none⟩ = some (.slice ar nc cr) ∧ w'.cell? ⟨w.heap.size, 3, none⟩ = some (.slice (some ⟨bc, oc, none⟩) nc cc) ∧ w'.cell? ⟨w.heap.size, 4, none⟩ = some (.slice (some ⟨bp, op, none⟩) nc cp) ∧ w'.cell? ⟨w.heap.size, 5, none⟩ = some (.slice aq nc cq) ∧ w'.cell? ⟨w.heap.size, 6, none⟩ = some (.slice (some ⟨bm, om, none⟩) nm cm) ∧ w'.cell? ⟨w.heap.size, 7, none⟩ = some (.slice (some ⟨bb, ob, none⟩) nc cb) ∧ w'.cell? ⟨w.heap.size, 8, none⟩ = some (.int .i64 model) ∧ w'.cell? ⟨w.heap.size, 9, none⟩ = some (.int .i64 room) ∧ w'.cell? ⟨w.heap.size, 10, none⟩ = some (.int .i64 j) ∧ w'.cell? ⟨w.heap.size, 11, none⟩ = some (.int .i64 loc) ∧ w'.cell? ⟨bm, om + b, none⟩ = some (.int .i64 xm) ∧ Below wr.heap.size wr w')
                        (first | with_reducible exact HCC.out _ bb0 | with_reducible exact HCC.out _ bb0.drew | with_reducible assumption | (go_split_ands; with_reducible exact HCC.out _ (by with_reducible assumption)))
                        ((first | (go_split_ands; (with_reducible refine Calls.mono (HRR.out _ (by assumption)) ?_); rintro e wn ⟨rfl, bn⟩; have bb1 : Below wr.heap.size wr wn := Below.trans (by assumption) (bn.mono (Below.size (by assumption))))))
                      all_goals
                        go_split_ands
                        go_wp2_with fail
                        go_roundg (gk - 1)
                        case measure => omega
                        case rel => exact ⟨b + 1, by go_num, by omega, by omega, HW.out.trans (Below.mono (by assumption) HW.out.size)⟩
                  ·
                    obtain ⟨cc0, cc1, cc2, cc3, cc4, cc5, cc6, cc7, cc8, cc9, cc10, cc11, ccl, xc0, xc1, xc2, xc3, xc4, xc5, xc6, xcl, dc0, dc1, dc2, dc3, dcl⟩ : wr.cell? ⟨w.heap.size, 0, none⟩ = some (.int .i64 md) ∧ wr.cell? ⟨w.heap.size, 1, none⟩ = some (.slice ai nm ci) ∧ wr.cell? ⟨w.heap.size, 2, none⟩ = some (.slice ar nc cr) ∧ wr.cell? ⟨w.heap.size, 3, none⟩ = some (.slice (some ⟨bc, oc, none⟩) nc cc) ∧ wr.cell? ⟨w.heap.size, 4, none⟩ = some (.slice (some ⟨bp, op, none⟩) nc cp) ∧ wr.cell? ⟨w.heap.size, 5, none⟩ = some (.slice aq nc cq) ∧ wr.cell? ⟨w.heap.size, 6, none⟩ = some (.slice am nm cm) ∧ wr.cell? ⟨w.heap.size, 7, none⟩ = some (.slice (some ⟨bb, ob, none⟩) nc cb) ∧ wr.cell? ⟨w.heap.size, 8, none⟩ = some (.int .i64 model) ∧ wr.cell? ⟨w.heap.size, 9, none⟩ = some (.int .i64 room) ∧ wr.cell? ⟨w.heap.size, 10, none⟩ = some (.int .i64 j) ∧ wr.cell? ⟨w.heap.size, 11, none⟩ = some (.int .i64 loc) ∧ w.heap.size < wr.heap.size ∧ wr.cell? ⟨w2.heap.size, 0, none⟩ = some (.int .i64 x.x.op) ∧ wr.cell? ⟨w2.heap.size, 1, none⟩ = some (.int .i64 x.x.reg) ∧ wr.cell? ⟨w2.heap.size, 2, none⟩ = some (.int .i64 x.x.loc) ∧ wr.cell? ⟨w2.heap.size, 3, none⟩ = some (x.ev) ∧ wr.cell? ⟨w2.heap.size, 4, none⟩ = some (x.fv) ∧ wr.cell? ⟨w2.heap.size, 5, none⟩ = some (.bool x.x.ne) ∧ wr.cell? ⟨w2.heap.size, 6, none⟩ = some (.int .i64 x.x.to) ∧ w2.heap.size < wr.heap.size ∧ wr.cell? ⟨w4.heap.size, 0, none⟩ = some (.slice da0 dv.pc.length dk0) ∧ wr.cell? ⟨w4.heap.size, 1, none⟩ = some (.slice da1 dv.regs.length dk1) ∧ wr.cell? ⟨w4.heap.size, 2, none⟩ = some (.slice da2 dv.mem.length dk2) ∧ wr.cell? ⟨w4.heap.size, 3, none⟩ = some (.slice da3 dv.buf.length dk3) ∧ w4.heap.size < wr.heap.size := ⟨Kc.out.cell 0, Kc.out.cell 1, Kc.out.cell 2, Kc.out.cell 3, Kc.out.cell 4, Kc.out.cell 5, Kc.out.cell 6, Kc.out.cell 7, Kc.out.cell 8, Kc.out.cell 9, Kc.out.cell 10, Kc.out.cell 11, Kc.out.lt, Kx.out.cell 0, Kx.out.cell 1, Kx.out.cell 2, Kx.out.cell 3, Kx.out.cell 4, Kx.out.cell 5, Kx.out.cell 6, Kx.out.lt, Kd.out.cell 0, Kd.out.cell 1, Kd.out.cell 2, Kd.out.cell 3, Kd.out.lt⟩
                    go_wp2_with fail
                    clear cc0 cc1 cc2 cc3 cc4 cc5 cc6 cc7 cc8 cc9 cc10 cc11 ccl xc0 xc1 xc2 xc3 xc4 xc5 xc6 xcl dc0 dc1 dc2 dc3 dcl
                    go_roundg (ga - 1)
                    case measure => omega
                    case rel => exact ⟨a + 1, by go_num, by omega, by omega, HB.out⟩
              ·
                have HX1 := Lib.hid (HRC.out (-1) 0 wr B.out)
                rw [reads_out _ _ (Or.inl (by omega))] at HX1
                obtain ⟨cc0, cc1, cc2, cc3, cc4, cc5, cc6, cc7, cc8, cc9, cc10, cc11, ccl, xc0, xc1, xc2, xc3, xc4, xc5, xc6, xcl, dc0, dc1, dc2, dc3, dcl⟩ : wr.cell? ⟨w.heap.size, 0, none⟩ = some (.int .i64 md) ∧ wr.cell? ⟨w.heap.size, 1, none⟩ = some (.slice ai nm ci) ∧ wr.cell? ⟨w.heap.size, 2, none⟩ = some (.slice ar nc cr) ∧ wr.cell? ⟨w.heap.size, 3, none⟩ = some (.slice (some ⟨bc, oc, none⟩) nc cc) ∧ wr.cell? ⟨w.heap.size, 4, none⟩ = some (.slice (some ⟨bp, op, none⟩) nc cp) ∧ wr.cell? ⟨w.heap.size, 5, none⟩ = some (.slice aq nc cq) ∧ wr.cell? ⟨w.heap.size, 6, none⟩ = some (.slice am nm cm) ∧ wr.cell? ⟨w.heap.size, 7, none⟩ = some (.slice ab nc cb) ∧ wr.cell? ⟨w.heap.size, 8, none⟩ = some (.int .i64 model) ∧ wr.cell? ⟨w.heap.size, 9, none⟩ = some (.int .i64 room) ∧ wr.cell? ⟨w.heap.size, 10, none⟩ = some (.int .i64 j) ∧ wr.cell? ⟨w.heap.size, 11, none⟩ = some (.int .i64 loc) ∧ w.heap.size < wr.heap.size ∧ wr.cell? ⟨w2.heap.size, 0, none⟩ = some (.int .i64 x.x.op) ∧ wr.cell? ⟨w2.heap.size, 1, none⟩ = some (.int .i64 x.x.reg) ∧ wr.cell? ⟨w2.heap.size, 2, none⟩ = some (.int .i64 x.x.loc) ∧ wr.cell? ⟨w2.heap.size, 3, none⟩ = some (x.ev) ∧ wr.cell? ⟨w2.heap.size, 4, none⟩ = some (x.fv) ∧ wr.cell? ⟨w2.heap.size, 5, none⟩ = some (.bool x.x.ne) ∧ wr.cell? ⟨w2.heap.size, 6, none⟩ = some (.int .i64 x.x.to) ∧ w2.heap.size < wr.heap.size ∧ wr.cell? ⟨w4.heap.size, 0, none⟩ = some (.slice da0 dv.pc.length dk0) ∧ wr.cell? ⟨w4.heap.size, 1, none⟩ = some (.slice da1 dv.regs.length dk1) ∧ wr.cell? ⟨w4.heap.size, 2, none⟩ = some (.slice da2 dv.mem.length dk2) ∧ wr.cell? ⟨w4.heap.size, 3, none⟩ = some (.slice da3 dv.buf.length dk3) ∧ w4.heap.size < wr.heap.size := ⟨Kc.out.cell 0, Kc.out.cell 1, Kc.out.cell 2, Kc.out.cell 3, Kc.out.cell 4, Kc.out.cell 5, Kc.out.cell 6, Kc.out.cell 7, Kc.out.cell 8, Kc.out.cell 9, Kc.out.cell 10, Kc.out.cell 11, Kc.out.lt, Kx.out.cell 0, Kx.out.cell 1, Kx.out.cell 2, Kx.out.cell 3, Kx.out.cell 4, Kx.out.cell 5, Kx.out.cell 6, Kx.out.lt, Kd.out.cell 0, Kd.out.cell 1, Kd.out.cell 2, Kd.out.cell 3, Kd.out.lt⟩
                go_wp2_with fail
                clear cc0 cc1 cc2 cc3 cc4 cc5 cc6 cc7 cc8 cc9 cc10 cc11 ccl xc0 xc1 xc2 xc3 xc4 xc5 xc6 xcl dc0 dc1 dc2 dc3 dcl
                refine HX1.out.mono ?_
                rintro e v1 ⟨rfl, b⟩
                clear HX1
                replace Kc := Lib.hid (Kc.out.below b)
                replace Kx := Lib.hid (Kx.out.below b)
                replace Kd := Lib.hid (Kd.out.below b)
                replace B := Lib.hid (B.out.trans (b.mono B.out.size))
                clear b
                have HX2 := Lib.hid (HRC.out 0 (nm : Int) v1 B.out)
                rw [reads_out _ _ (Or.inr (Or.inr (by show (c.mem.length : Int) ≤ _; rw [hnm.out]; exact Int.le_refl _)))] at HX2
                obtain ⟨cc0, cc1, cc2, cc3, cc4, cc5, cc6, cc7, cc8, cc9, cc10, cc11, ccl, xc0, xc1, xc2, xc3, xc4, xc5, xc6, xcl, dc0, dc1, dc2, dc3, dcl⟩ : v1.cell? ⟨w.heap.size, 0, none⟩ = some (.int .i64 md) ∧ v1.cell? ⟨w.heap.size, 1, none⟩ = some (.slice ai nm ci) ∧ v1.cell? ⟨w.heap.size, 2, none⟩ = some (.slice ar nc cr) ∧ v1.cell? ⟨w.heap.size, 3, none⟩ = some (.slice (some ⟨bc, oc, none⟩) nc cc) ∧ v1.cell? ⟨w.heap.size, 4, none⟩ = some (.slice (some ⟨bp, op, none⟩) nc cp) ∧ v1.cell? ⟨w.heap.size, 5, none⟩ = some (.slice aq nc cq) ∧ v1.cell? ⟨w.heap.size, 6, none⟩ = some (.slice am nm cm) ∧ v1.cell? ⟨w.heap.size, 7, none⟩ = some (.slice ab nc cb) ∧ v1.cell? ⟨w.heap.size, 8, none⟩ = some (.int .i64 model) ∧ v1.cell? ⟨w.heap.size, 9, none⟩ = some (.int .i64 room) ∧ v1.cell? ⟨w.heap.size, 10, none⟩ = some (.int .i64 j) ∧ v1.cell? ⟨w.heap.size, 11, none⟩ = some (.int .i64 loc) ∧ w.heap.size < v1.heap.size ∧ v1.cell? ⟨w2.heap.size, 0, none⟩ = some (.int .i64 x.x.op) ∧ v1.cell? ⟨w2.heap.size, 1, none⟩ = some (.int .i64 x.x.reg) ∧ v1.cell? ⟨w2.heap.size, 2, none⟩ = some (.int .i64 x.x.loc) ∧ v1.cell? ⟨w2.heap.size, 3, none⟩ = some (x.ev) ∧ v1.cell? ⟨w2.heap.size, 4, none⟩ = some (x.fv) ∧ v1.cell? ⟨w2.heap.size, 5, none⟩ = some (.bool x.x.ne) ∧ v1.cell? ⟨w2.heap.size, 6, none⟩ = some (.int .i64 x.x.to) ∧ w2.heap.size < v1.heap.size ∧ v1.cell? ⟨w4.heap.size, 0, none⟩ = some (.slice da0 dv.pc.length dk0) ∧ v1.cell? ⟨w4.heap.size, 1, none⟩ = some (.slice da1 dv.regs.length dk1) ∧ v1.cell? ⟨w4.heap.size, 2, none⟩ = some (.slice da2 dv.mem.length dk2) ∧ v1.cell? ⟨w4.heap.size, 3, none⟩ = some (.slice da3 dv.buf.length dk3) ∧ w4.heap.size < v1.heap.size := ⟨Kc.out.cell 0, Kc.out.cell 1, Kc.out.cell 2, Kc.out.cell 3, Kc.out.cell 4, Kc.out.cell 5, Kc.out.cell 6, Kc.out.cell 7, Kc.out.cell 8, Kc.out.cell 9, Kc.out.cell 10, Kc.out.cell 11, Kc.out.lt, Kx.out.cell 0, Kx.out.cell 1, Kx.out.cell 2, Kx.out.cell 3, Kx.out.cell 4, Kx.out.cell 5, Kx.out.cell 6, Kx.out.lt, Kd.out.cell 0, Kd.out.cell 1, Kd.out.cell 2, Kd.out.cell 3, Kd.out.lt⟩
                go_wp2_with fail
                clear cc0 cc1 cc2 cc3 cc4 cc5 cc6 cc7 cc8 cc9 cc10 cc11 ccl xc0 xc1 xc2 xc3 xc4 xc5 xc6 xcl dc0 dc1 dc2 dc3 dcl
                refine HX2.out.mono ?_
                rintro e v2 ⟨rfl, b⟩
                clear HX2
                replace Kc := Lib.hid (Kc.out.below b)
                replace Kx := Lib.hid (Kx.out.below b)
                replace Kd := Lib.hid (Kd.out.below b)
                replace B := Lib.hid (B.out.trans (b.mono B.out.size))
                clear b
                go_wp2_with fail
                refine (HKN.out v2).mono ?_
                rintro e v3 ⟨rfl, b⟩
                replace Kc := Lib.hid (Kc.out.below b)
                replace Kx := Lib.hid (Kx.out.below b)
                replace Kd := Lib.hid (Kd.out.below b)
                replace B := Lib.hid (B.out.trans (b.mono B.out.size))
                clear b
                go_wp2
                go_ret
                exact ⟨ret_bool rfl, B.out⟩
    ·
      have hopb : (x.x.op == 4) = false := by simpa using hop
      replace hop := Lib.hid hop
      cases q with
      | false =>
        obtain ⟨cc0, cc1, cc2, cc3, cc4, cc5, cc6, cc7, cc8, cc9, cc10, cc11, ccl, xc0, xc1, xc2, xc3, xc4, xc5, xc6, xcl, dc0, dc1, dc2, dc3, dcl⟩ : w5.cell? ⟨w.heap.size, 0, none⟩ = some (.int .i64 md) ∧ w5.cell? ⟨w.heap.size, 1, none⟩ = some (.slice ai nm ci) ∧ w5.cell? ⟨w.heap.size, 2, none⟩ = some (.slice ar nc cr) ∧ w5.cell? ⟨w.heap.size, 3, none⟩ = some (.slice (some ⟨bc, oc, none⟩) nc cc) ∧ w5.cell? ⟨w.heap.size, 4, none⟩ = some (.slice (some ⟨bp, op, none⟩) nc cp) ∧ w5.cell? ⟨w.heap.size, 5, none⟩ = some (.slice aq nc cq) ∧ w5.cell? ⟨w.heap.size, 6, none⟩ = some (.slice am nm cm) ∧ w5.cell? ⟨w.heap.size, 7, none⟩ = some (.slice ab nc cb) ∧ w5.cell? ⟨w.heap.size, 8, none⟩ = some (.int .i64 model) ∧ w5.cell? ⟨w.heap.size, 9, none⟩ = some (.int .i64 room) ∧ w5.cell? ⟨w.heap.size, 10, none⟩ = some (.int .i64 j) ∧ w5.cell? ⟨w.heap.size, 11, none⟩ = some (.int .i64 loc) ∧ w.heap.size < w5.heap.size ∧ w5.cell? ⟨w2.heap.size, 0, none⟩ = some (.int .i64 x.x.op) ∧ w5.cell? ⟨w2.heap.size, 1, none⟩ = some (.int .i64 x.x.reg) ∧ w5.cell? ⟨w2.heap.size, 2, none⟩ = some (.int .i64 x.x.loc) ∧ w5.cell? ⟨w2.heap.size, 3, none⟩ = some (x.ev) ∧ w5.cell? ⟨w2.heap.size, 4, none⟩ = some (x.fv) ∧ w5.cell? ⟨w2.heap.size, 5, none⟩ = some (.bool x.x.ne) ∧ w5.cell? ⟨w2.heap.size, 6, none⟩ = some (.int .i64 x.x.to) ∧ w2.heap.size < w5.heap.size ∧ w5.cell? ⟨w4.heap.size, 0, none⟩ = some (.slice da0 dv.pc.length dk0) ∧ w5.cell? ⟨w4.heap.size, 1, none⟩ = some (.slice da1 dv.regs.length dk1) ∧ w5.cell? ⟨w4.heap.size, 2, none⟩ = some (.slice da2 dv.mem.length dk2) ∧ w5.cell? ⟨w4.heap.size, 3, none⟩ = some (.slice da3 dv.buf.length dk3) ∧ w4.heap.size < w5.heap.size := ⟨Kc.out.cell 0, Kc.out.cell 1, Kc.out.cell 2, Kc.out.cell 3, Kc.out.cell 4, Kc.out.cell 5, Kc.out.cell 6, Kc.out.cell 7, Kc.out.cell 8, Kc.out.cell 9, Kc.out.cell 10, Kc.out.cell 11, Kc.out.lt, Kx.out.cell 0, Kx.out.cell 1, Kx.out.cell 2, Kx.out.cell 3, Kx.out.cell 4, Kx.out.cell 5, Kx.out.cell 6, Kx.out.lt, Kd.out.cell 0, Kd.out.cell 1, Kd.out.cell 2, Kd.out.cell 3, Kd.out.lt⟩
        go_wp2_with fail
        clear cc0 cc1 cc2 cc3 cc4 cc5 cc6 cc7 cc8 cc9 cc10 cc11 ccl xc0 xc1 xc2 xc3 xc4 xc5 xc6 xcl dc0 dc1 dc2 dc3 dcl
        go_loopg [10] nc (fun fuel i' wr => ∃ (k : Nat), i' = .int .i64 k ∧ k ≤ nc ∧ nc - k ≤ fuel ∧ Below w5.heap.size w5 wr)
        case atStart => exact ⟨0, rfl, Nat.zero_le _, Nat.le_refl _, Below.refl _ _⟩
        case round =>
          obtain ⟨a, rfl, ha, hf, hb⟩ := hrel
          obtain ⟨ga, rfl⟩ : ∃ a, a = gk := ⟨_, rfl⟩
          have HB := Lib.hid hb
          replace Kc := Lib.hid (Kc.out.below hb)
          replace Kx := Lib.hid (Kx.out.below hb)
          replace Kd := Lib.hid (Kd.out.below hb)
          replace B := Lib.hid (B.out.trans (hb.mono B.out.size))
          clear hb
          by_cases hla : a < nc
          ·
            obtain ⟨bp1, op1, bq, oq, bb, ob, rq, mq, rb, mb, hz1, hz2, hz3, l1, l2, l3, y1, y2, y3, y4, y5⟩ := HAT.out a hla
            have hs2 := (HSL.out a).2
            replace y3 := (B.out.cell (p := ⟨bb, _, none⟩) l3).trans y3
            replace y5 := EntsD.below y5 B.out
            replace l3 := Nat.lt_of_lt_of_le l3 B.out.size
            have Y3 := Lib.hid y3
            have Y5 := Lib.hid y5
            have L3 := Lib.hid l3
            have HS2 := Lib.hid hs2
            clear y1 y2 y3 y4 y5 l1 l2 l3 hz1 hz2 hs2
            obtain ⟨wa, hwa⟩ : ∃ z, z = wr := ⟨_, rfl⟩
            rw [← hwa] at Y3 Y5 L3
            have BA : Hid (Below wa.heap.size wa wr) := Lib.hid (by rw [hwa]; exact Below.refl _ _)
            clear hwa
            subst hz3
            obtain ⟨cc0, cc1, cc2, cc3, cc4, cc5, cc6, cc7, cc8, cc9, cc10, cc11, ccl, xc0, xc1, xc2, xc3, xc4, xc5, xc6, xcl, dc0, dc1, dc2, dc3, dcl⟩ : wr.cell? ⟨w.heap.size, 0, none⟩ = some (.int .i64 md) ∧ wr.cell? ⟨w.heap.size, 1, none⟩ = some (.slice ai nm ci) ∧ wr.cell? ⟨w.heap.size, 2, none⟩ = some (.slice ar nc cr) ∧ wr.cell? ⟨w.heap.size, 3, none⟩ = some (.slice (some ⟨bc, oc, none⟩) nc cc) ∧ wr.cell? ⟨w.heap.size, 4, none⟩ = some (.slice (some ⟨bp, op, none⟩) nc cp) ∧ wr.cell? ⟨w.heap.size, 5, none⟩ = some (.slice aq nc cq) ∧ wr.cell? ⟨w.heap.size, 6, none⟩ = some (.slice am nm cm) ∧ wr.cell? ⟨w.heap.size, 7, none⟩ = some (.slice (some ⟨bb, ob, none⟩) nc cb) ∧ wr.cell? ⟨w.heap.size, 8, none⟩ = some (.int .i64 model) ∧ wr.cell? ⟨w.heap.size, 9, none⟩ = some (.int .i64 room) ∧ wr.cell? ⟨w.heap.size, 10, none⟩ = some (.int .i64 j) ∧ wr.cell? ⟨w.heap.size, 11, none⟩ = some (.int .i64 loc) ∧ w.heap.size < wr.heap.size ∧ wr.cell? ⟨w2.heap.size, 0, none⟩ = some (.int .i64 x.x.op) ∧ wr.cell? ⟨w2.heap.size, 1, none⟩ = some (.int .i64 x.x.reg) ∧ wr.cell? ⟨w2.heap.size, 2, none⟩ = some (.int .i64 x.x.loc) ∧ wr.cell? ⟨w2.heap.size, 3, none⟩ = some (x.ev) ∧ wr.cell? ⟨w2.heap.size, 4, none⟩ = some (x.fv) ∧ wr.cell? ⟨w2.heap.size, 5, none⟩ = some (.bool x.x.ne) ∧ wr.cell? ⟨w2.heap.size, 6, none⟩ = some (.int .i64 x.x.to) ∧ w2.heap.size < wr.heap.size ∧ wr.cell? ⟨w4.heap.size, 0, none⟩ = some (.slice da0 dv.pc.length dk0) ∧ wr.cell? ⟨w4.heap.size, 1, none⟩ = some (.slice da1 dv.regs.length dk1) ∧ wr.cell? ⟨w4.heap.size, 2, none⟩ = some (.slice da2 dv.mem.length dk2) ∧ wr.cell? ⟨w4.heap.size, 3, none⟩ = some (.slice da3 dv.buf.length dk3) ∧ w4.heap.size < wr.heap.size := ⟨Kc.out.cell 0, Kc.out.cell 1, Kc.out.cell 2, Kc.out.cell 3, Kc.out.cell 4, Kc.out.cell 5, Kc.out.cell 6, Kc.out.cell 7, Kc.out.cell 8, Kc.out.cell 9, Kc.out.cell 10, Kc.out.cell 11, Kc.out.lt, Kx.out.cell 0, Kx.out.cell 1, Kx.out.cell 2, Kx.out.cell 3, Kx.out.cell 4, Kx.out.cell 5, Kx.out.cell 6, Kx.out.lt, Kd.out.cell 0, Kd.out.cell 1, Kd.out.cell 2, Kd.out.cell 3, Kd.out.lt⟩
            go_wp2_with fail
            clear cc0 cc1 cc2 cc3 cc4 cc5 cc6 cc7 cc8 cc9 cc10 cc11 ccl xc0 xc1 xc2 xc3 xc4 xc5 xc6 xcl dc0 dc1 dc2 dc3 dcl
            go_loopg [11] nm (fun fuel i' w2 => ∃ (k : Nat), i' = .int .i64 k ∧ k ≤ nm ∧ nm - k ≤ fuel ∧ Below wr.heap.size wr w2)
            case atStart => exact ⟨0, rfl, Nat.zero_le _, Nat.le_refl _, Below.refl _ _⟩
            case round =>
              obtain ⟨b, rfl, hbn, hf2, hb2⟩ := hrel
              have HW := Lib.hid hb2
              replace Kc := Lib.hid (Kc.out.below hb2)
              replace Kx := Lib.hid (Kx.out.below hb2)
              replace Kd := Lib.hid (Kd.out.below hb2)
              replace B := Lib.hid (B.out.trans (hb2.mono B.out.size))
              replace HB := Lib.hid (HB.out.trans (hb2.mono HB.out.size))
              replace BA := Lib.hid (BA.out.trans (hb2.mono BA.out.size))
              clear hb2
              by_cases hlb : b < nm
              ·
                obtain ⟨bm, om, hzm, lm, ym⟩ := HMA.out b hlb
                replace ym := (B.out.cell (p := ⟨bm, _, none⟩) lm).trans ym
                replace lm := Nat.lt_of_lt_of_le lm B.out.size
                subst hzm
                have y3 := (BA.out.cell (p := ⟨bb, _, none⟩) L3.out).trans Y3.out
                have l3 := Nat.lt_of_lt_of_le L3.out BA.out.size
                obtain ⟨⟨z1, q1⟩, hzl⟩ : ∃ r, lastL (c.pf.buf.getD a []) (b : Int) = r := ⟨_, rfl⟩
                have HLS := Lib.hid (rlast_any (c.pf.buf.getD a []) _ (b : Int) wr (EntsD.below Y5.out BA.out) HS2.out z1 q1 hzl)
                have HRM := Lib.hid (fun (hq : q1 = false) => reads_mem (p := c.pf) (k := a) (j := b) (by rw [HRP.out.lb, hnr.out]; exact hla) (by show b < c.mem.length; rw [hnm.out]; exact hlb) (by rw [hzl]; exact hq))
                clear hzl
                generalize c.pf.mem.getD b 0 = xm at ym HRM
                generalize (c.pf.buf.getD a []).length = bl at y3 HLS
                have g1 : (0 : Int) ≤ (a : Int) := by omega
                have g2 : (a : Int) < (nc : Int) := by omega
                have g3 : (0 : Int) ≤ (b : Int) := by omega
                have g4 : (b : Int) < (nm : Int) := by omega
                obtain ⟨cc0, cc1, cc2, cc3, cc4, cc5, cc6, cc7, cc8, cc9, cc10, cc11, ccl, xc0, xc1, xc2, xc3, xc4, xc5, xc6, xcl, dc0, dc1, dc2, dc3, dcl⟩ : wr.cell? ⟨w.heap.size, 0, none⟩ = some (.int .i64 md) ∧ wr.cell? ⟨w.heap.size, 1, none⟩ = some (.slice ai nm ci) ∧ wr.cell? ⟨w.heap.size, 2, none⟩ = some (.slice ar nc cr) ∧ wr.cell? ⟨w.heap.size, 3, none⟩ = some (.slice (some ⟨bc, oc, none⟩) nc cc) ∧ wr.cell? ⟨w.heap.size, 4, none⟩ = some (.slice (some ⟨bp, op, none⟩) nc cp) ∧ wr.cell? ⟨w.heap.size, 5, none⟩ = some (.slice aq nc cq) ∧ wr.cell? ⟨w.heap.size, 6, none⟩ = some (.slice (some ⟨bm, om, none⟩) nm cm) ∧ wr.cell? ⟨w.heap.size, 7, none⟩ = some (.slice (some ⟨bb, ob, none⟩) nc cb) ∧ wr.cell? ⟨w.heap.size, 8, none⟩ = some (.int .i64 model) ∧ wr.cell? ⟨w.heap.size, 9, none⟩ = some (.int .i64 room) ∧ wr.cell? ⟨w.heap.size, 10, none⟩ = some (.int .i64 j) ∧ wr.cell? ⟨w.heap.size, 11, none⟩ = some (.int .i64 loc) ∧ w.heap.size < wr.heap.size ∧ wr.cell? ⟨w2.heap.size, 0, none⟩ = some (.int .i64 x.x.op) ∧ wr.cell? ⟨w2.heap.size, 1, none⟩ = some (.int .i64 x.x.reg) ∧ wr.cell? ⟨w2.heap.size, 2, none⟩ = some (.int .i64 x.x.loc) ∧ wr.cell? ⟨w2.heap.size, 3, none⟩ = some (x.ev) ∧ wr.cell? ⟨w2.heap.size, 4, none⟩ = some (x.fv) ∧ wr.cell? ⟨w2.heap.size, 5, none⟩ = some (.bool x.x.ne) ∧ wr.cell? ⟨w2.heap.size, 6, none⟩ = some (.int .i64 x.x.to) ∧ w2.heap.size < wr.heap.size ∧ wr.cell? ⟨w4.heap.size, 0, none⟩ = some (.slice da0 dv.pc.length dk0) ∧ wr.cell? ⟨w4.heap.size, 1, none⟩ = some (.slice da1 dv.regs.length dk1) ∧ wr.cell? ⟨w4.heap.size, 2, none⟩ = some (.slice da2 dv.mem.length dk2) ∧ wr.cell? ⟨w4.heap.size, 3, none⟩ = some (.slice da3 dv.buf.length dk3) ∧ w4.heap.size < wr.heap.size := ⟨Kc.out.cell 0, Kc.out.cell 1, Kc.out.cell 2, Kc.out.cell 3, Kc.out.cell 4, Kc.out.cell 5, Kc.out.cell 6, Kc.out.cell 7, Kc.out.cell 8, Kc.out.cell 9, Kc.out.cell 10, Kc.out.cell 11, Kc.out.lt, Kx.out.cell 0, Kx.out.cell 1, Kx.out.cell 2, Kx.out.cell 3, Kx.out.cell 4, Kx.out.cell 5, Kx.out.cell 6, Kx.out.lt, Kd.out.cell 0, Kd.out.cell 1, Kd.out.cell 2, Kd.out.cell 3, Kd.out.lt⟩
                go_wp2_with fail
                refine HLS.out.mono ?_
                rintro e wz ⟨rfl, rfl⟩
                clear HLS
                cases q1 with
                | true =>
                  go_wp2_with fail
                  go_quiet (fail)
                  go_wp2_with fail
                  go_roundg (gk - 1)
                  case measure => omega
                  case rel => exact ⟨b + 1, by go_num, by omega, by omega, below_drewN' HW.out _⟩
                | false =>
                  have HRR := Lib.hid (fun (W : World) (h : Below wr.heap.size wr W) => HRC.out (a : Int) (b : Int) W (B.out.trans (h.mono B.out.size)))
                  rw [HRM.out rfl] at HRR
                  have hxx : (xm != xm) = false := by simp
                  have HCC := Lib.hid (fun (w' : World) (h : Below wr.heap.size wr w') => (⟨(h.cell (p := ⟨w.heap.size, _, none⟩) Kc.out.lt).trans (Kc.out.cell 0), (h.cell (p := ⟨w.heap.size, _, none⟩) Kc.out.lt).trans (Kc.out.cell 1), (h.cell (p := ⟨w.heap.size, _, none⟩) Kc.out.lt).trans (Kc.out.cell 2), (h.cell (p := ⟨w.heap.size, _, none⟩) Kc.out.lt).trans (Kc.out.cell 3), (h.cell (p := ⟨w.heap.size, _, none⟩) Kc.out.lt).trans (Kc.out.cell 4), (h.cell (p := ⟨w.heap.size, _, none⟩) Kc.out.lt).trans (Kc.out.cell 5), (h.cell (p := ⟨w.heap.size, _, none⟩) Kc.out.lt).trans (Kc.out.cell 6), (h.cell (p := ⟨w.heap.size, _, none⟩) Kc.out.lt).trans (Kc.out.cell 7), (h.cell (p := ⟨w.heap.size, _, none⟩) Kc.out.lt).trans (Kc.out.cell 8), (h.cell (p := ⟨w.heap.size, _, none⟩) Kc.out.lt).trans (Kc.out.cell 9), (h.cell (p := ⟨w.heap.size, _, none⟩) Kc.out.lt).trans (Kc.out.cell 10), (h.cell (p := ⟨w.heap.size, _, none⟩) Kc.out.lt).trans (Kc.out.cell 11), (h.cell (p := ⟨bm, _, none⟩) lm).trans ym, h⟩ : (fun w' => w'.cell? ⟨w.heap.size, 0, none⟩ = some (.int .i64 md) ∧ w'.cell? ⟨w.heap.size, 1, none⟩ = some (.slice ai nm ci) ∧ w'.cell? ⟨w.heap.size, 2, none⟩ = some (.slice ar nc cr) ∧ w'.cell? ⟨w.heap.size, 3, none⟩ = some (.slice (some ⟨bc, oc, none⟩) nc cc) ∧ w'.cell? ⟨w.heap.size, 4, none⟩ = some (.slice (some ⟨bp, op, none⟩) nc cp) ∧ w'.cell? ⟨w.heap.size, 5, none⟩ = some (.slice aq nc cq) ∧ w'.cell? ⟨w.heap.size, 6, none⟩ = some (.slice (some ⟨bm, om, none⟩) nm cm) ∧ w'.cell? ⟨w.heap.size, 7, none⟩ = some (.slice (some ⟨bb, ob, none⟩) nc cb) ∧ w'.cell? ⟨w.heap.size, 8, none⟩ = some (.int .i64 model) ∧ w'.cell? ⟨w.heap.size, 9, none⟩ = some (.int .i64 room) ∧ w'.cell? ⟨w.heap.size, 10, none⟩ = some (.int .i64 j) ∧ w'.cell? ⟨w.heap.size, 11, none⟩ = some (.int .i64 loc) ∧ w'.cell? ⟨bm, om + b, none⟩ = some (.int .i64 xm) ∧ Below wr.heap.size wr w') w'))
                  have bb0 : Below wr.heap.size wr wr := Below.refl _ _
                  go_wp2_with fail
                  clear cc0 cc1 cc2 cc3 cc4 cc5 cc6 cc7 cc8 cc9 cc10 cc11 ccl xc0 xc1 xc2 xc3 xc4 xc5 xc6 xcl dc0 dc1 dc2 dc3 dcl
                  clear ym y3 l3 lm
                  go_region_held3 (fun w' => w'.cell? ⟨w.heap.size, 0, none⟩ = some (.int .i64 md) ∧ w'.cell? ⟨w.heap.size, 1, none⟩ = some (.slice ai nm ci) ∧ w'.cell? ⟨w.heap.size, 2, none⟩ = some (.slice ar nc cr) ∧ w'.cell? ⟨w.heap.size, 3, none⟩ = some (.slice (some ⟨bc, oc, none⟩) nc cc) ∧ w'.cell? ⟨w.heap.size, 4, none⟩ = some (.slice (some ⟨bp, op, none⟩) nc cp) ∧ w'.cell? ⟨w.heap.size, 5, none⟩ = some (.slice aq nc cq) ∧ w'.cell? ⟨w.heap.size, 6, none⟩ = some (.slice (some ⟨bm, om, none⟩) nm cm) ∧ w'.cell? ⟨w.heap.size, 7, none⟩ = some (.slice (some ⟨bb, ob, none⟩) nc cb) ∧ w'.cell? ⟨w.heap.size, 8, none⟩ = some (.int .i64 model) ∧ w'.cell? ⟨w.heap.size, 9, none⟩ = some (.int .i64 room) ∧ w'.cell? ⟨w.heap.size, 10, none⟩ = some (.int .i64 j) ∧ w'.cell? ⟨w.heap.size, 11, none⟩ = some (.int .i64 loc) ∧ w'.cell? ⟨bm, om + b, none⟩ = some (.int .i64 xm) ∧ Below wr.heap.size wr w')
                    (first | with_reducible exact HCC.out _ bb0 | with_reducible exact HCC.out _ bb0.drew | with_reducible assumption | (go_split_ands; with_reducible exact HCC.out _ (by with_reducible assumption)))
                    ((first | (go_split_ands; (with_reducible refine Calls.mono (HRR.out _ (by assumption)) ?_); rintro e wn ⟨rfl, bn⟩; have bb1 : Below wr.heap.size wr wn := Below.trans (by assumption) (bn.mono (Below.size (by assumption))))))
                  all_goals
                    go_split_ands
                    go_wp2_with fail
                    go_roundg (gk - 1)
                    case measure => omega
                    case rel => exact ⟨b + 1, by go_num, by omega, by omega, HW.out.trans (Below.mono (by assumption) HW.out.size)⟩
              ·
                obtain ⟨cc0, cc1, cc2, cc3, cc4, cc5, cc6, cc7, cc8, cc9, cc10, cc11, ccl, xc0, xc1, xc2, xc3, xc4, xc5, xc6, xcl, dc0, dc1, dc2, dc3, dcl⟩ : wr.cell? ⟨w.heap.size, 0, none⟩ = some (.int .i64 md) ∧ wr.cell? ⟨w.heap.size, 1, none⟩ = some (.slice ai nm ci) ∧ wr.cell? ⟨w.heap.size, 2, none⟩ = some (.slice ar nc cr) ∧ wr.cell? ⟨w.heap.size, 3, none⟩ = some (.slice (some ⟨bc, oc, none⟩) nc cc) ∧ wr.cell? ⟨w.heap.size, 4, none⟩ = some (.slice (some ⟨bp, op, none⟩) nc cp) ∧ wr.cell? ⟨w.heap.size, 5, none⟩ = some (.slice aq nc cq) ∧ wr.cell? ⟨w.heap.size, 6, none⟩ = some (.slice am nm cm) ∧ wr.cell? ⟨w.heap.size, 7, none⟩ = some (.slice (some ⟨bb, ob, none⟩) nc cb) ∧ wr.cell? ⟨w.heap.size, 8, none⟩ = some (.int .i64 model) ∧ wr.cell? ⟨w.heap.size, 9, none⟩ = some (.int .i64 room) ∧ wr.cell? ⟨w.heap.size, 10, none⟩ = some (.int .i64 j) ∧ wr.cell? ⟨w.heap.size, 11, none⟩ = some (.int .i64 loc) ∧ w.heap.size < wr.heap.size ∧ wr.cell? ⟨w2.heap.size, 0, none⟩ = some (.int .i64 x.x.op) ∧ wr.cell? ⟨w2.heap.size, 1, none⟩ = some (.int .i64 x.x.reg) ∧ wr.cell? ⟨w2.heap.size, 2, none⟩ = some (.int .i64 x.x.loc) ∧ wr.cell? ⟨w2.heap.size, 3, none⟩ = some (x.ev) ∧ wr.cell? ⟨w2.heap.size, 4, none⟩ = some (x.fv) ∧ wr.cell? ⟨w2.heap.size, 5, none⟩ = some (.bool x.x.ne) ∧ wr.cell? ⟨w2.heap.size, 6, none⟩ = some (.int .i64 x.x.to) ∧ w2.heap.size < wr.heap.size ∧ wr.cell? ⟨w4.heap.size, 0, none⟩ = some (.slice da0 dv.pc.length dk0) ∧ wr.cell? ⟨w4.heap.size, 1, none⟩ = some (.slice da1 dv.regs.length dk1) ∧ wr.cell? ⟨w4.heap.size, 2, none⟩ = some (.slice da2 dv.mem.length dk2) ∧ wr.cell? ⟨w4.heap.size, 3, none⟩ = some (.slice da3 dv.buf.length dk3) ∧ w4.heap.size < wr.heap.size := ⟨Kc.out.cell 0, Kc.out.cell 1, Kc.out.cell 2, Kc.out.cell 3, Kc.out.cell 4, Kc.out.cell 5, Kc.out.cell 6, Kc.out.cell 7, Kc.out.cell 8, Kc.out.cell 9, Kc.out.cell 10, Kc.out.cell 11, Kc.out.lt, Kx.out.cell 0, Kx.out.cell 1, Kx.out.cell 2, Kx.out.cell 3, Kx.out.cell 4, Kx.out.cell 5, Kx.out.cell 6, Kx.out.lt, Kd.out.cell 0, Kd.out.cell 1, Kd.out.cell 2, Kd.out.cell 3, Kd.out.lt⟩
                go_wp2_with fail
                clear cc0 cc1 cc2 cc3 cc4 cc5 cc6 cc7 cc8 cc9 cc10 cc11 ccl xc0 xc1 xc2 xc3 xc4 xc5 xc6 xcl dc0 dc1 dc2 dc3 dcl
                go_roundg (ga - 1)
                case measure => omega
                case rel => exact ⟨a + 1, by go_num, by omega, by omega, HB.out⟩
          ·
            have HX1 := Lib.hid (HRC.out (-1) 0 wr B.out)
            rw [reads_out _ _ (Or.inl (by omega))] at HX1
            obtain ⟨cc0, cc1, cc2, cc3, cc4, cc5, cc6, cc7, cc8, cc9, cc10, cc11, ccl, xc0, xc1, xc2, xc3, xc4, xc5, xc6, xcl, dc0, dc1, dc2, dc3, dcl⟩ : wr.cell? ⟨w.heap.size, 0, none⟩ = some (.int .i64 md) ∧ wr.cell? ⟨w.heap.size, 1, none⟩ = some (.slice ai nm ci) ∧ wr.cell? ⟨w.heap.size, 2, none⟩ = some (.slice ar nc cr) ∧ wr.cell? ⟨w.heap.size, 3, none⟩ = some (.slice (some ⟨bc, oc, none⟩) nc cc) ∧ wr.cell? ⟨w.heap.size, 4, none⟩ = some (.slice (some ⟨bp, op, none⟩) nc cp) ∧ wr.cell? ⟨w.heap.size, 5, none⟩ = some (.slice aq nc cq) ∧ wr.cell? ⟨w.heap.size, 6, none⟩ = some (.slice am nm cm) ∧ wr.cell? ⟨w.heap.size, 7, none⟩ = some (.slice ab nc cb) ∧ wr.cell? ⟨w.heap.size, 8, none⟩ = some (.int .i64 model) ∧ wr.cell? ⟨w.heap.size, 9, none⟩ = some (.int .i64 room) ∧ wr.cell? ⟨w.heap.size, 10, none⟩ = some (.int .i64 j) ∧ wr.cell? ⟨w.heap.size, 11, none⟩ = some (.int .i64 loc) ∧ w.heap.size < wr.heap.size ∧ wr.cell? ⟨w2.heap.size, 0, none⟩ = some (.int .i64 x.x.op) ∧ wr.cell? ⟨w2.heap.size, 1, none⟩ = some (.int .i64 x.x.reg) ∧ wr.cell? ⟨w2.heap.size, 2, none⟩ = some (.int .i64 x.x.loc) ∧ wr.cell? ⟨w2.heap.size, 3, none⟩ = some (x.ev) ∧ wr.cell? ⟨w2.heap.size, 4, none⟩ = some (x.fv) ∧ wr.cell? ⟨w2.heap.size, 5, none⟩ = some (.bool x.x.ne) ∧ wr.cell? ⟨w2.heap.size, 6, none⟩ = some (.int .i64 x.x.to) ∧ w2.heap.size < wr.heap.size ∧ wr.cell? ⟨w4.heap.size, 0, none⟩ = some (.slice da0 dv.pc.length dk0) ∧ wr.cell? ⟨w4.heap.size, 1, none⟩ = some (.slice da1 dv.regs.length dk1) ∧ wr.cell? ⟨w4.heap.size, 2, none⟩ = some (.slice da2 dv.mem.length dk2) ∧ wr.cell? ⟨w4.heap.size, 3, none⟩ = some (.slice da3 dv.buf.length dk3) ∧ w4.heap.size < wr.heap.size := ⟨Kc.out.cell 0, Kc.out.cell 1, Kc.out.cell 2, Kc.out.cell 3, Kc.out.cell 4, Kc.out.cell 5, Kc.out.cell 6, Kc.out.cell 7, Kc.out.cell 8, Kc.out.cell 9, Kc.out.cell 10, Kc.out.cell 11, Kc.out.lt, Kx.out.cell 0, Kx.out.cell 1, Kx.out.cell 2, Kx.out.cell 3, Kx.out.cell 4, Kx.out.cell 5, Kx.out.cell 6, Kx.out.lt, Kd.out.cell 0, Kd.out.cell 1, Kd.out.cell 2, Kd.out.cell 3, Kd.out.lt⟩
            go_wp2_with fail
            clear cc0 cc1 cc2 cc3 cc4 cc5 cc6 cc7 cc8 cc9 cc10 cc11 ccl xc0 xc1 xc2 xc3 xc4 xc5 xc6 xcl dc0 dc1 dc2 dc3 dcl
            refine HX1.out.mono ?_
            rintro e v1 ⟨rfl, b⟩
            clear HX1
            replace Kc := Lib.hid (Kc.out.below b)
            replace Kx := Lib.hid (Kx.out.below b)
            replace Kd := Lib.hid (Kd.out.below b)
            replace B := Lib.hid (B.out.trans (b.mono B.out.size))
            clear b
            have HX2 := Lib.hid (HRC.out 0 (nm : Int) v1 B.out)
            rw [reads_out _ _ (Or.inr (Or.inr (by show (c.mem.length : Int) ≤ _; rw [hnm.out]; exact Int.le_refl _)))] at HX2
            obtain ⟨cc0, cc1, cc2, cc3, cc4, cc5, cc6, cc7, cc8, cc9, cc10, cc11, ccl, xc0, xc1, xc2, xc3, xc4, xc5, xc6, xcl, dc0, dc1, dc2, dc3, dcl⟩ : v1.cell? ⟨w.heap.size, 0, none⟩ = some (.int .i64 md) ∧ v1.cell? ⟨w.heap.size, 1, none⟩ = some (.slice ai nm ci) ∧ v1.cell? ⟨w.heap.size, 2, none⟩ = some (.slice ar nc cr) ∧ v1.cell? ⟨w.heap.size, 3, none⟩ = some (.slice (some ⟨bc, oc, none⟩) nc cc) ∧ v1.cell? ⟨w.heap.size, 4, none⟩ = some (.slice (some ⟨bp, op, none⟩) nc cp) ∧ v1.cell? ⟨w.heap.size, 5, none⟩ = some (.slice aq nc cq) ∧ v1.cell? ⟨w.heap.size, 6, none⟩ = some (.slice am nm cm) ∧ v1.cell? ⟨w.heap.size, 7, none⟩ = some (.slice ab nc cb) ∧ v1.cell? ⟨w.heap.size, 8, none⟩ = some (.int .i64 model) ∧ v1.cell? ⟨w.heap.size, 9, none⟩ = some (.int .i64 room) ∧ v1.cell? ⟨w.heap.size, 10, none⟩ = some (.int .i64 j) ∧ v1.cell? ⟨w.heap.size, 11, none⟩ = some (.int .i64 loc) ∧ w.heap.size < v1.heap.size ∧ v1.cell? ⟨w2.heap.size, 0, none⟩ = some (.int .i64 x.x.op) ∧ v1.cell? ⟨w2.heap.size, 1, none⟩ = some (.int .i64 x.x.reg) ∧ v1.cell? ⟨w2.heap.size, 2, none⟩ = some (.int .i64 x.x.loc) ∧ v1.cell? ⟨w2.heap.size, 3, none⟩ = some (x.ev) ∧ v1.cell? ⟨w2.heap.size, 4, none⟩ = some (x.fv) ∧ v1.cell? ⟨w2.heap.size, 5, none⟩ = some (.bool x.x.ne) ∧ v1.cell? ⟨w2.heap.size, 6, none⟩ = some (.int .i64 x.x.to) ∧ w2.heap.size < v1.heap.size ∧ v1.cell? ⟨w4.heap.size, 0, none⟩ = some (.slice da0 dv.pc.length dk0) ∧ v1.cell? ⟨w4.heap.size, 1, none⟩ = some (.slice da1 dv.regs.length dk1) ∧ v1.cell? ⟨w4.heap.size, 2, none⟩ = some (.slice da2 dv.mem.length dk2) ∧ v1.cell? ⟨w4.heap.size, 3, none⟩ = some (.slice da3 dv.buf.length dk3) ∧ w4.heap.size < v1.heap.size := ⟨Kc.out.cell 0, Kc.out.cell 1, Kc.out.cell 2, Kc.out.cell 3, Kc.out.cell 4, Kc.out.cell 5, Kc.out.cell 6, Kc.out.cell 7, Kc.out.cell 8, Kc.out.cell 9, Kc.out.cell 10, Kc.out.cell 11, Kc.out.lt, Kx.out.cell 0, Kx.out.cell 1, Kx.out.cell 2, Kx.out.cell 3, Kx.out.cell 4, Kx.out.cell 5, Kx.out.cell 6, Kx.out.lt, Kd.out.cell 0, Kd.out.cell 1, Kd.out.cell 2, Kd.out.cell 3, Kd.out.lt⟩
            go_wp2_with fail
            clear cc0 cc1 cc2 cc3 cc4 cc5 cc6 cc7 cc8 cc9 cc10 cc11 ccl xc0 xc1 xc2 xc3 xc4 xc5 xc6 xcl dc0 dc1 dc2 dc3 dcl
            refine HX2.out.mono ?_
            rintro e v2 ⟨rfl, b⟩
            clear HX2
            replace Kc := Lib.hid (Kc.out.below b)
            replace Kx := Lib.hid (Kx.out.below b)
            replace Kd := Lib.hid (Kd.out.below b)
            replace B := Lib.hid (B.out.trans (b.mono B.out.size))
            clear b
            go_wp2_with fail
            refine (HKN.out v2).mono ?_
            rintro e v3 ⟨rfl, b⟩
            replace Kc := Lib.hid (Kc.out.below b)
            replace Kx := Lib.hid (Kx.out.below b)
            replace Kd := Lib.hid (Kd.out.below b)
            replace B := Lib.hid (B.out.trans (b.mono B.out.size))
            clear b
            go_wp2
            go_ret
            exact ⟨ret_bool rfl, B.out⟩
      | true =>
        obtain ⟨cc0, cc1, cc2, cc3, cc4, cc5, cc6, cc7, cc8, cc9, cc10, cc11, ccl, xc0, xc1, xc2, xc3, xc4, xc5, xc6, xcl, dc0, dc1, dc2, dc3, dcl⟩ : w5.cell? ⟨w.heap.size, 0, none⟩ = some (.int .i64 md) ∧ w5.cell? ⟨w.heap.size, 1, none⟩ = some (.slice ai nm ci) ∧ w5.cell? ⟨w.heap.size, 2, none⟩ = some (.slice ar nc cr) ∧ w5.cell? ⟨w.heap.size, 3, none⟩ = some (.slice (some ⟨bc, oc, none⟩) nc cc) ∧ w5.cell? ⟨w.heap.size, 4, none⟩ = some (.slice (some ⟨bp, op, none⟩) nc cp) ∧ w5.cell? ⟨w.heap.size, 5, none⟩ = some (.slice aq nc cq) ∧ w5.cell? ⟨w.heap.size, 6, none⟩ = some (.slice am nm cm) ∧ w5.cell? ⟨w.heap.size, 7, none⟩ = some (.slice ab nc cb) ∧ w5.cell? ⟨w.heap.size, 8, none⟩ = some (.int .i64 model) ∧ w5.cell? ⟨w.heap.size, 9, none⟩ = some (.int .i64 room) ∧ w5.cell? ⟨w.heap.size, 10, none⟩ = some (.int .i64 j) ∧ w5.cell? ⟨w.heap.size, 11, none⟩ = some (.int .i64 loc) ∧ w.heap.size < w5.heap.size ∧ w5.cell? ⟨w2.heap.size, 0, none⟩ = some (.int .i64 x.x.op) ∧ w5.cell? ⟨w2.heap.size, 1, none⟩ = some (.int .i64 x.x.reg) ∧ w5.cell? ⟨w2.heap.size, 2, none⟩ = some (.int .i64 x.x.loc) ∧ w5.cell? ⟨w2.heap.size, 3, none⟩ = some (x.ev) ∧ w5.cell? ⟨w2.heap.size, 4, none⟩ = some (x.fv) ∧ w5.cell? ⟨w2.heap.size, 5, none⟩ = some (.bool x.x.ne) ∧ w5.cell? ⟨w2.heap.size, 6, none⟩ = some (.int .i64 x.x.to) ∧ w2.heap.size < w5.heap.size ∧ w5.cell? ⟨w4.heap.size, 0, none⟩ = some (.slice da0 dv.pc.length dk0) ∧ w5.cell? ⟨w4.heap.size, 1, none⟩ = some (.slice da1 dv.regs.length dk1) ∧ w5.cell? ⟨w4.heap.size, 2, none⟩ = some (.slice da2 dv.mem.length dk2) ∧ w5.cell? ⟨w4.heap.size, 3, none⟩ = some (.slice da3 dv.buf.length dk3) ∧ w4.heap.size < w5.heap.size := ⟨Kc.out.cell 0, Kc.out.cell 1, Kc.out.cell 2, Kc.out.cell 3, Kc.out.cell 4, Kc.out.cell 5, Kc.out.cell 6, Kc.out.cell 7, Kc.out.cell 8, Kc.out.cell 9, Kc.out.cell 10, Kc.out.cell 11, Kc.out.lt, Kx.out.cell 0, Kx.out.cell 1, Kx.out.cell 2, Kx.out.cell 3, Kx.out.cell 4, Kx.out.cell 5, Kx.out.cell 6, Kx.out.lt, Kd.out.cell 0, Kd.out.cell 1, Kd.out.cell 2, Kd.out.cell 3, Kd.out.lt⟩
        go_wp2_with fail
        clear cc0 cc1 cc2 cc3 cc4 cc5 cc6 cc7 cc8 cc9 cc10 cc11 ccl xc0 xc1 xc2 xc3 xc4 xc5 xc6 xcl dc0 dc1 dc2 dc3 dcl
        go_loopg [10] nc (fun fuel i' wr => ∃ (k : Nat), i' = .int .i64 k ∧ k ≤ nc ∧ nc - k ≤ fuel ∧ Below w5.heap.size w5 wr)
        case atStart => exact ⟨0, rfl, Nat.zero_le _, Nat.le_refl _, Below.refl _ _⟩
        case round =>
          obtain ⟨a, rfl, ha, hf, hb⟩ := hrel
          obtain ⟨ga, rfl⟩ : ∃ a, a = gk := ⟨_, rfl⟩
          have HB := Lib.hid hb
          replace Kc := Lib.hid (Kc.out.below hb)
          replace Kx := Lib.hid (Kx.out.below hb)
          replace Kd := Lib.hid (Kd.out.below hb)
          replace B := Lib.hid (B.out.trans (hb.mono B.out.size))
          clear hb
          by_cases hla : a < nc
          ·
            obtain ⟨bp1, op1, bq, oq, bb, ob, rq, mq, rb, mb, hz1, hz2, hz3, l1, l2, l3, y1, y2, y3, y4, y5⟩ := HAT.out a hla
            have hs2 := (HSL.out a).2
            replace y3 := (B.out.cell (p := ⟨bb, _, none⟩) l3).trans y3
            replace y5 := EntsD.below y5 B.out
            replace l3 := Nat.lt_of_lt_of_le l3 B.out.size
            have Y3 := Lib.hid y3
            have Y5 := Lib.hid y5
            have L3 := Lib.hid l3
            have HS2 := Lib.hid hs2
            clear y1 y2 y3 y4 y5 l1 l2 l3 hz1 hz2 hs2
            obtain ⟨wa, hwa⟩ : ∃ z, z = wr := ⟨_, rfl⟩
            rw [← hwa] at Y3 Y5 L3
            have BA : Hid (Below wa.heap.size wa wr) := Lib.hid (by rw [hwa]; exact Below.refl _ _)
            clear hwa
            subst hz3
            obtain ⟨cc0, cc1, cc2, cc3, cc4, cc5, cc6, cc7, cc8, cc9, cc10, cc11, ccl, xc0, xc1, xc2, xc3, xc4, xc5, xc6, xcl, dc0, dc1, dc2, dc3, dcl⟩ : wr.cell? ⟨w.heap.size, 0, none⟩ = some (.int .i64 md) ∧ wr.cell? ⟨w.heap.size, 1, none⟩ = some (.slice ai nm ci) ∧ wr.cell? ⟨w.heap.size, 2, none⟩ = some (.slice ar nc cr) ∧ wr.cell? ⟨w.heap.size, 3, none⟩ = some (.slice (some ⟨bc, oc, none⟩) nc cc) ∧ wr.cell? ⟨w.heap.size, 4, none⟩ = some (.slice (some ⟨bp, op, none⟩) nc cp) ∧ wr.cell? ⟨w.heap.size, 5, none⟩ = some (.slice aq nc cq) ∧ wr.cell? ⟨w.heap.size, 6, none⟩ = some (.slice am nm cm) ∧ wr.cell? ⟨w.heap.size, 7, none⟩ = some (.slice (some ⟨bb, ob, none⟩) nc cb) ∧ wr.cell? ⟨w.heap.size, 8, none⟩ = some (.int .i64 model) ∧ wr.cell? ⟨w.heap.size, 9, none⟩ = some (.int .i64 room) ∧ wr.cell? ⟨w.heap.size, 10, none⟩ = some (.int .i64 j) ∧ wr.cell? ⟨w.heap.size, 11, none⟩ = some (.int .i64 loc) ∧ w.heap.size < wr.heap.size ∧ wr.cell? ⟨w2.heap.size, 0, none⟩ = some (.int .i64 x.x.op) ∧ wr.cell? ⟨w2.heap.size, 1, none⟩ = some (.int .i64 x.x.reg) ∧ wr.cell? ⟨w2.heap.size, 2, none⟩ = some (.int .i64 x.x.loc) ∧ wr.cell? ⟨w2.heap.size, 3, none⟩ = some (x.ev) ∧ wr.cell? ⟨w2.heap.size, 4, none⟩ = some (x.fv) ∧ wr.cell? ⟨w2.heap.size, 5, none⟩ = some (.bool x.x.ne) ∧ wr.cell? ⟨w2.heap.size, 6, none⟩ = some (.int .i64 x.x.to) ∧ w2.heap.size < wr.heap.size ∧ wr.cell? ⟨w4.heap.size, 0, none⟩ = some (.slice da0 dv.pc.length dk0) ∧ wr.cell? ⟨w4.heap.size, 1, none⟩ = some (.slice da1 dv.regs.length dk1) ∧ wr.cell? ⟨w4.heap.size, 2, none⟩ = some (.slice da2 dv.mem.length dk2) ∧ wr.cell? ⟨w4.heap.size, 3, none⟩ = some (.slice da3 dv.buf.length dk3) ∧ w4.heap.size < wr.heap.size := ⟨Kc.out.cell 0, Kc.out.cell 1, Kc.out.cell 2, Kc.out.cell 3, Kc.out.cell 4, Kc.out.cell 5, Kc.out.cell 6, Kc.out.cell 7, Kc.out.cell 8, Kc.out.cell 9, Kc.out.cell 10, Kc.out.cell 11, Kc.out.lt, Kx.out.cell 0, Kx.out.cell 1, Kx.out.cell 2, Kx.out.cell 3, Kx.out.cell 4, Kx.out.cell 5, Kx.out.cell 6, Kx.out.lt, Kd.out.cell 0, Kd.out.cell 1, Kd.out.cell 2, Kd.out.cell 3, Kd.out.lt⟩
            go_wp2_with fail
            clear cc0 cc1 cc2 cc3 cc4 cc5 cc6 cc7 cc8 cc9 cc10 cc11 ccl xc0 xc1 xc2 xc3 xc4 xc5 xc6 xcl dc0 dc1 dc2 dc3 dcl
            go_loopg [11] nm (fun fuel i' w2 => ∃ (k : Nat), i' = .int .i64 k ∧ k ≤ nm ∧ nm - k ≤ fuel ∧ Below wr.heap.size wr w2)
            case atStart => exact ⟨0, rfl, Nat.zero_le _, Nat.le_refl _, Below.refl _ _⟩
            case round =>
              obtain ⟨b, rfl, hbn, hf2, hb2⟩ := hrel
              have HW := Lib.hid hb2
              replace Kc := Lib.hid (Kc.out.below hb2)
              replace Kx := Lib.hid (Kx.out.below hb2)
              replace Kd := Lib.hid (Kd.out.below hb2)
              replace B := Lib.hid (B.out.trans (hb2.mono B.out.size))
              replace HB := Lib.hid (HB.out.trans (hb2.mono HB.out.size))
              replace BA := Lib.hid (BA.out.trans (hb2.mono BA.out.size))
              clear hb2
              by_cases hlb : b < nm
              ·
                obtain ⟨bm, om, hzm, lm, ym⟩ := HMA.out b hlb
                replace ym := (B.out.cell (p := ⟨bm, _, none⟩) lm).trans ym
                replace lm := Nat.lt_of_lt_of_le lm B.out.size
                subst hzm
                have y3 := (BA.out.cell (p := ⟨bb, _, none⟩) L3.out).trans Y3.out
                have l3 := Nat.lt_of_lt_of_le L3.out BA.out.size
                obtain ⟨⟨z1, q1⟩, hzl⟩ : ∃ r, lastL (c.pf.buf.getD a []) (b : Int) = r := ⟨_, rfl⟩
                have HLS := Lib.hid (rlast_any (c.pf.buf.getD a []) _ (b : Int) wr (EntsD.below Y5.out BA.out) HS2.out z1 q1 hzl)
                have HRM := Lib.hid (fun (hq : q1 = false) => reads_mem (p := c.pf) (k := a) (j := b) (by rw [HRP.out.lb, hnr.out]; exact hla) (by show b < c.mem.length; rw [hnm.out]; exact hlb) (by rw [hzl]; exact hq))
                clear hzl
                generalize c.pf.mem.getD b 0 = xm at ym HRM
                generalize (c.pf.buf.getD a []).length = bl at y3 HLS
                have g1 : (0 : Int) ≤ (a : Int) := by omega
                have g2 : (a : Int) < (nc : Int) := by omega
                have g3 : (0 : Int) ≤ (b : Int) := by omega
                have g4 : (b : Int) < (nm : Int) := by omega
                obtain ⟨cc0, cc1, cc2, cc3, cc4, cc5, cc6, cc7, cc8, cc9, cc10, cc11, ccl, xc0, xc1, xc2, xc3, xc4, xc5, xc6, xcl, dc0, dc1, dc2, dc3, dcl⟩ : wr.cell? ⟨w.heap.size, 0, none⟩ = some (.int .i64 md) ∧ wr.cell? ⟨w.heap.size, 1, none⟩ = some (.slice ai nm ci) ∧ wr.cell? ⟨w.heap.size, 2, none⟩ = some (.slice ar nc cr) ∧ wr.cell? ⟨w.heap.size, 3, none⟩ = some (.slice (some ⟨bc, oc, none⟩) nc cc) ∧ wr.cell? ⟨w.heap.size, 4, none⟩ = some (.slice (some ⟨bp, op, none⟩) nc cp) ∧ wr.cell? ⟨w.heap.size, 5, none⟩ = some (.slice aq nc cq) ∧ wr.cell? ⟨w.heap.size, 6, none⟩ = some (.slice (some ⟨bm, om, none⟩) nm cm) ∧ wr.cell? ⟨w.heap.size, 7, none⟩ = some (.slice (some ⟨bb, ob, none⟩) nc cb) ∧ wr.cell? ⟨w.heap.size, 8, none⟩ = some (.int .i64 model) ∧ wr.cell? ⟨w.heap.size, 9, none⟩ = some (.int .i64 room) ∧ wr.cell? ⟨w.heap.size, 10, none⟩ = some (.int .i64 j) ∧ wr.cell? ⟨w.heap.size, 11, none⟩ = some (.int .i64 loc) ∧ w.heap.size < wr.heap.size ∧ wr.cell? ⟨w2.heap.size, 0, none⟩ = some (.int .i64 x.x.op) ∧ wr.cell? ⟨w2.heap.size, 1, none⟩ = some (.int .i64 x.x.reg) ∧ wr.cell? ⟨w2.heap.size, 2, none⟩ = some (.int .i64 x.x.loc) ∧ wr.cell? ⟨w2.heap.size, 3, none⟩ = some (x.ev) ∧ wr.cell? ⟨w2.heap.size, 4, none⟩ = some (x.fv) ∧ wr.cell? ⟨w2.heap.size, 5, none⟩ = some (.bool x.x.ne) ∧ wr.cell? ⟨w2.heap.size, 6, none⟩ = some (.int .i64 x.x.to) ∧ w2.heap.size < wr.heap.size ∧ wr.cell? ⟨w4.heap.size, 0, none⟩ = some (.slice da0 dv.pc.length dk0) ∧ wr.cell? ⟨w4.heap.size, 1, none⟩ = some (.slice da1 dv.regs.length dk1) ∧ wr.cell? ⟨w4.heap.size, 2, none⟩ = some (.slice da2 dv.mem.length dk2) ∧ wr.cell? ⟨w4.heap.size, 3, none⟩ = some (.slice da3 dv.buf.length dk3) ∧ w4.heap.size < wr.heap.size := ⟨Kc.out.cell 0, Kc.out.cell 1, Kc.out.cell 2, Kc.out.cell 3, Kc.out.cell 4, Kc.out.cell 5, Kc.out.cell 6, Kc.out.cell 7, Kc.out.cell 8, Kc.out.cell 9, Kc.out.cell 10, Kc.out.cell 11, Kc.out.lt, Kx.out.cell 0, Kx.out.cell 1, Kx.out.cell 2, Kx.out.cell 3, Kx.out.cell 4, Kx.out.cell 5, Kx.out.cell 6, Kx.out.lt, Kd.out.cell 0, Kd.out.cell 1, Kd.out.cell 2, Kd.out.cell 3, Kd.out.lt⟩
                go_wp2_with fail
                refine HLS.out.mono ?_
                rintro e wz ⟨rfl, rfl⟩
                clear HLS
                cases q1 with
                | true =>
                  go_wp2_with fail
                  go_quiet (fail)
                  go_wp2_with fail
                  go_roundg (gk - 1)
                  case measure => omega
                  case rel => exact ⟨b + 1, by go_num, by omega, by omega, below_drewN' HW.out _⟩
                | false =>
                  have HRR := Lib.hid (fun (W : World) (h : Below wr.heap.size wr W) => HRC.out (a : Int) (b : Int) W (B.out.trans (h.mono B.out.size)))
                  rw [HRM.out rfl] at HRR
                  have hxx : (xm != xm) = false := by simp
                  have HCC := Lib.hid (fun (w' : World) (h : Below wr.heap.size wr w') => (⟨(h.cell (p := ⟨w.heap.size, _, none⟩) Kc.out.lt).trans (Kc.out.cell 0), (h.cell (p := ⟨w.heap.size, _, none⟩) Kc.out.lt).trans (Kc.out.cell 1), (h.cell (p := ⟨w.heap.size, _, none⟩) Kc.out.lt).trans (Kc.out.cell 2), (h.cell (p := ⟨w.heap.size, _, none⟩) Kc.out.lt).trans (Kc.out.cell 3), (h.cell (p := ⟨w.heap.size, _, none⟩) Kc.out.lt).trans (Kc.out.cell 4), (h.cell (p := ⟨w.heap.size, _, none⟩) Kc.out.lt).trans (Kc.out.cell 5), (h.cell (p := ⟨w.heap.size, _, none⟩) Kc.out.lt).trans (Kc.out.cell 6), (h.cell (p := ⟨w.heap.size, _, none⟩) Kc.out.lt).trans (Kc.out.cell 7), (h.cell (p := ⟨w.heap.size, _, none⟩) Kc.out.lt).trans (Kc.out.cell 8), (h.cell (p := ⟨w.heap.size, _, none⟩) Kc.out.lt).trans (Kc.out.cell 9), (h.cell (p := ⟨w.heap.size, _, none⟩) Kc.out.lt).trans (Kc.out.cell 10), (h.cell (p := ⟨w.heap.size, _, none⟩) Kc.out.lt).trans (Kc.out.cell 11), (h.cell (p := ⟨bm, _, none⟩) lm).trans ym, h⟩ : (fun w' => w'.cell? ⟨w.heap.size, 0, none⟩ = some (.int .i64 md) ∧ w'.cell? ⟨w.heap.size, 1, none⟩ = some (.slice ai nm ci) ∧ w'.cell? ⟨w.heap.size, 2, none⟩ = some (.slice ar nc cr) ∧ w'.cell? ⟨w.heap.size, 3, none⟩ = some (.slice (some ⟨bc, oc, none⟩) nc cc) ∧ w'.cell? ⟨w.heap.size, 4, none⟩ = some (.slice (some ⟨bp, op, none⟩) nc cp) ∧ w'.cell? ⟨w.heap.size, 5, none⟩ = some (.slice aq nc cq) ∧ w'.cell? ⟨w.heap.size, 6, none⟩ = some (.slice (some ⟨bm, om, none⟩) nm cm) ∧ w'.cell? ⟨w.heap.size, 7, none⟩ = some (.slice (some ⟨bb, ob, none⟩) nc cb) ∧ w'.cell? ⟨w.heap.size, 8, none⟩ = some (.int .i64 model) ∧ w'.cell? ⟨w.heap.size, 9, none⟩ = some (.int .i64 room) ∧ w'.cell? ⟨w.heap.size, 10, none⟩ = some (.int .i64 j) ∧ w'.cell? ⟨w.heap.size, 11, none⟩ = some (.int .i64 loc) ∧ w'.cell? ⟨bm, om + b, none⟩ = some (.int .i64 xm) ∧ Below wr.heap.size wr w') w'))
                  have bb0 : Below wr.heap.size wr wr := Below.refl _ _
                  go_wp2_with fail
                  clear cc0 cc1 cc2 cc3 cc4 cc5 cc6 cc7 cc8 cc9 cc10 cc11 ccl xc0 xc1 xc2 xc3 xc4 xc5 xc6 xcl dc0 dc1 dc2 dc3 dcl
                  clear ym y3 l3 lm
                  go_region_held3 (fun w' => w'.cell? ⟨w.heap.size, 0, none⟩ = some (.int .i64 md) ∧ w'.cell? ⟨w.heap.size, 1, none⟩ = some (.slice ai nm ci) ∧ w'.cell? ⟨w.heap.size, 2, none⟩ = some (.slice ar nc cr) ∧ w'.cell? ⟨w.heap.size, 3, none⟩ = some (.slice (some ⟨bc, oc, none⟩) nc cc) ∧ w'.cell? ⟨w.heap.size, 4, none⟩ = some (.slice (some ⟨bp, op, none⟩) nc cp) ∧ w'.cell? ⟨w.heap.size, 5, none⟩ = some (.slice aq nc cq) ∧ w'.cell? ⟨w.heap.size, 6, none⟩ = some (.slice (some ⟨bm, om, none⟩) nm cm) ∧ w'.cell? ⟨w.heap.size, 7, none⟩ = some (.slice (some ⟨bb, ob, none⟩) nc cb) ∧ w'.cell? ⟨w.heap.size, 8, none⟩ = some (.int .i64 model) ∧ w'.cell? ⟨w.heap.size, 9, none⟩ = some (.int .i64 room) ∧ w'.cell? ⟨w.heap.size, 10, none⟩ = some (.int .i64 j) ∧ w'.cell? ⟨w.heap.size, 11, none⟩ = some (.int .i64 loc) ∧ w'.cell? ⟨bm, om + b, none⟩ = some (.int .i64 xm) ∧ Below wr.heap.size wr w')
                    (first | with_reducible exact HCC.out _ bb0 | with_reducible exact HCC.out _ bb0.drew | with_reducible assumption | (go_split_ands; with_reducible exact HCC.out _ (by with_reducible assumption)))
                    ((first | (go_split_ands; (with_reducible refine Calls.mono (HRR.out _ (by assumption)) ?_); rintro e wn ⟨rfl, bn⟩; have bb1 : Below wr.heap.size wr wn := Below.trans (by assumption) (bn.mono (Below.size (by assumption))))))
                  all_goals
                    go_split_ands
                    go_wp2_with fail
                    go_roundg (gk - 1)
                    case measure => omega
                    case rel => exact ⟨b + 1, by go_num, by omega, by omega, HW.out.trans (Below.mono (by assumption) HW.out.size)⟩
              ·
                obtain ⟨cc0, cc1, cc2, cc3, cc4, cc5, cc6, cc7, cc8, cc9, cc10, cc11, ccl, xc0, xc1, xc2, xc3, xc4, xc5, xc6, xcl, dc0, dc1, dc2, dc3, dcl⟩ : wr.cell? ⟨w.heap.size, 0, none⟩ = some (.int .i64 md) ∧ wr.cell? ⟨w.heap.size, 1, none⟩ = some (.slice ai nm ci) ∧ wr.cell? ⟨w.heap.size, 2, none⟩ = some (.slice ar nc cr) ∧ wr.cell? ⟨w.heap.size, 3, none⟩ = some (.slice (some ⟨bc, oc, none⟩) nc cc) ∧ wr.cell? ⟨w.heap.size, 4, none⟩ = some (.slice (some ⟨bp, op, none⟩) nc cp) ∧ wr.cell? ⟨w.heap.size, 5, none⟩ = some (.slice aq nc cq) ∧ wr.cell? ⟨w.heap.size, 6, none⟩ = some (.slice am nm cm) ∧ wr.cell? ⟨w.heap.size, 7, none⟩ = some (.slice (some ⟨bb, ob, none⟩) nc cb) ∧ wr.cell? ⟨w.heap.size, 8, none⟩ = some (.int .i64 model) ∧ wr.cell? ⟨w.heap.size, 9, none⟩ = some (.int .i64 room) ∧ wr.cell? ⟨w.heap.size, 10, none⟩ = some (.int .i64 j) ∧ wr.cell? ⟨w.heap.size, 11, none⟩ = some (.int .i64 loc) ∧ w.heap.size < wr.heap.size ∧ wr.cell? ⟨w2.heap.size, 0, none⟩ = some (.int .i64 x.x.op) ∧ wr.cell? ⟨w2.heap.size, 1, none⟩ = some (.int .i64 x.x.reg) ∧ wr.cell? ⟨w2.heap.size, 2, none⟩ = some (.int .i64 x.x.loc) ∧ wr.cell? ⟨w2.heap.size, 3, none⟩ = some (x.ev) ∧ wr.cell? ⟨w2.heap.size, 4, none⟩ = some (x.fv) ∧ wr.cell? ⟨w2.heap.size, 5, none⟩ = some (.bool x.x.ne) ∧ wr.cell? ⟨w2.heap.size, 6, none⟩ = some (.int .i64 x.x.to) ∧ w2.heap.size < wr.heap.size ∧ wr.cell? ⟨w4.heap.size, 0, none⟩ = some (.slice da0 dv.pc.length dk0) ∧ wr.cell? ⟨w4.heap.size, 1, none⟩ = some (.slice da1 dv.regs.length dk1) ∧ wr.cell? ⟨w4.heap.size, 2, none⟩ = some (.slice da2 dv.mem.length dk2) ∧ wr.cell? ⟨w4.heap.size, 3, none⟩ = some (.slice da3 dv.buf.length dk3) ∧ w4.heap.size < wr.heap.size := ⟨Kc.out.cell 0, Kc.out.cell 1, Kc.out.cell 2, Kc.out.cell 3, Kc.out.cell 4, Kc.out.cell 5, Kc.out.cell 6, Kc.out.cell 7, Kc.out.cell 8, Kc.out.cell 9, Kc.out.cell 10, Kc.out.cell 11, Kc.out.lt, Kx.out.cell 0, Kx.out.cell 1, Kx.out.cell 2, Kx.out.cell 3, Kx.out.cell 4, Kx.out.cell 5, Kx.out.cell 6, Kx.out.lt, Kd.out.cell 0, Kd.out.cell 1, Kd.out.cell 2, Kd.out.cell 3, Kd.out.lt⟩
                go_wp2_with fail
                clear cc0 cc1 cc2 cc3 cc4 cc5 cc6 cc7 cc8 cc9 cc10 cc11 ccl xc0 xc1 xc2 xc3 xc4 xc5 xc6 xcl dc0 dc1 dc2 dc3 dcl
                go_roundg (ga - 1)
                case measure => omega
                case rel => exact ⟨a + 1, by go_num, by omega, by omega, HB.out⟩
          ·
            have HX1 := Lib.hid (HRC.out (-1) 0 wr B.out)
            rw [reads_out _ _ (Or.inl (by omega))] at HX1
            obtain ⟨cc0, cc1, cc2, cc3, cc4, cc5, cc6, cc7, cc8, cc9, cc10, cc11, ccl, xc0, xc1, xc2, xc3, xc4, xc5, xc6, xcl, dc0, dc1, dc2, dc3, dcl⟩ : wr.cell? ⟨w.heap.size, 0, none⟩ = some (.int .i64 md) ∧ wr.cell? ⟨w.heap.size, 1, none⟩ = some (.slice ai nm ci) ∧ wr.cell? ⟨w.heap.size, 2, none⟩ = some (.slice ar nc cr) ∧ wr.cell? ⟨w.heap.size, 3, none⟩ = some (.slice (some ⟨bc, oc, none⟩) nc cc) ∧ wr.cell? ⟨w.heap.size, 4, none⟩ = some (.slice (some ⟨bp, op, none⟩) nc cp) ∧ wr.cell? ⟨w.heap.size, 5, none⟩ = some (.slice aq nc cq) ∧ wr.cell? ⟨w.heap.size, 6, none⟩ = some (.slice am nm cm) ∧ wr.cell? ⟨w.heap.size, 7, none⟩ = some (.slice ab nc cb) ∧ wr.cell? ⟨w.heap.size, 8, none⟩ = some (.int .i64 model) ∧ wr.cell? ⟨w.heap.size, 9, none⟩ = some (.int .i64 room) ∧ wr.cell? ⟨w.heap.size, 10, none⟩ = some (.int .i64 j) ∧ wr.cell? ⟨w.heap.size, 11, none⟩ = some (.int .i64 loc) ∧ w.heap.size < wr.heap.size ∧ wr.cell? ⟨w2.heap.size, 0, none⟩ = some (.int .i64 x.x.op) ∧ wr.cell? ⟨w2.heap.size, 1, none⟩ = some (.int .i64 x.x.reg) ∧ wr.cell? ⟨w2.heap.size, 2, none⟩ = some (.int .i64 x.x.loc) ∧ wr.cell? ⟨w2.heap.size, 3, none⟩ = some (x.ev) ∧ wr.cell? ⟨w2.heap.size, 4, none⟩ = some (x.fv) ∧ wr.cell? ⟨w2.heap.size, 5, none⟩ = some (.bool x.x.ne) ∧ wr.cell? ⟨w2.heap.size, 6, none⟩ = some (.int .i64 x.x.to) ∧ w2.heap.size < wr.heap.size ∧ wr.cell? ⟨w4.heap.size, 0, none⟩ = some (.slice da0 dv.pc.length dk0) ∧ wr.cell? ⟨w4.heap.size, 1, none⟩ = some (.slice da1 dv.regs.length dk1) ∧ wr.cell? ⟨w4.heap.size, 2, none⟩ = some (.slice da2 dv.mem.length dk2) ∧ wr.cell? ⟨w4.heap.size, 3, none⟩ = some (.slice da3 dv.buf.length dk3) ∧ w4.heap.size < wr.heap.size := ⟨Kc.out.cell 0, Kc.out.cell 1, Kc.out.cell 2, Kc.out.cell 3, Kc.out.cell 4, Kc.out.cell 5, Kc.out.cell 6, Kc.out.cell 7, Kc.out.cell 8, Kc.out.cell 9, Kc.out.cell 10, Kc.out.cell 11, Kc.out.lt, Kx.out.cell 0, Kx.out.cell 1, Kx.out.cell 2, Kx.out.cell 3, Kx.out.cell 4, Kx.out.cell 5, Kx.out.cell 6, Kx.out.lt, Kd.out.cell 0, Kd.out.cell 1, Kd.out.cell 2, Kd.out.cell 3, Kd.out.lt⟩
            go_wp2_with fail
            clear cc0 cc1 cc2 cc3 cc4 cc5 cc6 cc7 cc8 cc9 cc10 cc11 ccl xc0 xc1 xc2 xc3 xc4 xc5 xc6 xcl dc0 dc1 dc2 dc3 dcl
            refine HX1.out.mono ?_
            rintro e v1 ⟨rfl, b⟩
            clear HX1
            replace Kc := Lib.hid (Kc.out.below b)
            replace Kx := Lib.hid (Kx.out.below b)
            replace Kd := Lib.hid (Kd.out.below b)
            replace B := Lib.hid (B.out.trans (b.mono B.out.size))
            clear b
            have HX2 := Lib.hid (HRC.out 0 (nm : Int) v1 B.out)
            rw [reads_out _ _ (Or.inr (Or.inr (by show (c.mem.length : Int) ≤ _; rw [hnm.out]; exact Int.le_refl _)))] at HX2
            obtain ⟨cc0, cc1, cc2, cc3, cc4, cc5, cc6, cc7, cc8, cc9, cc10, cc11, ccl, xc0, xc1, xc2, xc3, xc4, xc5, xc6, xcl, dc0, dc1, dc2, dc3, dcl⟩ : v1.cell? ⟨w.heap.size, 0, none⟩ = some (.int .i64 md) ∧ v1.cell? ⟨w.heap.size, 1, none⟩ = some (.slice ai nm ci) ∧ v1.cell? ⟨w.heap.size, 2, none⟩ = some (.slice ar nc cr) ∧ v1.cell? ⟨w.heap.size, 3, none⟩ = some (.slice (some ⟨bc, oc, none⟩) nc cc) ∧ v1.cell? ⟨w.heap.size, 4, none⟩ = some (.slice (some ⟨bp, op, none⟩) nc cp) ∧ v1.cell? ⟨w.heap.size, 5, none⟩ = some (.slice aq nc cq) ∧ v1.cell? ⟨w.heap.size, 6, none⟩ = some (.slice am nm cm) ∧ v1.cell? ⟨w.heap.size, 7, none⟩ = some (.slice ab nc cb) ∧ v1.cell? ⟨w.heap.size, 8, none⟩ = some (.int .i64 model) ∧ v1.cell? ⟨w.heap.size, 9, none⟩ = some (.int .i64 room) ∧ v1.cell? ⟨w.heap.size, 10, none⟩ = some (.int .i64 j) ∧ v1.cell? ⟨w.heap.size, 11, none⟩ = some (.int .i64 loc) ∧ w.heap.size < v1.heap.size ∧ v1.cell? ⟨w2.heap.size, 0, none⟩ = some (.int .i64 x.x.op) ∧ v1.cell? ⟨w2.heap.size, 1, none⟩ = some (.int .i64 x.x.reg) ∧ v1.cell? ⟨w2.heap.size, 2, none⟩ = some (.int .i64 x.x.loc) ∧ v1.cell? ⟨w2.heap.size, 3, none⟩ = some (x.ev) ∧ v1.cell? ⟨w2.heap.size, 4, none⟩ = some (x.fv) ∧ v1.cell? ⟨w2.heap.size, 5, none⟩ = some (.bool x.x.ne) ∧ v1.cell? ⟨w2.heap.size, 6, none⟩ = some (.int .i64 x.x.to) ∧ w2.heap.size < v1.heap.size ∧ v1.cell? ⟨w4.heap.size, 0, none⟩ = some (.slice da0 dv.pc.length dk0) ∧ v1.cell? ⟨w4.heap.size, 1, none⟩ = some (.slice da1 dv.regs.length dk1) ∧ v1.cell? ⟨w4.heap.size, 2, none⟩ = some (.slice da2 dv.mem.length dk2) ∧ v1.cell? ⟨w4.heap.size, 3, none⟩ = some (.slice da3 dv.buf.length dk3) ∧ w4.heap.size < v1.heap.size := ⟨Kc.out.cell 0, Kc.out.cell 1, Kc.out.cell 2, Kc.out.cell 3, Kc.out.cell 4, Kc.out.cell 5, Kc.out.cell 6, Kc.out.cell 7, Kc.out.cell 8, Kc.out.cell 9, Kc.out.cell 10, Kc.out.cell 11, Kc.out.lt, Kx.out.cell 0, Kx.out.cell 1, Kx.out.cell 2, Kx.out.cell 3, Kx.out.cell 4, Kx.out.cell 5, Kx.out.cell 6, Kx.out.lt, Kd.out.cell 0, Kd.out.cell 1, Kd.out.cell 2, Kd.out.cell 3, Kd.out.lt⟩
            go_wp2_with fail
            clear cc0 cc1 cc2 cc3 cc4 cc5 cc6 cc7 cc8 cc9 cc10 cc11 ccl xc0 xc1 xc2 xc3 xc4 xc5 xc6 xcl dc0 dc1 dc2 dc3 dcl
            refine HX2.out.mono ?_
            rintro e v2 ⟨rfl, b⟩
            clear HX2
            replace Kc := Lib.hid (Kc.out.below b)
            replace Kx := Lib.hid (Kx.out.below b)
            replace Kd := Lib.hid (Kd.out.below b)
            replace B := Lib.hid (B.out.trans (b.mono B.out.size))
            clear b
            go_wp2_with fail
            refine (HKN.out v2).mono ?_
            rintro e v3 ⟨rfl, b⟩
            replace Kc := Lib.hid (Kc.out.below b)
            replace Kx := Lib.hid (Kx.out.below b)
            replace Kd := Lib.hid (Kd.out.below b)
            replace B := Lib.hid (B.out.trans (b.mono B.out.size))
            clear b
            go_wp2
            go_ret
            exact ⟨ret_bool rfl, B.out⟩

end Go.Proofs.Ytobmbkgeafbamaa
