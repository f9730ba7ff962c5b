/- The reference's Act. -/
import Derived.Test.YtacbanfnakgecaaGreatTg
import Derived.Test.YtacbanfnakgecaaGreatYb
namespace Go.Proofs.YtacbanfnakgecaaGreat
set_option linter.unusedSimpArgs false
set_option linter.unusedVariables false
open Go.RowKit
theorem bk4 {W : World} {p T : Nat} {a b c d : Value} (h : Bk W p T #[a, b, c, d]) : W.cell? ⟨p, 0, none⟩ = some a ∧ W.cell? ⟨p, 1, none⟩ = some b ∧ W.cell? ⟨p, 2, none⟩ = some c ∧ W.cell? ⟨p, 3, none⟩ = some d ∧ p < W.heap.size := ⟨h.cell 0, h.cell 1, h.cell 2, h.cell 3, h.lt⟩
theorem bk7 {W : World} {p T : Nat} {a b c d e f g : Value} (h : Bk W p T #[a, b, c, d, e, f, g]) : W.cell? ⟨p, 0, none⟩ = some a ∧ W.cell? ⟨p, 1, none⟩ = some b ∧ W.cell? ⟨p, 2, none⟩ = some c ∧ W.cell? ⟨p, 3, none⟩ = some d ∧ W.cell? ⟨p, 4, none⟩ = some e ∧ W.cell? ⟨p, 5, none⟩ = some f ∧ W.cell? ⟨p, 6, none⟩ = some g ∧ p < W.heap.size := ⟨h.cell 0, h.cell 1, h.cell 2, h.cell 3, h.cell 4, h.cell 5, h.cell 6, h.lt⟩
theorem bkf4 {W : World} {p T : Nat} {a b c d : Value} (h : Bk W p T #[a, b, c, d]) : W.frozen? ⟨p, 0, none⟩ = false ∧ W.frozen? ⟨p, 1, none⟩ = false ∧ W.frozen? ⟨p, 2, none⟩ = false ∧ W.frozen? ⟨p, 3, none⟩ = false := ⟨h.fz 0, h.fz 1, h.fz 2, h.fz 3⟩
theorem ins_at2 {u : Un} {c : Cf} {model room : Int} {w : World} {ac ap : Option Addr} {ncd ccd npp cpp : Nat} {vi vr xr xm xb : Value} (hu : UnD w vi vr (.slice ac ncd ccd) u) (hc : CfD w (.slice ap npp cpp) xr xm xb c) (hR : RightP u c.pf model room) (k : Nat) (hk : k < u.code.length) :
    ∃ bp op bc oc bi oi nl mx pc x, ap = some ⟨bp, op, none⟩ ∧ ac = some ⟨bc, oc, none⟩ ∧ bp < w.heap.size ∧ bc < w.heap.size ∧ bi < w.heap.size ∧ w.cell? ⟨bp, op + k, none⟩ = some (.int .i64 (pc : Nat)) ∧ w.cell? ⟨bc, oc + k, none⟩ = some (.slice (some ⟨bi, oi, none⟩) nl mx) ∧ pc < nl ∧ nl ≤ 1000 ∧
      IsAt w bi (oi + pc * 7) x ∧ Thr u c.pf model room k pc x := by
  have hlc := rightU_lc hR.ru
  have hkr : k < u.regs.length := by omega
  have hkp : k < c.pc.length := by have : c.pc.length = u.regs.length := hR.lp; omega
  obtain ⟨pc, x, T⟩ := hR.thr k hkr
  obtain ⟨bp, op, rfl, hbp, yp⟩ := IntsD.at2 hc.p k hkp
  obtain ⟨bc, oc, rfl, hbc, hx⟩ := SlD.at hu.c k hk
  obtain ⟨hx1, hx2⟩ := hx
  obtain ⟨ax, mx, hxv⟩ := hx2.shape0
  rw [hxv] at hx1 hx2
  have hg : u.code.getD k ([], undef) = u.code[k] := by rw [List.getD_eq_getElem?_getD, List.getElem?_eq_getElem hk]; rfl
  have hpl : pc < (u.code[k]).1.length := by have := T.hpl; rw [hg] at this; exact this
  have hle : (u.code[k]).1.length ≤ 1000 := by have := T.hl; rw [hg] at this; exact this
  obtain ⟨bi, oi, rfl, hbi, hI⟩ := SlD.at hx2 pc hpl
  have hp : c.pc[k] = (pc : Int) := by have h1 : c.pc.getD k 0 = (pc : Int) := T.hp; rw [List.getD_eq_getElem?_getD, List.getElem?_eq_getElem hkp] at h1; exact h1
  rw [hp] at yp
  have hxe : (u.code[k]).1[pc] = x := by
    have := T.hx
    rw [hg, List.getD_eq_getElem?_getD, List.getElem?_eq_getElem hpl] at this
    exact this
  rw [hxe] at hI
  exact ⟨bp, op, bc, oc, bi, oi, _, mx, pc, x, rfl, rfl, hbp, hbc, hbi, yp, by rw [Nat.mul_one] at hx1; exact hx1, hpl, hle, hI, T⟩
theorem thr_reg {u : Un} {p : Pf} {model room : Int} {k pc : Nat} {x : II} (T : Thr u p model room k pc x) (h : hasR x.x.op = true) : ∃ i : Nat, x.x.reg = i ∧ i < (p.regs.getD k []).length := by
  have hins := T.ins
  unfold insB at hins
  simp only [Bool.and_eq_true] at hins
  have hi1 := hins.2.1
  rw [h] at hi1
  have := idx_of hi1
  exact ⟨x.x.reg.toNat, by omega, by have := T.rl; omega⟩
theorem thr_loc {u : Un} {p : Pf} {model room : Int} {k pc : Nat} {x : II} (hR : RightP u p model room) (T : Thr u p model room k pc x) (h : hasL x.x.op = true) : ∃ j : Nat, x.x.loc = j ∧ j < p.mem.length := by
  have hins := T.ins
  unfold insB at hins
  simp only [Bool.and_eq_true] at hins
  have hi1 := hins.2.2.1
  rw [h] at hi1
  have := idx_of hi1
  exact ⟨x.x.loc.toNat, by omega, by rw [hR.lm]; omega⟩
theorem St.putPc {B N : Nat} {w : World} {a0 : Option Addr} {m0 n0 : Nat} {xr xm xb : Value} {c : Cf} (h : St B N w (.slice a0 m0 n0) xr xm xb c) (k : Nat) (hk : k < c.pf.pc.length) :
    ∃ g u, a0 = some ⟨g, 0, none⟩ ∧ k < m0 ∧ B ≤ g ∧ g < N ∧ g < w.heap.size ∧ w.cell? ⟨g, k, none⟩ = some u ∧ w.frozen? ⟨g, k, none⟩ = false ∧ (∀ q, xm.ownBlock = some q → ¬ g = q) ∧
      ∀ v : Int, ∃ c' : Cf, c'.pf = { c.pf with pc := c.pf.pc.set k v } ∧ St B N (w.setCell ⟨g, k, none⟩ (.int .i64 v)) (.slice a0 m0 n0) xr xm xb c' ∧ Fr B N w (w.setCell ⟨g, k, none⟩ (.int .i64 v)) := by
  obtain ⟨g, cap, hv, h1, h2, h3, h4, h5⟩ := h.pcAt k hk
  injection hv with e1 e2 e3
  exact ⟨g, _, e1, by rw [e2]; exact hk, (h.o.p.lt g (by rw [e1]; rfl)).1, h1, h2, h3, h4, (fun q hq e => h.d.pm g (by rw [e1]; rfl) (by rw [hq, e])), fun v => ⟨_, rfl, (h5 v).1, (h5 v).2⟩⟩
theorem St.putMem {B N : Nat} {w : World} {a0 : Option Addr} {m0 n0 : Nat} {xp xr xb : Value} {c : Cf} (h : St B N w xp xr (.slice a0 m0 n0) xb c) (k : Nat) (hk : k < c.pf.mem.length) :
    ∃ g u, a0 = some ⟨g, 0, none⟩ ∧ k < m0 ∧ B ≤ g ∧ g < N ∧ g < w.heap.size ∧ w.cell? ⟨g, k, none⟩ = some u ∧ w.frozen? ⟨g, k, none⟩ = false ∧
      ∀ v : Int, ∃ c' : Cf, c'.pf = { c.pf with mem := c.pf.mem.set k v } ∧ St B N (w.setCell ⟨g, k, none⟩ (.int .i64 v)) xp xr (.slice a0 m0 n0) xb c' ∧ Fr B N w (w.setCell ⟨g, k, none⟩ (.int .i64 v)) := by
  obtain ⟨g, cap, hv, h1, h2, h3, h4, h5⟩ := h.memAt k hk
  injection hv with e1 e2 e3
  exact ⟨g, _, e1, by rw [e2]; exact hk, (h.o.m.lt g (by rw [e1]; rfl)).1, h1, h2, h3, h4, fun v => ⟨_, rfl, (h5 v).1, (h5 v).2⟩⟩
theorem St.putBuf {B N : Nat} {w : World} {a0 : Option Addr} {m0 n0 : Nat} {xp xr xm : Value} {c : Cf} (h : St B N w xp xr xm (.slice a0 m0 n0) c) (k : Nat) (hk : k < c.pf.buf.length) :
    ∃ g u, a0 = some ⟨g, 0, none⟩ ∧ k < m0 ∧ B ≤ g ∧ g < N ∧ g < w.heap.size ∧ w.cell? ⟨g, k, none⟩ = some u ∧ w.frozen? ⟨g, k, none⟩ = false ∧
      ∀ (l : List Ent) (v : Value), OwnE w B v l → ∃ c' : Cf, c'.pf = { c.pf with buf := c.pf.buf.set k l } ∧ St B N (w.setCell ⟨g, k, none⟩ v) xp xr xm (.slice a0 m0 n0) c' ∧ Fr B N w (w.setCell ⟨g, k, none⟩ v) := by
  have hk' : k < c.buf.length := by have : c.pf.buf.length = c.buf.length := by simp [Cf.pf]
                                    omega
  obtain ⟨g, cap, hv, h1, h2, h3, h4, h5⟩ := h.bufAt k hk'
  injection hv with e1 e2 e3
  refine ⟨g, _, e1, by rw [e2]; exact hk', (h.o.b.h.lt g (by rw [e1]; rfl)).1, h1, h2, h3, h4, fun l v hl => ⟨_, ?_, (h5 l v hl).1, (h5 l v hl).2⟩⟩
  simp [Cf.pf, List.map_set]
theorem St.putReg {B N : Nat} {w : World} {a0 : Option Addr} {m0 n0 : Nat} {xp xm xb : Value} {c : Cf} (h : St B N w xp (.slice a0 m0 n0) xm xb c) (k : Nat) (hk : k < c.pf.regs.length) (i : Nat) (hi : i < (c.pf.regs.getD k []).length) :
    ∃ g1 g mr cr u, a0 = some ⟨g1, 0, none⟩ ∧ k < m0 ∧ g1 < w.heap.size ∧ w.cell? ⟨g1, k, none⟩ = some (.slice (some ⟨g, 0, none⟩) mr cr) ∧ i < mr ∧ B ≤ g ∧ g < N ∧ g < w.heap.size ∧ w.cell? ⟨g, i, none⟩ = some u ∧ w.frozen? ⟨g, i, none⟩ = false ∧ (∀ q, xm.ownBlock = some q → ¬ g = q) ∧
      ∀ v : Int, ∃ c' : Cf, c'.pf = { c.pf with regs := setI c.pf.regs k i v } ∧ St B N (w.setCell ⟨g, i, none⟩ (.int .i64 v)) xp (.slice a0 m0 n0) xm xb c' ∧ Fr B N w (w.setCell ⟨g, i, none⟩ (.int .i64 v)) := by
  have hk' : k < c.regs.length := by have : c.pf.regs.length = c.regs.length := by simp [Cf.pf]
                                     omega
  have hr : c.pf.regs.getD k [] = (c.regs[k]).1 := by
    show (c.regs.map (·.1)).getD k [] = _
    rw [getD_map, List.getD_eq_getElem?_getD, List.getElem?_eq_getElem hk']; rfl
  rw [hr] at hi
  obtain ⟨g1, cp1, hv1, _, hl1, hc1⟩ := h.o.regRow k hk'
  obtain ⟨g, cap, hv, h1, h2, h3, h4, h5⟩ := h.regAt k hk' i hi
  rw [hv] at hc1
  injection hv1 with e1 e2 e3
  refine ⟨g1, g, _, _, _, e1, by rw [e2]; exact hk', hl1, hc1, hi, ((h.o.r.r _ (List.getElem_mem hk')).lt g (by rw [hv]; rfl)).1, h1, h2, h3, h4, (fun q hq e => h.d.mr _ (List.getElem_mem hk') q hq (by rw [hv, ← e]; rfl)), fun v => ⟨_, ?_, (h5 v).1, (h5 v).2⟩⟩
  unfold setI
  rw [hr]
  simp [Cf.pf, List.map_set]
theorem St.putReg2 {B N : Nat} {w : World} {a0 : Option Addr} {m0 n0 : Nat} {xp xm xb : Value} {c : Cf} (h : St B N w xp (.slice a0 m0 n0) xm xb c) (k : Nat) (hk : k < c.pf.regs.length) (i : Nat) (hi : i < (c.pf.regs.getD k []).length) :
    ∃ g1 g mr cr, a0 = some ⟨g1, 0, none⟩ ∧ k < m0 ∧ g1 < w.heap.size ∧ w.cell? ⟨g1, k, none⟩ = some (.slice (some ⟨g, 0, none⟩) mr cr) ∧ i < mr ∧ B ≤ g ∧ g < N ∧ ¬ g = g1 ∧ ∀ W : World, Below w.heap.size w W → ∃ u, g < W.heap.size ∧ W.cell? ⟨g, i, none⟩ = some u ∧ W.frozen? ⟨g, i, none⟩ = false ∧
      ∀ v : Int, ∃ c' : Cf, c'.pf = { c.pf with regs := setI c.pf.regs k i v } ∧ St B N (W.setCell ⟨g, i, none⟩ (.int .i64 v)) xp (.slice a0 m0 n0) xm xb c' ∧ Fr B N W (W.setCell ⟨g, i, none⟩ (.int .i64 v)) := by
  obtain ⟨g1, g, mr, cr, u, e1, h2, h3, h4, h5, h6, h7, h8, h9, h10, _, _⟩ := h.putReg k hk i hi
  have hk' : k < c.regs.length := by have : c.pf.regs.length = c.regs.length := by simp [Cf.pf]
                                     omega
  have hne : ¬ g = g1 := by
    intro e
    have h4' := h4
    obtain ⟨g1', cp1, hv1, _, _, hc1⟩ := h.o.regRow k hk'
    rw [e1] at hv1
    injection hv1 with q1 q2 q3
    injection q1 with q1
    injection q1 with q1 _ _
    subst q1
    rw [hc1] at h4'
    injection h4' with h4'
    exact apart_types h.o.r.h (h.o.r.r _ (List.getElem_mem hk')) (by decide) g1 (by rw [e1]; rfl) (by rw [h4', e]; rfl)
  refine ⟨g1, g, mr, cr, e1, h2, h3, h4, h5, h6, h7, hne, fun W hW => ?_⟩
  obtain ⟨g1', g', mr', cr', u', e1', _, _, k4, _, _, _, k8, k9, k10, _, k12⟩ := (h.below hW).putReg k hk i hi
  rw [e1] at e1'
  injection e1' with e1'
  injection e1' with e1' _ _
  subst e1'
  have hh := (hW.cell (p := ⟨g1, k, none⟩) h3).trans h4
  rw [hh] at k4
  injection k4 with k4
  injection k4 with k4 _ _
  injection k4 with k4
  injection k4 with k4 _ _
  subst k4
  exact ⟨u', k8, k9, k10, k12⟩
set_option maxRecDepth 100000 in
set_option maxHeartbeats 64000000 in
theorem ract_any (u : Un) (c : Cf) (model room t : Int) (vi vr vc ap ar am ab : Value) (w : World) (hu : UnD w vi vr vc u) (hc : CfD w ap ar am ab c) (hs : ShortC c) (hus : ∀ k pc, (iiAt u k pc).x.e.length ≤ 100000 ∧ (iiAt u k pc).x.f.length ≤ 100000) (hR : RightP u c.pf model room) :
    Calls Tryz.prog 9 #[.agg #[.int .i64 u.mod, vi, vr, vc], .agg #[ap, ar, am, ab], .int .i64 model, .int .i64 room, .int .i64 t] w fun e w' => ∃ (d : Cf) (yp yr ym yb : Value), e = .returned (.tuple #[.agg #[yp, yr, ym, yb], .bool (enT u c.pf model room t)]) ∧ OwnC w' w.heap.size yp yr ym yb d ∧ d.pf = actT u c.pf model room t ∧ Below w.heap.size w w' := by
  obtain ⟨vca, cc, rfl⟩ := hu.c.shape0
  obtain ⟨apa, cp, rfl⟩ := hc.p.shape0
  obtain ⟨ara, cr, rfl⟩ := hc.r.shape0
  obtain ⟨ama, cm, rfl⟩ := hc.m.shape0
  obtain ⟨aba, cb, rfl⟩ := hc.b.shape0
  have HCP := Lib.hid (fun (W : World) (h : Below w.heap.size w W) => rcopy_any c _ _ _ _ W (hc.below h) hs)
  have HEN := Lib.hid (fun (W : World) (h : Below w.heap.size w W) => renabled_any u c model room t _ _ _ _ _ _ _ W (hu.below h) (hc.below h) hs hus hR _ rfl)
  have HVL := Lib.hid (fun (k : Nat) (hk : k < c.regs.length) (l : List Opn) (lv : Value) (hl : OpsD w lv l) (hn : l.length ≤ 100000) (W : World) (h : Below w.heap.size w W) => rval_any u c k l _ _ _ _ _ _ _ lv W (hu.below h) (hc.below h) hk hs.rr (OpsD.below hl h) hn _ (valC_pf u c k l))
  have HRD := Lib.hid (fun (k l : Int) (W : World) (h : Below w.heap.size w W) => rreads_any c k l _ _ _ _ W (hc.below h) hs.bb _ (readsC_pf c k l))
  have HIN := Lib.hid (fun (k : Nat) (hk : k < u.code.length) => ins_at2 hu hc hR k hk)
  have HBF := Lib.hid (fun (k : Nat) (hk : k < c.buf.length) => buf_at hc k hk)
  have HMM := Lib.hid (fun (k : Nat) (hk : k < c.mem.length) => IntsD.at2 hc.m k hk)
  have HBB := Lib.hid hs.bb
  have HUS := Lib.hid hus
  have HR := Lib.hid hR
  clear hu hc hs hus hR
  obtain ⟨q, hq⟩ : ∃ q, enT u c.pf model room t = q := ⟨_, rfl⟩
  rw [hq] at HEN ⊢
  have HQ := Lib.hid hq
  clear hq
  obtain ⟨np, hnp⟩ : ∃ n, n = c.pc.length := ⟨_, rfl⟩
  obtain ⟨nr, hnr⟩ : ∃ n, n = c.regs.length := ⟨_, rfl⟩
  obtain ⟨nm, hnm⟩ : ∃ n, n = c.mem.length := ⟨_, rfl⟩
  obtain ⟨nb, hnb⟩ : ∃ n, n = c.buf.length := ⟨_, rfl⟩
  obtain ⟨nc, hnc⟩ : ∃ n, n = u.code.length := ⟨_, rfl⟩
  obtain ⟨md, hmd⟩ : ∃ n, n = u.mod := ⟨_, rfl⟩
  rw [← hnp, ← hnr, ← hnm, ← hnb] at HCP HRD
  rw [← hnp, ← hnr, ← hnm, ← hnb, ← hnc, ← hmd] at HEN HVL ⊢
  rw [← hnc] at HIN
  
  rw [← hnb] at HBF
  have HN := Lib.hid (And.intro hnp (And.intro hnr (And.intro hnm (And.intro hnb (And.intro hnc hmd)))))
  clear hnp hnr hnm hnb hnc hmd
  have L2 := two_new w 25 29 #[.int .i64 md, vi, vr, .slice vca nc cc] #[.slice apa np cp, .slice ara nr cr, .slice ama nm cm, .slice aba nb cb]
  have B := Lib.hid (bal L2.1 (.cells #[.slice none 0 0, .slice none 0 0, .slice none 0 0, .slice none 0 0] 29))
  have Ku := Lib.hid (bk_alloc L2.2.1 (.cells #[.slice none 0 0, .slice none 0 0, .slice none 0 0, .slice none 0 0] 29))
  have Kc := Lib.hid (bk_alloc L2.2.2 (.cells #[.slice none 0 0, .slice none 0 0, .slice none 0 0, .slice none 0 0] 29))
  have Kz := Lib.hid (bk_at3 w (.cells #[.int .i64 md, vi, vr, .slice vca nc cc] 25) (.cells #[.slice apa np cp, .slice ara nr cr, .slice ama nm cm, .slice aba nb cb] 29) 29 #[.slice none 0 0, .slice none 0 0, .slice none 0 0, .slice none 0 0])
  have SZ : Hid ((((w.alloc (.cells #[.int .i64 md, vi, vr, .slice vca nc cc] 25)).alloc (.cells #[.slice apa np cp, .slice ara nr cr, .slice ama nm cm, .slice aba nb cb] 29)).alloc (.cells #[.slice none 0 0, .slice none 0 0, .slice none 0 0, .slice none 0 0] 29)).heap.size = w.heap.size + 1 + 1 + 1) := Lib.hid (by simp only [alloc_size])
  clear L2
  go_enter Tryz.func9, Tryz.ntmps9
  go_wp2_with fail
  generalize World.alloc (World.alloc (World.alloc w _) _) _ = w0 at B Ku Kc Kz SZ ⊢
  refine (HCP.out w0 B.out).mono ?_
  rintro e w1 ⟨d, yp, yr, ym, yb, rfl, od, hpf, b, dj⟩
  have HPF := Lib.hid hpf
  clear hpf
  obtain ⟨a0, n0, a1, n1, a2, n2, a3, n3, rfl, rfl, rfl, rfl⟩ := od.shapes
  have SS := Lib.hid (St.of od dj b.size)
  have HB0 : Hid (w0.heap.size ≤ w1.heap.size) := Lib.hid b.size
  have HLW : Hid (w.heap.size ≤ w0.heap.size) := Lib.hid (by have := SZ.out; omega)
  obtain ⟨w1s, hw1s⟩ : ∃ z, z = w1.heap.size := ⟨_, rfl⟩
  rw [← hw1s] at SS HB0
  replace Ku := Lib.hid (Ku.out.below b)
  replace Kc := Lib.hid (Kc.out.below b)
  replace Kz := Lib.hid (Kz.out.below b)
  replace B := Lib.hid (B.out.trans (b.mono B.out.size))
  clear b od dj
  obtain ⟨m0, hm0⟩ : ∃ n, n = d.pc.length := ⟨_, rfl⟩
  obtain ⟨m1, hm1⟩ : ∃ n, n = d.regs.length := ⟨_, rfl⟩
  obtain ⟨m2, hm2⟩ : ∃ n, n = d.mem.length := ⟨_, rfl⟩
  obtain ⟨m3, hm3⟩ : ∃ n, n = d.buf.length := ⟨_, rfl⟩
  rw [← hm0, ← hm1, ← hm2, ← hm3] at SS ⊢
  clear hm0 hm1 hm2 hm3
  have Kd := Lib.hid (Bk.new w1 29 #[.slice a0 m0 n0, .slice a1 m1 n1, .slice a2 m2 n2, .slice a3 m3 n3])
  have BW : Hid (Below w1.heap.size w1 (World.alloc w1 (.cells #[.slice a0 m0 n0, .slice a1 m1 n1, .slice a2 m2 n2, .slice a3 m3 n3] 29))) := Lib.hid (bal (Below.refl _ _) _)
  obtain ⟨w2, hw2⟩ : ∃ z, World.alloc w1 (.cells #[.slice a0 m0 n0, .slice a1 m1 n1, .slice a2 m2 n2, .slice a3 m3 n3] 29) = z := ⟨_, rfl⟩
  rw [hw2] at Kd BW
  replace Ku := Lib.hid (Ku.out.below BW.out)
  replace Kc := Lib.hid (Kc.out.below BW.out)
  replace Kz := Lib.hid (Kz.out.below BW.out)
  replace SS := Lib.hid (SS.out.below BW.out)
  replace B := Lib.hid (B.out.trans (BW.out.mono B.out.size))
  clear BW
  rw [← hw1s] at Kd
  obtain ⟨uc0, uc1, uc2, uc3, ucl⟩ := bk4 Ku.out
  obtain ⟨cc0, cc1, cc2, cc3, ccl⟩ := bk4 Kc.out
  obtain ⟨zc0, zc1, zc2, zc3, zcl⟩ := bk4 Kz.out
  obtain ⟨dc0, dc1, dc2, dc3, dcl⟩ := bk4 Kd.out
  go_wp2_with fail
  rw [← hw1s]
  clear hw1s hw2
  clear uc0 uc1 uc2 uc3 ucl cc0 cc1 cc2 cc3 ccl zc0 zc1 zc2 zc3 zcl dc0 dc1 dc2 dc3 dcl
  refine (HEN.out w2 B.out).mono ?_
  rintro e w3 ⟨rfl, b⟩
  replace Ku := Lib.hid (Ku.out.below b)
  replace Kc := Lib.hid (Kc.out.below b)
  replace Kz := Lib.hid (Kz.out.below b)
  replace Kd := Lib.hid (Kd.out.below b)
  replace SS := Lib.hid (SS.out.below b)
  replace B := Lib.hid (B.out.trans (b.mono B.out.size))
  clear b
  cases q with
  | false =>
    have hp : d.pf = actT u c.pf model room t := by rw [HPF.out]; unfold actT; rw [if_neg (by rw [HQ.out]; simp)]
    obtain ⟨z0, z1, z2, z3, lz⟩ := bk4 Kz.out
    obtain ⟨y0, y1, y2, y3⟩ := bkf4 Kz.out
    obtain ⟨dc0, dc1, dc2, dc3, dcl⟩ := bk4 Kd.out
    go_wp2_with fail
    clear dc0 dc1 dc2 dc3 dcl
    have KF := Lib.hid (set4_bk (.slice a0 m0 n0) (.slice a1 m1 n1) (.slice a2 m2 n2) (.slice a3 m3 n3) Kz.out)
    have kp := Lib.hid (set4_kp (w := w3) (B := w0.heap.size) (.slice a0 m0 n0) (.slice a1 m1 n1) (.slice a2 m2 n2) (.slice a3 m3 n3) (show w.heap.size + 1 + 1 < w0.heap.size by have := SZ.out; omega))
    have BF := Lib.hid (set4_below (.slice a0 m0 n0) (.slice a1 m1 n1) (.slice a2 m2 n2) (.slice a3 m3 n3) B.out (show w.heap.size ≤ w.heap.size + 1 + 1 by omega))
    generalize (((w3.setCell _ _).setCell _ _).setCell _ _).setCell _ _ = w99 at KF kp BF ⊢
    clear z0 z1 z2 z3 y0 y1 y2 y3 lz
    have D0 : w99.cell? ⟨w.heap.size + 1 + 1, 0, none⟩ = some _ := KF.out.cell 0
    have D1 : w99.cell? ⟨w.heap.size + 1 + 1, 1, none⟩ = some _ := KF.out.cell 1
    have D2 : w99.cell? ⟨w.heap.size + 1 + 1, 2, none⟩ = some _ := KF.out.cell 2
    have D3 : w99.cell? ⟨w.heap.size + 1 + 1, 3, none⟩ = some _ := KF.out.cell 3
    refine bodyPost_ret (v := .tuple #[.agg #[.slice a0 m0 n0, .slice a1 m1 n1, .slice a2 m2 n2, .slice a3 m3 n3], .bool false]) (by simp [results, Tryz.results9, go_sem, D0, D1, D2, D3]) rfl ?_
    exact ⟨d, _, _, _, _, rfl, (SS.out.o.kp kp.out).base HLW.out, hp, BF.out⟩
  | true =>
    have hb := HQ.out
    unfold enT at hb
    rw [Bool.and_eq_true] at hb
    have hb1 := of_decide_eq_true hb.1
    have henP := hb.2
    obtain ⟨k, hk0⟩ : ∃ k : Nat, t = (k : Int) := ⟨t.toNat, by have := hb1.1; omega⟩
    subst hk0
    obtain ⟨e1, e2, e3, e4, e5, e6⟩ := HN.out
    have hkp : k < np := by have h1 : (k : Int) < (c.pf.pc.length : Int) := hb1.2; have h2 : c.pf.pc.length = c.pc.length := rfl; omega
    have hlp : c.pc.length = u.regs.length := HR.out.lp
    have hcr := (rightU_lc HR.out.ru).2.2.2.2.2
    have hkc : k < nc := by omega
    have hlr : c.regs.length = u.regs.length := by have := HR.out.lr; simpa [Cf.pf] using this
    have hlb : c.buf.length = u.regs.length := by have := HR.out.lb; simpa [Cf.pf] using this
    have hkr : k < nr := by omega
    have hkb : k < nb := by omega
    have HPD : Hid (actT u c.pf model room (k : Int) = actO u c.pf model k (insAt u k (c.pc.getD k 0))) := Lib.hid (by unfold actT; rw [if_pos HQ.out]; unfold actP; rw [Int.toNat_natCast]; rfl)
    obtain ⟨bp, op, bc, oc, bi, oi, nl, mx, pc, x, hz1, hz2, l1, l2, l3, y1, y2, hpl, hnl, hI, T⟩ := HIN.out k hkc
    subst hz1 hz2
    have hxi : insAt u k (c.pc.getD k 0) = x.x := by have := T.at'; unfold insAt; rw [show c.pc.getD k 0 = c.pf.pc.getD k 0 from rfl, this]
    rw [hxi] at HPD
    have HLE := Lib.hid (HUS.out k (c.pf.pc.getD k 0))
    rw [T.at'] at HLE
    have HEO : Hid (enO u c.pf model room k x.x = true) := Lib.hid (by rw [Int.toNat_natCast] at henP; unfold enP at henP; rw [show c.pf.pc.getD k 0 = c.pc.getD k 0 from rfl, hxi] at henP; exact henP)
    have HLS := Lib.hid (And.intro hlr (And.intro hlb hlp))
    have HT := Lib.hid T
    have HPC := Lib.hid (fun (W : World) (h : Below w.heap.size w W) => And.intro ((h.cell (p := ⟨bp, _, none⟩) l1).trans y1) (Nat.lt_of_lt_of_le l1 h.size))
    have HVE := Lib.hid (HVL.out k (by omega) x.x.e x.ev hI.e HLE.out.1)
    have HVF := Lib.hid (HVL.out k (by omega) x.x.f x.fv hI.f HLE.out.2)
    have HRX := Lib.hid (HRD.out (k : Int) x.x.loc)
    obtain ⟨bb, ob, rb, mb, hzb, lb, yb, db, hlbb⟩ := HBF.out k hkb
    subst hzb
    have HYB := Lib.hid (fun (W : World) (h : Below w.heap.size w W) => And.intro ((h.cell (p := ⟨bb, _, none⟩) lb).trans yb) (Nat.lt_of_lt_of_le lb h.size))
    have hbl := hlbb 100000 HBB.out
    have HPU := Lib.hid (fun (y : Int) (W : World) (h : Below w.heap.size w W) => rpush_own (c.pf.buf.getD k []) _ model x.x.loc y W (EntsD.below db h) hbl _ rfl)
    clear hb hb1 henP e1 e2 e3 e4 e5 e6 hlp hcr hlr hlb hxi T HIN HEN HUS HCP HVL HRD HBF lb yb db hlbb hbl HBB
    have HII := Lib.hid (IsAt.below hI B.out l3)
    replace y1 := (B.out.cell (p := ⟨bp, _, none⟩) l1).trans y1
    replace y2 := (B.out.cell (p := ⟨bc, _, none⟩) l2).trans y2
    replace l1 := Nat.lt_of_lt_of_le l1 B.out.size
    replace l2 := Nat.lt_of_lt_of_le l2 B.out.size
    replace l3 := Nat.lt_of_lt_of_le l3 B.out.size
    clear hI
    obtain ⟨ae, ke, hev⟩ := HII.out.e.shape0
    obtain ⟨af, kf, hfv⟩ := HII.out.f.shape0
    have HONE : (#[.int .i64 x.x.op, .int .i64 x.x.reg, .int .i64 x.x.loc, x.ev, x.fv, .bool x.x.ne, .int .i64 x.x.to] : Array Value).all (·.oneCell') = true := by rw [hev, hfv]; simp [Value.oneCell']
    clear hev hfv
    have HCC := Lib.hid (fun (W1 : World) (h : Below w3.heap.size w3 W1) => (⟨(h.cell (p := ⟨w.heap.size, _, none⟩) Ku.out.lt).trans (Ku.out.cell 3), (h.cell (p := ⟨w.heap.size + 1, _, none⟩) Kc.out.lt).trans (Kc.out.cell 0), (h.cell (p := ⟨bc, _, none⟩) l2).trans y2, (h.cell (p := ⟨bp, _, none⟩) l1).trans y1, ⟨(h.cell (p := ⟨bi, _, none⟩) l3).trans HII.out.c0, (h.cell (p := ⟨bi, _, none⟩) l3).trans HII.out.c1, (h.cell (p := ⟨bi, _, none⟩) l3).trans HII.out.c2, (h.cell (p := ⟨bi, _, none⟩) l3).trans HII.out.c3, (h.cell (p := ⟨bi, _, none⟩) l3).trans HII.out.c4, (h.cell (p := ⟨bi, _, none⟩) l3).trans HII.out.c5, (h.cell (p := ⟨bi, _, none⟩) l3).trans HII.out.c6⟩, h⟩ : (fun W1 => W1.cell? ⟨w.heap.size, 3, none⟩ = some (.slice (some ⟨bc, oc, none⟩) nc cc) ∧ W1.cell? ⟨w.heap.size + 1, 0, none⟩ = some (.slice (some ⟨bp, op, none⟩) np cp) ∧ W1.cell? ⟨bc, oc + k, none⟩ = some (.slice (some ⟨bi, oi, none⟩) nl mx) ∧ W1.cell? ⟨bp, op + k, none⟩ = some (.int .i64 pc) ∧ (W1.cell? ⟨bi, oi + pc * 7, none⟩ = some (.int .i64 x.x.op) ∧ W1.cell? ⟨bi, oi + pc * 7 + 1, none⟩ = some (.int .i64 x.x.reg) ∧ W1.cell? ⟨bi, oi + pc * 7 + 2, none⟩ = some (.int .i64 x.x.loc) ∧ W1.cell? ⟨bi, oi + pc * 7 + 3, none⟩ = some (x.ev) ∧ W1.cell? ⟨bi, oi + pc * 7 + 4, none⟩ = some (x.fv) ∧ W1.cell? ⟨bi, oi + pc * 7 + 5, none⟩ = some (.bool x.x.ne) ∧ W1.cell? ⟨bi, oi + pc * 7 + 6, none⟩ = some (.int .i64 x.x.to)) ∧ Below w3.heap.size w3 W1) W1))
    have g1 : (0 : Int) ≤ (k : Int) := by omega
    have g2 : (k : Int) < (nc : Int) := by omega
    have g2p : (k : Int) < (np : Int) := by omega
    have g3 : (0 : Int) ≤ (pc : Int) := by omega
    have g4 : (pc : Int) < (nl : Int) := by omega
    have BQ : Below w3.heap.size w3 w3 := Below.refl _ _
    obtain ⟨uc0, uc1, uc2, uc3, ucl⟩ := bk4 Ku.out
    obtain ⟨cc0, cc1, cc2, cc3, ccl⟩ := bk4 Kc.out
    obtain ⟨dc0, dc1, dc2, dc3, dcl⟩ := bk4 Kd.out
    go_wp2_with fail
    clear uc0 uc1 uc2 uc3 ucl cc0 cc1 cc2 cc3 ccl dc0 dc1 dc2 dc3 dcl
    refine wp_region_held_drew (S := fun W1 => W1.cell? ⟨w.heap.size, 3, none⟩ = some (.slice (some ⟨bc, oc, none⟩) nc cc) ∧ W1.cell? ⟨w.heap.size + 1, 0, none⟩ = some (.slice (some ⟨bp, op, none⟩) np cp) ∧ W1.cell? ⟨bc, oc + k, none⟩ = some (.slice (some ⟨bi, oi, none⟩) nl mx) ∧ W1.cell? ⟨bp, op + k, none⟩ = some (.int .i64 pc) ∧ (W1.cell? ⟨bi, oi + pc * 7, none⟩ = some (.int .i64 x.x.op) ∧ W1.cell? ⟨bi, oi + pc * 7 + 1, none⟩ = some (.int .i64 x.x.reg) ∧ W1.cell? ⟨bi, oi + pc * 7 + 2, none⟩ = some (.int .i64 x.x.loc) ∧ W1.cell? ⟨bi, oi + pc * 7 + 3, none⟩ = some (x.ev) ∧ W1.cell? ⟨bi, oi + pc * 7 + 4, none⟩ = some (x.fv) ∧ W1.cell? ⟨bi, oi + pc * 7 + 5, none⟩ = some (.bool x.x.ne) ∧ W1.cell? ⟨bi, oi + pc * 7 + 6, none⟩ = some (.int .i64 x.x.to)) ∧ Below w3.heap.size w3 W1) (by kernel_rfl) (HCC.out _ BQ.drew) (fun hS => ?_)
    refine wpAnyH_take (i := 0) (v := .pointer (some ⟨w.heap.size, 3, none⟩)) rfl (by kernel_rfl) (by kernel_rfl) (by kernel_rfl) (fun _ _ _ h => h) (Or.inl ⟨by rfl, fun w hSw => by obtain ⟨s1, s2, s3, s4, ⟨t0, t1, t2, t3, t4, t5, t6⟩, s6⟩ := hSw; first | (go_simp; done) | (go_simp; with_reducible rfl)⟩) hS ?_
    simp only [Act.put, List.setIfInBounds_toArray, List.set_cons_zero, List.set_cons_succ]
    refine wpAnyH_take (i := 1) (v := .slice (some ⟨bc, oc, none⟩) nc cc) rfl (by kernel_rfl) (by kernel_rfl) (by kernel_rfl) (fun _ _ _ h => h) (Or.inl ⟨by rfl, fun w hSw => by obtain ⟨s1, s2, s3, s4, ⟨t0, t1, t2, t3, t4, t5, t6⟩, s6⟩ := hSw; first | (go_simp; done) | (go_simp; with_reducible rfl)⟩) hS ?_
    simp only [Act.put, List.setIfInBounds_toArray, List.set_cons_zero, List.set_cons_succ]
    refine wpAnyH_take (i := 2) (v := .int .i64 k) rfl (by kernel_rfl) (by kernel_rfl) (by kernel_rfl) (fun _ _ _ h => h) (Or.inl ⟨by rfl, fun w hSw => by obtain ⟨s1, s2, s3, s4, ⟨t0, t1, t2, t3, t4, t5, t6⟩, s6⟩ := hSw; first | (go_simp; done) | (go_simp; with_reducible rfl)⟩) hS ?_
    simp only [Act.put, List.setIfInBounds_toArray, List.set_cons_zero, List.set_cons_succ]
    refine wpAnyH_take (i := 3) (v := .pointer (some ⟨bc, oc + k, none⟩)) rfl (by kernel_rfl) (by kernel_rfl) (by kernel_rfl) (fun _ _ _ h => h) (Or.inl ⟨by rfl, fun w hSw => by obtain ⟨s1, s2, s3, s4, ⟨t0, t1, t2, t3, t4, t5, t6⟩, s6⟩ := hSw; first | (go_simp; done) | (go_simp; with_reducible rfl)⟩) hS ?_
    simp only [Act.put, List.setIfInBounds_toArray, List.set_cons_zero, List.set_cons_succ]
    refine wpAnyH_take (i := 4) (v := .slice (some ⟨bi, oi, none⟩) nl mx) rfl (by kernel_rfl) (by kernel_rfl) (by kernel_rfl) (fun _ _ _ h => h) (Or.inl ⟨by rfl, fun w hSw => by obtain ⟨s1, s2, s3, s4, ⟨t0, t1, t2, t3, t4, t5, t6⟩, s6⟩ := hSw; first | (go_simp; done) | (go_simp; with_reducible rfl)⟩) hS ?_
    simp only [Act.put, List.setIfInBounds_toArray, List.set_cons_zero, List.set_cons_succ]
    refine wpAnyH_take (i := 5) (v := .pointer (some ⟨w.heap.size + 1, 0, none⟩)) rfl (by kernel_rfl) (by kernel_rfl) (by kernel_rfl) (fun _ _ _ h => h) (Or.inl ⟨by rfl, fun w hSw => by obtain ⟨s1, s2, s3, s4, ⟨t0, t1, t2, t3, t4, t5, t6⟩, s6⟩ := hSw; first | (go_simp; done) | (go_simp; with_reducible rfl)⟩) hS ?_
    simp only [Act.put, List.setIfInBounds_toArray, List.set_cons_zero, List.set_cons_succ]
    refine wpAnyH_take (i := 6) (v := .slice (some ⟨bp, op, none⟩) np cp) rfl (by kernel_rfl) (by kernel_rfl) (by kernel_rfl) (fun _ _ _ h => h) (Or.inl ⟨by rfl, fun w hSw => by obtain ⟨s1, s2, s3, s4, ⟨t0, t1, t2, t3, t4, t5, t6⟩, s6⟩ := hSw; first | (go_simp; done) | (go_simp; with_reducible rfl)⟩) hS ?_
    simp only [Act.put, List.setIfInBounds_toArray, List.set_cons_zero, List.set_cons_succ]
    refine wpAnyH_take (i := 7) (v := .int .i64 k) rfl (by kernel_rfl) (by kernel_rfl) (by kernel_rfl) (fun _ _ _ h => h) (Or.inl ⟨by rfl, fun w hSw => by obtain ⟨s1, s2, s3, s4, ⟨t0, t1, t2, t3, t4, t5, t6⟩, s6⟩ := hSw; first | (go_simp; done) | (go_simp; with_reducible rfl)⟩) hS ?_
    simp only [Act.put, List.setIfInBounds_toArray, List.set_cons_zero, List.set_cons_succ]
    refine wpAnyH_take (i := 8) (v := .pointer (some ⟨bp, op + k, none⟩)) rfl (by kernel_rfl) (by kernel_rfl) (by kernel_rfl) (fun _ _ _ h => h) (Or.inl ⟨by rfl, fun w hSw => by obtain ⟨s1, s2, s3, s4, ⟨t0, t1, t2, t3, t4, t5, t6⟩, s6⟩ := hSw; first | (go_simp; done) | (go_simp; with_reducible rfl)⟩) hS ?_
    simp only [Act.put, List.setIfInBounds_toArray, List.set_cons_zero, List.set_cons_succ]
    refine wpAnyH_take (i := 9) (v := .int .i64 pc) rfl (by kernel_rfl) (by kernel_rfl) (by kernel_rfl) (fun _ _ _ h => h) (Or.inl ⟨by rfl, fun w hSw => by obtain ⟨s1, s2, s3, s4, ⟨t0, t1, t2, t3, t4, t5, t6⟩, s6⟩ := hSw; first | (go_simp; done) | (go_simp; with_reducible rfl)⟩) hS ?_
    simp only [Act.put, List.setIfInBounds_toArray, List.set_cons_zero, List.set_cons_succ]
    refine wpAnyH_take (i := 10) (v := .pointer (some ⟨bi, oi + pc * 7, none⟩)) rfl (by kernel_rfl) (by kernel_rfl) (by kernel_rfl) (fun _ _ _ h => h) (Or.inl ⟨by rfl, fun w hSw => by obtain ⟨s1, s2, s3, s4, ⟨t0, t1, t2, t3, t4, t5, t6⟩, s6⟩ := hSw; first | (go_simp; done) | (go_simp; with_reducible rfl)⟩) hS ?_
    simp only [Act.put, List.setIfInBounds_toArray, List.set_cons_zero, List.set_cons_succ]
    refine wpAnyH_take (i := 11) (v := .agg #[.int .i64 x.x.op, .int .i64 x.x.reg, .int .i64 x.x.loc, x.ev, x.fv, .bool x.x.ne, .int .i64 x.x.to]) rfl (by kernel_rfl) (by kernel_rfl) (by kernel_rfl) (fun _ _ _ h => h) (Or.inl ⟨by rfl, fun w hSw => by obtain ⟨s1, s2, s3, s4, ⟨t0, t1, t2, t3, t4, t5, t6⟩, s6⟩ := hSw; first | (go_simp; done) | (go_simp; with_reducible rfl)⟩) hS ?_
    simp only [Act.put, List.setIfInBounds_toArray, List.set_cons_zero, List.set_cons_succ]
    refine wpAnyH_ready (rs := [12]) (by kernel_rfl) (by simp) ?_
    refine AllReadyH.cons rfl (fun K hK => ?_) AllReadyH.nil
    go_simp
    have KZ5 := Bk.new w3.drew 57 #[.int .i64 0, .int .i64 0, .int .i64 0, .slice none 0 0, .slice none 0 0, .bool false, .int .i64 0]
    have BZ5 : Below w3.heap.size w3 (World.alloc w3 (.cells #[.int .i64 0, .int .i64 0, .int .i64 0, .slice none 0 0, .slice none 0 0, .bool false, .int .i64 0] 57)).drew := bdr (bal BQ _)
    refine hK.out _ _ (HCC.out _ BZ5) (fun hS => ?_)
    clear hK K
    refine wpAnyH_ready (rs := [13]) (by kernel_rfl) (by simp) ?_
    refine AllReadyH.cons rfl (fun K hK => ?_) AllReadyH.nil
    rw [if_pos (by rfl)]
    refine wp_store_row 57 (.tmp 13) (.tmp 36) rfl w3.heap.size #[.int .i64 x.x.op, .int .i64 x.x.reg, .int .i64 x.x.loc, x.ev, x.fv, .bool x.x.ne, .int .i64 x.x.to] rfl rfl 57 #[.int .i64 0, .int .i64 0, .int .i64 0, .slice none 0 0, .slice none 0 0, .bool false, .int .i64 0] KZ5 i_instr rfl HONE ?_
    have KI : Bk ((World.alloc w3 (.cells #[.int .i64 0, .int .i64 0, .int .i64 0, .slice none 0 0, .slice none 0 0, .bool false, .int .i64 0] 57)).drew.setRow w3.heap.size #[.int .i64 x.x.op, .int .i64 x.x.reg, .int .i64 x.x.loc, x.ev, x.fv, .bool x.x.ne, .int .i64 x.x.to]) w3.heap.size 57 #[.int .i64 x.x.op, .int .i64 x.x.reg, .int .i64 x.x.loc, x.ev, x.fv, .bool x.x.ne, .int .i64 x.x.to] := setRow_heap _ _ _ _ _ _ KZ5
    have B5 : Below w3.heap.size w3 ((World.alloc w3 (.cells #[.int .i64 0, .int .i64 0, .int .i64 0, .slice none 0 0, .slice none 0 0, .bool false, .int .i64 0] 57)).drew.setRow w3.heap.size #[.int .i64 x.x.op, .int .i64 x.x.reg, .int .i64 x.x.loc, x.ev, x.fv, .bool x.x.ne, .int .i64 x.x.to]) := below_setRow BZ5 BQ.size _
    refine hK.out _ _ (HCC.out _ B5) (fun hS => ?_)
    clear hK K hS
    refine wpAnyH_done (by kernel_rfl) ?_ _
    have Kx := Lib.hid KI
    have b := B5
    have HWS : Hid (w1s ≤ w3.heap.size) := Lib.hid SS.out.n
    generalize World.setRow _ _ _ = w4 at Kx b ⊢
    generalize w3.heap.size = w3s at Kx HWS ⊢
    simp only [Act.put, List.setIfInBounds_toArray, List.set_cons_zero, List.set_cons_succ]
    clear KZ5 BZ5 BQ KI B5 HCC HONE y1 y2 l1 l2 l3
    replace Ku := Lib.hid (Ku.out.below b)
    replace Kc := Lib.hid (Kc.out.below b)
    replace Kz := Lib.hid (Kz.out.below b)
    replace Kd := Lib.hid (Kd.out.below b)
    replace SS := Lib.hid (SS.out.below b)
    replace B := Lib.hid (B.out.trans (b.mono B.out.size))
    clear b HII
    obtain ⟨uc0, uc1, uc2, uc3, ucl⟩ := bk4 Ku.out
    obtain ⟨cc0, cc1, cc2, cc3, ccl⟩ := bk4 Kc.out
    obtain ⟨zc0, zc1, zc2, zc3, zcl⟩ := bk4 Kz.out
    obtain ⟨dc0, dc1, dc2, dc3, dcl⟩ := bk4 Kd.out
    obtain ⟨xc0, xc1, xc2, xc3, xc4, xc5, xc6, xcl⟩ := bk7 Kx.out
    go_wp2_with fail
    clear uc0 uc1 uc2 uc3 ucl cc0 cc1 cc2 cc3 ccl zc0 zc1 zc2 zc3 zcl dc0 dc1 dc2 dc3 dcl xc0 xc1 xc2 xc3 xc4 xc5 xc6 xcl
    refine (HVE.out w4 B.out).mono ?_
    rintro e w5 ⟨rfl, b⟩
    replace Ku := Lib.hid (Ku.out.below b)
    replace Kc := Lib.hid (Kc.out.below b)
    replace Kz := Lib.hid (Kz.out.below b)
    replace Kd := Lib.hid (Kd.out.below b)
    replace Kx := Lib.hid (Kx.out.below b)
    replace SS := Lib.hid (SS.out.below b)
    replace B := Lib.hid (B.out.trans (b.mono B.out.size))
    clear b
    obtain ⟨ev, hve⟩ : ∃ n, n = valP u c.pf k x.x.e := ⟨_, rfl⟩
    rw [← hve]
    have HVV := Lib.hid hve
    clear hve HVE
    have HLN : Hid (c.pf.pc.length = np ∧ c.pf.regs.length = nr ∧ c.pf.mem.length = nm ∧ c.pf.buf.length = nb) := Lib.hid (by obtain ⟨e1, e2, e3, e4, _⟩ := HN.out; refine ⟨e1.symm, ?_, e3.symm, ?_⟩ <;> simp [Cf.pf] <;> omega)
    obtain ⟨yp1, lp1⟩ := HPC.out w5 B.out
    have hpc : c.pf.pc.getD k 0 = (pc : Int) := HT.out.hp
    have hpc2 : c.pf.pc[k]?.getD 0 = (pc : Int) := by rw [← List.getD_eq_getElem?_getD]; exact hpc
    have HPC2 := Lib.hid (And.intro hpc hpc2)
    clear hpc hpc2
    by_cases o20 : x.x.op = 20
    ·
      have HO := Lib.hid o20
      rw [o20] at Kx
      clear o20
      replace SS := Lib.hid (SS.out.below (below_draws' w5))
      obtain ⟨g_0, u_0, hg0_0, hkm_0, hgB_0, hgN_0, hl_0, hc_0, hf_0, ap_0, hst_0⟩ := SS.out.putPc k (by rw [HPF.out, HLN.out.1]; exact hkp)
      subst hg0_0
      have q1_0 : (0 : Int) ≤ (k : Int) := by omega
      have q2_0 : (k : Int) < (m0 : Int) := by omega
      obtain ⟨d1, hp_0, s_0, f_0⟩ := hst_0 ((pc : Int) + 1)
      have HP0 := Lib.hid hp_0
      replace SS := Lib.hid s_0
      have F := Lib.hid f_0
      clear hp_0 s_0 f_0 hst_0
      obtain ⟨cc0, cc1, cc2, cc3, ccl⟩ := bk4 Kc.out
      obtain ⟨dc0, dc1, dc2, dc3, dcl⟩ := bk4 Kd.out
      go_wp2_with fail
      go_still_tail 10, (by kernel_rfl)
      change wpList _ _ _ _ _ w5.drew
      clear cc0 cc1 cc2 cc3 ccl dc0 dc1 dc2 dc3 dcl
      replace Ku := Lib.hid (Ku.out.below (below_draws' w5))
      replace Kc := Lib.hid (Kc.out.below (below_draws' w5))
      replace Kz := Lib.hid (Kz.out.below (below_draws' w5))
      replace Kd := Lib.hid (Kd.out.below (below_draws' w5))
      replace Kx := Lib.hid (Kx.out.below (below_draws' w5))
      replace B := Lib.hid (B.out.trans ((below_draws' w5).mono B.out.size))
      generalize w5.drew = w5d at SS F Ku Kc Kz Kd Kx B hl_0 hc_0 hf_0 ⊢
      obtain ⟨g_1, u_1, hg0_1, hkm_1, hgB_1, hgN_1, hl_1, hc_1, hf_1, ap_1, hst_1⟩ := SS.out.putPc k (by rw [HP0.out, HPF.out]; show k < (List.set _ _ _).length; rw [List.length_set, HLN.out.1]; exact hkp)
      obtain rfl : g_0 = g_1 := by injection hg0_1 with h; injection h with h
      clear hg0_1 hkm_1 hgB_1 hgN_1 hl_1 hc_1 hf_1 ap_1
      obtain ⟨d2, hp_1, s_1, f_1⟩ := hst_1 x.x.to
      have HP1 := Lib.hid hp_1
      replace SS := Lib.hid s_1
      replace F := Lib.hid (F.out.trans f_1)
      clear hp_1 s_1 f_1 hst_1
      have nec_0 : ¬ g_0 = w.heap.size + 1 := by have := SZ.out; omega
      have enc_0 : ¬ w.heap.size + 1 = g_0 := fun h => nec_0 h.symm
      have nez_0 : ¬ g_0 = w.heap.size + 1 + 1 := by have := SZ.out; omega
      have enz_0 : ¬ w.heap.size + 1 + 1 = g_0 := fun h => nez_0 h.symm
      have ned_0 : ¬ g_0 = w1s := by omega
      have end_0 : ¬ w1s = g_0 := fun h => ned_0 h.symm
      have nex_0 : ¬ g_0 = w3s := by have := HWS.out; omega
      have enx_0 : ¬ w3s = g_0 := fun h => nex_0 h.symm
      obtain ⟨fz0, fz1, fz2, fz3⟩ := bkf4 Kz.out
      obtain ⟨cc0, cc1, cc2, cc3, ccl⟩ := bk4 Kc.out
      obtain ⟨zc0, zc1, zc2, zc3, zcl⟩ := bk4 Kz.out
      obtain ⟨dc0, dc1, dc2, dc3, dcl⟩ := bk4 Kd.out
      obtain ⟨xc0, xc1, xc2, xc3, xc4, xc5, xc6, xcl⟩ := bk7 Kx.out
      go_wp2_with fail
      clear cc0 cc1 cc2 cc3 ccl zc0 zc1 zc2 zc3 zcl dc0 dc1 dc2 dc3 dcl xc0 xc1 xc2 xc3 xc4 xc5 xc6 xcl
      generalize (w5d.setCell ⟨g_0, k, none⟩ _).setCell ⟨g_0, k, none⟩ _ = w6 at SS F ⊢
      clear q1_0 q2_0 hkm_0 hgB_0 hgN_0 hl_0 hc_0 hf_0 yp1 lp1 nec_0 enc_0 nez_0 enz_0 ned_0 end_0 nex_0 enx_0 fz0 fz1 fz2 fz3 ap_0
      replace Ku := Lib.hid (bkBelow F.out.b (show w.heap.size < w0.heap.size by have := SZ.out; omega) Ku.out)
      replace Kc := Lib.hid (bkBelow F.out.b (show w.heap.size + 1 < w0.heap.size by have := SZ.out; omega) Kc.out)
      replace Kz := Lib.hid (bkBelow F.out.b (show w.heap.size + 1 + 1 < w0.heap.size by have := SZ.out; omega) Kz.out)
      replace Kd := Lib.hid (F.out.bk (Nat.le_refl _) Kd.out)
      replace Kx := Lib.hid (F.out.bk HWS.out Kx.out)
      replace B := Lib.hid (B.out.trans (F.out.b.mono HLW.out))
      clear F
      have KF := Lib.hid (set4_bk (.slice (some ⟨g_0, 0, none⟩) m0 n0) (.slice a1 m1 n1) (.slice a2 m2 n2) (.slice a3 m3 n3) Kz.out)
      have kp := Lib.hid (set4_kp (w := w6) (B := w0.heap.size) (.slice (some ⟨g_0, 0, none⟩) m0 n0) (.slice a1 m1 n1) (.slice a2 m2 n2) (.slice a3 m3 n3) (show w.heap.size + 1 + 1 < w0.heap.size by have := SZ.out; omega))
      have BF := Lib.hid (set4_below (.slice (some ⟨g_0, 0, none⟩) m0 n0) (.slice a1 m1 n1) (.slice a2 m2 n2) (.slice a3 m3 n3) B.out (show w.heap.size ≤ w.heap.size + 1 + 1 by omega))
      generalize (((w6.setCell _ _).setCell _ _).setCell _ _).setCell _ _ = w99 at KF kp BF ⊢
      have D0 : w99.cell? ⟨w.heap.size + 1 + 1, 0, none⟩ = some _ := KF.out.cell 0
      have D1 : w99.cell? ⟨w.heap.size + 1 + 1, 1, none⟩ = some _ := KF.out.cell 1
      have D2 : w99.cell? ⟨w.heap.size + 1 + 1, 2, none⟩ = some _ := KF.out.cell 2
      have D3 : w99.cell? ⟨w.heap.size + 1 + 1, 3, none⟩ = some _ := KF.out.cell 3
      refine bodyPost_ret (v := .tuple #[.agg #[.slice (some ⟨g_0, 0, none⟩) m0 n0, .slice a1 m1 n1, .slice a2 m2 n2, .slice a3 m3 n3], .bool true]) (by simp [results, Tryz.results9, go_sem, D0, D1, D2, D3]) rfl ?_
      exact ⟨d2, _, _, _, _, rfl, (SS.out.o.kp kp.out).base HLW.out, (by rw [HPD.out, HP1.out, HP0.out, HPF.out]; simp [actO, pcO, regO, memO, bufO, HO.out, HPC2.out.1, HPC2.out.2, HVV.out]), BF.out⟩
    by_cases o21 : x.x.op = 21
    ·
      have HO := Lib.hid o21
      rw [o21] at Kx
      clear o20
      clear o21
      by_cases hz : ev = 0
      ·
        have ez : (ev == 0) = true := by simp [hz]
        have HZ := Lib.hid hz
        clear hz
        replace SS := Lib.hid (SS.out.below (below_draws' w5))
        obtain ⟨g_2, u_2, hg0_2, hkm_2, hgB_2, hgN_2, hl_2, hc_2, hf_2, ap_2, hst_2⟩ := SS.out.putPc k (by rw [HPF.out, HLN.out.1]; exact hkp)
        subst hg0_2
        have q1_2 : (0 : Int) ≤ (k : Int) := by omega
        have q2_2 : (k : Int) < (m0 : Int) := by omega
        obtain ⟨d1, hp_2, s_2, f_2⟩ := hst_2 ((pc : Int) + 1)
        have HP2 := Lib.hid hp_2
        replace SS := Lib.hid s_2
        have F := Lib.hid f_2
        clear hp_2 s_2 f_2 hst_2
        obtain ⟨cc0, cc1, cc2, cc3, ccl⟩ := bk4 Kc.out
        obtain ⟨dc0, dc1, dc2, dc3, dcl⟩ := bk4 Kd.out
        go_wp2_with fail
        go_still_tail 10, (by kernel_rfl)
        change wpList _ _ _ _ _ w5.drew
        clear cc0 cc1 cc2 cc3 ccl dc0 dc1 dc2 dc3 dcl
        replace Ku := Lib.hid (Ku.out.below (below_draws' w5))
        replace Kc := Lib.hid (Kc.out.below (below_draws' w5))
        replace Kz := Lib.hid (Kz.out.below (below_draws' w5))
        replace Kd := Lib.hid (Kd.out.below (below_draws' w5))
        replace Kx := Lib.hid (Kx.out.below (below_draws' w5))
        replace B := Lib.hid (B.out.trans ((below_draws' w5).mono B.out.size))
        generalize w5.drew = w5d at SS F Ku Kc Kz Kd Kx B hl_2 hc_2 hf_2 ⊢
        obtain ⟨g_3, u_3, hg0_3, hkm_3, hgB_3, hgN_3, hl_3, hc_3, hf_3, ap_3, hst_3⟩ := SS.out.putPc k (by rw [HP2.out, HPF.out]; show k < (List.set _ _ _).length; rw [List.length_set, HLN.out.1]; exact hkp)
        obtain rfl : g_2 = g_3 := by injection hg0_3 with h; injection h with h
        clear hg0_3 hkm_3 hgB_3 hgN_3 hl_3 hc_3 hf_3 ap_3
        obtain ⟨d2, hp_3, s_3, f_3⟩ := hst_3 x.x.to
        have HP3 := Lib.hid hp_3
        replace SS := Lib.hid s_3
        replace F := Lib.hid (F.out.trans f_3)
        clear hp_3 s_3 f_3 hst_3
        have nec_2 : ¬ g_2 = w.heap.size + 1 := by have := SZ.out; omega
        have enc_2 : ¬ w.heap.size + 1 = g_2 := fun h => nec_2 h.symm
        have nez_2 : ¬ g_2 = w.heap.size + 1 + 1 := by have := SZ.out; omega
        have enz_2 : ¬ w.heap.size + 1 + 1 = g_2 := fun h => nez_2 h.symm
        have ned_2 : ¬ g_2 = w1s := by omega
        have end_2 : ¬ w1s = g_2 := fun h => ned_2 h.symm
        have nex_2 : ¬ g_2 = w3s := by have := HWS.out; omega
        have enx_2 : ¬ w3s = g_2 := fun h => nex_2 h.symm
        obtain ⟨fz0, fz1, fz2, fz3⟩ := bkf4 Kz.out
        obtain ⟨cc0, cc1, cc2, cc3, ccl⟩ := bk4 Kc.out
        obtain ⟨zc0, zc1, zc2, zc3, zcl⟩ := bk4 Kz.out
        obtain ⟨dc0, dc1, dc2, dc3, dcl⟩ := bk4 Kd.out
        obtain ⟨xc0, xc1, xc2, xc3, xc4, xc5, xc6, xcl⟩ := bk7 Kx.out
        go_wp2_with fail
        clear cc0 cc1 cc2 cc3 ccl zc0 zc1 zc2 zc3 zcl dc0 dc1 dc2 dc3 dcl xc0 xc1 xc2 xc3 xc4 xc5 xc6 xcl
        generalize (w5d.setCell ⟨g_2, k, none⟩ _).setCell ⟨g_2, k, none⟩ _ = w6 at SS F ⊢
        clear q1_2 q2_2 hkm_2 hgB_2 hgN_2 hl_2 hc_2 hf_2 yp1 lp1 nec_2 enc_2 nez_2 enz_2 ned_2 end_2 nex_2 enx_2 fz0 fz1 fz2 fz3 ap_2
        replace Ku := Lib.hid (bkBelow F.out.b (show w.heap.size < w0.heap.size by have := SZ.out; omega) Ku.out)
        replace Kc := Lib.hid (bkBelow F.out.b (show w.heap.size + 1 < w0.heap.size by have := SZ.out; omega) Kc.out)
        replace Kz := Lib.hid (bkBelow F.out.b (show w.heap.size + 1 + 1 < w0.heap.size by have := SZ.out; omega) Kz.out)
        replace Kd := Lib.hid (F.out.bk (Nat.le_refl _) Kd.out)
        replace Kx := Lib.hid (F.out.bk HWS.out Kx.out)
        replace B := Lib.hid (B.out.trans (F.out.b.mono HLW.out))
        clear F
        have KF := Lib.hid (set4_bk (.slice (some ⟨g_2, 0, none⟩) m0 n0) (.slice a1 m1 n1) (.slice a2 m2 n2) (.slice a3 m3 n3) Kz.out)
        have kp := Lib.hid (set4_kp (w := w6) (B := w0.heap.size) (.slice (some ⟨g_2, 0, none⟩) m0 n0) (.slice a1 m1 n1) (.slice a2 m2 n2) (.slice a3 m3 n3) (show w.heap.size + 1 + 1 < w0.heap.size by have := SZ.out; omega))
        have BF := Lib.hid (set4_below (.slice (some ⟨g_2, 0, none⟩) m0 n0) (.slice a1 m1 n1) (.slice a2 m2 n2) (.slice a3 m3 n3) B.out (show w.heap.size ≤ w.heap.size + 1 + 1 by omega))
        generalize (((w6.setCell _ _).setCell _ _).setCell _ _).setCell _ _ = w99 at KF kp BF ⊢
        have D0 : w99.cell? ⟨w.heap.size + 1 + 1, 0, none⟩ = some _ := KF.out.cell 0
        have D1 : w99.cell? ⟨w.heap.size + 1 + 1, 1, none⟩ = some _ := KF.out.cell 1
        have D2 : w99.cell? ⟨w.heap.size + 1 + 1, 2, none⟩ = some _ := KF.out.cell 2
        have D3 : w99.cell? ⟨w.heap.size + 1 + 1, 3, none⟩ = some _ := KF.out.cell 3
        refine bodyPost_ret (v := .tuple #[.agg #[.slice (some ⟨g_2, 0, none⟩) m0 n0, .slice a1 m1 n1, .slice a2 m2 n2, .slice a3 m3 n3], .bool true]) (by simp [results, Tryz.results9, go_sem, D0, D1, D2, D3]) rfl ?_
        exact ⟨d2, _, _, _, _, rfl, (SS.out.o.kp kp.out).base HLW.out, (by rw [HPD.out, HP3.out, HP2.out, HPF.out]; have h9 := HZ.out; rw [HVV.out] at h9; simp [actO, pcO, regO, memO, bufO, HO.out, HPC2.out.1, HPC2.out.2, HVV.out, h9]), BF.out⟩
      have ez : (ev == 0) = false := by simp [hz]
      have HZ := Lib.hid hz
      clear hz
      replace SS := Lib.hid (SS.out.below (below_draws' w5))
      obtain ⟨g_4, u_4, hg0_4, hkm_4, hgB_4, hgN_4, hl_4, hc_4, hf_4, ap_4, hst_4⟩ := SS.out.putPc k (by rw [HPF.out, HLN.out.1]; exact hkp)
      subst hg0_4
      have q1_4 : (0 : Int) ≤ (k : Int) := by omega
      have q2_4 : (k : Int) < (m0 : Int) := by omega
      obtain ⟨d1, hp_4, s_4, f_4⟩ := hst_4 ((pc : Int) + 1)
      have HP4 := Lib.hid hp_4
      replace SS := Lib.hid s_4
      have F := Lib.hid f_4
      clear hp_4 s_4 f_4 hst_4
      obtain ⟨cc0, cc1, cc2, cc3, ccl⟩ := bk4 Kc.out
      obtain ⟨dc0, dc1, dc2, dc3, dcl⟩ := bk4 Kd.out
      go_wp2_with fail
      go_still_tail 10, (by kernel_rfl)
      change wpList _ _ _ _ _ w5.drew
      clear cc0 cc1 cc2 cc3 ccl dc0 dc1 dc2 dc3 dcl
      replace Ku := Lib.hid (Ku.out.below (below_draws' w5))
      replace Kc := Lib.hid (Kc.out.below (below_draws' w5))
      replace Kz := Lib.hid (Kz.out.below (below_draws' w5))
      replace Kd := Lib.hid (Kd.out.below (below_draws' w5))
      replace Kx := Lib.hid (Kx.out.below (below_draws' w5))
      replace B := Lib.hid (B.out.trans ((below_draws' w5).mono B.out.size))
      generalize w5.drew = w5d at SS F Ku Kc Kz Kd Kx B hl_4 hc_4 hf_4 ⊢
      have nec_4 : ¬ g_4 = w.heap.size + 1 := by have := SZ.out; omega
      have enc_4 : ¬ w.heap.size + 1 = g_4 := fun h => nec_4 h.symm
      have nez_4 : ¬ g_4 = w.heap.size + 1 + 1 := by have := SZ.out; omega
      have enz_4 : ¬ w.heap.size + 1 + 1 = g_4 := fun h => nez_4 h.symm
      have ned_4 : ¬ g_4 = w1s := by omega
      have end_4 : ¬ w1s = g_4 := fun h => ned_4 h.symm
      have nex_4 : ¬ g_4 = w3s := by have := HWS.out; omega
      have enx_4 : ¬ w3s = g_4 := fun h => nex_4 h.symm
      obtain ⟨fz0, fz1, fz2, fz3⟩ := bkf4 Kz.out
      obtain ⟨cc0, cc1, cc2, cc3, ccl⟩ := bk4 Kc.out
      obtain ⟨zc0, zc1, zc2, zc3, zcl⟩ := bk4 Kz.out
      obtain ⟨dc0, dc1, dc2, dc3, dcl⟩ := bk4 Kd.out
      obtain ⟨xc0, xc1, xc2, xc3, xc4, xc5, xc6, xcl⟩ := bk7 Kx.out
      go_wp2_with fail
      clear cc0 cc1 cc2 cc3 ccl zc0 zc1 zc2 zc3 zcl dc0 dc1 dc2 dc3 dcl xc0 xc1 xc2 xc3 xc4 xc5 xc6 xcl
      generalize w5d.setCell ⟨g_4, k, none⟩ _ = w6 at SS F ⊢
      clear q1_4 q2_4 hkm_4 hgB_4 hgN_4 hl_4 hc_4 hf_4 yp1 lp1 nec_4 enc_4 nez_4 enz_4 ned_4 end_4 nex_4 enx_4 fz0 fz1 fz2 fz3 ap_4
      replace Ku := Lib.hid (bkBelow F.out.b (show w.heap.size < w0.heap.size by have := SZ.out; omega) Ku.out)
      replace Kc := Lib.hid (bkBelow F.out.b (show w.heap.size + 1 < w0.heap.size by have := SZ.out; omega) Kc.out)
      replace Kz := Lib.hid (bkBelow F.out.b (show w.heap.size + 1 + 1 < w0.heap.size by have := SZ.out; omega) Kz.out)
      replace Kd := Lib.hid (F.out.bk (Nat.le_refl _) Kd.out)
      replace Kx := Lib.hid (F.out.bk HWS.out Kx.out)
      replace B := Lib.hid (B.out.trans (F.out.b.mono HLW.out))
      clear F
      have KF := Lib.hid (set4_bk (.slice (some ⟨g_4, 0, none⟩) m0 n0) (.slice a1 m1 n1) (.slice a2 m2 n2) (.slice a3 m3 n3) Kz.out)
      have kp := Lib.hid (set4_kp (w := w6) (B := w0.heap.size) (.slice (some ⟨g_4, 0, none⟩) m0 n0) (.slice a1 m1 n1) (.slice a2 m2 n2) (.slice a3 m3 n3) (show w.heap.size + 1 + 1 < w0.heap.size by have := SZ.out; omega))
      have BF := Lib.hid (set4_below (.slice (some ⟨g_4, 0, none⟩) m0 n0) (.slice a1 m1 n1) (.slice a2 m2 n2) (.slice a3 m3 n3) B.out (show w.heap.size ≤ w.heap.size + 1 + 1 by omega))
      generalize (((w6.setCell _ _).setCell _ _).setCell _ _).setCell _ _ = w99 at KF kp BF ⊢
      have D0 : w99.cell? ⟨w.heap.size + 1 + 1, 0, none⟩ = some _ := KF.out.cell 0
      have D1 : w99.cell? ⟨w.heap.size + 1 + 1, 1, none⟩ = some _ := KF.out.cell 1
      have D2 : w99.cell? ⟨w.heap.size + 1 + 1, 2, none⟩ = some _ := KF.out.cell 2
      have D3 : w99.cell? ⟨w.heap.size + 1 + 1, 3, none⟩ = some _ := KF.out.cell 3
      refine bodyPost_ret (v := .tuple #[.agg #[.slice (some ⟨g_4, 0, none⟩) m0 n0, .slice a1 m1 n1, .slice a2 m2 n2, .slice a3 m3 n3], .bool true]) (by simp [results, Tryz.results9, go_sem, D0, D1, D2, D3]) rfl ?_
      exact ⟨d1, _, _, _, _, rfl, (SS.out.o.kp kp.out).base HLW.out, (by rw [HPD.out, HP4.out, HPF.out]; have h9 := HZ.out; rw [HVV.out] at h9; simp [actO, pcO, regO, memO, bufO, HO.out, HPC2.out.1, HPC2.out.2, HVV.out, h9]), BF.out⟩
    by_cases o2 : x.x.op = 2
    ·
      have HO := Lib.hid o2
      rw [o2] at Kx
      clear o20
      clear o21
      clear o2
      obtain ⟨i, hi, hil⟩ := thr_reg HT.out (by rw [HO.out]; rfl)
      rw [hi] at Kx
      have HI := Lib.hid hi
      clear hi
      replace SS := Lib.hid (SS.out.below (below_draws' w5))
      obtain ⟨g_5, u_5, hg0_5, hkm_5, hgB_5, hgN_5, hl_5, hc_5, hf_5, ap_5, hst_5⟩ := SS.out.putPc k (by rw [HPF.out, HLN.out.1]; exact hkp)
      subst hg0_5
      have q1_5 : (0 : Int) ≤ (k : Int) := by omega
      have q2_5 : (k : Int) < (m0 : Int) := by omega
      obtain ⟨d1, hp_5, s_5, f_5⟩ := hst_5 ((pc : Int) + 1)
      have HP5 := Lib.hid hp_5
      replace SS := Lib.hid s_5
      have F := Lib.hid f_5
      clear hp_5 s_5 f_5 hst_5
      obtain ⟨cc0, cc1, cc2, cc3, ccl⟩ := bk4 Kc.out
      obtain ⟨dc0, dc1, dc2, dc3, dcl⟩ := bk4 Kd.out
      go_wp2_with fail
      go_still_tail 10, (by kernel_rfl)
      change wpList _ _ _ _ _ w5.drew
      clear cc0 cc1 cc2 cc3 ccl dc0 dc1 dc2 dc3 dcl
      replace Ku := Lib.hid (Ku.out.below (below_draws' w5))
      replace Kc := Lib.hid (Kc.out.below (below_draws' w5))
      replace Kz := Lib.hid (Kz.out.below (below_draws' w5))
      replace Kd := Lib.hid (Kd.out.below (below_draws' w5))
      replace Kx := Lib.hid (Kx.out.below (below_draws' w5))
      replace B := Lib.hid (B.out.trans ((below_draws' w5).mono B.out.size))
      generalize w5.drew = w5d at SS F Ku Kc Kz Kd Kx B hl_5 hc_5 hf_5 ⊢
      have nec_5 : ¬ g_5 = w.heap.size + 1 := by have := SZ.out; omega
      have enc_5 : ¬ w.heap.size + 1 = g_5 := fun h => nec_5 h.symm
      have ned_5 : ¬ g_5 = w1s := by omega
      have end_5 : ¬ w1s = g_5 := fun h => ned_5 h.symm
      have nex_5 : ¬ g_5 = w3s := by have := HWS.out; omega
      have enx_5 : ¬ w3s = g_5 := fun h => nex_5 h.symm
      obtain ⟨cc0, cc1, cc2, cc3, ccl⟩ := bk4 Kc.out
      obtain ⟨dc0, dc1, dc2, dc3, dcl⟩ := bk4 Kd.out
      obtain ⟨xc0, xc1, xc2, xc3, xc4, xc5, xc6, xcl⟩ := bk7 Kx.out
      go_wp2_with fail
      clear cc0 cc1 cc2 cc3 ccl dc0 dc1 dc2 dc3 dcl xc0 xc1 xc2 xc3 xc4 xc5 xc6 xcl
      generalize w5d.setCell ⟨g_5, k, none⟩ _ = w6 at SS F ⊢
      clear q1_5 q2_5 hkm_5 hgB_5 hgN_5 hl_5 hc_5 hf_5 yp1 lp1 nec_5 enc_5 ned_5 end_5 nex_5 enx_5 ap_5
      replace Ku := Lib.hid (bkBelow F.out.b (show w.heap.size < w0.heap.size by have := SZ.out; omega) Ku.out)
      replace Kc := Lib.hid (bkBelow F.out.b (show w.heap.size + 1 < w0.heap.size by have := SZ.out; omega) Kc.out)
      replace Kz := Lib.hid (bkBelow F.out.b (show w.heap.size + 1 + 1 < w0.heap.size by have := SZ.out; omega) Kz.out)
      replace Kd := Lib.hid (F.out.bk (Nat.le_refl _) Kd.out)
      replace Kx := Lib.hid (F.out.bk HWS.out Kx.out)
      replace B := Lib.hid (B.out.trans (F.out.b.mono HLW.out))
      clear F
      replace SS := Lib.hid (SS.out.below (below_draws' w6))
      obtain ⟨g1_6, g_6, mr_6, cr_6, u_6, hg0_6, hkm_6, hl1_6, hc1_6, him_6, hgB_6, hgN_6, hl_6, hc_6, hf_6, ap_6, hst_6⟩ := SS.out.putReg k (by rw [HP5.out, HPF.out]; show k < c.pf.regs.length; rw [HLN.out.2.1]; exact hkr) i (by rw [HP5.out, HPF.out]; exact hil)
      replace hc1_6 : w6.cell? ⟨g1_6, k, none⟩ = _ := hc1_6
      replace hl1_6 : g1_6 < w6.heap.size := hl1_6
      subst hg0_6
      have q1_6 : (0 : Int) ≤ (k : Int) := by omega
      have q2_6 : (k : Int) < (m1 : Int) := by omega
      have q3_6 : (0 : Int) ≤ (i : Int) := by omega
      have q4_6 : (i : Int) < (mr_6 : Int) := by omega
      obtain ⟨d2, hp_6, s_6, f_6⟩ := hst_6 ev
      have HP6 := Lib.hid hp_6
      replace SS := Lib.hid s_6
      have F := Lib.hid f_6
      clear hp_6 s_6 f_6 hst_6
      obtain ⟨dc0, dc1, dc2, dc3, dcl⟩ := bk4 Kd.out
      obtain ⟨xc0, xc1, xc2, xc3, xc4, xc5, xc6, xcl⟩ := bk7 Kx.out
      go_wp2_with fail
      go_still_tail 9, (by kernel_rfl)
      change wpList _ _ _ _ _ w6.drew
      clear dc0 dc1 dc2 dc3 dcl xc0 xc1 xc2 xc3 xc4 xc5 xc6 xcl
      replace Ku := Lib.hid (Ku.out.below (below_draws' w6))
      replace Kc := Lib.hid (Kc.out.below (below_draws' w6))
      replace Kz := Lib.hid (Kz.out.below (below_draws' w6))
      replace Kd := Lib.hid (Kd.out.below (below_draws' w6))
      replace Kx := Lib.hid (Kx.out.below (below_draws' w6))
      replace B := Lib.hid (B.out.trans ((below_draws' w6).mono B.out.size))
      generalize w6.drew = w6d at SS F Ku Kc Kz Kd Kx B hl_6 hc_6 hf_6 ⊢
      have nez_6 : ¬ g_6 = w.heap.size + 1 + 1 := by have := SZ.out; omega
      have enz_6 : ¬ w.heap.size + 1 + 1 = g_6 := fun h => nez_6 h.symm
      have ned_6 : ¬ g_6 = w1s := by omega
      have end_6 : ¬ w1s = g_6 := fun h => ned_6 h.symm
      have nex_6 : ¬ g_6 = w3s := by have := HWS.out; omega
      have enx_6 : ¬ w3s = g_6 := fun h => nex_6 h.symm
      obtain ⟨fz0, fz1, fz2, fz3⟩ := bkf4 Kz.out
      obtain ⟨zc0, zc1, zc2, zc3, zcl⟩ := bk4 Kz.out
      obtain ⟨dc0, dc1, dc2, dc3, dcl⟩ := bk4 Kd.out
      obtain ⟨xc0, xc1, xc2, xc3, xc4, xc5, xc6, xcl⟩ := bk7 Kx.out
      go_wp2_with fail
      clear zc0 zc1 zc2 zc3 zcl dc0 dc1 dc2 dc3 dcl xc0 xc1 xc2 xc3 xc4 xc5 xc6 xcl
      generalize w6d.setCell ⟨g_6, i, none⟩ _ = w7 at SS F ⊢
      clear q1_6 q2_6 hkm_6 hgB_6 hgN_6 hl_6 hc_6 hf_6 q3_6 q4_6 hl1_6 hc1_6 him_6 nez_6 enz_6 ned_6 end_6 nex_6 enx_6 fz0 fz1 fz2 fz3 ap_6
      replace Ku := Lib.hid (bkBelow F.out.b (show w.heap.size < w0.heap.size by have := SZ.out; omega) Ku.out)
      replace Kc := Lib.hid (bkBelow F.out.b (show w.heap.size + 1 < w0.heap.size by have := SZ.out; omega) Kc.out)
      replace Kz := Lib.hid (bkBelow F.out.b (show w.heap.size + 1 + 1 < w0.heap.size by have := SZ.out; omega) Kz.out)
      replace Kd := Lib.hid (F.out.bk (Nat.le_refl _) Kd.out)
      replace Kx := Lib.hid (F.out.bk HWS.out Kx.out)
      replace B := Lib.hid (B.out.trans (F.out.b.mono HLW.out))
      clear F
      have KF := Lib.hid (set4_bk (.slice (some ⟨g_5, 0, none⟩) m0 n0) (.slice (some ⟨g1_6, 0, none⟩) m1 n1) (.slice a2 m2 n2) (.slice a3 m3 n3) Kz.out)
      have kp := Lib.hid (set4_kp (w := w7) (B := w0.heap.size) (.slice (some ⟨g_5, 0, none⟩) m0 n0) (.slice (some ⟨g1_6, 0, none⟩) m1 n1) (.slice a2 m2 n2) (.slice a3 m3 n3) (show w.heap.size + 1 + 1 < w0.heap.size by have := SZ.out; omega))
      have BF := Lib.hid (set4_below (.slice (some ⟨g_5, 0, none⟩) m0 n0) (.slice (some ⟨g1_6, 0, none⟩) m1 n1) (.slice a2 m2 n2) (.slice a3 m3 n3) B.out (show w.heap.size ≤ w.heap.size + 1 + 1 by omega))
      generalize (((w7.setCell _ _).setCell _ _).setCell _ _).setCell _ _ = w99 at KF kp BF ⊢
      have D0 : w99.cell? ⟨w.heap.size + 1 + 1, 0, none⟩ = some _ := KF.out.cell 0
      have D1 : w99.cell? ⟨w.heap.size + 1 + 1, 1, none⟩ = some _ := KF.out.cell 1
      have D2 : w99.cell? ⟨w.heap.size + 1 + 1, 2, none⟩ = some _ := KF.out.cell 2
      have D3 : w99.cell? ⟨w.heap.size + 1 + 1, 3, none⟩ = some _ := KF.out.cell 3
      refine bodyPost_ret (v := .tuple #[.agg #[.slice (some ⟨g_5, 0, none⟩) m0 n0, .slice (some ⟨g1_6, 0, none⟩) m1 n1, .slice a2 m2 n2, .slice a3 m3 n3], .bool true]) (by simp [results, Tryz.results9, go_sem, D0, D1, D2, D3]) rfl ?_
      exact ⟨d2, _, _, _, _, rfl, (SS.out.o.kp kp.out).base HLW.out, (by rw [HPD.out, HP6.out, HP5.out, HPF.out]; simp [actO, pcO, regO, memO, bufO, HO.out, HPC2.out.1, HPC2.out.2, HVV.out, HI.out]), BF.out⟩
    by_cases o3 : x.x.op = 3
    ·
      have HO := Lib.hid o3
      rw [o3] at Kx
      clear o20
      clear o21
      clear o2
      clear o3
      obtain ⟨i, hi, hil⟩ := thr_reg HT.out (by rw [HO.out]; rfl)
      rw [hi] at Kx
      have HI := Lib.hid hi
      clear hi
      replace SS := Lib.hid (SS.out.below (below_draws' w5))
      obtain ⟨g_7, u_7, hg0_7, hkm_7, hgB_7, hgN_7, hl_7, hc_7, hf_7, ap_7, hst_7⟩ := SS.out.putPc k (by rw [HPF.out, HLN.out.1]; exact hkp)
      subst hg0_7
      have q1_7 : (0 : Int) ≤ (k : Int) := by omega
      have q2_7 : (k : Int) < (m0 : Int) := by omega
      obtain ⟨d1, hp_7, s_7, f_7⟩ := hst_7 ((pc : Int) + 1)
      have HP7 := Lib.hid hp_7
      replace SS := Lib.hid s_7
      have F := Lib.hid f_7
      clear hp_7 s_7 f_7 hst_7
      obtain ⟨cc0, cc1, cc2, cc3, ccl⟩ := bk4 Kc.out
      obtain ⟨dc0, dc1, dc2, dc3, dcl⟩ := bk4 Kd.out
      go_wp2_with fail
      go_still_tail 10, (by kernel_rfl)
      change wpList _ _ _ _ _ w5.drew
      clear cc0 cc1 cc2 cc3 ccl dc0 dc1 dc2 dc3 dcl
      replace Ku := Lib.hid (Ku.out.below (below_draws' w5))
      replace Kc := Lib.hid (Kc.out.below (below_draws' w5))
      replace Kz := Lib.hid (Kz.out.below (below_draws' w5))
      replace Kd := Lib.hid (Kd.out.below (below_draws' w5))
      replace Kx := Lib.hid (Kx.out.below (below_draws' w5))
      replace B := Lib.hid (B.out.trans ((below_draws' w5).mono B.out.size))
      generalize w5.drew = w5d at SS F Ku Kc Kz Kd Kx B hl_7 hc_7 hf_7 ⊢
      have nec_7 : ¬ g_7 = w.heap.size + 1 := by have := SZ.out; omega
      have enc_7 : ¬ w.heap.size + 1 = g_7 := fun h => nec_7 h.symm
      have ned_7 : ¬ g_7 = w1s := by omega
      have end_7 : ¬ w1s = g_7 := fun h => ned_7 h.symm
      have nex_7 : ¬ g_7 = w3s := by have := HWS.out; omega
      have enx_7 : ¬ w3s = g_7 := fun h => nex_7 h.symm
      obtain ⟨cc0, cc1, cc2, cc3, ccl⟩ := bk4 Kc.out
      obtain ⟨dc0, dc1, dc2, dc3, dcl⟩ := bk4 Kd.out
      obtain ⟨xc0, xc1, xc2, xc3, xc4, xc5, xc6, xcl⟩ := bk7 Kx.out
      go_wp2_with fail
      clear cc0 cc1 cc2 cc3 ccl dc0 dc1 dc2 dc3 dcl xc0 xc1 xc2 xc3 xc4 xc5 xc6 xcl
      generalize w5d.setCell ⟨g_7, k, none⟩ _ = w6 at SS F ⊢
      clear q1_7 q2_7 hkm_7 hgB_7 hgN_7 hl_7 hc_7 hf_7 yp1 lp1 nec_7 enc_7 ned_7 end_7 nex_7 enx_7 ap_7
      replace Ku := Lib.hid (bkBelow F.out.b (show w.heap.size < w0.heap.size by have := SZ.out; omega) Ku.out)
      replace Kc := Lib.hid (bkBelow F.out.b (show w.heap.size + 1 < w0.heap.size by have := SZ.out; omega) Kc.out)
      replace Kz := Lib.hid (bkBelow F.out.b (show w.heap.size + 1 + 1 < w0.heap.size by have := SZ.out; omega) Kz.out)
      replace Kd := Lib.hid (F.out.bk (Nat.le_refl _) Kd.out)
      replace Kx := Lib.hid (F.out.bk HWS.out Kx.out)
      replace B := Lib.hid (B.out.trans (F.out.b.mono HLW.out))
      clear F
      obtain ⟨g1r, gr, mrr, crr, hg0, hkm, hl1, hc1, him, hgB, hgN, hgne, hst⟩ := SS.out.putReg2 k (by rw [HP7.out, HPF.out]; show k < c.pf.regs.length; rw [HLN.out.2.1]; exact hkr) i (by rw [HP7.out, HPF.out]; exact hil)
      subst hg0
      have HST := Lib.hid hst
      clear hst
      have q1r : (0 : Int) ≤ (k : Int) := by omega
      have q2r : (k : Int) < (m1 : Int) := by omega
      have q3r : (0 : Int) ≤ (i : Int) := by omega
      have q4r : (i : Int) < (mrr : Int) := by omega
      have HRW := Lib.hid (fun (W : World) (h : Below w6.heap.size w6 W) => (h.cell (p := ⟨g1r, k, none⟩) hl1).trans hc1)
      have B6 : Hid (Below w6.heap.size w6 w6) := Lib.hid (Below.refl _ _)
      have HL1 := Lib.hid hl1
      have HKM := Lib.hid hgN
      obtain ⟨cc0, cc1, cc2, cc3, ccl⟩ := bk4 Kc.out
      obtain ⟨dc0, dc1, dc2, dc3, dcl⟩ := bk4 Kd.out
      obtain ⟨xc0, xc1, xc2, xc3, xc4, xc5, xc6, xcl⟩ := bk7 Kx.out
      go_wp2_with fail
      clear cc0 cc1 cc2 cc3 ccl dc0 dc1 dc2 dc3 dcl xc0 xc1 xc2 xc3 xc4 xc5 xc6 xcl
      replace Ku := Lib.hid (Ku.out.below (below_draws' w6))
      replace Kc := Lib.hid (Kc.out.below (below_draws' w6))
      replace Kz := Lib.hid (Kz.out.below (below_draws' w6))
      replace Kd := Lib.hid (Kd.out.below (below_draws' w6))
      replace Kx := Lib.hid (Kx.out.below (below_draws' w6))
      replace SS := Lib.hid (SS.out.below (below_draws' w6))
      replace B := Lib.hid (B.out.trans ((below_draws' w6).mono B.out.size))
      replace B6 := Lib.hid (B6.out.trans ((below_draws' w6).mono B6.out.size))
      refine wp_region_held_drew (S := fun W1 => W1.cell? ⟨w.heap.size + 1, 0, none⟩ = some (.slice (some ⟨bp, op, none⟩) np cp) ∧ W1.cell? ⟨w.heap.size + 1, 1, none⟩ = some (.slice ara nr cr) ∧ W1.cell? ⟨w.heap.size + 1, 2, none⟩ = some (.slice ama nm cm) ∧ W1.cell? ⟨w.heap.size + 1, 3, none⟩ = some (.slice (some ⟨bb, ob, none⟩) nb cb) ∧ W1.cell? ⟨w1s, 0, none⟩ = some (.slice (some ⟨g_7, 0, none⟩) m0 n0) ∧ W1.cell? ⟨w1s, 1, none⟩ = some (.slice (some ⟨g1r, 0, none⟩) m1 n1) ∧ W1.cell? ⟨w1s, 2, none⟩ = some (.slice a2 m2 n2) ∧ W1.cell? ⟨w1s, 3, none⟩ = some (.slice a3 m3 n3) ∧ W1.cell? ⟨w3s, 0, none⟩ = some (.int .i64 3) ∧ W1.cell? ⟨w3s, 1, none⟩ = some (.int .i64 i) ∧ W1.cell? ⟨w3s, 2, none⟩ = some (.int .i64 x.x.loc) ∧ W1.cell? ⟨w3s, 3, none⟩ = some (x.ev) ∧ W1.cell? ⟨w3s, 4, none⟩ = some (x.fv) ∧ W1.cell? ⟨w3s, 5, none⟩ = some (.bool x.x.ne) ∧ W1.cell? ⟨w3s, 6, none⟩ = some (.int .i64 x.x.to) ∧ W1.cell? ⟨g1r, k, none⟩ = some (.slice (some ⟨gr, 0, none⟩) mrr crr) ∧ True) (by kernel_rfl) ⟨Kc.out.cell 0, Kc.out.cell 1, Kc.out.cell 2, Kc.out.cell 3, Kd.out.cell 0, Kd.out.cell 1, Kd.out.cell 2, Kd.out.cell 3, Kx.out.cell 0, Kx.out.cell 1, Kx.out.cell 2, Kx.out.cell 3, Kx.out.cell 4, Kx.out.cell 5, Kx.out.cell 6, HRW.out w6.drew B6.out, trivial⟩ (fun hS => ?_)
      refine wpAnyH_take (i := 0) (v := .pointer (some ⟨w1s, 1, none⟩)) rfl (by kernel_rfl) (by kernel_rfl) (by kernel_rfl) (fun _ _ _ h => h) (Or.inl ⟨by rfl, fun w hSw => by obtain ⟨s0, s1, s2, s3, s4, s5, s6, s7, s8, s9, s10, s11, s12, s13, s14, s15, _⟩ := hSw; first | (go_simp; done) | (go_simp; with_reducible rfl)⟩) hS ?_
      simp only [Act.put, List.setIfInBounds_toArray, List.set_cons_zero, List.set_cons_succ]
      refine wpAnyH_take (i := 1) (v := .slice (some ⟨g1r, 0, none⟩) m1 n1) rfl (by kernel_rfl) (by kernel_rfl) (by kernel_rfl) (fun _ _ _ h => h) (Or.inl ⟨by rfl, fun w hSw => by obtain ⟨s0, s1, s2, s3, s4, s5, s6, s7, s8, s9, s10, s11, s12, s13, s14, s15, _⟩ := hSw; first | (go_simp; done) | (go_simp; with_reducible rfl)⟩) hS ?_
      simp only [Act.put, List.setIfInBounds_toArray, List.set_cons_zero, List.set_cons_succ]
      refine wpAnyH_take (i := 2) (v := .int .i64 k) rfl (by kernel_rfl) (by kernel_rfl) (by kernel_rfl) (fun _ _ _ h => h) (Or.inl ⟨by rfl, fun w hSw => by obtain ⟨s0, s1, s2, s3, s4, s5, s6, s7, s8, s9, s10, s11, s12, s13, s14, s15, _⟩ := hSw; first | (go_simp; done) | (go_simp; with_reducible rfl)⟩) hS ?_
      simp only [Act.put, List.setIfInBounds_toArray, List.set_cons_zero, List.set_cons_succ]
      refine wpAnyH_take (i := 3) (v := .pointer (some ⟨g1r, k, none⟩)) rfl (by kernel_rfl) (by kernel_rfl) (by kernel_rfl) (fun _ _ _ h => h) (Or.inl ⟨by rfl, fun w hSw => by obtain ⟨s0, s1, s2, s3, s4, s5, s6, s7, s8, s9, s10, s11, s12, s13, s14, s15, _⟩ := hSw; first | (go_simp; done) | (go_simp; with_reducible rfl)⟩) hS ?_
      simp only [Act.put, List.setIfInBounds_toArray, List.set_cons_zero, List.set_cons_succ]
      refine wpAnyH_take (i := 4) (v := .slice (some ⟨gr, 0, none⟩) mrr crr) rfl (by kernel_rfl) (by kernel_rfl) (by kernel_rfl) (fun _ _ _ h => h) (Or.inl ⟨by rfl, fun w hSw => by obtain ⟨s0, s1, s2, s3, s4, s5, s6, s7, s8, s9, s10, s11, s12, s13, s14, s15, _⟩ := hSw; first | (go_simp; done) | (go_simp; with_reducible rfl)⟩) hS ?_
      simp only [Act.put, List.setIfInBounds_toArray, List.set_cons_zero, List.set_cons_succ]
      refine wpAnyH_take (i := 5) (v := .pointer (some ⟨w3s, 1, none⟩)) rfl (by kernel_rfl) (by kernel_rfl) (by kernel_rfl) (fun _ _ _ h => h) (Or.inl ⟨by rfl, fun w hSw => by obtain ⟨s0, s1, s2, s3, s4, s5, s6, s7, s8, s9, s10, s11, s12, s13, s14, s15, _⟩ := hSw; first | (go_simp; done) | (go_simp; with_reducible rfl)⟩) hS ?_
      simp only [Act.put, List.setIfInBounds_toArray, List.set_cons_zero, List.set_cons_succ]
      refine wpAnyH_take (i := 6) (v := .int .i64 i) rfl (by kernel_rfl) (by kernel_rfl) (by kernel_rfl) (fun _ _ _ h => h) (Or.inl ⟨by rfl, fun w hSw => by obtain ⟨s0, s1, s2, s3, s4, s5, s6, s7, s8, s9, s10, s11, s12, s13, s14, s15, _⟩ := hSw; first | (go_simp; done) | (go_simp; with_reducible rfl)⟩) hS ?_
      simp only [Act.put, List.setIfInBounds_toArray, List.set_cons_zero, List.set_cons_succ]
      refine wpAnyH_take (i := 7) (v := .agg #[.slice (some ⟨bp, op, none⟩) np cp, .slice ara nr cr, .slice ama nm cm, .slice (some ⟨bb, ob, none⟩) nb cb]) rfl (by kernel_rfl) (by kernel_rfl) (by kernel_rfl) (fun _ _ _ h => h) (Or.inl ⟨by rfl, fun w hSw => by obtain ⟨s0, s1, s2, s3, s4, s5, s6, s7, s8, s9, s10, s11, s12, s13, s14, s15, _⟩ := hSw; first | (go_simp; done) | (go_simp; with_reducible rfl)⟩) hS ?_
      simp only [Act.put, List.setIfInBounds_toArray, List.set_cons_zero, List.set_cons_succ]
      refine wpAnyH_take (i := 8) (v := .int .i64 k) rfl (by kernel_rfl) (by kernel_rfl) (by kernel_rfl) (fun _ _ _ h => h) (Or.inl ⟨by rfl, fun w hSw => by obtain ⟨s0, s1, s2, s3, s4, s5, s6, s7, s8, s9, s10, s11, s12, s13, s14, s15, _⟩ := hSw; first | (go_simp; done) | (go_simp; with_reducible rfl)⟩) hS ?_
      simp only [Act.put, List.setIfInBounds_toArray, List.set_cons_zero, List.set_cons_succ]
      refine wpAnyH_take (i := 9) (v := .pointer (some ⟨w3s, 2, none⟩)) rfl (by kernel_rfl) (by kernel_rfl) (by kernel_rfl) (fun _ _ _ h => h) (Or.inl ⟨by rfl, fun w hSw => by obtain ⟨s0, s1, s2, s3, s4, s5, s6, s7, s8, s9, s10, s11, s12, s13, s14, s15, _⟩ := hSw; first | (go_simp; done) | (go_simp; with_reducible rfl)⟩) hS ?_
      simp only [Act.put, List.setIfInBounds_toArray, List.set_cons_zero, List.set_cons_succ]
      refine wpAnyH_take (i := 10) (v := .int .i64 x.x.loc) rfl (by kernel_rfl) (by kernel_rfl) (by kernel_rfl) (fun _ _ _ h => h) (Or.inl ⟨by rfl, fun w hSw => by obtain ⟨s0, s1, s2, s3, s4, s5, s6, s7, s8, s9, s10, s11, s12, s13, s14, s15, _⟩ := hSw; first | (go_simp; done) | (go_simp; with_reducible rfl)⟩) hS ?_
      simp only [Act.put, List.setIfInBounds_toArray, List.set_cons_zero, List.set_cons_succ]
      refine wpAnyH_ready (rs := [11]) (by kernel_rfl) (by simp) ?_
      refine AllReadyH.cons rfl (fun K hK => ?_) AllReadyH.nil
      go_simp
      go_wp2_with (fail)
      
      refine (HRX.out w6.drew B.out).mono ?_
      rintro e w7 ⟨rfl, b⟩
      obtain ⟨rv, hrv⟩ : ∃ z, z = readsP c.pf k x.x.loc := ⟨_, rfl⟩
      rw [← hrv]
      have HRV := Lib.hid hrv
      clear hrv
      have BR : Hid (Below w6.heap.size w6 w7) := Lib.hid ((below_draws' w6).trans b)
      replace Ku := Lib.hid (Ku.out.below b)
      replace Kc := Lib.hid (Kc.out.below b)
      replace Kz := Lib.hid (Kz.out.below b)
      replace Kd := Lib.hid (Kd.out.below b)
      replace Kx := Lib.hid (Kx.out.below b)
      replace SS := Lib.hid (SS.out.below b)
      replace B := Lib.hid (B.out.trans (b.mono B.out.size))
      replace B6 := Lib.hid (B6.out.trans (b.mono B6.out.size))
      clear b hl1 hc1
      go_wp2_with (fail)
      refine hK.out _ _ ⟨Kc.out.cell 0, Kc.out.cell 1, Kc.out.cell 2, Kc.out.cell 3, Kd.out.cell 0, Kd.out.cell 1, Kd.out.cell 2, Kd.out.cell 3, Kx.out.cell 0, Kx.out.cell 1, Kx.out.cell 2, Kx.out.cell 3, Kx.out.cell 4, Kx.out.cell 5, Kx.out.cell 6, HRW.out w7 B6.out, trivial⟩ (fun hS => ?_)
      clear hK K
      obtain ⟨u_8, hl_8, hc_8, hf_8, hst_8⟩ := HST.out w7 BR.out
      obtain ⟨d2, hp_8, s_8, f_8⟩ := hst_8 rv
      have HP8 := Lib.hid hp_8
      replace SS := Lib.hid s_8
      have F := Lib.hid f_8
      clear hp_8 s_8 f_8 hst_8
      refine wpAnyH_take (i := 12) (v := .pointer (some ⟨gr, i, none⟩)) rfl (by kernel_rfl) (by kernel_rfl) (by kernel_rfl) (fun _ _ _ h => h) (Or.inl ⟨by rfl, fun w hSw => by obtain ⟨s0, s1, s2, s3, s4, s5, s6, s7, s8, s9, s10, s11, s12, s13, s14, s15, _⟩ := hSw; first | (go_simp; done) | (go_simp; with_reducible rfl)⟩) hS ?_
      simp only [Act.put, List.setIfInBounds_toArray, List.set_cons_zero, List.set_cons_succ]
      refine wpAnyH_ready (rs := [13]) (by kernel_rfl) (by simp) ?_
      refine AllReadyH.cons rfl (fun K hK => ?_) AllReadyH.nil
      go_simp
      go_wp2_with (fail)
      
      have HRN : Hid ((w7.setCell ⟨gr, i, none⟩ (.int .i64 rv)).cell? ⟨g1r, k, none⟩ = some (.slice (some ⟨gr, 0, none⟩) mrr crr)) := Lib.hid (by rw [World.cell?_setCell_other] <;> first | exact HRW.out w7 B6.out | (intro e; injection e with e; exact hgne e))
      generalize w7.setCell ⟨gr, i, none⟩ _ = w8 at SS F HRN ⊢
      clear hl_8 hc_8 hf_8 hS
      replace Ku := Lib.hid (bkBelow F.out.b (show w.heap.size < w0.heap.size by have := SZ.out; omega) Ku.out)
      replace Kc := Lib.hid (bkBelow F.out.b (show w.heap.size + 1 < w0.heap.size by have := SZ.out; omega) Kc.out)
      replace Kz := Lib.hid (bkBelow F.out.b (show w.heap.size + 1 + 1 < w0.heap.size by have := SZ.out; omega) Kz.out)
      replace Kd := Lib.hid (F.out.bk (Nat.le_refl _) Kd.out)
      replace Kx := Lib.hid (F.out.bk HWS.out Kx.out)
      replace B := Lib.hid (B.out.trans (F.out.b.mono HLW.out))
      clear F
      refine hK.out _ _ ⟨Kc.out.cell 0, Kc.out.cell 1, Kc.out.cell 2, Kc.out.cell 3, Kd.out.cell 0, Kd.out.cell 1, Kd.out.cell 2, Kd.out.cell 3, Kx.out.cell 0, Kx.out.cell 1, Kx.out.cell 2, Kx.out.cell 3, Kx.out.cell 4, Kx.out.cell 5, Kx.out.cell 6, HRN.out, trivial⟩ (fun hS => ?_)
      clear hK K hS
      refine wpAnyH_done (by kernel_rfl) ?_ _
      try simp only [Act.put, List.setIfInBounds_toArray, List.set_cons_zero, List.set_cons_succ]
      obtain ⟨z0, z1, z2, z3, lz⟩ := bk4 Kz.out
      obtain ⟨y0, y1, y2, y3⟩ := bkf4 Kz.out
      obtain ⟨dc0, dc1, dc2, dc3, dcl⟩ := bk4 Kd.out
      go_wp2_with fail
      clear dc0 dc1 dc2 dc3 dcl
      have KF := Lib.hid (set4_bk (.slice (some ⟨g_7, 0, none⟩) m0 n0) (.slice (some ⟨g1r, 0, none⟩) m1 n1) (.slice a2 m2 n2) (.slice a3 m3 n3) Kz.out)
      have kp := Lib.hid (set4_kp (w := w8) (B := w0.heap.size) (.slice (some ⟨g_7, 0, none⟩) m0 n0) (.slice (some ⟨g1r, 0, none⟩) m1 n1) (.slice a2 m2 n2) (.slice a3 m3 n3) (show w.heap.size + 1 + 1 < w0.heap.size by have := SZ.out; omega))
      have BF := Lib.hid (set4_below (.slice (some ⟨g_7, 0, none⟩) m0 n0) (.slice (some ⟨g1r, 0, none⟩) m1 n1) (.slice a2 m2 n2) (.slice a3 m3 n3) B.out (show w.heap.size ≤ w.heap.size + 1 + 1 by omega))
      generalize (((w8.setCell _ _).setCell _ _).setCell _ _).setCell _ _ = w99 at KF kp BF ⊢
      clear z0 z1 z2 z3 y0 y1 y2 y3 lz
      have D0 : w99.cell? ⟨w.heap.size + 1 + 1, 0, none⟩ = some _ := KF.out.cell 0
      have D1 : w99.cell? ⟨w.heap.size + 1 + 1, 1, none⟩ = some _ := KF.out.cell 1
      have D2 : w99.cell? ⟨w.heap.size + 1 + 1, 2, none⟩ = some _ := KF.out.cell 2
      have D3 : w99.cell? ⟨w.heap.size + 1 + 1, 3, none⟩ = some _ := KF.out.cell 3
      refine bodyPost_ret (v := .tuple #[.agg #[.slice (some ⟨g_7, 0, none⟩) m0 n0, .slice (some ⟨g1r, 0, none⟩) m1 n1, .slice a2 m2 n2, .slice a3 m3 n3], .bool true]) (by simp [results, Tryz.results9, go_sem, D0, D1, D2, D3]) rfl ?_
      exact ⟨d2, _, _, _, _, rfl, (SS.out.o.kp kp.out).base HLW.out, (by rw [HPD.out, HP8.out, HP7.out, HPF.out]; simp [actO, pcO, regO, memO, bufO, HO.out, HPC2.out.1, HPC2.out.2, HVV.out, HI.out, HRV.out]), BF.out⟩
    by_cases o4 : x.x.op = 4
    ·
      have HO := Lib.hid o4
      rw [o4] at Kx
      clear o20
      clear o21
      clear o2
      clear o3
      clear o4
      obtain ⟨j, hj, hjl⟩ := thr_loc HR.out HT.out (by rw [HO.out]; rfl)
      have hjm : j < nm := by rw [HLN.out.2.2.1] at hjl; exact hjl
      rw [hj] at Kx
      have HJ := Lib.hid hj
      clear hj
      by_cases hm1 : model = 1
      ·
        have em : (model == 1) = true := by simp [hm1]
        have HM := Lib.hid hm1
        clear hm1
        replace SS := Lib.hid (SS.out.below (below_draws' w5))
        obtain ⟨g_9, u_9, hg0_9, hkm_9, hgB_9, hgN_9, hl_9, hc_9, hf_9, ap_9, hst_9⟩ := SS.out.putPc k (by rw [HPF.out, HLN.out.1]; exact hkp)
        obtain ⟨gm_9, um_9, hgm_9, hjk_9, hmB_9, hmN_9, hml_9, hmc_9, hmf_9, _⟩ := SS.out.putMem j (by rw [HPF.out]; exact hjl)
        subst hgm_9
        have nm_9 := ap_9 gm_9 rfl
        have mn_9 : ¬ gm_9 = g_9 := fun h => nm_9 h.symm
        have qm_9 : (j : Int) < (m2 : Int) := by omega
        subst hg0_9
        have q1_9 : (0 : Int) ≤ (k : Int) := by omega
        have q2_9 : (k : Int) < (m0 : Int) := by omega
        obtain ⟨d1, hp_9, s_9, f_9⟩ := hst_9 ((pc : Int) + 1)
        have HP9 := Lib.hid hp_9
        replace SS := Lib.hid s_9
        have F := Lib.hid f_9
        clear hp_9 s_9 f_9 hst_9
        obtain ⟨cc0, cc1, cc2, cc3, ccl⟩ := bk4 Kc.out
        obtain ⟨dc0, dc1, dc2, dc3, dcl⟩ := bk4 Kd.out
        go_wp2_with fail
        go_still_tail 10, (by kernel_rfl)
        change wpList _ _ _ _ _ w5.drew
        clear cc0 cc1 cc2 cc3 ccl dc0 dc1 dc2 dc3 dcl
        replace Ku := Lib.hid (Ku.out.below (below_draws' w5))
        replace Kc := Lib.hid (Kc.out.below (below_draws' w5))
        replace Kz := Lib.hid (Kz.out.below (below_draws' w5))
        replace Kd := Lib.hid (Kd.out.below (below_draws' w5))
        replace Kx := Lib.hid (Kx.out.below (below_draws' w5))
        replace B := Lib.hid (B.out.trans ((below_draws' w5).mono B.out.size))
        generalize w5.drew = w5d at SS F Ku Kc Kz Kd Kx B hl_9 hc_9 hf_9 hml_9 hmc_9 hmf_9 ⊢
        obtain ⟨g_10, u_10, hg0_10, hkm_10, hgB_10, hgN_10, hl_10, hc_10, hf_10, hst_10⟩ := SS.out.putMem j (by rw [HP9.out, HPF.out]; exact hjl)
        obtain rfl : gm_9 = g_10 := by injection hg0_10 with h; injection h with h
        clear hg0_10 hkm_10 hgB_10 hgN_10 hl_10 hc_10 hf_10
        obtain ⟨d2, hp_10, s_10, f_10⟩ := hst_10 ev
        have HP10 := Lib.hid hp_10
        replace SS := Lib.hid s_10
        replace F := Lib.hid (F.out.trans f_10)
        clear hp_10 s_10 f_10 hst_10
        have nec_9 : ¬ g_9 = w.heap.size + 1 := by have := SZ.out; omega
        have enc_9 : ¬ w.heap.size + 1 = g_9 := fun h => nec_9 h.symm
        have mec_9 : ¬ gm_9 = w.heap.size + 1 := by have := HWS.out; have := SZ.out; omega
        have emc_9 : ¬ w.heap.size + 1 = gm_9 := fun h => mec_9 h.symm
        have nez_9 : ¬ g_9 = w.heap.size + 1 + 1 := by have := SZ.out; omega
        have enz_9 : ¬ w.heap.size + 1 + 1 = g_9 := fun h => nez_9 h.symm
        have mez_9 : ¬ gm_9 = w.heap.size + 1 + 1 := by have := HWS.out; have := SZ.out; omega
        have emz_9 : ¬ w.heap.size + 1 + 1 = gm_9 := fun h => mez_9 h.symm
        have ned_9 : ¬ g_9 = w1s := by omega
        have end_9 : ¬ w1s = g_9 := fun h => ned_9 h.symm
        have med_9 : ¬ gm_9 = w1s := by have := HWS.out; have := SZ.out; omega
        have emd_9 : ¬ w1s = gm_9 := fun h => med_9 h.symm
        have nex_9 : ¬ g_9 = w3s := by have := HWS.out; omega
        have enx_9 : ¬ w3s = g_9 := fun h => nex_9 h.symm
        have mex_9 : ¬ gm_9 = w3s := by have := HWS.out; have := SZ.out; omega
        have emx_9 : ¬ w3s = gm_9 := fun h => mex_9 h.symm
        obtain ⟨fz0, fz1, fz2, fz3⟩ := bkf4 Kz.out
        obtain ⟨cc0, cc1, cc2, cc3, ccl⟩ := bk4 Kc.out
        obtain ⟨zc0, zc1, zc2, zc3, zcl⟩ := bk4 Kz.out
        obtain ⟨dc0, dc1, dc2, dc3, dcl⟩ := bk4 Kd.out
        obtain ⟨xc0, xc1, xc2, xc3, xc4, xc5, xc6, xcl⟩ := bk7 Kx.out
        go_wp2_with fail
        clear cc0 cc1 cc2 cc3 ccl zc0 zc1 zc2 zc3 zcl dc0 dc1 dc2 dc3 dcl xc0 xc1 xc2 xc3 xc4 xc5 xc6 xcl
        generalize (w5d.setCell ⟨g_9, k, none⟩ _).setCell ⟨gm_9, j, none⟩ _ = w6 at SS F ⊢
        clear q1_9 q2_9 hkm_9 hgB_9 hgN_9 hl_9 hc_9 hf_9 yp1 lp1 nec_9 enc_9 mec_9 emc_9 nez_9 enz_9 mez_9 emz_9 ned_9 end_9 med_9 emd_9 nex_9 enx_9 mex_9 emx_9 fz0 fz1 fz2 fz3 nm_9 mn_9 qm_9 hjk_9 hmB_9 hmN_9 hml_9 hmc_9 hmf_9 ap_9
        replace Ku := Lib.hid (bkBelow F.out.b (show w.heap.size < w0.heap.size by have := SZ.out; omega) Ku.out)
        replace Kc := Lib.hid (bkBelow F.out.b (show w.heap.size + 1 < w0.heap.size by have := SZ.out; omega) Kc.out)
        replace Kz := Lib.hid (bkBelow F.out.b (show w.heap.size + 1 + 1 < w0.heap.size by have := SZ.out; omega) Kz.out)
        replace Kd := Lib.hid (F.out.bk (Nat.le_refl _) Kd.out)
        replace Kx := Lib.hid (F.out.bk HWS.out Kx.out)
        replace B := Lib.hid (B.out.trans (F.out.b.mono HLW.out))
        clear F
        have KF := Lib.hid (set4_bk (.slice (some ⟨g_9, 0, none⟩) m0 n0) (.slice a1 m1 n1) (.slice (some ⟨gm_9, 0, none⟩) m2 n2) (.slice a3 m3 n3) Kz.out)
        have kp := Lib.hid (set4_kp (w := w6) (B := w0.heap.size) (.slice (some ⟨g_9, 0, none⟩) m0 n0) (.slice a1 m1 n1) (.slice (some ⟨gm_9, 0, none⟩) m2 n2) (.slice a3 m3 n3) (show w.heap.size + 1 + 1 < w0.heap.size by have := SZ.out; omega))
        have BF := Lib.hid (set4_below (.slice (some ⟨g_9, 0, none⟩) m0 n0) (.slice a1 m1 n1) (.slice (some ⟨gm_9, 0, none⟩) m2 n2) (.slice a3 m3 n3) B.out (show w.heap.size ≤ w.heap.size + 1 + 1 by omega))
        generalize (((w6.setCell _ _).setCell _ _).setCell _ _).setCell _ _ = w99 at KF kp BF ⊢
        have D0 : w99.cell? ⟨w.heap.size + 1 + 1, 0, none⟩ = some _ := KF.out.cell 0
        have D1 : w99.cell? ⟨w.heap.size + 1 + 1, 1, none⟩ = some _ := KF.out.cell 1
        have D2 : w99.cell? ⟨w.heap.size + 1 + 1, 2, none⟩ = some _ := KF.out.cell 2
        have D3 : w99.cell? ⟨w.heap.size + 1 + 1, 3, none⟩ = some _ := KF.out.cell 3
        refine bodyPost_ret (v := .tuple #[.agg #[.slice (some ⟨g_9, 0, none⟩) m0 n0, .slice a1 m1 n1, .slice (some ⟨gm_9, 0, none⟩) m2 n2, .slice a3 m3 n3], .bool true]) (by simp [results, Tryz.results9, go_sem, D0, D1, D2, D3]) rfl ?_
        exact ⟨d2, _, _, _, _, rfl, (SS.out.o.kp kp.out).base HLW.out, (by rw [HPD.out, HP10.out, HP9.out, HPF.out]; simp [actO, pcO, regO, memO, bufO, HO.out, HPC2.out.1, HPC2.out.2, HVV.out, HJ.out, HM.out]), BF.out⟩
      have em : (model == 1) = false := by simp [hm1]
      have HM := Lib.hid hm1
      clear hm1
      rw [HJ.out] at HPU
      have HPX := Lib.hid (HPU.out ev)
      clear HPU
      obtain ⟨pz, hpz⟩ : ∃ z, z = pushL (c.pf.buf.getD k []) model ((j : Int), ev) := ⟨_, rfl⟩
      rw [← hpz] at HPX
      have HPZ := Lib.hid hpz
      clear hpz
      replace SS := Lib.hid (SS.out.below (below_draws' w5))
      obtain ⟨g_11, u_11, hg0_11, hkm_11, hgB_11, hgN_11, hl_11, hc_11, hf_11, ap_11, hst_11⟩ := SS.out.putPc k (by rw [HPF.out, HLN.out.1]; exact hkp)
      subst hg0_11
      have q1_11 : (0 : Int) ≤ (k : Int) := by omega
      have q2_11 : (k : Int) < (m0 : Int) := by omega
      obtain ⟨d1, hp_11, s_11, f_11⟩ := hst_11 ((pc : Int) + 1)
      have HP11 := Lib.hid hp_11
      replace SS := Lib.hid s_11
      have F := Lib.hid f_11
      clear hp_11 s_11 f_11 hst_11
      obtain ⟨cc0, cc1, cc2, cc3, ccl⟩ := bk4 Kc.out
      obtain ⟨dc0, dc1, dc2, dc3, dcl⟩ := bk4 Kd.out
      go_wp2_with fail
      go_still_tail 10, (by kernel_rfl)
      change wpList _ _ _ _ _ w5.drew
      clear cc0 cc1 cc2 cc3 ccl dc0 dc1 dc2 dc3 dcl
      replace Ku := Lib.hid (Ku.out.below (below_draws' w5))
      replace Kc := Lib.hid (Kc.out.below (below_draws' w5))
      replace Kz := Lib.hid (Kz.out.below (below_draws' w5))
      replace Kd := Lib.hid (Kd.out.below (below_draws' w5))
      replace Kx := Lib.hid (Kx.out.below (below_draws' w5))
      replace B := Lib.hid (B.out.trans ((below_draws' w5).mono B.out.size))
      generalize w5.drew = w5d at SS F Ku Kc Kz Kd Kx B hl_11 hc_11 hf_11 ⊢
      have nec_11 : ¬ g_11 = w.heap.size + 1 := by have := SZ.out; omega
      have enc_11 : ¬ w.heap.size + 1 = g_11 := fun h => nec_11 h.symm
      have ned_11 : ¬ g_11 = w1s := by omega
      have end_11 : ¬ w1s = g_11 := fun h => ned_11 h.symm
      have nex_11 : ¬ g_11 = w3s := by have := HWS.out; omega
      have enx_11 : ¬ w3s = g_11 := fun h => nex_11 h.symm
      obtain ⟨cc0, cc1, cc2, cc3, ccl⟩ := bk4 Kc.out
      obtain ⟨dc0, dc1, dc2, dc3, dcl⟩ := bk4 Kd.out
      obtain ⟨xc0, xc1, xc2, xc3, xc4, xc5, xc6, xcl⟩ := bk7 Kx.out
      go_wp2_with fail
      clear cc0 cc1 cc2 cc3 ccl dc0 dc1 dc2 dc3 dcl xc0 xc1 xc2 xc3 xc4 xc5 xc6 xcl
      generalize w5d.setCell ⟨g_11, k, none⟩ _ = w6 at SS F ⊢
      clear q1_11 q2_11 hkm_11 hgB_11 hgN_11 hl_11 hc_11 hf_11 yp1 lp1 nec_11 enc_11 ned_11 end_11 nex_11 enx_11 ap_11
      replace Ku := Lib.hid (bkBelow F.out.b (show w.heap.size < w0.heap.size by have := SZ.out; omega) Ku.out)
      replace Kc := Lib.hid (bkBelow F.out.b (show w.heap.size + 1 < w0.heap.size by have := SZ.out; omega) Kc.out)
      replace Kz := Lib.hid (bkBelow F.out.b (show w.heap.size + 1 + 1 < w0.heap.size by have := SZ.out; omega) Kz.out)
      replace Kd := Lib.hid (F.out.bk (Nat.le_refl _) Kd.out)
      replace Kx := Lib.hid (F.out.bk HWS.out Kx.out)
      replace B := Lib.hid (B.out.trans (F.out.b.mono HLW.out))
      clear F
      have qb1 : (0 : Int) ≤ (k : Int) := by omega
      have qb2 : (k : Int) < (nb : Int) := by omega
      obtain ⟨gp, up, hg0p, hkmp, rst⟩ := SS.out.putBuf k (by rw [HP11.out, HPF.out]; show k < c.pf.buf.length; rw [HLN.out.2.2.2]; exact hkb)
      clear rst
      subst hg0p
      clear up
      have qb3 : (k : Int) < (m3 : Int) := by omega
      obtain ⟨cc0, cc1, cc2, cc3, ccl⟩ := bk4 Kc.out
      obtain ⟨dc0, dc1, dc2, dc3, dcl⟩ := bk4 Kd.out
      obtain ⟨xc0, xc1, xc2, xc3, xc4, xc5, xc6, xcl⟩ := bk7 Kx.out
      go_wp2_with fail
      clear cc0 cc1 cc2 cc3 ccl dc0 dc1 dc2 dc3 dcl xc0 xc1 xc2 xc3 xc4 xc5 xc6 xcl
      generalize hnbl : (c.pf.buf.getD k []).length = nbl at HPX HYB
      clear hnbl
      replace Ku := Lib.hid (Ku.out.below (below_draws' w6))
      replace Kc := Lib.hid (Kc.out.below (below_draws' w6))
      replace Kz := Lib.hid (Kz.out.below (below_draws' w6))
      replace Kd := Lib.hid (Kd.out.below (below_draws' w6))
      replace Kx := Lib.hid (Kx.out.below (below_draws' w6))
      replace SS := Lib.hid (SS.out.below (below_draws' w6))
      replace B := Lib.hid (B.out.trans ((below_draws' w6).mono B.out.size))
      refine wp_region_held_drew (S := fun W1 => W1.cell? ⟨w.heap.size + 1, 0, none⟩ = some (.slice (some ⟨bp, op, none⟩) np cp) ∧ W1.cell? ⟨w.heap.size + 1, 1, none⟩ = some (.slice ara nr cr) ∧ W1.cell? ⟨w.heap.size + 1, 2, none⟩ = some (.slice ama nm cm) ∧ W1.cell? ⟨w.heap.size + 1, 3, none⟩ = some (.slice (some ⟨bb, ob, none⟩) nb cb) ∧ W1.cell? ⟨w1s, 0, none⟩ = some (.slice (some ⟨g_11, 0, none⟩) m0 n0) ∧ W1.cell? ⟨w1s, 1, none⟩ = some (.slice a1 m1 n1) ∧ W1.cell? ⟨w1s, 2, none⟩ = some (.slice a2 m2 n2) ∧ W1.cell? ⟨w1s, 3, none⟩ = some (.slice (some ⟨gp, 0, none⟩) m3 n3) ∧ W1.cell? ⟨w3s, 0, none⟩ = some (.int .i64 4) ∧ W1.cell? ⟨w3s, 1, none⟩ = some (.int .i64 x.x.reg) ∧ W1.cell? ⟨w3s, 2, none⟩ = some (.int .i64 j) ∧ W1.cell? ⟨w3s, 3, none⟩ = some (x.ev) ∧ W1.cell? ⟨w3s, 4, none⟩ = some (x.fv) ∧ W1.cell? ⟨w3s, 5, none⟩ = some (.bool x.x.ne) ∧ W1.cell? ⟨w3s, 6, none⟩ = some (.int .i64 x.x.to) ∧ W1.cell? ⟨bb, ob + k, none⟩ = some (.slice rb nbl mb) ∧ True) (by kernel_rfl) ⟨Kc.out.cell 0, Kc.out.cell 1, Kc.out.cell 2, Kc.out.cell 3, Kd.out.cell 0, Kd.out.cell 1, Kd.out.cell 2, Kd.out.cell 3, Kx.out.cell 0, Kx.out.cell 1, Kx.out.cell 2, Kx.out.cell 3, Kx.out.cell 4, Kx.out.cell 5, Kx.out.cell 6, (HYB.out w6.drew B.out).1, trivial⟩ (fun hS => ?_)
      refine wpAnyH_take (i := 0) (v := .pointer (some ⟨w1s, 3, none⟩)) rfl (by kernel_rfl) (by kernel_rfl) (by kernel_rfl) (fun _ _ _ h => h) (Or.inl ⟨by rfl, fun w hSw => by obtain ⟨s0, s1, s2, s3, s4, s5, s6, s7, s8, s9, s10, s11, s12, s13, s14, s15, _⟩ := hSw; first | (go_simp; done) | (go_simp; with_reducible rfl)⟩) hS ?_
      simp only [Act.put, List.setIfInBounds_toArray, List.set_cons_zero, List.set_cons_succ]
      refine wpAnyH_take (i := 1) (v := .slice (some ⟨gp, 0, none⟩) m3 n3) rfl (by kernel_rfl) (by kernel_rfl) (by kernel_rfl) (fun _ _ _ h => h) (Or.inl ⟨by rfl, fun w hSw => by obtain ⟨s0, s1, s2, s3, s4, s5, s6, s7, s8, s9, s10, s11, s12, s13, s14, s15, _⟩ := hSw; first | (go_simp; done) | (go_simp; with_reducible rfl)⟩) hS ?_
      simp only [Act.put, List.setIfInBounds_toArray, List.set_cons_zero, List.set_cons_succ]
      refine wpAnyH_take (i := 2) (v := .int .i64 k) rfl (by kernel_rfl) (by kernel_rfl) (by kernel_rfl) (fun _ _ _ h => h) (Or.inl ⟨by rfl, fun w hSw => by obtain ⟨s0, s1, s2, s3, s4, s5, s6, s7, s8, s9, s10, s11, s12, s13, s14, s15, _⟩ := hSw; first | (go_simp; done) | (go_simp; with_reducible rfl)⟩) hS ?_
      simp only [Act.put, List.setIfInBounds_toArray, List.set_cons_zero, List.set_cons_succ]
      refine wpAnyH_take (i := 3) (v := .pointer (some ⟨w.heap.size + 1, 3, none⟩)) rfl (by kernel_rfl) (by kernel_rfl) (by kernel_rfl) (fun _ _ _ h => h) (Or.inl ⟨by rfl, fun w hSw => by obtain ⟨s0, s1, s2, s3, s4, s5, s6, s7, s8, s9, s10, s11, s12, s13, s14, s15, _⟩ := hSw; first | (go_simp; done) | (go_simp; with_reducible rfl)⟩) hS ?_
      simp only [Act.put, List.setIfInBounds_toArray, List.set_cons_zero, List.set_cons_succ]
      refine wpAnyH_take (i := 4) (v := .slice (some ⟨bb, ob, none⟩) nb cb) rfl (by kernel_rfl) (by kernel_rfl) (by kernel_rfl) (fun _ _ _ h => h) (Or.inl ⟨by rfl, fun w hSw => by obtain ⟨s0, s1, s2, s3, s4, s5, s6, s7, s8, s9, s10, s11, s12, s13, s14, s15, _⟩ := hSw; first | (go_simp; done) | (go_simp; with_reducible rfl)⟩) hS ?_
      simp only [Act.put, List.setIfInBounds_toArray, List.set_cons_zero, List.set_cons_succ]
      refine wpAnyH_take (i := 5) (v := .int .i64 k) rfl (by kernel_rfl) (by kernel_rfl) (by kernel_rfl) (fun _ _ _ h => h) (Or.inl ⟨by rfl, fun w hSw => by obtain ⟨s0, s1, s2, s3, s4, s5, s6, s7, s8, s9, s10, s11, s12, s13, s14, s15, _⟩ := hSw; first | (go_simp; done) | (go_simp; with_reducible rfl)⟩) hS ?_
      simp only [Act.put, List.setIfInBounds_toArray, List.set_cons_zero, List.set_cons_succ]
      refine wpAnyH_take (i := 6) (v := .pointer (some ⟨bb, ob + k, none⟩)) rfl (by kernel_rfl) (by kernel_rfl) (by kernel_rfl) (fun _ _ _ h => h) (Or.inl ⟨by rfl, fun w hSw => by obtain ⟨s0, s1, s2, s3, s4, s5, s6, s7, s8, s9, s10, s11, s12, s13, s14, s15, _⟩ := hSw; first | (go_simp; done) | (go_simp; with_reducible rfl)⟩) hS ?_
      simp only [Act.put, List.setIfInBounds_toArray, List.set_cons_zero, List.set_cons_succ]
      refine wpAnyH_take (i := 7) (v := .slice rb nbl mb) rfl (by kernel_rfl) (by kernel_rfl) (by kernel_rfl) (fun _ _ _ h => h) (Or.inl ⟨by rfl, fun w hSw => by obtain ⟨s0, s1, s2, s3, s4, s5, s6, s7, s8, s9, s10, s11, s12, s13, s14, s15, _⟩ := hSw; first | (go_simp; done) | (go_simp; with_reducible rfl)⟩) hS ?_
      simp only [Act.put, List.setIfInBounds_toArray, List.set_cons_zero, List.set_cons_succ]
      refine wpAnyH_take (i := 8) (v := .int .i64 model) rfl (by kernel_rfl) (by kernel_rfl) (by kernel_rfl) (fun _ _ _ h => h) (Or.inl ⟨by rfl, fun w hSw => by obtain ⟨s0, s1, s2, s3, s4, s5, s6, s7, s8, s9, s10, s11, s12, s13, s14, s15, _⟩ := hSw; first | (go_simp; done) | (go_simp; with_reducible rfl)⟩) hS ?_
      simp only [Act.put, List.setIfInBounds_toArray, List.set_cons_zero, List.set_cons_succ]
      refine wpAnyH_take (i := 9) (v := .pointer (some ⟨w3s, 2, none⟩)) rfl (by kernel_rfl) (by kernel_rfl) (by kernel_rfl) (fun _ _ _ h => h) (Or.inl ⟨by rfl, fun w hSw => by obtain ⟨s0, s1, s2, s3, s4, s5, s6, s7, s8, s9, s10, s11, s12, s13, s14, s15, _⟩ := hSw; first | (go_simp; done) | (go_simp; with_reducible rfl)⟩) hS ?_
      simp only [Act.put, List.setIfInBounds_toArray, List.set_cons_zero, List.set_cons_succ]
      refine wpAnyH_take (i := 10) (v := .int .i64 j) rfl (by kernel_rfl) (by kernel_rfl) (by kernel_rfl) (fun _ _ _ h => h) (Or.inl ⟨by rfl, fun w hSw => by obtain ⟨s0, s1, s2, s3, s4, s5, s6, s7, s8, s9, s10, s11, s12, s13, s14, s15, _⟩ := hSw; first | (go_simp; done) | (go_simp; with_reducible rfl)⟩) hS ?_
      simp only [Act.put, List.setIfInBounds_toArray, List.set_cons_zero, List.set_cons_succ]
      refine wpAnyH_take (i := 11) (v := .int .i64 ev) rfl (by kernel_rfl) (by kernel_rfl) (by kernel_rfl) (fun _ _ _ h => h) (Or.inl ⟨by rfl, fun w hSw => by obtain ⟨s0, s1, s2, s3, s4, s5, s6, s7, s8, s9, s10, s11, s12, s13, s14, s15, _⟩ := hSw; first | (go_simp; done) | (go_simp; with_reducible rfl)⟩) hS ?_
      simp only [Act.put, List.setIfInBounds_toArray, List.set_cons_zero, List.set_cons_succ]
      refine wpAnyH_take (i := 12) (v := .agg #[.int .i64 j, .int .i64 ev]) rfl (by kernel_rfl) (by kernel_rfl) (by kernel_rfl) (fun _ _ _ h => h) (Or.inl ⟨by rfl, fun w hSw => by obtain ⟨s0, s1, s2, s3, s4, s5, s6, s7, s8, s9, s10, s11, s12, s13, s14, s15, _⟩ := hSw; first | (go_simp; done) | (go_simp; with_reducible rfl)⟩) hS ?_
      simp only [Act.put, List.setIfInBounds_toArray, List.set_cons_zero, List.set_cons_succ]
      refine wpAnyH_ready (rs := [13]) (by kernel_rfl) (by simp) ?_
      refine AllReadyH.cons rfl (fun K hK => ?_) AllReadyH.nil
      go_simp
      go_wp2_with (fail)
      
      refine (HPX.out w6.drew B.out).mono ?_
      rintro e w7 ⟨v', rfl, ow, b⟩
      have OW := Lib.hid (own_base ow (Nat.le_trans SS.out.bn SS.out.n))
      clear ow
      obtain ⟨pav, pcv, rfl, _⟩ := own_shape' OW.out
      replace Ku := Lib.hid (Ku.out.below b)
      replace Kc := Lib.hid (Kc.out.below b)
      replace Kz := Lib.hid (Kz.out.below b)
      replace Kd := Lib.hid (Kd.out.below b)
      replace Kx := Lib.hid (Kx.out.below b)
      replace SS := Lib.hid (SS.out.below b)
      replace B := Lib.hid (B.out.trans (b.mono B.out.size))
      clear b
      go_wp2_with (fail)
      refine hK.out _ _ ⟨Kc.out.cell 0, Kc.out.cell 1, Kc.out.cell 2, Kc.out.cell 3, Kd.out.cell 0, Kd.out.cell 1, Kd.out.cell 2, Kd.out.cell 3, Kx.out.cell 0, Kx.out.cell 1, Kx.out.cell 2, Kx.out.cell 3, Kx.out.cell 4, Kx.out.cell 5, Kx.out.cell 6, (HYB.out w7 B.out).1, trivial⟩ (fun hS => ?_)
      clear hK K
      obtain ⟨g_12, u_12, hg0_12, hkm_12, hgB_12, hgN_12, hl_12, hc_12, hf_12, hst_12⟩ := SS.out.putBuf k (by rw [HP11.out, HPF.out]; show k < c.pf.buf.length; rw [HLN.out.2.2.2]; exact hkb)
      obtain rfl : gp = g_12 := by injection hg0_12 with h; injection h with h
      clear hg0_12
      obtain ⟨d2, hp_12, s_12, f_12⟩ := hst_12 _ _ OW.out
      have HP12 := Lib.hid hp_12
      replace SS := Lib.hid s_12
      have F := Lib.hid f_12
      clear hp_12 s_12 f_12 hst_12
      refine wpAnyH_take (i := 14) (v := .pointer (some ⟨gp, k, none⟩)) rfl (by kernel_rfl) (by kernel_rfl) (by kernel_rfl) (fun _ _ _ h => h) (Or.inl ⟨by rfl, fun w hSw => by obtain ⟨s0, s1, s2, s3, s4, s5, s6, s7, s8, s9, s10, s11, s12, s13, s14, s15, _⟩ := hSw; first | (go_simp; done) | (go_simp; with_reducible rfl)⟩) hS ?_
      simp only [Act.put, List.setIfInBounds_toArray, List.set_cons_zero, List.set_cons_succ]
      refine wpAnyH_ready (rs := [15]) (by kernel_rfl) (by simp) ?_
      refine AllReadyH.cons rfl (fun K hK => ?_) AllReadyH.nil
      go_simp
      go_wp2_with (fail)
      
      
      generalize w7.setCell ⟨gp, k, none⟩ _ = w8 at SS F ⊢
      clear hkm_12 hgB_12 hgN_12 hl_12 hc_12 hf_12 hS
      replace Ku := Lib.hid (bkBelow F.out.b (show w.heap.size < w0.heap.size by have := SZ.out; omega) Ku.out)
      replace Kc := Lib.hid (bkBelow F.out.b (show w.heap.size + 1 < w0.heap.size by have := SZ.out; omega) Kc.out)
      replace Kz := Lib.hid (bkBelow F.out.b (show w.heap.size + 1 + 1 < w0.heap.size by have := SZ.out; omega) Kz.out)
      replace Kd := Lib.hid (F.out.bk (Nat.le_refl _) Kd.out)
      replace Kx := Lib.hid (F.out.bk HWS.out Kx.out)
      replace B := Lib.hid (B.out.trans (F.out.b.mono HLW.out))
      clear F
      refine hK.out _ _ ⟨Kc.out.cell 0, Kc.out.cell 1, Kc.out.cell 2, Kc.out.cell 3, Kd.out.cell 0, Kd.out.cell 1, Kd.out.cell 2, Kd.out.cell 3, Kx.out.cell 0, Kx.out.cell 1, Kx.out.cell 2, Kx.out.cell 3, Kx.out.cell 4, Kx.out.cell 5, Kx.out.cell 6, (HYB.out w8 B.out).1, trivial⟩ (fun hS => ?_)
      clear hK K hS
      refine wpAnyH_done (by kernel_rfl) ?_ _
      try simp only [Act.put, List.setIfInBounds_toArray, List.set_cons_zero, List.set_cons_succ]
      obtain ⟨z0, z1, z2, z3, lz⟩ := bk4 Kz.out
      obtain ⟨y0, y1, y2, y3⟩ := bkf4 Kz.out
      obtain ⟨dc0, dc1, dc2, dc3, dcl⟩ := bk4 Kd.out
      go_wp2_with fail
      clear dc0 dc1 dc2 dc3 dcl
      have KF := Lib.hid (set4_bk (.slice (some ⟨g_11, 0, none⟩) m0 n0) (.slice a1 m1 n1) (.slice a2 m2 n2) (.slice (some ⟨gp, 0, none⟩) m3 n3) Kz.out)
      have kp := Lib.hid (set4_kp (w := w8) (B := w0.heap.size) (.slice (some ⟨g_11, 0, none⟩) m0 n0) (.slice a1 m1 n1) (.slice a2 m2 n2) (.slice (some ⟨gp, 0, none⟩) m3 n3) (show w.heap.size + 1 + 1 < w0.heap.size by have := SZ.out; omega))
      have BF := Lib.hid (set4_below (.slice (some ⟨g_11, 0, none⟩) m0 n0) (.slice a1 m1 n1) (.slice a2 m2 n2) (.slice (some ⟨gp, 0, none⟩) m3 n3) B.out (show w.heap.size ≤ w.heap.size + 1 + 1 by omega))
      generalize (((w8.setCell _ _).setCell _ _).setCell _ _).setCell _ _ = w99 at KF kp BF ⊢
      clear z0 z1 z2 z3 y0 y1 y2 y3 lz
      have D0 : w99.cell? ⟨w.heap.size + 1 + 1, 0, none⟩ = some _ := KF.out.cell 0
      have D1 : w99.cell? ⟨w.heap.size + 1 + 1, 1, none⟩ = some _ := KF.out.cell 1
      have D2 : w99.cell? ⟨w.heap.size + 1 + 1, 2, none⟩ = some _ := KF.out.cell 2
      have D3 : w99.cell? ⟨w.heap.size + 1 + 1, 3, none⟩ = some _ := KF.out.cell 3
      refine bodyPost_ret (v := .tuple #[.agg #[.slice (some ⟨g_11, 0, none⟩) m0 n0, .slice a1 m1 n1, .slice a2 m2 n2, .slice (some ⟨gp, 0, none⟩) m3 n3], .bool true]) (by simp [results, Tryz.results9, go_sem, D0, D1, D2, D3]) rfl ?_
      exact ⟨d2, _, _, _, _, rfl, (SS.out.o.kp kp.out).base HLW.out, (by rw [HPD.out, HP12.out, HP11.out, HPF.out]; simp [actO, pcO, regO, memO, bufO, HO.out, HPC2.out.1, HPC2.out.2, HVV.out, HJ.out, HM.out, HPZ.out]), BF.out⟩
    by_cases o5 : x.x.op = 5
    ·
      have HO := Lib.hid o5
      rw [o5] at Kx
      clear o20
      clear o21
      clear o2
      clear o3
      clear o4
      clear o5
      obtain ⟨i, hi, hil⟩ := thr_reg HT.out (by rw [HO.out]; rfl)
      rw [hi] at Kx
      have HI := Lib.hid hi
      clear hi
      obtain ⟨j, hj, hjl⟩ := thr_loc HR.out HT.out (by rw [HO.out]; rfl)
      have hjm : j < nm := by rw [HLN.out.2.2.1] at hjl; exact hjl
      rw [hj] at Kx
      have HJ := Lib.hid hj
      clear hj
      obtain ⟨bm, om, hma, lm, ym⟩ := HMM.out j hjl
      subst hma
      obtain ⟨mv, hmv⟩ : ∃ z : Int, z = c.mem[j]'hjl := ⟨_, rfl⟩
      rw [← hmv] at ym
      have HMV : Hid (c.pf.mem[j]?.getD 0 = mv) := Lib.hid (by show (c.mem[j]?).getD 0 = mv; rw [hmv]; exact congrArg (fun z : Option Int => z.getD 0) (List.getElem?_eq_getElem hjl))
      have HM1 := Lib.hid (fun (W : World) (h : Below w.heap.size w W) => And.intro ((h.cell (p := ⟨bm, _, none⟩) lm).trans ym) (Nat.lt_of_lt_of_le lm h.size))
      have hbmw := lm
      clear lm ym hmv
      have qj1 : (0 : Int) ≤ (j : Int) := by omega
      have qj2 : (j : Int) < (nm : Int) := by omega
      have HBM : Hid (bm < w0.heap.size) := Lib.hid (Nat.lt_of_lt_of_le hbmw HLW.out)
      clear hbmw
      by_cases hc1 : mv = ev
      ·
        have em : (mv == ev) = true := by simp [hc1]
        have HM := Lib.hid hc1
        clear hc1
        replace SS := Lib.hid (SS.out.below (below_draws' w5))
        obtain ⟨g_13, u_13, hg0_13, hkm_13, hgB_13, hgN_13, hl_13, hc_13, hf_13, ap_13, hst_13⟩ := SS.out.putPc k (by rw [HPF.out, HLN.out.1]; exact hkp)
        subst hg0_13
        have q1_13 : (0 : Int) ≤ (k : Int) := by omega
        have q2_13 : (k : Int) < (m0 : Int) := by omega
        obtain ⟨d1, hp_13, s_13, f_13⟩ := hst_13 ((pc : Int) + 1)
        have HP13 := Lib.hid hp_13
        replace SS := Lib.hid s_13
        have F := Lib.hid f_13
        clear hp_13 s_13 f_13 hst_13
        obtain ⟨cc0, cc1, cc2, cc3, ccl⟩ := bk4 Kc.out
        obtain ⟨dc0, dc1, dc2, dc3, dcl⟩ := bk4 Kd.out
        go_wp2_with fail
        go_still_tail 10, (by kernel_rfl)
        change wpList _ _ _ _ _ w5.drew
        clear cc0 cc1 cc2 cc3 ccl dc0 dc1 dc2 dc3 dcl
        replace Ku := Lib.hid (Ku.out.below (below_draws' w5))
        replace Kc := Lib.hid (Kc.out.below (below_draws' w5))
        replace Kz := Lib.hid (Kz.out.below (below_draws' w5))
        replace Kd := Lib.hid (Kd.out.below (below_draws' w5))
        replace Kx := Lib.hid (Kx.out.below (below_draws' w5))
        replace B := Lib.hid (B.out.trans ((below_draws' w5).mono B.out.size))
        generalize w5.drew = w5d at SS F Ku Kc Kz Kd Kx B hl_13 hc_13 hf_13 ⊢
        have nec_13 : ¬ g_13 = w.heap.size + 1 := by have := SZ.out; omega
        have enc_13 : ¬ w.heap.size + 1 = g_13 := fun h => nec_13 h.symm
        have ned_13 : ¬ g_13 = w1s := by omega
        have end_13 : ¬ w1s = g_13 := fun h => ned_13 h.symm
        have nex_13 : ¬ g_13 = w3s := by have := HWS.out; omega
        have enx_13 : ¬ w3s = g_13 := fun h => nex_13 h.symm
        obtain ⟨cc0, cc1, cc2, cc3, ccl⟩ := bk4 Kc.out
        obtain ⟨dc0, dc1, dc2, dc3, dcl⟩ := bk4 Kd.out
        obtain ⟨xc0, xc1, xc2, xc3, xc4, xc5, xc6, xcl⟩ := bk7 Kx.out
        go_wp2_with fail
        clear cc0 cc1 cc2 cc3 ccl dc0 dc1 dc2 dc3 dcl xc0 xc1 xc2 xc3 xc4 xc5 xc6 xcl
        generalize w5d.setCell ⟨g_13, k, none⟩ _ = w6 at SS F ⊢
        clear q1_13 q2_13 hkm_13 hgB_13 hgN_13 hl_13 hc_13 hf_13 yp1 lp1 nec_13 enc_13 ned_13 end_13 nex_13 enx_13 ap_13
        replace Ku := Lib.hid (bkBelow F.out.b (show w.heap.size < w0.heap.size by have := SZ.out; omega) Ku.out)
        replace Kc := Lib.hid (bkBelow F.out.b (show w.heap.size + 1 < w0.heap.size by have := SZ.out; omega) Kc.out)
        replace Kz := Lib.hid (bkBelow F.out.b (show w.heap.size + 1 + 1 < w0.heap.size by have := SZ.out; omega) Kz.out)
        replace Kd := Lib.hid (F.out.bk (Nat.le_refl _) Kd.out)
        replace Kx := Lib.hid (F.out.bk HWS.out Kx.out)
        replace B := Lib.hid (B.out.trans (F.out.b.mono HLW.out))
        clear F
        obtain ⟨ym1, lm1⟩ := HM1.out w6 B.out
        replace SS := Lib.hid (SS.out.below (below_draws' w6))
        obtain ⟨g1_14, g_14, mr_14, cr_14, u_14, hg0_14, hkm_14, hl1_14, hc1_14, him_14, hgB_14, hgN_14, hl_14, hc_14, hf_14, ap_14, hst_14⟩ := SS.out.putReg k (by rw [HP13.out, HPF.out]; show k < c.pf.regs.length; rw [HLN.out.2.1]; exact hkr) i (by rw [HP13.out, HPF.out]; exact hil)
        replace hc1_14 : w6.cell? ⟨g1_14, k, none⟩ = _ := hc1_14
        replace hl1_14 : g1_14 < w6.heap.size := hl1_14
        subst hg0_14
        have q1_14 : (0 : Int) ≤ (k : Int) := by omega
        have q2_14 : (k : Int) < (m1 : Int) := by omega
        have q3_14 : (0 : Int) ≤ (i : Int) := by omega
        have q4_14 : (i : Int) < (mr_14 : Int) := by omega
        obtain ⟨d2, hp_14, s_14, f_14⟩ := hst_14 mv
        have HP14 := Lib.hid hp_14
        replace SS := Lib.hid s_14
        have F := Lib.hid f_14
        clear hp_14 s_14 f_14 hst_14
        obtain ⟨cc0, cc1, cc2, cc3, ccl⟩ := bk4 Kc.out
        obtain ⟨dc0, dc1, dc2, dc3, dcl⟩ := bk4 Kd.out
        obtain ⟨xc0, xc1, xc2, xc3, xc4, xc5, xc6, xcl⟩ := bk7 Kx.out
        go_wp2_with fail
        go_still_tail 14, (by kernel_rfl)
        change wpList _ _ _ _ _ w6.drew
        clear cc0 cc1 cc2 cc3 ccl dc0 dc1 dc2 dc3 dcl xc0 xc1 xc2 xc3 xc4 xc5 xc6 xcl
        replace Ku := Lib.hid (Ku.out.below (below_draws' w6))
        replace Kc := Lib.hid (Kc.out.below (below_draws' w6))
        replace Kz := Lib.hid (Kz.out.below (below_draws' w6))
        replace Kd := Lib.hid (Kd.out.below (below_draws' w6))
        replace Kx := Lib.hid (Kx.out.below (below_draws' w6))
        replace B := Lib.hid (B.out.trans ((below_draws' w6).mono B.out.size))
        generalize w6.drew = w6d at SS F Ku Kc Kz Kd Kx B hl_14 hc_14 hf_14 ⊢
        have nec_14 : ¬ g_14 = w.heap.size + 1 := by have := SZ.out; omega
        have enc_14 : ¬ w.heap.size + 1 = g_14 := fun h => nec_14 h.symm
        have ned_14 : ¬ g_14 = w1s := by omega
        have end_14 : ¬ w1s = g_14 := fun h => ned_14 h.symm
        have nex_14 : ¬ g_14 = w3s := by have := HWS.out; omega
        have enx_14 : ¬ w3s = g_14 := fun h => nex_14 h.symm
        obtain ⟨ym2, lm2⟩ := HM1.out w6d B.out
        have nb1 : ¬ g_14 = bm := by have := HBM.out; omega
        have nb2 : ¬ bm = g_14 := fun h => nb1 h.symm
        obtain ⟨cc0, cc1, cc2, cc3, ccl⟩ := bk4 Kc.out
        obtain ⟨dc0, dc1, dc2, dc3, dcl⟩ := bk4 Kd.out
        obtain ⟨xc0, xc1, xc2, xc3, xc4, xc5, xc6, xcl⟩ := bk7 Kx.out
        go_wp2_with fail
        clear cc0 cc1 cc2 cc3 ccl dc0 dc1 dc2 dc3 dcl xc0 xc1 xc2 xc3 xc4 xc5 xc6 xcl
        generalize w6d.setCell ⟨g_14, i, none⟩ _ = w7 at SS F ⊢
        clear q1_14 q2_14 hkm_14 hgB_14 hgN_14 hl_14 hc_14 hf_14 q3_14 q4_14 hl1_14 hc1_14 him_14 ym1 lm1 ym2 lm2 nb1 nb2 nec_14 enc_14 ned_14 end_14 nex_14 enx_14 ap_14
        replace Ku := Lib.hid (bkBelow F.out.b (show w.heap.size < w0.heap.size by have := SZ.out; omega) Ku.out)
        replace Kc := Lib.hid (bkBelow F.out.b (show w.heap.size + 1 < w0.heap.size by have := SZ.out; omega) Kc.out)
        replace Kz := Lib.hid (bkBelow F.out.b (show w.heap.size + 1 + 1 < w0.heap.size by have := SZ.out; omega) Kz.out)
        replace Kd := Lib.hid (F.out.bk (Nat.le_refl _) Kd.out)
        replace Kx := Lib.hid (F.out.bk HWS.out Kx.out)
        replace B := Lib.hid (B.out.trans (F.out.b.mono HLW.out))
        clear F
        obtain ⟨gp, up, hg0p, hkmp, rst⟩ := SS.out.putMem j (by rw [HP14.out, HP13.out, HPF.out]; exact hjl)
        clear rst
        subst hg0p
        clear up
        have qm1 : (0 : Int) ≤ (j : Int) := by omega
        have qm2 : (j : Int) < (m2 : Int) := by omega
        obtain ⟨uc0, uc1, uc2, uc3, ucl⟩ := bk4 Ku.out
        obtain ⟨cc0, cc1, cc2, cc3, ccl⟩ := bk4 Kc.out
        obtain ⟨dc0, dc1, dc2, dc3, dcl⟩ := bk4 Kd.out
        obtain ⟨xc0, xc1, xc2, xc3, xc4, xc5, xc6, xcl⟩ := bk7 Kx.out
        go_wp2_with fail
        clear uc0 uc1 uc2 uc3 ucl cc0 cc1 cc2 cc3 ccl dc0 dc1 dc2 dc3 dcl xc0 xc1 xc2 xc3 xc4 xc5 xc6 xcl
        replace Ku := Lib.hid (Ku.out.below (below_draws' w7))
        replace Kc := Lib.hid (Kc.out.below (below_draws' w7))
        replace Kz := Lib.hid (Kz.out.below (below_draws' w7))
        replace Kd := Lib.hid (Kd.out.below (below_draws' w7))
        replace Kx := Lib.hid (Kx.out.below (below_draws' w7))
        replace SS := Lib.hid (SS.out.below (below_draws' w7))
        replace B := Lib.hid (B.out.trans ((below_draws' w7).mono B.out.size))
        refine wp_region_held_drew (S := fun W1 => W1.cell? ⟨w.heap.size, 0, none⟩ = some (.int .i64 md) ∧ W1.cell? ⟨w.heap.size, 1, none⟩ = some (vi) ∧ W1.cell? ⟨w.heap.size, 2, none⟩ = some (vr) ∧ W1.cell? ⟨w.heap.size, 3, none⟩ = some (.slice (some ⟨bc, oc, none⟩) nc cc) ∧ W1.cell? ⟨w.heap.size + 1, 0, none⟩ = some (.slice (some ⟨bp, op, none⟩) np cp) ∧ W1.cell? ⟨w.heap.size + 1, 1, none⟩ = some (.slice ara nr cr) ∧ W1.cell? ⟨w.heap.size + 1, 2, none⟩ = some (.slice (some ⟨bm, om, none⟩) nm cm) ∧ W1.cell? ⟨w.heap.size + 1, 3, none⟩ = some (.slice (some ⟨bb, ob, none⟩) nb cb) ∧ W1.cell? ⟨w1s, 0, none⟩ = some (.slice (some ⟨g_13, 0, none⟩) m0 n0) ∧ W1.cell? ⟨w1s, 1, none⟩ = some (.slice (some ⟨g1_14, 0, none⟩) m1 n1) ∧ W1.cell? ⟨w1s, 2, none⟩ = some (.slice (some ⟨gp, 0, none⟩) m2 n2) ∧ W1.cell? ⟨w1s, 3, none⟩ = some (.slice a3 m3 n3) ∧ W1.cell? ⟨w3s, 0, none⟩ = some (.int .i64 5) ∧ W1.cell? ⟨w3s, 1, none⟩ = some (.int .i64 i) ∧ W1.cell? ⟨w3s, 2, none⟩ = some (.int .i64 j) ∧ W1.cell? ⟨w3s, 3, none⟩ = some (x.ev) ∧ W1.cell? ⟨w3s, 4, none⟩ = some (x.fv) ∧ W1.cell? ⟨w3s, 5, none⟩ = some (.bool x.x.ne) ∧ W1.cell? ⟨w3s, 6, none⟩ = some (.int .i64 x.x.to) ∧ True) (by kernel_rfl) ⟨Ku.out.cell 0, Ku.out.cell 1, Ku.out.cell 2, Ku.out.cell 3, Kc.out.cell 0, Kc.out.cell 1, Kc.out.cell 2, Kc.out.cell 3, Kd.out.cell 0, Kd.out.cell 1, Kd.out.cell 2, Kd.out.cell 3, Kx.out.cell 0, Kx.out.cell 1, Kx.out.cell 2, Kx.out.cell 3, Kx.out.cell 4, Kx.out.cell 5, Kx.out.cell 6, trivial⟩ (fun hS => ?_)
        refine wpAnyH_take (i := 0) (v := .pointer (some ⟨w1s, 2, none⟩)) rfl (by kernel_rfl) (by kernel_rfl) (by kernel_rfl) (fun _ _ _ h => h) (Or.inl ⟨by rfl, fun w hSw => by obtain ⟨s0, s1, s2, s3, s4, s5, s6, s7, s8, s9, s10, s11, s12, s13, s14, s15, s16, s17, s18, _⟩ := hSw; first | (go_simp; done) | (go_simp; with_reducible rfl)⟩) hS ?_
        simp only [Act.put, List.setIfInBounds_toArray, List.set_cons_zero, List.set_cons_succ]
        refine wpAnyH_take (i := 1) (v := .slice (some ⟨gp, 0, none⟩) m2 n2) rfl (by kernel_rfl) (by kernel_rfl) (by kernel_rfl) (fun _ _ _ h => h) (Or.inl ⟨by rfl, fun w hSw => by obtain ⟨s0, s1, s2, s3, s4, s5, s6, s7, s8, s9, s10, s11, s12, s13, s14, s15, s16, s17, s18, _⟩ := hSw; first | (go_simp; done) | (go_simp; with_reducible rfl)⟩) hS ?_
        simp only [Act.put, List.setIfInBounds_toArray, List.set_cons_zero, List.set_cons_succ]
        refine wpAnyH_take (i := 2) (v := .pointer (some ⟨w3s, 2, none⟩)) rfl (by kernel_rfl) (by kernel_rfl) (by kernel_rfl) (fun _ _ _ h => h) (Or.inl ⟨by rfl, fun w hSw => by obtain ⟨s0, s1, s2, s3, s4, s5, s6, s7, s8, s9, s10, s11, s12, s13, s14, s15, s16, s17, s18, _⟩ := hSw; first | (go_simp; done) | (go_simp; with_reducible rfl)⟩) hS ?_
        simp only [Act.put, List.setIfInBounds_toArray, List.set_cons_zero, List.set_cons_succ]
        refine wpAnyH_take (i := 3) (v := .int .i64 j) rfl (by kernel_rfl) (by kernel_rfl) (by kernel_rfl) (fun _ _ _ h => h) (Or.inl ⟨by rfl, fun w hSw => by obtain ⟨s0, s1, s2, s3, s4, s5, s6, s7, s8, s9, s10, s11, s12, s13, s14, s15, s16, s17, s18, _⟩ := hSw; first | (go_simp; done) | (go_simp; with_reducible rfl)⟩) hS ?_
        simp only [Act.put, List.setIfInBounds_toArray, List.set_cons_zero, List.set_cons_succ]
        refine wpAnyH_take (i := 4) (v := .agg #[.int .i64 md, vi, vr, .slice (some ⟨bc, oc, none⟩) nc cc]) rfl (by kernel_rfl) (by kernel_rfl) (by kernel_rfl) (fun _ _ _ h => h) (Or.inl ⟨by rfl, fun w hSw => by obtain ⟨s0, s1, s2, s3, s4, s5, s6, s7, s8, s9, s10, s11, s12, s13, s14, s15, s16, s17, s18, _⟩ := hSw; first | (go_simp; done) | (go_simp; with_reducible rfl)⟩) hS ?_
        simp only [Act.put, List.setIfInBounds_toArray, List.set_cons_zero, List.set_cons_succ]
        refine wpAnyH_take (i := 5) (v := .agg #[.slice (some ⟨bp, op, none⟩) np cp, .slice ara nr cr, .slice (some ⟨bm, om, none⟩) nm cm, .slice (some ⟨bb, ob, none⟩) nb cb]) rfl (by kernel_rfl) (by kernel_rfl) (by kernel_rfl) (fun _ _ _ h => h) (Or.inl ⟨by rfl, fun w hSw => by obtain ⟨s0, s1, s2, s3, s4, s5, s6, s7, s8, s9, s10, s11, s12, s13, s14, s15, s16, s17, s18, _⟩ := hSw; first | (go_simp; done) | (go_simp; with_reducible rfl)⟩) hS ?_
        simp only [Act.put, List.setIfInBounds_toArray, List.set_cons_zero, List.set_cons_succ]
        refine wpAnyH_take (i := 6) (v := .int .i64 k) rfl (by kernel_rfl) (by kernel_rfl) (by kernel_rfl) (fun _ _ _ h => h) (Or.inl ⟨by rfl, fun w hSw => by obtain ⟨s0, s1, s2, s3, s4, s5, s6, s7, s8, s9, s10, s11, s12, s13, s14, s15, s16, s17, s18, _⟩ := hSw; first | (go_simp; done) | (go_simp; with_reducible rfl)⟩) hS ?_
        simp only [Act.put, List.setIfInBounds_toArray, List.set_cons_zero, List.set_cons_succ]
        refine wpAnyH_take (i := 7) (v := .pointer (some ⟨w3s, 4, none⟩)) rfl (by kernel_rfl) (by kernel_rfl) (by kernel_rfl) (fun _ _ _ h => h) (Or.inl ⟨by rfl, fun w hSw => by obtain ⟨s0, s1, s2, s3, s4, s5, s6, s7, s8, s9, s10, s11, s12, s13, s14, s15, s16, s17, s18, _⟩ := hSw; first | (go_simp; done) | (go_simp; with_reducible rfl)⟩) hS ?_
        simp only [Act.put, List.setIfInBounds_toArray, List.set_cons_zero, List.set_cons_succ]
        refine wpAnyH_take (i := 8) (v := x.fv) rfl (by kernel_rfl) (by kernel_rfl) (by kernel_rfl) (fun _ _ _ h => h) (Or.inl ⟨by rfl, fun w hSw => by obtain ⟨s0, s1, s2, s3, s4, s5, s6, s7, s8, s9, s10, s11, s12, s13, s14, s15, s16, s17, s18, _⟩ := hSw; first | (go_simp; done) | (go_simp; with_reducible rfl)⟩) hS ?_
        simp only [Act.put, List.setIfInBounds_toArray, List.set_cons_zero, List.set_cons_succ]
        refine wpAnyH_ready (rs := [9]) (by kernel_rfl) (by simp) ?_
        refine AllReadyH.cons rfl (fun K hK => ?_) AllReadyH.nil
        go_simp
        go_wp2_with (fail)
        
        refine (HVF.out w7.drew B.out).mono ?_
        rintro e w8 ⟨rfl, b⟩
        obtain ⟨fv, hfv⟩ : ∃ z, z = valP u c.pf k x.x.f := ⟨_, rfl⟩
        rw [← hfv]
        have HFV := Lib.hid hfv
        clear hfv
        replace Ku := Lib.hid (Ku.out.below b)
        replace Kc := Lib.hid (Kc.out.below b)
        replace Kz := Lib.hid (Kz.out.below b)
        replace Kd := Lib.hid (Kd.out.below b)
        replace Kx := Lib.hid (Kx.out.below b)
        replace SS := Lib.hid (SS.out.below b)
        replace B := Lib.hid (B.out.trans (b.mono B.out.size))
        clear b
        go_wp2_with (fail)
        refine hK.out _ _ ⟨Ku.out.cell 0, Ku.out.cell 1, Ku.out.cell 2, Ku.out.cell 3, Kc.out.cell 0, Kc.out.cell 1, Kc.out.cell 2, Kc.out.cell 3, Kd.out.cell 0, Kd.out.cell 1, Kd.out.cell 2, Kd.out.cell 3, Kx.out.cell 0, Kx.out.cell 1, Kx.out.cell 2, Kx.out.cell 3, Kx.out.cell 4, Kx.out.cell 5, Kx.out.cell 6, trivial⟩ (fun hS => ?_)
        clear hK K
        obtain ⟨g_15, u_15, hg0_15, hkm_15, hgB_15, hgN_15, hl_15, hc_15, hf_15, hst_15⟩ := SS.out.putMem j (by rw [HP14.out, HP13.out, HPF.out]; exact hjl)
        obtain rfl : gp = g_15 := by injection hg0_15 with h; injection h with h
        clear hg0_15
        obtain ⟨d3, hp_15, s_15, f_15⟩ := hst_15 fv
        have HP15 := Lib.hid hp_15
        replace SS := Lib.hid s_15
        have F := Lib.hid f_15
        clear hp_15 s_15 f_15 hst_15
        refine wpAnyH_take (i := 10) (v := .pointer (some ⟨gp, j, none⟩)) rfl (by kernel_rfl) (by kernel_rfl) (by kernel_rfl) (fun _ _ _ h => h) (Or.inl ⟨by rfl, fun w hSw => by obtain ⟨s0, s1, s2, s3, s4, s5, s6, s7, s8, s9, s10, s11, s12, s13, s14, s15, s16, s17, s18, _⟩ := hSw; first | (go_simp; done) | (go_simp; with_reducible rfl)⟩) hS ?_
        simp only [Act.put, List.setIfInBounds_toArray, List.set_cons_zero, List.set_cons_succ]
        refine wpAnyH_ready (rs := [11]) (by kernel_rfl) (by simp) ?_
        refine AllReadyH.cons rfl (fun K hK => ?_) AllReadyH.nil
        go_simp
        go_wp2_with (fail)
        
        
        generalize w8.setCell ⟨gp, j, none⟩ _ = w9 at SS F ⊢
        clear hkm_15 hgB_15 hgN_15 hl_15 hc_15 hf_15 hS
        replace Ku := Lib.hid (bkBelow F.out.b (show w.heap.size < w0.heap.size by have := SZ.out; omega) Ku.out)
        replace Kc := Lib.hid (bkBelow F.out.b (show w.heap.size + 1 < w0.heap.size by have := SZ.out; omega) Kc.out)
        replace Kz := Lib.hid (bkBelow F.out.b (show w.heap.size + 1 + 1 < w0.heap.size by have := SZ.out; omega) Kz.out)
        replace Kd := Lib.hid (F.out.bk (Nat.le_refl _) Kd.out)
        replace Kx := Lib.hid (F.out.bk HWS.out Kx.out)
        replace B := Lib.hid (B.out.trans (F.out.b.mono HLW.out))
        clear F
        refine hK.out _ _ ⟨Ku.out.cell 0, Ku.out.cell 1, Ku.out.cell 2, Ku.out.cell 3, Kc.out.cell 0, Kc.out.cell 1, Kc.out.cell 2, Kc.out.cell 3, Kd.out.cell 0, Kd.out.cell 1, Kd.out.cell 2, Kd.out.cell 3, Kx.out.cell 0, Kx.out.cell 1, Kx.out.cell 2, Kx.out.cell 3, Kx.out.cell 4, Kx.out.cell 5, Kx.out.cell 6, trivial⟩ (fun hS => ?_)
        clear hK K hS
        refine wpAnyH_done (by kernel_rfl) ?_ _
        try simp only [Act.put, List.setIfInBounds_toArray, List.set_cons_zero, List.set_cons_succ]
        obtain ⟨z0, z1, z2, z3, lz⟩ := bk4 Kz.out
        obtain ⟨y0, y1, y2, y3⟩ := bkf4 Kz.out
        obtain ⟨dc0, dc1, dc2, dc3, dcl⟩ := bk4 Kd.out
        go_wp2_with fail
        clear dc0 dc1 dc2 dc3 dcl
        have KF := Lib.hid (set4_bk (.slice (some ⟨g_13, 0, none⟩) m0 n0) (.slice (some ⟨g1_14, 0, none⟩) m1 n1) (.slice (some ⟨gp, 0, none⟩) m2 n2) (.slice a3 m3 n3) Kz.out)
        have kp := Lib.hid (set4_kp (w := w9) (B := w0.heap.size) (.slice (some ⟨g_13, 0, none⟩) m0 n0) (.slice (some ⟨g1_14, 0, none⟩) m1 n1) (.slice (some ⟨gp, 0, none⟩) m2 n2) (.slice a3 m3 n3) (show w.heap.size + 1 + 1 < w0.heap.size by have := SZ.out; omega))
        have BF := Lib.hid (set4_below (.slice (some ⟨g_13, 0, none⟩) m0 n0) (.slice (some ⟨g1_14, 0, none⟩) m1 n1) (.slice (some ⟨gp, 0, none⟩) m2 n2) (.slice a3 m3 n3) B.out (show w.heap.size ≤ w.heap.size + 1 + 1 by omega))
        generalize (((w9.setCell _ _).setCell _ _).setCell _ _).setCell _ _ = w99 at KF kp BF ⊢
        clear z0 z1 z2 z3 y0 y1 y2 y3 lz
        have D0 : w99.cell? ⟨w.heap.size + 1 + 1, 0, none⟩ = some _ := KF.out.cell 0
        have D1 : w99.cell? ⟨w.heap.size + 1 + 1, 1, none⟩ = some _ := KF.out.cell 1
        have D2 : w99.cell? ⟨w.heap.size + 1 + 1, 2, none⟩ = some _ := KF.out.cell 2
        have D3 : w99.cell? ⟨w.heap.size + 1 + 1, 3, none⟩ = some _ := KF.out.cell 3
        refine bodyPost_ret (v := .tuple #[.agg #[.slice (some ⟨g_13, 0, none⟩) m0 n0, .slice (some ⟨g1_14, 0, none⟩) m1 n1, .slice (some ⟨gp, 0, none⟩) m2 n2, .slice a3 m3 n3], .bool true]) (by simp [results, Tryz.results9, go_sem, D0, D1, D2, D3]) rfl ?_
        exact ⟨d3, _, _, _, _, rfl, (SS.out.o.kp kp.out).base HLW.out, (by rw [HPD.out, HP15.out, HP14.out, HP13.out, HPF.out]; have h9 := HM.out; rw [HVV.out] at h9; simp [actO, pcO, regO, memO, bufO, HO.out, HPC2.out.1, HPC2.out.2, HVV.out, HI.out, HJ.out, HMV.out, h9, HFV.out]), BF.out⟩
      have em : (mv == ev) = false := by simp [hc1]
      have HM := Lib.hid hc1
      clear hc1
      replace SS := Lib.hid (SS.out.below (below_draws' w5))
      obtain ⟨g_16, u_16, hg0_16, hkm_16, hgB_16, hgN_16, hl_16, hc_16, hf_16, ap_16, hst_16⟩ := SS.out.putPc k (by rw [HPF.out, HLN.out.1]; exact hkp)
      subst hg0_16
      have q1_16 : (0 : Int) ≤ (k : Int) := by omega
      have q2_16 : (k : Int) < (m0 : Int) := by omega
      obtain ⟨d1, hp_16, s_16, f_16⟩ := hst_16 ((pc : Int) + 1)
      have HP16 := Lib.hid hp_16
      replace SS := Lib.hid s_16
      have F := Lib.hid f_16
      clear hp_16 s_16 f_16 hst_16
      obtain ⟨cc0, cc1, cc2, cc3, ccl⟩ := bk4 Kc.out
      obtain ⟨dc0, dc1, dc2, dc3, dcl⟩ := bk4 Kd.out
      go_wp2_with fail
      go_still_tail 10, (by kernel_rfl)
      change wpList _ _ _ _ _ w5.drew
      clear cc0 cc1 cc2 cc3 ccl dc0 dc1 dc2 dc3 dcl
      replace Ku := Lib.hid (Ku.out.below (below_draws' w5))
      replace Kc := Lib.hid (Kc.out.below (below_draws' w5))
      replace Kz := Lib.hid (Kz.out.below (below_draws' w5))
      replace Kd := Lib.hid (Kd.out.below (below_draws' w5))
      replace Kx := Lib.hid (Kx.out.below (below_draws' w5))
      replace B := Lib.hid (B.out.trans ((below_draws' w5).mono B.out.size))
      generalize w5.drew = w5d at SS F Ku Kc Kz Kd Kx B hl_16 hc_16 hf_16 ⊢
      have nec_16 : ¬ g_16 = w.heap.size + 1 := by have := SZ.out; omega
      have enc_16 : ¬ w.heap.size + 1 = g_16 := fun h => nec_16 h.symm
      have ned_16 : ¬ g_16 = w1s := by omega
      have end_16 : ¬ w1s = g_16 := fun h => ned_16 h.symm
      have nex_16 : ¬ g_16 = w3s := by have := HWS.out; omega
      have enx_16 : ¬ w3s = g_16 := fun h => nex_16 h.symm
      obtain ⟨cc0, cc1, cc2, cc3, ccl⟩ := bk4 Kc.out
      obtain ⟨dc0, dc1, dc2, dc3, dcl⟩ := bk4 Kd.out
      obtain ⟨xc0, xc1, xc2, xc3, xc4, xc5, xc6, xcl⟩ := bk7 Kx.out
      go_wp2_with fail
      clear cc0 cc1 cc2 cc3 ccl dc0 dc1 dc2 dc3 dcl xc0 xc1 xc2 xc3 xc4 xc5 xc6 xcl
      generalize w5d.setCell ⟨g_16, k, none⟩ _ = w6 at SS F ⊢
      clear q1_16 q2_16 hkm_16 hgB_16 hgN_16 hl_16 hc_16 hf_16 yp1 lp1 nec_16 enc_16 ned_16 end_16 nex_16 enx_16 ap_16
      replace Ku := Lib.hid (bkBelow F.out.b (show w.heap.size < w0.heap.size by have := SZ.out; omega) Ku.out)
      replace Kc := Lib.hid (bkBelow F.out.b (show w.heap.size + 1 < w0.heap.size by have := SZ.out; omega) Kc.out)
      replace Kz := Lib.hid (bkBelow F.out.b (show w.heap.size + 1 + 1 < w0.heap.size by have := SZ.out; omega) Kz.out)
      replace Kd := Lib.hid (F.out.bk (Nat.le_refl _) Kd.out)
      replace Kx := Lib.hid (F.out.bk HWS.out Kx.out)
      replace B := Lib.hid (B.out.trans (F.out.b.mono HLW.out))
      clear F
      obtain ⟨ym1, lm1⟩ := HM1.out w6 B.out
      replace SS := Lib.hid (SS.out.below (below_draws' w6))
      obtain ⟨g1_17, g_17, mr_17, cr_17, u_17, hg0_17, hkm_17, hl1_17, hc1_17, him_17, hgB_17, hgN_17, hl_17, hc_17, hf_17, ap_17, hst_17⟩ := SS.out.putReg k (by rw [HP16.out, HPF.out]; show k < c.pf.regs.length; rw [HLN.out.2.1]; exact hkr) i (by rw [HP16.out, HPF.out]; exact hil)
      replace hc1_17 : w6.cell? ⟨g1_17, k, none⟩ = _ := hc1_17
      replace hl1_17 : g1_17 < w6.heap.size := hl1_17
      subst hg0_17
      have q1_17 : (0 : Int) ≤ (k : Int) := by omega
      have q2_17 : (k : Int) < (m1 : Int) := by omega
      have q3_17 : (0 : Int) ≤ (i : Int) := by omega
      have q4_17 : (i : Int) < (mr_17 : Int) := by omega
      obtain ⟨d2, hp_17, s_17, f_17⟩ := hst_17 mv
      have HP17 := Lib.hid hp_17
      replace SS := Lib.hid s_17
      have F := Lib.hid f_17
      clear hp_17 s_17 f_17 hst_17
      obtain ⟨cc0, cc1, cc2, cc3, ccl⟩ := bk4 Kc.out
      obtain ⟨dc0, dc1, dc2, dc3, dcl⟩ := bk4 Kd.out
      obtain ⟨xc0, xc1, xc2, xc3, xc4, xc5, xc6, xcl⟩ := bk7 Kx.out
      go_wp2_with fail
      go_still_tail 14, (by kernel_rfl)
      change wpList _ _ _ _ _ w6.drew
      clear cc0 cc1 cc2 cc3 ccl dc0 dc1 dc2 dc3 dcl xc0 xc1 xc2 xc3 xc4 xc5 xc6 xcl
      replace Ku := Lib.hid (Ku.out.below (below_draws' w6))
      replace Kc := Lib.hid (Kc.out.below (below_draws' w6))
      replace Kz := Lib.hid (Kz.out.below (below_draws' w6))
      replace Kd := Lib.hid (Kd.out.below (below_draws' w6))
      replace Kx := Lib.hid (Kx.out.below (below_draws' w6))
      replace B := Lib.hid (B.out.trans ((below_draws' w6).mono B.out.size))
      generalize w6.drew = w6d at SS F Ku Kc Kz Kd Kx B hl_17 hc_17 hf_17 ⊢
      have nec_17 : ¬ g_17 = w.heap.size + 1 := by have := SZ.out; omega
      have enc_17 : ¬ w.heap.size + 1 = g_17 := fun h => nec_17 h.symm
      have nez_17 : ¬ g_17 = w.heap.size + 1 + 1 := by have := SZ.out; omega
      have enz_17 : ¬ w.heap.size + 1 + 1 = g_17 := fun h => nez_17 h.symm
      have ned_17 : ¬ g_17 = w1s := by omega
      have end_17 : ¬ w1s = g_17 := fun h => ned_17 h.symm
      have nex_17 : ¬ g_17 = w3s := by have := HWS.out; omega
      have enx_17 : ¬ w3s = g_17 := fun h => nex_17 h.symm
      obtain ⟨fz0, fz1, fz2, fz3⟩ := bkf4 Kz.out
      obtain ⟨ym2, lm2⟩ := HM1.out w6d B.out
      have nb1 : ¬ g_17 = bm := by have := HBM.out; omega
      have nb2 : ¬ bm = g_17 := fun h => nb1 h.symm
      obtain ⟨cc0, cc1, cc2, cc3, ccl⟩ := bk4 Kc.out
      obtain ⟨zc0, zc1, zc2, zc3, zcl⟩ := bk4 Kz.out
      obtain ⟨dc0, dc1, dc2, dc3, dcl⟩ := bk4 Kd.out
      obtain ⟨xc0, xc1, xc2, xc3, xc4, xc5, xc6, xcl⟩ := bk7 Kx.out
      go_wp2_with fail
      clear cc0 cc1 cc2 cc3 ccl zc0 zc1 zc2 zc3 zcl dc0 dc1 dc2 dc3 dcl xc0 xc1 xc2 xc3 xc4 xc5 xc6 xcl
      generalize w6d.setCell ⟨g_17, i, none⟩ _ = w7 at SS F ⊢
      clear q1_17 q2_17 hkm_17 hgB_17 hgN_17 hl_17 hc_17 hf_17 q3_17 q4_17 hl1_17 hc1_17 him_17 ym1 lm1 ym2 lm2 nb1 nb2 nec_17 enc_17 nez_17 enz_17 ned_17 end_17 nex_17 enx_17 fz0 fz1 fz2 fz3 ap_17
      replace Ku := Lib.hid (bkBelow F.out.b (show w.heap.size < w0.heap.size by have := SZ.out; omega) Ku.out)
      replace Kc := Lib.hid (bkBelow F.out.b (show w.heap.size + 1 < w0.heap.size by have := SZ.out; omega) Kc.out)
      replace Kz := Lib.hid (bkBelow F.out.b (show w.heap.size + 1 + 1 < w0.heap.size by have := SZ.out; omega) Kz.out)
      replace Kd := Lib.hid (F.out.bk (Nat.le_refl _) Kd.out)
      replace Kx := Lib.hid (F.out.bk HWS.out Kx.out)
      replace B := Lib.hid (B.out.trans (F.out.b.mono HLW.out))
      clear F
      have KF := Lib.hid (set4_bk (.slice (some ⟨g_16, 0, none⟩) m0 n0) (.slice (some ⟨g1_17, 0, none⟩) m1 n1) (.slice a2 m2 n2) (.slice a3 m3 n3) Kz.out)
      have kp := Lib.hid (set4_kp (w := w7) (B := w0.heap.size) (.slice (some ⟨g_16, 0, none⟩) m0 n0) (.slice (some ⟨g1_17, 0, none⟩) m1 n1) (.slice a2 m2 n2) (.slice a3 m3 n3) (show w.heap.size + 1 + 1 < w0.heap.size by have := SZ.out; omega))
      have BF := Lib.hid (set4_below (.slice (some ⟨g_16, 0, none⟩) m0 n0) (.slice (some ⟨g1_17, 0, none⟩) m1 n1) (.slice a2 m2 n2) (.slice a3 m3 n3) B.out (show w.heap.size ≤ w.heap.size + 1 + 1 by omega))
      generalize (((w7.setCell _ _).setCell _ _).setCell _ _).setCell _ _ = w99 at KF kp BF ⊢
      have D0 : w99.cell? ⟨w.heap.size + 1 + 1, 0, none⟩ = some _ := KF.out.cell 0
      have D1 : w99.cell? ⟨w.heap.size + 1 + 1, 1, none⟩ = some _ := KF.out.cell 1
      have D2 : w99.cell? ⟨w.heap.size + 1 + 1, 2, none⟩ = some _ := KF.out.cell 2
      have D3 : w99.cell? ⟨w.heap.size + 1 + 1, 3, none⟩ = some _ := KF.out.cell 3
      refine bodyPost_ret (v := .tuple #[.agg #[.slice (some ⟨g_16, 0, none⟩) m0 n0, .slice (some ⟨g1_17, 0, none⟩) m1 n1, .slice a2 m2 n2, .slice a3 m3 n3], .bool true]) (by simp [results, Tryz.results9, go_sem, D0, D1, D2, D3]) rfl ?_
      exact ⟨d2, _, _, _, _, rfl, (SS.out.o.kp kp.out).base HLW.out, (by rw [HPD.out, HP17.out, HP16.out, HPF.out]; have h9 := HM.out; rw [HVV.out] at h9; simp [actO, pcO, regO, memO, bufO, HO.out, HPC2.out.1, HPC2.out.2, HVV.out, HI.out, HJ.out, HMV.out, h9]), BF.out⟩
    by_cases o6 : x.x.op = 6
    ·
      have HO := Lib.hid o6
      rw [o6] at Kx
      clear o20
      clear o21
      clear o2
      clear o3
      clear o4
      clear o5
      clear o6
      obtain ⟨i, hi, hil⟩ := thr_reg HT.out (by rw [HO.out]; rfl)
      rw [hi] at Kx
      have HI := Lib.hid hi
      clear hi
      obtain ⟨j, hj, hjl⟩ := thr_loc HR.out HT.out (by rw [HO.out]; rfl)
      have hjm : j < nm := by rw [HLN.out.2.2.1] at hjl; exact hjl
      rw [hj] at Kx
      have HJ := Lib.hid hj
      clear hj
      obtain ⟨bm, om, hma, lm, ym⟩ := HMM.out j hjl
      subst hma
      obtain ⟨mv, hmv⟩ : ∃ z : Int, z = c.mem[j]'hjl := ⟨_, rfl⟩
      rw [← hmv] at ym
      have HMV : Hid (c.pf.mem[j]?.getD 0 = mv) := Lib.hid (by show (c.mem[j]?).getD 0 = mv; rw [hmv]; exact congrArg (fun z : Option Int => z.getD 0) (List.getElem?_eq_getElem hjl))
      have HM1 := Lib.hid (fun (W : World) (h : Below w.heap.size w W) => And.intro ((h.cell (p := ⟨bm, _, none⟩) lm).trans ym) (Nat.lt_of_lt_of_le lm h.size))
      have hbmw := lm
      clear lm ym hmv
      have qj1 : (0 : Int) ≤ (j : Int) := by omega
      have qj2 : (j : Int) < (nm : Int) := by omega
      have hml := rightU_lc HR.out.ru
      have hmd2 : 2 ≤ md ∧ md ≤ 16 := by rw [HN.out.2.2.2.2.2]; omega
      have hmvb : 0 ≤ mv ∧ mv < md := by rw [HN.out.2.2.2.2.2, ← HMV.out, ← List.getD_eq_getElem?_getD, List.getD_eq_getElem?_getD, List.getElem?_eq_getElem hjl]; exact (inB_iff _ _).1 (HR.out.m _ (List.getElem_mem hjl))
      have hevb : 0 ≤ ev ∧ ev < md := by rw [HN.out.2.2.2.2.2, HVV.out]; exact (inB_iff _ _).1 (HT.out.valIn HR.out _ (by have hins := HT.out.ins; unfold insB at hins; simp only [Bool.and_eq_true] at hins; have h5 := hins.2.2.2.2.1; rw [HO.out] at h5; exact h5))
      have hws : IntKind.i64.wrap (mv + ev) = mv + ev := IntWalk.i64_in _ (by omega)
      have htm : (mv + ev).tmod md = (mv + ev) % md := Int.tmod_eq_emod_of_nonneg (by omega)
      have hwm : IntKind.i64.wrap ((mv + ev) % md) = (mv + ev) % md := IntWalk.i64_in _ (by have h1 := Int.emod_nonneg (mv + ev) (show md ≠ 0 by omega); have h2 := Int.emod_lt_of_pos (mv + ev) (show 0 < md by omega); omega)
      have hmz : ¬ md = 0 := by omega
      have hmz2 : (md == 0) = false := by simpa using hmz
      clear hml hmd2 hmvb hevb
      replace SS := Lib.hid (SS.out.below (below_draws' w5))
      obtain ⟨g_18, u_18, hg0_18, hkm_18, hgB_18, hgN_18, hl_18, hc_18, hf_18, ap_18, hst_18⟩ := SS.out.putPc k (by rw [HPF.out, HLN.out.1]; exact hkp)
      subst hg0_18
      have q1_18 : (0 : Int) ≤ (k : Int) := by omega
      have q2_18 : (k : Int) < (m0 : Int) := by omega
      obtain ⟨d1, hp_18, s_18, f_18⟩ := hst_18 ((pc : Int) + 1)
      have HP18 := Lib.hid hp_18
      replace SS := Lib.hid s_18
      have F := Lib.hid f_18
      clear hp_18 s_18 f_18 hst_18
      obtain ⟨cc0, cc1, cc2, cc3, ccl⟩ := bk4 Kc.out
      obtain ⟨dc0, dc1, dc2, dc3, dcl⟩ := bk4 Kd.out
      go_wp2_with fail
      go_still_tail 10, (by kernel_rfl)
      change wpList _ _ _ _ _ w5.drew
      clear cc0 cc1 cc2 cc3 ccl dc0 dc1 dc2 dc3 dcl
      replace Ku := Lib.hid (Ku.out.below (below_draws' w5))
      replace Kc := Lib.hid (Kc.out.below (below_draws' w5))
      replace Kz := Lib.hid (Kz.out.below (below_draws' w5))
      replace Kd := Lib.hid (Kd.out.below (below_draws' w5))
      replace Kx := Lib.hid (Kx.out.below (below_draws' w5))
      replace B := Lib.hid (B.out.trans ((below_draws' w5).mono B.out.size))
      generalize w5.drew = w5d at SS F Ku Kc Kz Kd Kx B hl_18 hc_18 hf_18 ⊢
      have nec_18 : ¬ g_18 = w.heap.size + 1 := by have := SZ.out; omega
      have enc_18 : ¬ w.heap.size + 1 = g_18 := fun h => nec_18 h.symm
      have ned_18 : ¬ g_18 = w1s := by omega
      have end_18 : ¬ w1s = g_18 := fun h => ned_18 h.symm
      have nex_18 : ¬ g_18 = w3s := by have := HWS.out; omega
      have enx_18 : ¬ w3s = g_18 := fun h => nex_18 h.symm
      obtain ⟨cc0, cc1, cc2, cc3, ccl⟩ := bk4 Kc.out
      obtain ⟨dc0, dc1, dc2, dc3, dcl⟩ := bk4 Kd.out
      obtain ⟨xc0, xc1, xc2, xc3, xc4, xc5, xc6, xcl⟩ := bk7 Kx.out
      go_wp2_with fail
      clear cc0 cc1 cc2 cc3 ccl dc0 dc1 dc2 dc3 dcl xc0 xc1 xc2 xc3 xc4 xc5 xc6 xcl
      generalize w5d.setCell ⟨g_18, k, none⟩ _ = w6 at SS F ⊢
      clear q1_18 q2_18 hkm_18 hgB_18 hgN_18 hl_18 hc_18 hf_18 yp1 lp1 nec_18 enc_18 ned_18 end_18 nex_18 enx_18 ap_18
      replace Ku := Lib.hid (bkBelow F.out.b (show w.heap.size < w0.heap.size by have := SZ.out; omega) Ku.out)
      replace Kc := Lib.hid (bkBelow F.out.b (show w.heap.size + 1 < w0.heap.size by have := SZ.out; omega) Kc.out)
      replace Kz := Lib.hid (bkBelow F.out.b (show w.heap.size + 1 + 1 < w0.heap.size by have := SZ.out; omega) Kz.out)
      replace Kd := Lib.hid (F.out.bk (Nat.le_refl _) Kd.out)
      replace Kx := Lib.hid (F.out.bk HWS.out Kx.out)
      replace B := Lib.hid (B.out.trans (F.out.b.mono HLW.out))
      clear F
      obtain ⟨ym1, lm1⟩ := HM1.out w6 B.out
      replace SS := Lib.hid (SS.out.below (below_draws' w6))
      obtain ⟨g1_19, g_19, mr_19, cr_19, u_19, hg0_19, hkm_19, hl1_19, hc1_19, him_19, hgB_19, hgN_19, hl_19, hc_19, hf_19, ap_19, hst_19⟩ := SS.out.putReg k (by rw [HP18.out, HPF.out]; show k < c.pf.regs.length; rw [HLN.out.2.1]; exact hkr) i (by rw [HP18.out, HPF.out]; exact hil)
      replace hc1_19 : w6.cell? ⟨g1_19, k, none⟩ = _ := hc1_19
      replace hl1_19 : g1_19 < w6.heap.size := hl1_19
      subst hg0_19
      have q1_19 : (0 : Int) ≤ (k : Int) := by omega
      have q2_19 : (k : Int) < (m1 : Int) := by omega
      have q3_19 : (0 : Int) ≤ (i : Int) := by omega
      have q4_19 : (i : Int) < (mr_19 : Int) := by omega
      obtain ⟨d2, hp_19, s_19, f_19⟩ := hst_19 mv
      have HP19 := Lib.hid hp_19
      replace SS := Lib.hid s_19
      have F := Lib.hid f_19
      clear hp_19 s_19 f_19 hst_19
      obtain ⟨cc0, cc1, cc2, cc3, ccl⟩ := bk4 Kc.out
      obtain ⟨dc0, dc1, dc2, dc3, dcl⟩ := bk4 Kd.out
      obtain ⟨xc0, xc1, xc2, xc3, xc4, xc5, xc6, xcl⟩ := bk7 Kx.out
      go_wp2_with fail
      go_still_tail 14, (by kernel_rfl)
      change wpList _ _ _ _ _ w6.drew
      clear cc0 cc1 cc2 cc3 ccl dc0 dc1 dc2 dc3 dcl xc0 xc1 xc2 xc3 xc4 xc5 xc6 xcl
      replace Ku := Lib.hid (Ku.out.below (below_draws' w6))
      replace Kc := Lib.hid (Kc.out.below (below_draws' w6))
      replace Kz := Lib.hid (Kz.out.below (below_draws' w6))
      replace Kd := Lib.hid (Kd.out.below (below_draws' w6))
      replace Kx := Lib.hid (Kx.out.below (below_draws' w6))
      replace B := Lib.hid (B.out.trans ((below_draws' w6).mono B.out.size))
      generalize w6.drew = w6d at SS F Ku Kc Kz Kd Kx B hl_19 hc_19 hf_19 ⊢
      have ned_19 : ¬ g_19 = w1s := by omega
      have end_19 : ¬ w1s = g_19 := fun h => ned_19 h.symm
      have nex_19 : ¬ g_19 = w3s := by have := HWS.out; omega
      have enx_19 : ¬ w3s = g_19 := fun h => nex_19 h.symm
      obtain ⟨dc0, dc1, dc2, dc3, dcl⟩ := bk4 Kd.out
      obtain ⟨xc0, xc1, xc2, xc3, xc4, xc5, xc6, xcl⟩ := bk7 Kx.out
      go_wp2_with fail
      clear dc0 dc1 dc2 dc3 dcl xc0 xc1 xc2 xc3 xc4 xc5 xc6 xcl
      generalize w6d.setCell ⟨g_19, i, none⟩ _ = w7 at SS F ⊢
      clear q1_19 q2_19 hkm_19 hgB_19 hgN_19 hl_19 hc_19 hf_19 q3_19 q4_19 hl1_19 hc1_19 him_19 ym1 lm1 ned_19 end_19 nex_19 enx_19 ap_19
      replace Ku := Lib.hid (bkBelow F.out.b (show w.heap.size < w0.heap.size by have := SZ.out; omega) Ku.out)
      replace Kc := Lib.hid (bkBelow F.out.b (show w.heap.size + 1 < w0.heap.size by have := SZ.out; omega) Kc.out)
      replace Kz := Lib.hid (bkBelow F.out.b (show w.heap.size + 1 + 1 < w0.heap.size by have := SZ.out; omega) Kz.out)
      replace Kd := Lib.hid (F.out.bk (Nat.le_refl _) Kd.out)
      replace Kx := Lib.hid (F.out.bk HWS.out Kx.out)
      replace B := Lib.hid (B.out.trans (F.out.b.mono HLW.out))
      clear F
      obtain ⟨ym1, lm1⟩ := HM1.out w7 B.out
      replace SS := Lib.hid (SS.out.below (below_draws' w7))
      obtain ⟨g_20, u_20, hg0_20, hkm_20, hgB_20, hgN_20, hl_20, hc_20, hf_20, hst_20⟩ := SS.out.putMem j (by rw [HP19.out, HP18.out, HPF.out]; exact hjl)
      subst hg0_20
      have q1_20 : (0 : Int) ≤ (j : Int) := by omega
      have q2_20 : (j : Int) < (m2 : Int) := by omega
      obtain ⟨d3, hp_20, s_20, f_20⟩ := hst_20 ((mv + ev) % md)
      have HP20 := Lib.hid hp_20
      replace SS := Lib.hid s_20
      have F := Lib.hid f_20
      clear hp_20 s_20 f_20 hst_20
      obtain ⟨uc0, uc1, uc2, uc3, ucl⟩ := bk4 Ku.out
      obtain ⟨cc0, cc1, cc2, cc3, ccl⟩ := bk4 Kc.out
      obtain ⟨dc0, dc1, dc2, dc3, dcl⟩ := bk4 Kd.out
      obtain ⟨xc0, xc1, xc2, xc3, xc4, xc5, xc6, xcl⟩ := bk7 Kx.out
      go_wp2_with fail
      go_still_tail 16, (by kernel_rfl)
      change wpList _ _ _ _ _ w7.drew
      clear uc0 uc1 uc2 uc3 ucl cc0 cc1 cc2 cc3 ccl dc0 dc1 dc2 dc3 dcl xc0 xc1 xc2 xc3 xc4 xc5 xc6 xcl
      replace Ku := Lib.hid (Ku.out.below (below_draws' w7))
      replace Kc := Lib.hid (Kc.out.below (below_draws' w7))
      replace Kz := Lib.hid (Kz.out.below (below_draws' w7))
      replace Kd := Lib.hid (Kd.out.below (below_draws' w7))
      replace Kx := Lib.hid (Kx.out.below (below_draws' w7))
      replace B := Lib.hid (B.out.trans ((below_draws' w7).mono B.out.size))
      generalize w7.drew = w7d at SS F Ku Kc Kz Kd Kx B hl_20 hc_20 hf_20 ⊢
      have nez_20 : ¬ g_20 = w.heap.size + 1 + 1 := by have := SZ.out; omega
      have enz_20 : ¬ w.heap.size + 1 + 1 = g_20 := fun h => nez_20 h.symm
      have ned_20 : ¬ g_20 = w1s := by omega
      have end_20 : ¬ w1s = g_20 := fun h => ned_20 h.symm
      have nex_20 : ¬ g_20 = w3s := by have := HWS.out; omega
      have enx_20 : ¬ w3s = g_20 := fun h => nex_20 h.symm
      obtain ⟨fz0, fz1, fz2, fz3⟩ := bkf4 Kz.out
      obtain ⟨zc0, zc1, zc2, zc3, zcl⟩ := bk4 Kz.out
      obtain ⟨dc0, dc1, dc2, dc3, dcl⟩ := bk4 Kd.out
      obtain ⟨xc0, xc1, xc2, xc3, xc4, xc5, xc6, xcl⟩ := bk7 Kx.out
      go_wp2_with fail
      clear zc0 zc1 zc2 zc3 zcl dc0 dc1 dc2 dc3 dcl xc0 xc1 xc2 xc3 xc4 xc5 xc6 xcl
      generalize w7d.setCell ⟨g_20, j, none⟩ _ = w8 at SS F ⊢
      clear q1_20 q2_20 hkm_20 hgB_20 hgN_20 hl_20 hc_20 hf_20 ym1 lm1 nez_20 enz_20 ned_20 end_20 nex_20 enx_20 fz0 fz1 fz2 fz3
      replace Ku := Lib.hid (bkBelow F.out.b (show w.heap.size < w0.heap.size by have := SZ.out; omega) Ku.out)
      replace Kc := Lib.hid (bkBelow F.out.b (show w.heap.size + 1 < w0.heap.size by have := SZ.out; omega) Kc.out)
      replace Kz := Lib.hid (bkBelow F.out.b (show w.heap.size + 1 + 1 < w0.heap.size by have := SZ.out; omega) Kz.out)
      replace Kd := Lib.hid (F.out.bk (Nat.le_refl _) Kd.out)
      replace Kx := Lib.hid (F.out.bk HWS.out Kx.out)
      replace B := Lib.hid (B.out.trans (F.out.b.mono HLW.out))
      clear F
      have KF := Lib.hid (set4_bk (.slice (some ⟨g_18, 0, none⟩) m0 n0) (.slice (some ⟨g1_19, 0, none⟩) m1 n1) (.slice (some ⟨g_20, 0, none⟩) m2 n2) (.slice a3 m3 n3) Kz.out)
      have kp := Lib.hid (set4_kp (w := w8) (B := w0.heap.size) (.slice (some ⟨g_18, 0, none⟩) m0 n0) (.slice (some ⟨g1_19, 0, none⟩) m1 n1) (.slice (some ⟨g_20, 0, none⟩) m2 n2) (.slice a3 m3 n3) (show w.heap.size + 1 + 1 < w0.heap.size by have := SZ.out; omega))
      have BF := Lib.hid (set4_below (.slice (some ⟨g_18, 0, none⟩) m0 n0) (.slice (some ⟨g1_19, 0, none⟩) m1 n1) (.slice (some ⟨g_20, 0, none⟩) m2 n2) (.slice a3 m3 n3) B.out (show w.heap.size ≤ w.heap.size + 1 + 1 by omega))
      generalize (((w8.setCell _ _).setCell _ _).setCell _ _).setCell _ _ = w99 at KF kp BF ⊢
      have D0 : w99.cell? ⟨w.heap.size + 1 + 1, 0, none⟩ = some _ := KF.out.cell 0
      have D1 : w99.cell? ⟨w.heap.size + 1 + 1, 1, none⟩ = some _ := KF.out.cell 1
      have D2 : w99.cell? ⟨w.heap.size + 1 + 1, 2, none⟩ = some _ := KF.out.cell 2
      have D3 : w99.cell? ⟨w.heap.size + 1 + 1, 3, none⟩ = some _ := KF.out.cell 3
      refine bodyPost_ret (v := .tuple #[.agg #[.slice (some ⟨g_18, 0, none⟩) m0 n0, .slice (some ⟨g1_19, 0, none⟩) m1 n1, .slice (some ⟨g_20, 0, none⟩) m2 n2, .slice a3 m3 n3], .bool true]) (by simp [results, Tryz.results9, go_sem, D0, D1, D2, D3]) rfl ?_
      exact ⟨d3, _, _, _, _, rfl, (SS.out.o.kp kp.out).base HLW.out, (by rw [HPD.out, HP20.out, HP19.out, HP18.out, HPF.out]; simp [actO, pcO, regO, memO, bufO, HO.out, HPC2.out.1, HPC2.out.2, HVV.out, HI.out, HJ.out, HMV.out, HN.out.2.2.2.2.2]), BF.out⟩
    by_cases o7 : x.x.op = 7
    ·
      have HO := Lib.hid o7
      rw [o7] at Kx
      clear o20
      clear o21
      clear o2
      clear o3
      clear o4
      clear o5
      clear o6
      clear o7
      obtain ⟨i, hi, hil⟩ := thr_reg HT.out (by rw [HO.out]; rfl)
      rw [hi] at Kx
      have HI := Lib.hid hi
      clear hi
      obtain ⟨j, hj, hjl⟩ := thr_loc HR.out HT.out (by rw [HO.out]; rfl)
      have hjm : j < nm := by rw [HLN.out.2.2.1] at hjl; exact hjl
      rw [hj] at Kx
      have HJ := Lib.hid hj
      clear hj
      obtain ⟨bm, om, hma, lm, ym⟩ := HMM.out j hjl
      subst hma
      obtain ⟨mv, hmv⟩ : ∃ z : Int, z = c.mem[j]'hjl := ⟨_, rfl⟩
      rw [← hmv] at ym
      have HMV : Hid (c.pf.mem[j]?.getD 0 = mv) := Lib.hid (by show (c.mem[j]?).getD 0 = mv; rw [hmv]; exact congrArg (fun z : Option Int => z.getD 0) (List.getElem?_eq_getElem hjl))
      have HM1 := Lib.hid (fun (W : World) (h : Below w.heap.size w W) => And.intro ((h.cell (p := ⟨bm, _, none⟩) lm).trans ym) (Nat.lt_of_lt_of_le lm h.size))
      have hbmw := lm
      clear lm ym hmv
      have qj1 : (0 : Int) ≤ (j : Int) := by omega
      have qj2 : (j : Int) < (nm : Int) := by omega
      replace SS := Lib.hid (SS.out.below (below_draws' w5))
      obtain ⟨g_21, u_21, hg0_21, hkm_21, hgB_21, hgN_21, hl_21, hc_21, hf_21, ap_21, hst_21⟩ := SS.out.putPc k (by rw [HPF.out, HLN.out.1]; exact hkp)
      subst hg0_21
      have q1_21 : (0 : Int) ≤ (k : Int) := by omega
      have q2_21 : (k : Int) < (m0 : Int) := by omega
      obtain ⟨d1, hp_21, s_21, f_21⟩ := hst_21 ((pc : Int) + 1)
      have HP21 := Lib.hid hp_21
      replace SS := Lib.hid s_21
      have F := Lib.hid f_21
      clear hp_21 s_21 f_21 hst_21
      obtain ⟨cc0, cc1, cc2, cc3, ccl⟩ := bk4 Kc.out
      obtain ⟨dc0, dc1, dc2, dc3, dcl⟩ := bk4 Kd.out
      go_wp2_with fail
      go_still_tail 10, (by kernel_rfl)
      change wpList _ _ _ _ _ w5.drew
      clear cc0 cc1 cc2 cc3 ccl dc0 dc1 dc2 dc3 dcl
      replace Ku := Lib.hid (Ku.out.below (below_draws' w5))
      replace Kc := Lib.hid (Kc.out.below (below_draws' w5))
      replace Kz := Lib.hid (Kz.out.below (below_draws' w5))
      replace Kd := Lib.hid (Kd.out.below (below_draws' w5))
      replace Kx := Lib.hid (Kx.out.below (below_draws' w5))
      replace B := Lib.hid (B.out.trans ((below_draws' w5).mono B.out.size))
      generalize w5.drew = w5d at SS F Ku Kc Kz Kd Kx B hl_21 hc_21 hf_21 ⊢
      have nec_21 : ¬ g_21 = w.heap.size + 1 := by have := SZ.out; omega
      have enc_21 : ¬ w.heap.size + 1 = g_21 := fun h => nec_21 h.symm
      have ned_21 : ¬ g_21 = w1s := by omega
      have end_21 : ¬ w1s = g_21 := fun h => ned_21 h.symm
      have nex_21 : ¬ g_21 = w3s := by have := HWS.out; omega
      have enx_21 : ¬ w3s = g_21 := fun h => nex_21 h.symm
      obtain ⟨cc0, cc1, cc2, cc3, ccl⟩ := bk4 Kc.out
      obtain ⟨dc0, dc1, dc2, dc3, dcl⟩ := bk4 Kd.out
      obtain ⟨xc0, xc1, xc2, xc3, xc4, xc5, xc6, xcl⟩ := bk7 Kx.out
      go_wp2_with fail
      clear cc0 cc1 cc2 cc3 ccl dc0 dc1 dc2 dc3 dcl xc0 xc1 xc2 xc3 xc4 xc5 xc6 xcl
      generalize w5d.setCell ⟨g_21, k, none⟩ _ = w6 at SS F ⊢
      clear q1_21 q2_21 hkm_21 hgB_21 hgN_21 hl_21 hc_21 hf_21 yp1 lp1 nec_21 enc_21 ned_21 end_21 nex_21 enx_21 ap_21
      replace Ku := Lib.hid (bkBelow F.out.b (show w.heap.size < w0.heap.size by have := SZ.out; omega) Ku.out)
      replace Kc := Lib.hid (bkBelow F.out.b (show w.heap.size + 1 < w0.heap.size by have := SZ.out; omega) Kc.out)
      replace Kz := Lib.hid (bkBelow F.out.b (show w.heap.size + 1 + 1 < w0.heap.size by have := SZ.out; omega) Kz.out)
      replace Kd := Lib.hid (F.out.bk (Nat.le_refl _) Kd.out)
      replace Kx := Lib.hid (F.out.bk HWS.out Kx.out)
      replace B := Lib.hid (B.out.trans (F.out.b.mono HLW.out))
      clear F
      obtain ⟨ym1, lm1⟩ := HM1.out w6 B.out
      replace SS := Lib.hid (SS.out.below (below_draws' w6))
      obtain ⟨g1_22, g_22, mr_22, cr_22, u_22, hg0_22, hkm_22, hl1_22, hc1_22, him_22, hgB_22, hgN_22, hl_22, hc_22, hf_22, ap_22, hst_22⟩ := SS.out.putReg k (by rw [HP21.out, HPF.out]; show k < c.pf.regs.length; rw [HLN.out.2.1]; exact hkr) i (by rw [HP21.out, HPF.out]; exact hil)
      replace hc1_22 : w6.cell? ⟨g1_22, k, none⟩ = _ := hc1_22
      replace hl1_22 : g1_22 < w6.heap.size := hl1_22
      obtain ⟨gm_22, um_22, hgm_22, hjk_22, hmB_22, hmN_22, hml_22, hmc_22, hmf_22, _⟩ := SS.out.putMem j (by rw [HP21.out, HPF.out]; exact hjl)
      subst hgm_22
      have nm_22 := ap_22 gm_22 rfl
      have mn_22 : ¬ gm_22 = g_22 := fun h => nm_22 h.symm
      have qm_22 : (j : Int) < (m2 : Int) := by omega
      subst hg0_22
      have q1_22 : (0 : Int) ≤ (k : Int) := by omega
      have q2_22 : (k : Int) < (m1 : Int) := by omega
      have q3_22 : (0 : Int) ≤ (i : Int) := by omega
      have q4_22 : (i : Int) < (mr_22 : Int) := by omega
      obtain ⟨d2, hp_22, s_22, f_22⟩ := hst_22 mv
      have HP22 := Lib.hid hp_22
      replace SS := Lib.hid s_22
      have F := Lib.hid f_22
      clear hp_22 s_22 f_22 hst_22
      obtain ⟨cc0, cc1, cc2, cc3, ccl⟩ := bk4 Kc.out
      obtain ⟨dc0, dc1, dc2, dc3, dcl⟩ := bk4 Kd.out
      obtain ⟨xc0, xc1, xc2, xc3, xc4, xc5, xc6, xcl⟩ := bk7 Kx.out
      go_wp2_with fail
      go_still_tail 14, (by kernel_rfl)
      change wpList _ _ _ _ _ w6.drew
      clear cc0 cc1 cc2 cc3 ccl dc0 dc1 dc2 dc3 dcl xc0 xc1 xc2 xc3 xc4 xc5 xc6 xcl
      replace Ku := Lib.hid (Ku.out.below (below_draws' w6))
      replace Kc := Lib.hid (Kc.out.below (below_draws' w6))
      replace Kz := Lib.hid (Kz.out.below (below_draws' w6))
      replace Kd := Lib.hid (Kd.out.below (below_draws' w6))
      replace Kx := Lib.hid (Kx.out.below (below_draws' w6))
      replace B := Lib.hid (B.out.trans ((below_draws' w6).mono B.out.size))
      generalize w6.drew = w6d at SS F Ku Kc Kz Kd Kx B hl_22 hc_22 hf_22 hml_22 hmc_22 hmf_22 ⊢
      obtain ⟨g_23, u_23, hg0_23, hkm_23, hgB_23, hgN_23, hl_23, hc_23, hf_23, hst_23⟩ := SS.out.putMem j (by rw [HP22.out, HP21.out, HPF.out]; exact hjl)
      obtain rfl : gm_22 = g_23 := by injection hg0_23 with h; injection h with h
      clear hg0_23 hkm_23 hgB_23 hgN_23 hl_23 hc_23 hf_23
      obtain ⟨d3, hp_23, s_23, f_23⟩ := hst_23 ev
      have HP23 := Lib.hid hp_23
      replace SS := Lib.hid s_23
      replace F := Lib.hid (F.out.trans f_23)
      clear hp_23 s_23 f_23 hst_23
      have nec_22 : ¬ g_22 = w.heap.size + 1 := by have := SZ.out; omega
      have enc_22 : ¬ w.heap.size + 1 = g_22 := fun h => nec_22 h.symm
      have mec_22 : ¬ gm_22 = w.heap.size + 1 := by have := HWS.out; have := SZ.out; omega
      have emc_22 : ¬ w.heap.size + 1 = gm_22 := fun h => mec_22 h.symm
      have nez_22 : ¬ g_22 = w.heap.size + 1 + 1 := by have := SZ.out; omega
      have enz_22 : ¬ w.heap.size + 1 + 1 = g_22 := fun h => nez_22 h.symm
      have mez_22 : ¬ gm_22 = w.heap.size + 1 + 1 := by have := HWS.out; have := SZ.out; omega
      have emz_22 : ¬ w.heap.size + 1 + 1 = gm_22 := fun h => mez_22 h.symm
      have ned_22 : ¬ g_22 = w1s := by omega
      have end_22 : ¬ w1s = g_22 := fun h => ned_22 h.symm
      have med_22 : ¬ gm_22 = w1s := by have := HWS.out; have := SZ.out; omega
      have emd_22 : ¬ w1s = gm_22 := fun h => med_22 h.symm
      have nex_22 : ¬ g_22 = w3s := by have := HWS.out; omega
      have enx_22 : ¬ w3s = g_22 := fun h => nex_22 h.symm
      have mex_22 : ¬ gm_22 = w3s := by have := HWS.out; have := SZ.out; omega
      have emx_22 : ¬ w3s = gm_22 := fun h => mex_22 h.symm
      obtain ⟨fz0, fz1, fz2, fz3⟩ := bkf4 Kz.out
      obtain ⟨cc0, cc1, cc2, cc3, ccl⟩ := bk4 Kc.out
      obtain ⟨zc0, zc1, zc2, zc3, zcl⟩ := bk4 Kz.out
      obtain ⟨dc0, dc1, dc2, dc3, dcl⟩ := bk4 Kd.out
      obtain ⟨xc0, xc1, xc2, xc3, xc4, xc5, xc6, xcl⟩ := bk7 Kx.out
      go_wp2_with fail
      clear cc0 cc1 cc2 cc3 ccl zc0 zc1 zc2 zc3 zcl dc0 dc1 dc2 dc3 dcl xc0 xc1 xc2 xc3 xc4 xc5 xc6 xcl
      generalize (w6d.setCell ⟨g_22, i, none⟩ _).setCell ⟨gm_22, j, none⟩ _ = w7 at SS F ⊢
      clear q1_22 q2_22 hkm_22 hgB_22 hgN_22 hl_22 hc_22 hf_22 q3_22 q4_22 hl1_22 hc1_22 him_22 ym1 lm1 nec_22 enc_22 mec_22 emc_22 nez_22 enz_22 mez_22 emz_22 ned_22 end_22 med_22 emd_22 nex_22 enx_22 mex_22 emx_22 fz0 fz1 fz2 fz3 nm_22 mn_22 qm_22 hjk_22 hmB_22 hmN_22 hml_22 hmc_22 hmf_22 ap_22
      replace Ku := Lib.hid (bkBelow F.out.b (show w.heap.size < w0.heap.size by have := SZ.out; omega) Ku.out)
      replace Kc := Lib.hid (bkBelow F.out.b (show w.heap.size + 1 < w0.heap.size by have := SZ.out; omega) Kc.out)
      replace Kz := Lib.hid (bkBelow F.out.b (show w.heap.size + 1 + 1 < w0.heap.size by have := SZ.out; omega) Kz.out)
      replace Kd := Lib.hid (F.out.bk (Nat.le_refl _) Kd.out)
      replace Kx := Lib.hid (F.out.bk HWS.out Kx.out)
      replace B := Lib.hid (B.out.trans (F.out.b.mono HLW.out))
      clear F
      have KF := Lib.hid (set4_bk (.slice (some ⟨g_21, 0, none⟩) m0 n0) (.slice (some ⟨g1_22, 0, none⟩) m1 n1) (.slice (some ⟨gm_22, 0, none⟩) m2 n2) (.slice a3 m3 n3) Kz.out)
      have kp := Lib.hid (set4_kp (w := w7) (B := w0.heap.size) (.slice (some ⟨g_21, 0, none⟩) m0 n0) (.slice (some ⟨g1_22, 0, none⟩) m1 n1) (.slice (some ⟨gm_22, 0, none⟩) m2 n2) (.slice a3 m3 n3) (show w.heap.size + 1 + 1 < w0.heap.size by have := SZ.out; omega))
      have BF := Lib.hid (set4_below (.slice (some ⟨g_21, 0, none⟩) m0 n0) (.slice (some ⟨g1_22, 0, none⟩) m1 n1) (.slice (some ⟨gm_22, 0, none⟩) m2 n2) (.slice a3 m3 n3) B.out (show w.heap.size ≤ w.heap.size + 1 + 1 by omega))
      generalize (((w7.setCell _ _).setCell _ _).setCell _ _).setCell _ _ = w99 at KF kp BF ⊢
      have D0 : w99.cell? ⟨w.heap.size + 1 + 1, 0, none⟩ = some _ := KF.out.cell 0
      have D1 : w99.cell? ⟨w.heap.size + 1 + 1, 1, none⟩ = some _ := KF.out.cell 1
      have D2 : w99.cell? ⟨w.heap.size + 1 + 1, 2, none⟩ = some _ := KF.out.cell 2
      have D3 : w99.cell? ⟨w.heap.size + 1 + 1, 3, none⟩ = some _ := KF.out.cell 3
      refine bodyPost_ret (v := .tuple #[.agg #[.slice (some ⟨g_21, 0, none⟩) m0 n0, .slice (some ⟨g1_22, 0, none⟩) m1 n1, .slice (some ⟨gm_22, 0, none⟩) m2 n2, .slice a3 m3 n3], .bool true]) (by simp [results, Tryz.results9, go_sem, D0, D1, D2, D3]) rfl ?_
      exact ⟨d3, _, _, _, _, rfl, (SS.out.o.kp kp.out).base HLW.out, (by rw [HPD.out, HP23.out, HP22.out, HP21.out, HPF.out]; simp [actO, pcO, regO, memO, bufO, HO.out, HPC2.out.1, HPC2.out.2, HVV.out, HI.out, HJ.out, HMV.out]), BF.out⟩
    have p20 : (x.x.op == 20) = false := by simpa using o20
    have p21 : (x.x.op == 21) = false := by simpa using o21
    have p2 : (x.x.op == 2) = false := by simpa using o2
    have p3 : (x.x.op == 3) = false := by simpa using o3
    have p4 : (x.x.op == 4) = false := by simpa using o4
    have p5 : (x.x.op == 5) = false := by simpa using o5
    have p6 : (x.x.op == 6) = false := by simpa using o6
    have p7 : (x.x.op == 7) = false := by simpa using o7
    replace o20 := Lib.hid o20
    replace o21 := Lib.hid o21
    replace o2 := Lib.hid o2
    replace o3 := Lib.hid o3
    replace o4 := Lib.hid o4
    replace o5 := Lib.hid o5
    replace o6 := Lib.hid o6
    replace o7 := Lib.hid o7
    replace SS := Lib.hid (SS.out.below (below_draws' w5))
    obtain ⟨g_24, u_24, hg0_24, hkm_24, hgB_24, hgN_24, hl_24, hc_24, hf_24, ap_24, hst_24⟩ := SS.out.putPc k (by rw [HPF.out, HLN.out.1]; exact hkp)
    subst hg0_24
    have q1_24 : (0 : Int) ≤ (k : Int) := by omega
    have q2_24 : (k : Int) < (m0 : Int) := by omega
    obtain ⟨d1, hp_24, s_24, f_24⟩ := hst_24 ((pc : Int) + 1)
    have HP24 := Lib.hid hp_24
    replace SS := Lib.hid s_24
    have F := Lib.hid f_24
    clear hp_24 s_24 f_24 hst_24
    obtain ⟨cc0, cc1, cc2, cc3, ccl⟩ := bk4 Kc.out
    obtain ⟨dc0, dc1, dc2, dc3, dcl⟩ := bk4 Kd.out
    go_wp2_with fail
    go_still_tail 10, (by kernel_rfl)
    change wpList _ _ _ _ _ w5.drew
    clear cc0 cc1 cc2 cc3 ccl dc0 dc1 dc2 dc3 dcl
    replace Ku := Lib.hid (Ku.out.below (below_draws' w5))
    replace Kc := Lib.hid (Kc.out.below (below_draws' w5))
    replace Kz := Lib.hid (Kz.out.below (below_draws' w5))
    replace Kd := Lib.hid (Kd.out.below (below_draws' w5))
    replace Kx := Lib.hid (Kx.out.below (below_draws' w5))
    replace B := Lib.hid (B.out.trans ((below_draws' w5).mono B.out.size))
    generalize w5.drew = w5d at SS F Ku Kc Kz Kd Kx B hl_24 hc_24 hf_24 ⊢
    have nec_24 : ¬ g_24 = w.heap.size + 1 := by have := SZ.out; omega
    have enc_24 : ¬ w.heap.size + 1 = g_24 := fun h => nec_24 h.symm
    have nez_24 : ¬ g_24 = w.heap.size + 1 + 1 := by have := SZ.out; omega
    have enz_24 : ¬ w.heap.size + 1 + 1 = g_24 := fun h => nez_24 h.symm
    have ned_24 : ¬ g_24 = w1s := by omega
    have end_24 : ¬ w1s = g_24 := fun h => ned_24 h.symm
    have nex_24 : ¬ g_24 = w3s := by have := HWS.out; omega
    have enx_24 : ¬ w3s = g_24 := fun h => nex_24 h.symm
    obtain ⟨fz0, fz1, fz2, fz3⟩ := bkf4 Kz.out
    obtain ⟨cc0, cc1, cc2, cc3, ccl⟩ := bk4 Kc.out
    obtain ⟨zc0, zc1, zc2, zc3, zcl⟩ := bk4 Kz.out
    obtain ⟨dc0, dc1, dc2, dc3, dcl⟩ := bk4 Kd.out
    obtain ⟨xc0, xc1, xc2, xc3, xc4, xc5, xc6, xcl⟩ := bk7 Kx.out
    go_wp2_with fail
    clear cc0 cc1 cc2 cc3 ccl zc0 zc1 zc2 zc3 zcl dc0 dc1 dc2 dc3 dcl xc0 xc1 xc2 xc3 xc4 xc5 xc6 xcl
    generalize w5d.setCell ⟨g_24, k, none⟩ _ = w6 at SS F ⊢
    clear q1_24 q2_24 hkm_24 hgB_24 hgN_24 hl_24 hc_24 hf_24 yp1 lp1 nec_24 enc_24 nez_24 enz_24 ned_24 end_24 nex_24 enx_24 fz0 fz1 fz2 fz3 ap_24
    replace Ku := Lib.hid (bkBelow F.out.b (show w.heap.size < w0.heap.size by have := SZ.out; omega) Ku.out)
    replace Kc := Lib.hid (bkBelow F.out.b (show w.heap.size + 1 < w0.heap.size by have := SZ.out; omega) Kc.out)
    replace Kz := Lib.hid (bkBelow F.out.b (show w.heap.size + 1 + 1 < w0.heap.size by have := SZ.out; omega) Kz.out)
    replace Kd := Lib.hid (F.out.bk (Nat.le_refl _) Kd.out)
    replace Kx := Lib.hid (F.out.bk HWS.out Kx.out)
    replace B := Lib.hid (B.out.trans (F.out.b.mono HLW.out))
    clear F
    have KF := Lib.hid (set4_bk (.slice (some ⟨g_24, 0, none⟩) m0 n0) (.slice a1 m1 n1) (.slice a2 m2 n2) (.slice a3 m3 n3) Kz.out)
    have kp := Lib.hid (set4_kp (w := w6) (B := w0.heap.size) (.slice (some ⟨g_24, 0, none⟩) m0 n0) (.slice a1 m1 n1) (.slice a2 m2 n2) (.slice a3 m3 n3) (show w.heap.size + 1 + 1 < w0.heap.size by have := SZ.out; omega))
    have BF := Lib.hid (set4_below (.slice (some ⟨g_24, 0, none⟩) m0 n0) (.slice a1 m1 n1) (.slice a2 m2 n2) (.slice a3 m3 n3) B.out (show w.heap.size ≤ w.heap.size + 1 + 1 by omega))
    generalize (((w6.setCell _ _).setCell _ _).setCell _ _).setCell _ _ = w99 at KF kp BF ⊢
    have D0 : w99.cell? ⟨w.heap.size + 1 + 1, 0, none⟩ = some _ := KF.out.cell 0
    have D1 : w99.cell? ⟨w.heap.size + 1 + 1, 1, none⟩ = some _ := KF.out.cell 1
    have D2 : w99.cell? ⟨w.heap.size + 1 + 1, 2, none⟩ = some _ := KF.out.cell 2
    have D3 : w99.cell? ⟨w.heap.size + 1 + 1, 3, none⟩ = some _ := KF.out.cell 3
    refine bodyPost_ret (v := .tuple #[.agg #[.slice (some ⟨g_24, 0, none⟩) m0 n0, .slice a1 m1 n1, .slice a2 m2 n2, .slice a3 m3 n3], .bool true]) (by simp [results, Tryz.results9, go_sem, D0, D1, D2, D3]) rfl ?_
    exact ⟨d1, _, _, _, _, rfl, (SS.out.o.kp kp.out).base HLW.out, (by rw [HPD.out, HP24.out, HPF.out]; simp [actO, pcO, regO, memO, bufO, HPC2.out.1, HPC2.out.2, HVV.out, o20.out, o21.out, o2.out, o3.out, o4.out, o5.out, o6.out, o7.out]), BF.out⟩
end Go.Proofs.YtacbanfnakgecaaGreat
