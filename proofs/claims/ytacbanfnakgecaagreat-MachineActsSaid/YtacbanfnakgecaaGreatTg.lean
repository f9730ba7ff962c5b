/- The reference's Enabled. -/
import Derived.Test.YtacbanfnakgecaaGreatXp
import Derived.Test.YtacbanfnakgecaaGreatXl
import Derived.Test.YtacbanfnakgecaaGreatXj
import Derived.Test.YtacbanfnakgecaaGreatYb
import Derived.Test.YtacbanfnakgecaaGreatYs
import Derived.Test.YtacbanfnakgecaaGreatTa
namespace Go.Proofs.YtacbanfnakgecaaGreat
set_option linter.unusedSimpArgs false
set_option linter.unusedVariables false
open Go.RowKit
theorem ins_at {u : Un} {c : Cf} {model room : Int} {w : World} {ac ap : Option Addr} {ncd ccd npp cpp : Nat} {vi vr xr xm xb : Value} (hu : UnD w vi vr (.slice ac ncd ccd) u) (hc : CfD w (.slice ap npp cpp) xr xm xb c) (hR : RightP u c.pf model room) (k : Nat) (hk : k < u.code.length) :
    ∃ bp op bc oc bi oi nl mx pc x, ap = some ⟨bp, op, none⟩ ∧ ac = some ⟨bc, oc, none⟩ ∧ bp < w.heap.size ∧ bc < w.heap.size ∧ bi < w.heap.size ∧ w.cell? ⟨bp, op + k, none⟩ = some (.int .i64 (pc : Nat)) ∧ w.cell? ⟨bc, oc + k, none⟩ = some (.slice (some ⟨bi, oi, none⟩) nl mx) ∧ pc < nl ∧ nl ≤ 1000 ∧
      IsAt w bi (oi + pc * 7) x ∧ x = iiAt u k (c.pc.getD k 0) := by
  have hlc := rightU_lc hR.ru
  have hkr : k < u.regs.length := by omega
  have hkp : k < c.pc.length := by have : c.pc.length = u.regs.length := hR.lp; omega
  obtain ⟨pc, x, T⟩ := hR.thr k hkr
  obtain ⟨bp, op, rfl, hbp, yp⟩ := IntsD.at2 hc.p k hkp
  obtain ⟨bc, oc, rfl, hbc, hx⟩ := SlD.at hu.c k hk
  obtain ⟨hx1, hx2⟩ := hx
  obtain ⟨ax, mx, hxv⟩ := hx2.shape0
  rw [hxv] at hx1 hx2
  have hg : u.code.getD k ([], undef) = u.code[k] := by rw [List.getD_eq_getElem?_getD, List.getElem?_eq_getElem hk]; rfl
  have hpl : pc < (u.code[k]).1.length := by have := T.hpl; rw [hg] at this; exact this
  have hle : (u.code[k]).1.length ≤ 1000 := by have := T.hl; rw [hg] at this; exact this
  obtain ⟨bi, oi, rfl, hbi, hI⟩ := SlD.at hx2 pc hpl
  have hp : c.pc[k] = (pc : Int) := by have h1 : c.pc.getD k 0 = (pc : Int) := T.hp; rw [List.getD_eq_getElem?_getD, List.getElem?_eq_getElem hkp] at h1; exact h1
  rw [hp] at yp
  refine ⟨bp, op, bc, oc, bi, oi, _, mx, pc, _, rfl, rfl, hbp, hbc, hbi, yp, by rw [Nat.mul_one] at hx1; exact hx1, hpl, hle, hI, ?_⟩
  unfold iiAt
  rw [show c.pc.getD k 0 = (pc : Int) from T.hp, hg, show ((pc : Int)).toNat = pc by omega, List.getD_eq_getElem?_getD, List.getElem?_eq_getElem hpl]
  rfl
theorem buf_at {w : World} {c : Cf} {ab : Option Addr} {nb cb : Nat} {vp vq vm : Value} (hc : CfD w vp vq vm (.slice ab nb cb) c) (k : Nat) (h3 : k < c.buf.length) :
    ∃ bb ob rb mb, ab = some ⟨bb, ob, none⟩ ∧ bb < w.heap.size ∧ w.cell? ⟨bb, ob + k, none⟩ = some (.slice rb (c.pf.buf.getD k []).length mb) ∧ EntsD w (.slice rb (c.pf.buf.getD k []).length mb) (c.pf.buf.getD k []) ∧ ∀ B : Nat, (∀ r ∈ c.buf, r.1.length ≤ B) → (c.pf.buf.getD k []).length ≤ B := by
  obtain ⟨bb, ob, rfl, l3, y3⟩ := SlD.at hc.b k h3
  have e3 : c.pf.buf.getD k [] = (c.buf[k]).1 := by show (c.buf.map (·.1)).getD k [] = _; rw [List.getD_eq_getElem?_getD, List.getElem?_map, List.getElem?_eq_getElem h3]; rfl
  obtain ⟨c3, d3⟩ := y3
  obtain ⟨rb, mb, hv⟩ := d3.shape0
  rw [hv] at c3 d3
  rw [Nat.mul_one] at c3
  rw [e3]
  exact ⟨bb, ob, rb, mb, rfl, l3, c3, d3, fun B h => h _ (List.getElem_mem h3)⟩
set_option maxRecDepth 100000 in
set_option maxHeartbeats 16000000 in
theorem renabled_any (u : Un) (c : Cf) (model room t : Int) (vi vr vc ap ar am ab : Value) (w : World) (hu : UnD w vi vr vc u) (hc : CfD w ap ar am ab c) (hs : ShortC c) (hus : ∀ k pc, (iiAt u k pc).x.e.length ≤ 100000 ∧ (iiAt u k pc).x.f.length ≤ 100000) (hR : RightP u c.pf model room) (q : Bool) (hq : enT u c.pf model room t = q) :
    Calls Tryz.prog 12 #[.agg #[.int .i64 u.mod, vi, vr, vc], .agg #[ap, ar, am, ab], .int .i64 model, .int .i64 room, .int .i64 t] w fun e w' => e = .returned (.bool q) ∧ Below w.heap.size w w' := by
  obtain ⟨ac, cc, rfl⟩ := hu.c.shape0
  obtain ⟨ap, cp, rfl⟩ := hc.p.shape0
  obtain ⟨ab, cb, rfl⟩ := hc.b.shape0
  have h1 : c.pc.length = u.regs.length := hR.lp
  have h2 := (rightU_lc hR.ru).2.2.2.2.2
  have h3 : c.buf.length = u.regs.length := by have := hR.lb; simpa [Cf.pf] using this
  have h6 : c.regs.length = u.regs.length := by have := hR.lr; simpa [Cf.pf] using this
  have h7 : c.regs.length = c.pc.length := by omega
  clear h6
  have h4 : u.code.length = c.pc.length := by omega
  have h5 : c.buf.length = c.pc.length := by omega
  have HIN := Lib.hid (fun (k : Nat) (hk : k < c.pc.length) => ins_at hu hc hR k (by omega))
  have HBF := Lib.hid (fun (k : Nat) (hk : k < c.pc.length) => buf_at hc k (by omega))
  have HRD := Lib.hid (fun (k l : Int) (W : World) (h : Below w.heap.size w W) => rreads_any c k l _ _ _ _ W (hc.below h) hs.bb _ (readsC_pf c k l))
  have HEN : Hid ((decide (0 ≤ t ∧ t < c.pc.length) && enP u c.pf model room t.toNat) = q) := Lib.hid hq
  have HSB := Lib.hid hs.bb
  have HC0 := Lib.hid hc
  have HU0 := Lib.hid hu
  have HUS := Lib.hid hus
  have HR0 := Lib.hid hR
  have HS0 := Lib.hid hs
  clear hq hus hs hR h1 h2 h3
  rw [h5] at HRD
  rw [h4, h5]
  obtain ⟨np, hnp⟩ : ∃ n, n = c.pc.length := ⟨_, rfl⟩
  rw [← hnp] at HIN HBF HEN HRD ⊢
  obtain ⟨md, hmd⟩ : ∃ m, m = u.mod := ⟨_, rfl⟩
  rw [← hmd]
  have HNP := Lib.hid hnp
  have HMD := Lib.hid hmd
  clear hnp hmd hc hu
  obtain ⟨L0, KU0, KC0⟩ := two_new w 25 29 #[.int .i64 md, vi, vr, .slice ac np cc] #[.slice ap np cp, ar, am, .slice ab np cb]
  have B := Lib.hid L0
  have Ku := Lib.hid KU0
  have Kc := Lib.hid KC0
  clear L0 KU0 KC0
  by_cases t0 : t < 0
  ·
    obtain rfl : q = false := by rw [← HEN.out, decide_eq_false (by omega)]; rfl
    go_enter Tryz.func12, Tryz.ntmps12
    go_wp2_with fail
    go_ret
    exact ⟨rfl, B.out⟩
  by_cases tn : (np : Int) ≤ t
  ·
    obtain rfl : q = false := by rw [← HEN.out, decide_eq_false (by omega)]; rfl
    go_enter Tryz.func12, Tryz.ntmps12
    go_wp2_with fail
    go_ret
    exact ⟨rfl, B.out⟩
  obtain ⟨k, hk0⟩ : ∃ k : Nat, t = (k : Int) := ⟨t.toNat, by omega⟩
  subst hk0
  have hk : k < np := by omega
  have HE2 : Hid (enO u c.pf model room k (insAt u k (c.pc.getD k 0)) = q) := Lib.hid (by have := HEN.out; rw [decide_eq_true (by omega), Bool.true_and] at this; exact this)
  clear HEN
  obtain ⟨bp, op, bc, oc, bi, oi, nl, mx, pc, x, hz1, hz2, l1, l2, l3, y1, y2, hpl, hnl, hI, hx⟩ := HIN.out k hk
  subst hz1 hz2
  rw [show insAt u k (c.pc.getD k 0) = x.x by rw [hx]; rfl] at HE2
  have HLE := Lib.hid (HUS.out k (c.pc.getD k 0))
  rw [← hx] at HLE
  clear hx HUS HIN
  have hbp := l1
  have hbc := l2
  have hbi := l3
  go_enter Tryz.func12, Tryz.ntmps12
  go_wp2_with fail
  generalize World.alloc (World.alloc w _) _ = w2 at B Ku Kc ⊢
  have HII := Lib.hid (IsAt.below hI B.out l3)
  replace y1 := (B.out.cell (p := ⟨bp, _, none⟩) l1).trans y1
  replace y2 := (B.out.cell (p := ⟨bc, _, none⟩) l2).trans y2
  replace l1 := Nat.lt_of_lt_of_le l1 B.out.size
  replace l2 := Nat.lt_of_lt_of_le l2 B.out.size
  replace l3 := Nat.lt_of_lt_of_le l3 B.out.size
  clear hI
  obtain ⟨ae, ke, hev⟩ := HII.out.e.shape0
  obtain ⟨af, kf, hfv⟩ := HII.out.f.shape0
  have HONE : (#[.int .i64 x.x.op, .int .i64 x.x.reg, .int .i64 x.x.loc, x.ev, x.fv, .bool x.x.ne, .int .i64 x.x.to] : Array Value).all (·.oneCell') = true := by rw [hev, hfv]; simp [Value.oneCell']
  have HEV := Lib.hid hev
  clear hev hfv
  have HCC := Lib.hid (fun (W1 : World) (h : Below w2.heap.size w2 W1) => (⟨(h.cell (p := ⟨w.heap.size, _, none⟩) Ku.out.lt).trans (Ku.out.cell 3), (h.cell (p := ⟨w.heap.size + 1, _, none⟩) Kc.out.lt).trans (Kc.out.cell 0), (h.cell (p := ⟨bc, _, none⟩) l2).trans y2, (h.cell (p := ⟨bp, _, none⟩) l1).trans y1, ⟨(h.cell (p := ⟨bi, _, none⟩) l3).trans HII.out.c0, (h.cell (p := ⟨bi, _, none⟩) l3).trans HII.out.c1, (h.cell (p := ⟨bi, _, none⟩) l3).trans HII.out.c2, (h.cell (p := ⟨bi, _, none⟩) l3).trans HII.out.c3, (h.cell (p := ⟨bi, _, none⟩) l3).trans HII.out.c4, (h.cell (p := ⟨bi, _, none⟩) l3).trans HII.out.c5, (h.cell (p := ⟨bi, _, none⟩) l3).trans HII.out.c6⟩, h⟩ : (fun W1 => W1.cell? ⟨w.heap.size, 3, none⟩ = some (.slice (some ⟨bc, oc, none⟩) np cc) ∧ W1.cell? ⟨w.heap.size + 1, 0, none⟩ = some (.slice (some ⟨bp, op, none⟩) np cp) ∧ W1.cell? ⟨bc, oc + k, none⟩ = some (.slice (some ⟨bi, oi, none⟩) nl mx) ∧ W1.cell? ⟨bp, op + k, none⟩ = some (.int .i64 pc) ∧ (W1.cell? ⟨bi, oi + pc * 7, none⟩ = some (.int .i64 x.x.op) ∧ W1.cell? ⟨bi, oi + pc * 7 + 1, none⟩ = some (.int .i64 x.x.reg) ∧ W1.cell? ⟨bi, oi + pc * 7 + 2, none⟩ = some (.int .i64 x.x.loc) ∧ W1.cell? ⟨bi, oi + pc * 7 + 3, none⟩ = some (x.ev) ∧ W1.cell? ⟨bi, oi + pc * 7 + 4, none⟩ = some (x.fv) ∧ W1.cell? ⟨bi, oi + pc * 7 + 5, none⟩ = some (.bool x.x.ne) ∧ W1.cell? ⟨bi, oi + pc * 7 + 6, none⟩ = some (.int .i64 x.x.to)) ∧ Below w2.heap.size w2 W1) W1))
  have g1 : (0 : Int) ≤ (k : Int) := by omega
  have g2 : (k : Int) < (np : Int) := by omega
  have g3 : (0 : Int) ≤ (pc : Int) := by omega
  have g4 : (pc : Int) < (nl : Int) := by omega
  have BQ : Below w2.heap.size w2 w2 := Below.refl _ _
  obtain ⟨uc0, uc1, uc2, uc3, ucl, cc0, cc1, cc2, cc3, ccl⟩ : w2.cell? ⟨w.heap.size, 0, none⟩ = some (.int .i64 md) ∧ w2.cell? ⟨w.heap.size, 1, none⟩ = some (vi) ∧ w2.cell? ⟨w.heap.size, 2, none⟩ = some (vr) ∧ w2.cell? ⟨w.heap.size, 3, none⟩ = some (.slice (some ⟨bc, oc, none⟩) np cc) ∧ w.heap.size < w2.heap.size ∧ w2.cell? ⟨w.heap.size + 1, 0, none⟩ = some (.slice (some ⟨bp, op, none⟩) np cp) ∧ w2.cell? ⟨w.heap.size + 1, 1, none⟩ = some (ar) ∧ w2.cell? ⟨w.heap.size + 1, 2, none⟩ = some (am) ∧ w2.cell? ⟨w.heap.size + 1, 3, none⟩ = some (.slice ab np cb) ∧ w.heap.size + 1 < w2.heap.size := ⟨Ku.out.cell 0, Ku.out.cell 1, Ku.out.cell 2, Ku.out.cell 3, Ku.out.lt, Kc.out.cell 0, Kc.out.cell 1, Kc.out.cell 2, Kc.out.cell 3, Kc.out.lt⟩
  go_wp2_with fail
  clear uc0 uc1 uc2 uc3 ucl cc0 cc1 cc2 cc3 ccl
  refine wp_region_held_drew (S := fun W1 => W1.cell? ⟨w.heap.size, 3, none⟩ = some (.slice (some ⟨bc, oc, none⟩) np cc) ∧ W1.cell? ⟨w.heap.size + 1, 0, none⟩ = some (.slice (some ⟨bp, op, none⟩) np cp) ∧ W1.cell? ⟨bc, oc + k, none⟩ = some (.slice (some ⟨bi, oi, none⟩) nl mx) ∧ W1.cell? ⟨bp, op + k, none⟩ = some (.int .i64 pc) ∧ (W1.cell? ⟨bi, oi + pc * 7, none⟩ = some (.int .i64 x.x.op) ∧ W1.cell? ⟨bi, oi + pc * 7 + 1, none⟩ = some (.int .i64 x.x.reg) ∧ W1.cell? ⟨bi, oi + pc * 7 + 2, none⟩ = some (.int .i64 x.x.loc) ∧ W1.cell? ⟨bi, oi + pc * 7 + 3, none⟩ = some (x.ev) ∧ W1.cell? ⟨bi, oi + pc * 7 + 4, none⟩ = some (x.fv) ∧ W1.cell? ⟨bi, oi + pc * 7 + 5, none⟩ = some (.bool x.x.ne) ∧ W1.cell? ⟨bi, oi + pc * 7 + 6, none⟩ = some (.int .i64 x.x.to)) ∧ Below w2.heap.size w2 W1) (by kernel_rfl) (HCC.out _ BQ.drew) (fun hS => ?_)
  refine wpAnyH_take (i := 0) (v := .pointer (some ⟨w.heap.size, 3, none⟩)) rfl (by kernel_rfl) (by kernel_rfl) (by kernel_rfl) (fun _ _ _ h => h) (Or.inl ⟨by rfl, fun w hSw => by obtain ⟨s1, s2, s3, s4, ⟨t0, t1, t2, t3, t4, t5, t6⟩, s6⟩ := hSw; first | (go_simp; done) | (go_simp; with_reducible rfl)⟩) hS ?_
  simp only [Act.put, List.setIfInBounds_toArray, List.set_cons_zero, List.set_cons_succ]
  refine wpAnyH_take (i := 1) (v := .slice (some ⟨bc, oc, none⟩) np cc) rfl (by kernel_rfl) (by kernel_rfl) (by kernel_rfl) (fun _ _ _ h => h) (Or.inl ⟨by rfl, fun w hSw => by obtain ⟨s1, s2, s3, s4, ⟨t0, t1, t2, t3, t4, t5, t6⟩, s6⟩ := hSw; first | (go_simp; done) | (go_simp; with_reducible rfl)⟩) hS ?_
  simp only [Act.put, List.setIfInBounds_toArray, List.set_cons_zero, List.set_cons_succ]
  refine wpAnyH_take (i := 2) (v := .int .i64 k) rfl (by kernel_rfl) (by kernel_rfl) (by kernel_rfl) (fun _ _ _ h => h) (Or.inl ⟨by rfl, fun w hSw => by obtain ⟨s1, s2, s3, s4, ⟨t0, t1, t2, t3, t4, t5, t6⟩, s6⟩ := hSw; first | (go_simp; done) | (go_simp; with_reducible rfl)⟩) hS ?_
  simp only [Act.put, List.setIfInBounds_toArray, List.set_cons_zero, List.set_cons_succ]
  refine wpAnyH_take (i := 3) (v := .pointer (some ⟨bc, oc + k, none⟩)) rfl (by kernel_rfl) (by kernel_rfl) (by kernel_rfl) (fun _ _ _ h => h) (Or.inl ⟨by rfl, fun w hSw => by obtain ⟨s1, s2, s3, s4, ⟨t0, t1, t2, t3, t4, t5, t6⟩, s6⟩ := hSw; first | (go_simp; done) | (go_simp; with_reducible rfl)⟩) hS ?_
  simp only [Act.put, List.setIfInBounds_toArray, List.set_cons_zero, List.set_cons_succ]
  refine wpAnyH_take (i := 4) (v := .slice (some ⟨bi, oi, none⟩) nl mx) rfl (by kernel_rfl) (by kernel_rfl) (by kernel_rfl) (fun _ _ _ h => h) (Or.inl ⟨by rfl, fun w hSw => by obtain ⟨s1, s2, s3, s4, ⟨t0, t1, t2, t3, t4, t5, t6⟩, s6⟩ := hSw; first | (go_simp; done) | (go_simp; with_reducible rfl)⟩) hS ?_
  simp only [Act.put, List.setIfInBounds_toArray, List.set_cons_zero, List.set_cons_succ]
  refine wpAnyH_take (i := 5) (v := .pointer (some ⟨w.heap.size + 1, 0, none⟩)) rfl (by kernel_rfl) (by kernel_rfl) (by kernel_rfl) (fun _ _ _ h => h) (Or.inl ⟨by rfl, fun w hSw => by obtain ⟨s1, s2, s3, s4, ⟨t0, t1, t2, t3, t4, t5, t6⟩, s6⟩ := hSw; first | (go_simp; done) | (go_simp; with_reducible rfl)⟩) hS ?_
  simp only [Act.put, List.setIfInBounds_toArray, List.set_cons_zero, List.set_cons_succ]
  refine wpAnyH_take (i := 6) (v := .slice (some ⟨bp, op, none⟩) np cp) rfl (by kernel_rfl) (by kernel_rfl) (by kernel_rfl) (fun _ _ _ h => h) (Or.inl ⟨by rfl, fun w hSw => by obtain ⟨s1, s2, s3, s4, ⟨t0, t1, t2, t3, t4, t5, t6⟩, s6⟩ := hSw; first | (go_simp; done) | (go_simp; with_reducible rfl)⟩) hS ?_
  simp only [Act.put, List.setIfInBounds_toArray, List.set_cons_zero, List.set_cons_succ]
  refine wpAnyH_take (i := 7) (v := .int .i64 k) rfl (by kernel_rfl) (by kernel_rfl) (by kernel_rfl) (fun _ _ _ h => h) (Or.inl ⟨by rfl, fun w hSw => by obtain ⟨s1, s2, s3, s4, ⟨t0, t1, t2, t3, t4, t5, t6⟩, s6⟩ := hSw; first | (go_simp; done) | (go_simp; with_reducible rfl)⟩) hS ?_
  simp only [Act.put, List.setIfInBounds_toArray, List.set_cons_zero, List.set_cons_succ]
  refine wpAnyH_take (i := 8) (v := .pointer (some ⟨bp, op + k, none⟩)) rfl (by kernel_rfl) (by kernel_rfl) (by kernel_rfl) (fun _ _ _ h => h) (Or.inl ⟨by rfl, fun w hSw => by obtain ⟨s1, s2, s3, s4, ⟨t0, t1, t2, t3, t4, t5, t6⟩, s6⟩ := hSw; first | (go_simp; done) | (go_simp; with_reducible rfl)⟩) hS ?_
  simp only [Act.put, List.setIfInBounds_toArray, List.set_cons_zero, List.set_cons_succ]
  refine wpAnyH_take (i := 9) (v := .int .i64 pc) rfl (by kernel_rfl) (by kernel_rfl) (by kernel_rfl) (fun _ _ _ h => h) (Or.inl ⟨by rfl, fun w hSw => by obtain ⟨s1, s2, s3, s4, ⟨t0, t1, t2, t3, t4, t5, t6⟩, s6⟩ := hSw; first | (go_simp; done) | (go_simp; with_reducible rfl)⟩) hS ?_
  simp only [Act.put, List.setIfInBounds_toArray, List.set_cons_zero, List.set_cons_succ]
  refine wpAnyH_take (i := 10) (v := .pointer (some ⟨bi, oi + pc * 7, none⟩)) rfl (by kernel_rfl) (by kernel_rfl) (by kernel_rfl) (fun _ _ _ h => h) (Or.inl ⟨by rfl, fun w hSw => by obtain ⟨s1, s2, s3, s4, ⟨t0, t1, t2, t3, t4, t5, t6⟩, s6⟩ := hSw; first | (go_simp; done) | (go_simp; with_reducible rfl)⟩) hS ?_
  simp only [Act.put, List.setIfInBounds_toArray, List.set_cons_zero, List.set_cons_succ]
  refine wpAnyH_take (i := 11) (v := .agg #[.int .i64 x.x.op, .int .i64 x.x.reg, .int .i64 x.x.loc, x.ev, x.fv, .bool x.x.ne, .int .i64 x.x.to]) rfl (by kernel_rfl) (by kernel_rfl) (by kernel_rfl) (fun _ _ _ h => h) (Or.inl ⟨by rfl, fun w hSw => by obtain ⟨s1, s2, s3, s4, ⟨t0, t1, t2, t3, t4, t5, t6⟩, s6⟩ := hSw; first | (go_simp; done) | (go_simp; with_reducible rfl)⟩) hS ?_
  simp only [Act.put, List.setIfInBounds_toArray, List.set_cons_zero, List.set_cons_succ]
  refine wpAnyH_ready (rs := [12]) (by kernel_rfl) (by simp) ?_
  refine AllReadyH.cons rfl (fun K hK => ?_) AllReadyH.nil
  go_simp
  have KZ5 := Bk.new w2.drew 57 #[.int .i64 0, .int .i64 0, .int .i64 0, .slice none 0 0, .slice none 0 0, .bool false, .int .i64 0]
  have BZ5 : Below w2.heap.size w2 (World.alloc w2 (.cells #[.int .i64 0, .int .i64 0, .int .i64 0, .slice none 0 0, .slice none 0 0, .bool false, .int .i64 0] 57)).drew := bdr (bal BQ _)
  refine hK.out _ _ (HCC.out _ BZ5) (fun hS => ?_)
  clear hK K
  refine wpAnyH_ready (rs := [13]) (by kernel_rfl) (by simp) ?_
  refine AllReadyH.cons rfl (fun K hK => ?_) AllReadyH.nil
  rw [if_pos (by rfl)]
  refine wp_store_row 57 (.tmp 11) (.tmp 32) rfl w2.heap.size #[.int .i64 x.x.op, .int .i64 x.x.reg, .int .i64 x.x.loc, x.ev, x.fv, .bool x.x.ne, .int .i64 x.x.to] rfl rfl 57 #[.int .i64 0, .int .i64 0, .int .i64 0, .slice none 0 0, .slice none 0 0, .bool false, .int .i64 0] KZ5 i_instr rfl HONE ?_
  have KI : Bk ((World.alloc w2 (.cells #[.int .i64 0, .int .i64 0, .int .i64 0, .slice none 0 0, .slice none 0 0, .bool false, .int .i64 0] 57)).drew.setRow w2.heap.size #[.int .i64 x.x.op, .int .i64 x.x.reg, .int .i64 x.x.loc, x.ev, x.fv, .bool x.x.ne, .int .i64 x.x.to]) w2.heap.size 57 #[.int .i64 x.x.op, .int .i64 x.x.reg, .int .i64 x.x.loc, x.ev, x.fv, .bool x.x.ne, .int .i64 x.x.to] := setRow_heap _ _ _ _ _ _ KZ5
  have B5 : Below w2.heap.size w2 ((World.alloc w2 (.cells #[.int .i64 0, .int .i64 0, .int .i64 0, .slice none 0 0, .slice none 0 0, .bool false, .int .i64 0] 57)).drew.setRow w2.heap.size #[.int .i64 x.x.op, .int .i64 x.x.reg, .int .i64 x.x.loc, x.ev, x.fv, .bool x.x.ne, .int .i64 x.x.to]) := below_setRow BZ5 BQ.size _
  refine hK.out _ _ (HCC.out _ B5) (fun hS => ?_)
  clear hK K hS
  refine wpAnyH_done (by kernel_rfl) ?_ _
  have Kx := Lib.hid KI
  have b := B5
  generalize World.setRow _ _ _ = w3 at Kx b ⊢
  simp only [Act.put, List.setIfInBounds_toArray, List.set_cons_zero, List.set_cons_succ]
  clear KZ5 BZ5 BQ KI B5 HCC HONE y1 y2 l1 l2 l3
  have b3 := b
  replace Ku := Lib.hid (Ku.out.below b)
  replace Kc := Lib.hid (Kc.out.below b)
  replace B := Lib.hid (B.out.trans (b.mono B.out.size))
  clear b
  obtain ⟨bb, ob, rb, mb, hzb, lb, yb, db, hlb⟩ := HBF.out k hk
  subst hzb
  have hbl := hlb 100000 HSB.out
  have yb2 := (B.out.cell (p := ⟨bb, _, none⟩) lb).trans yb
  have lb2 := Nat.lt_of_lt_of_le lb B.out.size
  have DBF := Lib.hid db
  clear db hlb yb
  have HRO := Lib.hid (fun (W : World) (h : Below w.heap.size w W) => rroom_any (c.pf.buf.getD k []) _ model room x.x.loc W (EntsD.below DBF.out h) hbl _ rfl)
  unfold enO at HE2
  generalize hbf : c.pf.buf.getD k [] = bf at *
  clear hbf
  by_cases o22 : x.x.op = 22
  ·
    rw [o22] at Kx HE2
    clear o22
    obtain rfl : q = false := HE2.out.symm
    obtain ⟨uc0, uc1, uc2, uc3, ucl, cc0, cc1, cc2, cc3, ccl, xc0, xc1, xc2, xc3, xc4, xc5, xc6, xcl⟩ : w3.cell? ⟨w.heap.size, 0, none⟩ = some (.int .i64 md) ∧ w3.cell? ⟨w.heap.size, 1, none⟩ = some (vi) ∧ w3.cell? ⟨w.heap.size, 2, none⟩ = some (vr) ∧ w3.cell? ⟨w.heap.size, 3, none⟩ = some (.slice (some ⟨bc, oc, none⟩) np cc) ∧ w.heap.size < w3.heap.size ∧ w3.cell? ⟨w.heap.size + 1, 0, none⟩ = some (.slice (some ⟨bp, op, none⟩) np cp) ∧ w3.cell? ⟨w.heap.size + 1, 1, none⟩ = some (ar) ∧ w3.cell? ⟨w.heap.size + 1, 2, none⟩ = some (am) ∧ w3.cell? ⟨w.heap.size + 1, 3, none⟩ = some (.slice (some ⟨bb, ob, none⟩) np cb) ∧ w.heap.size + 1 < w3.heap.size ∧ w3.cell? ⟨w2.heap.size, 0, none⟩ = some (.int .i64 22) ∧ w3.cell? ⟨w2.heap.size, 1, none⟩ = some (.int .i64 x.x.reg) ∧ w3.cell? ⟨w2.heap.size, 2, none⟩ = some (.int .i64 x.x.loc) ∧ w3.cell? ⟨w2.heap.size, 3, none⟩ = some (x.ev) ∧ w3.cell? ⟨w2.heap.size, 4, none⟩ = some (x.fv) ∧ w3.cell? ⟨w2.heap.size, 5, none⟩ = some (.bool x.x.ne) ∧ w3.cell? ⟨w2.heap.size, 6, none⟩ = some (.int .i64 x.x.to) ∧ w2.heap.size < w3.heap.size := ⟨Ku.out.cell 0, Ku.out.cell 1, Ku.out.cell 2, Ku.out.cell 3, Ku.out.lt, Kc.out.cell 0, Kc.out.cell 1, Kc.out.cell 2, Kc.out.cell 3, Kc.out.lt, Kx.out.cell 0, Kx.out.cell 1, Kx.out.cell 2, Kx.out.cell 3, Kx.out.cell 4, Kx.out.cell 5, Kx.out.cell 6, Kx.out.lt⟩
    go_wp2_with fail
    clear uc0 uc1 uc2 uc3 ucl cc0 cc1 cc2 cc3 ccl xc0 xc1 xc2 xc3 xc4 xc5 xc6 xcl
    go_ret
    exact ⟨rfl, B.out⟩
  by_cases o4 : x.x.op = 4
  ·
    rw [o4] at Kx HE2
    clear o22
    clear o4
    have HE3 : Hid ((decide (model = 1) || roomL bf model room x.x.loc) = q) := HE2
    by_cases hm : model = 1
    ·
      obtain rfl : q = true := by rw [← HE3.out, decide_eq_true hm]; rfl
      have hmb : (model == 1) = true := by simp [hm]
      replace hm := Lib.hid hm
      obtain ⟨uc0, uc1, uc2, uc3, ucl, cc0, cc1, cc2, cc3, ccl, xc0, xc1, xc2, xc3, xc4, xc5, xc6, xcl⟩ : w3.cell? ⟨w.heap.size, 0, none⟩ = some (.int .i64 md) ∧ w3.cell? ⟨w.heap.size, 1, none⟩ = some (vi) ∧ w3.cell? ⟨w.heap.size, 2, none⟩ = some (vr) ∧ w3.cell? ⟨w.heap.size, 3, none⟩ = some (.slice (some ⟨bc, oc, none⟩) np cc) ∧ w.heap.size < w3.heap.size ∧ w3.cell? ⟨w.heap.size + 1, 0, none⟩ = some (.slice (some ⟨bp, op, none⟩) np cp) ∧ w3.cell? ⟨w.heap.size + 1, 1, none⟩ = some (ar) ∧ w3.cell? ⟨w.heap.size + 1, 2, none⟩ = some (am) ∧ w3.cell? ⟨w.heap.size + 1, 3, none⟩ = some (.slice (some ⟨bb, ob, none⟩) np cb) ∧ w.heap.size + 1 < w3.heap.size ∧ w3.cell? ⟨w2.heap.size, 0, none⟩ = some (.int .i64 4) ∧ w3.cell? ⟨w2.heap.size, 1, none⟩ = some (.int .i64 x.x.reg) ∧ w3.cell? ⟨w2.heap.size, 2, none⟩ = some (.int .i64 x.x.loc) ∧ w3.cell? ⟨w2.heap.size, 3, none⟩ = some (x.ev) ∧ w3.cell? ⟨w2.heap.size, 4, none⟩ = some (x.fv) ∧ w3.cell? ⟨w2.heap.size, 5, none⟩ = some (.bool x.x.ne) ∧ w3.cell? ⟨w2.heap.size, 6, none⟩ = some (.int .i64 x.x.to) ∧ w2.heap.size < w3.heap.size := ⟨Ku.out.cell 0, Ku.out.cell 1, Ku.out.cell 2, Ku.out.cell 3, Ku.out.lt, Kc.out.cell 0, Kc.out.cell 1, Kc.out.cell 2, Kc.out.cell 3, Kc.out.lt, Kx.out.cell 0, Kx.out.cell 1, Kx.out.cell 2, Kx.out.cell 3, Kx.out.cell 4, Kx.out.cell 5, Kx.out.cell 6, Kx.out.lt⟩
      go_wp2_with fail
      go_quiet (fail)
      go_wp2_with fail
      clear uc0 uc1 uc2 uc3 ucl cc0 cc1 cc2 cc3 ccl xc0 xc1 xc2 xc3 xc4 xc5 xc6 xcl
      go_ret
      exact ⟨rfl, below_drewN' B.out _⟩
    have hmb : (model == 1) = false := by simpa using hm
    have HX := Lib.hid (fun (W : World) (h : Below w3.heap.size w3 W) => HRO.out W (B.out.trans (h.mono B.out.size)))
    rw [show roomL bf model room x.x.loc = q by rw [← HE3.out, decide_eq_false hm]; rfl] at HX
    replace hm := Lib.hid hm
    have HCC := Lib.hid (fun (w' : World) (h : Below w3.heap.size w3 w') => (⟨(h.cell (p := ⟨w.heap.size, _, none⟩) Ku.out.lt).trans (Ku.out.cell 0), (h.cell (p := ⟨w.heap.size, _, none⟩) Ku.out.lt).trans (Ku.out.cell 1), (h.cell (p := ⟨w.heap.size, _, none⟩) Ku.out.lt).trans (Ku.out.cell 2), (h.cell (p := ⟨w.heap.size, _, none⟩) Ku.out.lt).trans (Ku.out.cell 3), (h.cell (p := ⟨w.heap.size + 1, _, none⟩) Kc.out.lt).trans (Kc.out.cell 0), (h.cell (p := ⟨w.heap.size + 1, _, none⟩) Kc.out.lt).trans (Kc.out.cell 1), (h.cell (p := ⟨w.heap.size + 1, _, none⟩) Kc.out.lt).trans (Kc.out.cell 2), (h.cell (p := ⟨w.heap.size + 1, _, none⟩) Kc.out.lt).trans (Kc.out.cell 3), (h.cell (p := ⟨w2.heap.size, _, none⟩) Kx.out.lt).trans (Kx.out.cell 0), (h.cell (p := ⟨w2.heap.size, _, none⟩) Kx.out.lt).trans (Kx.out.cell 1), (h.cell (p := ⟨w2.heap.size, _, none⟩) Kx.out.lt).trans (Kx.out.cell 2), (h.cell (p := ⟨w2.heap.size, _, none⟩) Kx.out.lt).trans (Kx.out.cell 3), (h.cell (p := ⟨w2.heap.size, _, none⟩) Kx.out.lt).trans (Kx.out.cell 4), (h.cell (p := ⟨w2.heap.size, _, none⟩) Kx.out.lt).trans (Kx.out.cell 5), (h.cell (p := ⟨w2.heap.size, _, none⟩) Kx.out.lt).trans (Kx.out.cell 6), (h.cell (p := ⟨bb, _, none⟩) lb2).trans yb2, h⟩ : (fun w' => w'.cell? ⟨w.heap.size, 0, none⟩ = some (.int .i64 md) ∧ w'.cell? ⟨w.heap.size, 1, none⟩ = some (vi) ∧ w'.cell? ⟨w.heap.size, 2, none⟩ = some (vr) ∧ w'.cell? ⟨w.heap.size, 3, none⟩ = some (.slice (some ⟨bc, oc, none⟩) np cc) ∧ w'.cell? ⟨w.heap.size + 1, 0, none⟩ = some (.slice (some ⟨bp, op, none⟩) np cp) ∧ w'.cell? ⟨w.heap.size + 1, 1, none⟩ = some (ar) ∧ w'.cell? ⟨w.heap.size + 1, 2, none⟩ = some (am) ∧ w'.cell? ⟨w.heap.size + 1, 3, none⟩ = some (.slice (some ⟨bb, ob, none⟩) np cb) ∧ w'.cell? ⟨w2.heap.size, 0, none⟩ = some (.int .i64 4) ∧ w'.cell? ⟨w2.heap.size, 1, none⟩ = some (.int .i64 x.x.reg) ∧ w'.cell? ⟨w2.heap.size, 2, none⟩ = some (.int .i64 x.x.loc) ∧ w'.cell? ⟨w2.heap.size, 3, none⟩ = some (x.ev) ∧ w'.cell? ⟨w2.heap.size, 4, none⟩ = some (x.fv) ∧ w'.cell? ⟨w2.heap.size, 5, none⟩ = some (.bool x.x.ne) ∧ w'.cell? ⟨w2.heap.size, 6, none⟩ = some (.int .i64 x.x.to) ∧ w'.cell? ⟨bb, ob + k, none⟩ = some (.slice rb bf.length mb) ∧ Below w3.heap.size w3 w') w'))
    have bb0 : Below w3.heap.size w3 w3 := Below.refl _ _
    obtain ⟨uc0, uc1, uc2, uc3, ucl, cc0, cc1, cc2, cc3, ccl, xc0, xc1, xc2, xc3, xc4, xc5, xc6, xcl⟩ : w3.cell? ⟨w.heap.size, 0, none⟩ = some (.int .i64 md) ∧ w3.cell? ⟨w.heap.size, 1, none⟩ = some (vi) ∧ w3.cell? ⟨w.heap.size, 2, none⟩ = some (vr) ∧ w3.cell? ⟨w.heap.size, 3, none⟩ = some (.slice (some ⟨bc, oc, none⟩) np cc) ∧ w.heap.size < w3.heap.size ∧ w3.cell? ⟨w.heap.size + 1, 0, none⟩ = some (.slice (some ⟨bp, op, none⟩) np cp) ∧ w3.cell? ⟨w.heap.size + 1, 1, none⟩ = some (ar) ∧ w3.cell? ⟨w.heap.size + 1, 2, none⟩ = some (am) ∧ w3.cell? ⟨w.heap.size + 1, 3, none⟩ = some (.slice (some ⟨bb, ob, none⟩) np cb) ∧ w.heap.size + 1 < w3.heap.size ∧ w3.cell? ⟨w2.heap.size, 0, none⟩ = some (.int .i64 4) ∧ w3.cell? ⟨w2.heap.size, 1, none⟩ = some (.int .i64 x.x.reg) ∧ w3.cell? ⟨w2.heap.size, 2, none⟩ = some (.int .i64 x.x.loc) ∧ w3.cell? ⟨w2.heap.size, 3, none⟩ = some (x.ev) ∧ w3.cell? ⟨w2.heap.size, 4, none⟩ = some (x.fv) ∧ w3.cell? ⟨w2.heap.size, 5, none⟩ = some (.bool x.x.ne) ∧ w3.cell? ⟨w2.heap.size, 6, none⟩ = some (.int .i64 x.x.to) ∧ w2.heap.size < w3.heap.size := ⟨Ku.out.cell 0, Ku.out.cell 1, Ku.out.cell 2, Ku.out.cell 3, Ku.out.lt, Kc.out.cell 0, Kc.out.cell 1, Kc.out.cell 2, Kc.out.cell 3, Kc.out.lt, Kx.out.cell 0, Kx.out.cell 1, Kx.out.cell 2, Kx.out.cell 3, Kx.out.cell 4, Kx.out.cell 5, Kx.out.cell 6, Kx.out.lt⟩
    go_wp2_with fail
    clear uc0 uc1 uc2 uc3 ucl cc0 cc1 cc2 cc3 ccl xc0 xc1 xc2 xc3 xc4 xc5 xc6 xcl
    go_region_held3 (fun w' => w'.cell? ⟨w.heap.size, 0, none⟩ = some (.int .i64 md) ∧ w'.cell? ⟨w.heap.size, 1, none⟩ = some (vi) ∧ w'.cell? ⟨w.heap.size, 2, none⟩ = some (vr) ∧ w'.cell? ⟨w.heap.size, 3, none⟩ = some (.slice (some ⟨bc, oc, none⟩) np cc) ∧ w'.cell? ⟨w.heap.size + 1, 0, none⟩ = some (.slice (some ⟨bp, op, none⟩) np cp) ∧ w'.cell? ⟨w.heap.size + 1, 1, none⟩ = some (ar) ∧ w'.cell? ⟨w.heap.size + 1, 2, none⟩ = some (am) ∧ w'.cell? ⟨w.heap.size + 1, 3, none⟩ = some (.slice (some ⟨bb, ob, none⟩) np cb) ∧ w'.cell? ⟨w2.heap.size, 0, none⟩ = some (.int .i64 4) ∧ w'.cell? ⟨w2.heap.size, 1, none⟩ = some (.int .i64 x.x.reg) ∧ w'.cell? ⟨w2.heap.size, 2, none⟩ = some (.int .i64 x.x.loc) ∧ w'.cell? ⟨w2.heap.size, 3, none⟩ = some (x.ev) ∧ w'.cell? ⟨w2.heap.size, 4, none⟩ = some (x.fv) ∧ w'.cell? ⟨w2.heap.size, 5, none⟩ = some (.bool x.x.ne) ∧ w'.cell? ⟨w2.heap.size, 6, none⟩ = some (.int .i64 x.x.to) ∧ w'.cell? ⟨bb, ob + k, none⟩ = some (.slice rb bf.length mb) ∧ Below w3.heap.size w3 w')
      (first | with_reducible exact HCC.out _ bb0 | with_reducible exact HCC.out _ bb0.drew | with_reducible assumption | (go_split_ands; with_reducible exact HCC.out _ (by with_reducible assumption)))
      ((first | (go_split_ands; (with_reducible refine Calls.mono (HX.out _ (by assumption)) ?_); rintro e wn ⟨rfl, bn⟩; have bb1 : Below w3.heap.size w3 wn := Below.trans (by assumption) (bn.mono (Below.size (by assumption))))))
    all_goals
      go_split_ands
      go_wp2_with fail
      go_ret
      exact ⟨ret_bool (by first | rfl | simp), B.out.trans (Below.mono (by assumption) B.out.size)⟩
  by_cases o5 : x.x.op = 5
  ·
    rw [o5] at Kx HE2
    clear o22
    clear o4
    clear o5
    have HE3 : Hid (decide (bf.length = 0) = q) := HE2
    obtain ⟨uc0, uc1, uc2, uc3, ucl, cc0, cc1, cc2, cc3, ccl, xc0, xc1, xc2, xc3, xc4, xc5, xc6, xcl⟩ : w3.cell? ⟨w.heap.size, 0, none⟩ = some (.int .i64 md) ∧ w3.cell? ⟨w.heap.size, 1, none⟩ = some (vi) ∧ w3.cell? ⟨w.heap.size, 2, none⟩ = some (vr) ∧ w3.cell? ⟨w.heap.size, 3, none⟩ = some (.slice (some ⟨bc, oc, none⟩) np cc) ∧ w.heap.size < w3.heap.size ∧ w3.cell? ⟨w.heap.size + 1, 0, none⟩ = some (.slice (some ⟨bp, op, none⟩) np cp) ∧ w3.cell? ⟨w.heap.size + 1, 1, none⟩ = some (ar) ∧ w3.cell? ⟨w.heap.size + 1, 2, none⟩ = some (am) ∧ w3.cell? ⟨w.heap.size + 1, 3, none⟩ = some (.slice (some ⟨bb, ob, none⟩) np cb) ∧ w.heap.size + 1 < w3.heap.size ∧ w3.cell? ⟨w2.heap.size, 0, none⟩ = some (.int .i64 5) ∧ w3.cell? ⟨w2.heap.size, 1, none⟩ = some (.int .i64 x.x.reg) ∧ w3.cell? ⟨w2.heap.size, 2, none⟩ = some (.int .i64 x.x.loc) ∧ w3.cell? ⟨w2.heap.size, 3, none⟩ = some (x.ev) ∧ w3.cell? ⟨w2.heap.size, 4, none⟩ = some (x.fv) ∧ w3.cell? ⟨w2.heap.size, 5, none⟩ = some (.bool x.x.ne) ∧ w3.cell? ⟨w2.heap.size, 6, none⟩ = some (.int .i64 x.x.to) ∧ w2.heap.size < w3.heap.size := ⟨Ku.out.cell 0, Ku.out.cell 1, Ku.out.cell 2, Ku.out.cell 3, Ku.out.lt, Kc.out.cell 0, Kc.out.cell 1, Kc.out.cell 2, Kc.out.cell 3, Kc.out.lt, Kx.out.cell 0, Kx.out.cell 1, Kx.out.cell 2, Kx.out.cell 3, Kx.out.cell 4, Kx.out.cell 5, Kx.out.cell 6, Kx.out.lt⟩
    go_wp2_with fail
    clear uc0 uc1 uc2 uc3 ucl cc0 cc1 cc2 cc3 ccl xc0 xc1 xc2 xc3 xc4 xc5 xc6 xcl
    go_ret
    exact ⟨ret_bool (by rw [← HE3.out, Bool.eq_iff_iff]; simp), B.out⟩
  by_cases o6 : x.x.op = 6
  ·
    rw [o6] at Kx HE2
    clear o22
    clear o4
    clear o5
    clear o6
    have HE3 : Hid (decide (bf.length = 0) = q) := HE2
    obtain ⟨uc0, uc1, uc2, uc3, ucl, cc0, cc1, cc2, cc3, ccl, xc0, xc1, xc2, xc3, xc4, xc5, xc6, xcl⟩ : w3.cell? ⟨w.heap.size, 0, none⟩ = some (.int .i64 md) ∧ w3.cell? ⟨w.heap.size, 1, none⟩ = some (vi) ∧ w3.cell? ⟨w.heap.size, 2, none⟩ = some (vr) ∧ w3.cell? ⟨w.heap.size, 3, none⟩ = some (.slice (some ⟨bc, oc, none⟩) np cc) ∧ w.heap.size < w3.heap.size ∧ w3.cell? ⟨w.heap.size + 1, 0, none⟩ = some (.slice (some ⟨bp, op, none⟩) np cp) ∧ w3.cell? ⟨w.heap.size + 1, 1, none⟩ = some (ar) ∧ w3.cell? ⟨w.heap.size + 1, 2, none⟩ = some (am) ∧ w3.cell? ⟨w.heap.size + 1, 3, none⟩ = some (.slice (some ⟨bb, ob, none⟩) np cb) ∧ w.heap.size + 1 < w3.heap.size ∧ w3.cell? ⟨w2.heap.size, 0, none⟩ = some (.int .i64 6) ∧ w3.cell? ⟨w2.heap.size, 1, none⟩ = some (.int .i64 x.x.reg) ∧ w3.cell? ⟨w2.heap.size, 2, none⟩ = some (.int .i64 x.x.loc) ∧ w3.cell? ⟨w2.heap.size, 3, none⟩ = some (x.ev) ∧ w3.cell? ⟨w2.heap.size, 4, none⟩ = some (x.fv) ∧ w3.cell? ⟨w2.heap.size, 5, none⟩ = some (.bool x.x.ne) ∧ w3.cell? ⟨w2.heap.size, 6, none⟩ = some (.int .i64 x.x.to) ∧ w2.heap.size < w3.heap.size := ⟨Ku.out.cell 0, Ku.out.cell 1, Ku.out.cell 2, Ku.out.cell 3, Ku.out.lt, Kc.out.cell 0, Kc.out.cell 1, Kc.out.cell 2, Kc.out.cell 3, Kc.out.lt, Kx.out.cell 0, Kx.out.cell 1, Kx.out.cell 2, Kx.out.cell 3, Kx.out.cell 4, Kx.out.cell 5, Kx.out.cell 6, Kx.out.lt⟩
    go_wp2_with fail
    clear uc0 uc1 uc2 uc3 ucl cc0 cc1 cc2 cc3 ccl xc0 xc1 xc2 xc3 xc4 xc5 xc6 xcl
    go_ret
    exact ⟨ret_bool (by rw [← HE3.out, Bool.eq_iff_iff]; simp), B.out⟩
  by_cases o7 : x.x.op = 7
  ·
    rw [o7] at Kx HE2
    clear o22
    clear o4
    clear o5
    clear o6
    clear o7
    have HE3 : Hid (decide (bf.length = 0) = q) := HE2
    obtain ⟨uc0, uc1, uc2, uc3, ucl, cc0, cc1, cc2, cc3, ccl, xc0, xc1, xc2, xc3, xc4, xc5, xc6, xcl⟩ : w3.cell? ⟨w.heap.size, 0, none⟩ = some (.int .i64 md) ∧ w3.cell? ⟨w.heap.size, 1, none⟩ = some (vi) ∧ w3.cell? ⟨w.heap.size, 2, none⟩ = some (vr) ∧ w3.cell? ⟨w.heap.size, 3, none⟩ = some (.slice (some ⟨bc, oc, none⟩) np cc) ∧ w.heap.size < w3.heap.size ∧ w3.cell? ⟨w.heap.size + 1, 0, none⟩ = some (.slice (some ⟨bp, op, none⟩) np cp) ∧ w3.cell? ⟨w.heap.size + 1, 1, none⟩ = some (ar) ∧ w3.cell? ⟨w.heap.size + 1, 2, none⟩ = some (am) ∧ w3.cell? ⟨w.heap.size + 1, 3, none⟩ = some (.slice (some ⟨bb, ob, none⟩) np cb) ∧ w.heap.size + 1 < w3.heap.size ∧ w3.cell? ⟨w2.heap.size, 0, none⟩ = some (.int .i64 7) ∧ w3.cell? ⟨w2.heap.size, 1, none⟩ = some (.int .i64 x.x.reg) ∧ w3.cell? ⟨w2.heap.size, 2, none⟩ = some (.int .i64 x.x.loc) ∧ w3.cell? ⟨w2.heap.size, 3, none⟩ = some (x.ev) ∧ w3.cell? ⟨w2.heap.size, 4, none⟩ = some (x.fv) ∧ w3.cell? ⟨w2.heap.size, 5, none⟩ = some (.bool x.x.ne) ∧ w3.cell? ⟨w2.heap.size, 6, none⟩ = some (.int .i64 x.x.to) ∧ w2.heap.size < w3.heap.size := ⟨Ku.out.cell 0, Ku.out.cell 1, Ku.out.cell 2, Ku.out.cell 3, Ku.out.lt, Kc.out.cell 0, Kc.out.cell 1, Kc.out.cell 2, Kc.out.cell 3, Kc.out.lt, Kx.out.cell 0, Kx.out.cell 1, Kx.out.cell 2, Kx.out.cell 3, Kx.out.cell 4, Kx.out.cell 5, Kx.out.cell 6, Kx.out.lt⟩
    go_wp2_with fail
    clear uc0 uc1 uc2 uc3 ucl cc0 cc1 cc2 cc3 ccl xc0 xc1 xc2 xc3 xc4 xc5 xc6 xcl
    go_ret
    exact ⟨ret_bool (by rw [← HE3.out, Bool.eq_iff_iff]; simp), B.out⟩
  by_cases o8 : x.x.op = 8
  ·
    rw [o8] at Kx HE2
    clear o22
    clear o4
    clear o5
    clear o6
    clear o7
    clear o8
    have HE3 : Hid (decide (bf.length = 0) = q) := HE2
    obtain ⟨uc0, uc1, uc2, uc3, ucl, cc0, cc1, cc2, cc3, ccl, xc0, xc1, xc2, xc3, xc4, xc5, xc6, xcl⟩ : w3.cell? ⟨w.heap.size, 0, none⟩ = some (.int .i64 md) ∧ w3.cell? ⟨w.heap.size, 1, none⟩ = some (vi) ∧ w3.cell? ⟨w.heap.size, 2, none⟩ = some (vr) ∧ w3.cell? ⟨w.heap.size, 3, none⟩ = some (.slice (some ⟨bc, oc, none⟩) np cc) ∧ w.heap.size < w3.heap.size ∧ w3.cell? ⟨w.heap.size + 1, 0, none⟩ = some (.slice (some ⟨bp, op, none⟩) np cp) ∧ w3.cell? ⟨w.heap.size + 1, 1, none⟩ = some (ar) ∧ w3.cell? ⟨w.heap.size + 1, 2, none⟩ = some (am) ∧ w3.cell? ⟨w.heap.size + 1, 3, none⟩ = some (.slice (some ⟨bb, ob, none⟩) np cb) ∧ w.heap.size + 1 < w3.heap.size ∧ w3.cell? ⟨w2.heap.size, 0, none⟩ = some (.int .i64 8) ∧ w3.cell? ⟨w2.heap.size, 1, none⟩ = some (.int .i64 x.x.reg) ∧ w3.cell? ⟨w2.heap.size, 2, none⟩ = some (.int .i64 x.x.loc) ∧ w3.cell? ⟨w2.heap.size, 3, none⟩ = some (x.ev) ∧ w3.cell? ⟨w2.heap.size, 4, none⟩ = some (x.fv) ∧ w3.cell? ⟨w2.heap.size, 5, none⟩ = some (.bool x.x.ne) ∧ w3.cell? ⟨w2.heap.size, 6, none⟩ = some (.int .i64 x.x.to) ∧ w2.heap.size < w3.heap.size := ⟨Ku.out.cell 0, Ku.out.cell 1, Ku.out.cell 2, Ku.out.cell 3, Ku.out.lt, Kc.out.cell 0, Kc.out.cell 1, Kc.out.cell 2, Kc.out.cell 3, Kc.out.lt, Kx.out.cell 0, Kx.out.cell 1, Kx.out.cell 2, Kx.out.cell 3, Kx.out.cell 4, Kx.out.cell 5, Kx.out.cell 6, Kx.out.lt⟩
    go_wp2_with fail
    clear uc0 uc1 uc2 uc3 ucl cc0 cc1 cc2 cc3 ccl xc0 xc1 xc2 xc3 xc4 xc5 xc6 xcl
    go_ret
    exact ⟨ret_bool (by rw [← HE3.out, Bool.eq_iff_iff]; simp), B.out⟩
  by_cases o9 : x.x.op = 9
  ·
    rw [o9] at Kx HE2
    clear o22
    clear o4
    clear o5
    clear o6
    clear o7
    clear o8
    clear o9
    have HE3 : Hid (((decide (readsP c.pf k x.x.loc = valP u c.pf k x.x.e)) != x.x.ne) = q) := HE2
    have HRX := Lib.hid (fun (W : World) (h : Below w3.heap.size w3 W) => HRD.out (k : Int) x.x.loc W (B.out.trans (h.mono B.out.size)))
    have HVX := Lib.hid (fun (W : World) (h : Below w3.heap.size w3 W) => rval_any u c k x.x.e _ _ _ _ _ _ _ _ W (HU0.out.below (B.out.trans (h.mono B.out.size))) (HC0.out.below (B.out.trans (h.mono B.out.size))) (by rw [h7, ← HNP.out]; exact hk) HS0.out.rr (OpsD.below HII.out.e (b3.trans (h.mono b3.size))) HLE.out.1 _ (valC_pf u c k x.x.e))
    rw [h4, h5, ← HNP.out] at HVX
    rw [← HMD.out] at HVX
    obtain ⟨n1, hn1⟩ : ∃ n, readsP c.pf (k : Int) x.x.loc = n := ⟨_, rfl⟩
    obtain ⟨n2, hn2⟩ : ∃ n, valP u c.pf k x.x.e = n := ⟨_, rfl⟩
    rw [hn1] at HRX HE3
    rw [hn2] at HVX HE3
    clear hn1 hn2
    have HCC := Lib.hid (fun (w' : World) (h : Below w3.heap.size w3 w') => (⟨(h.cell (p := ⟨w.heap.size, _, none⟩) Ku.out.lt).trans (Ku.out.cell 0), (h.cell (p := ⟨w.heap.size, _, none⟩) Ku.out.lt).trans (Ku.out.cell 1), (h.cell (p := ⟨w.heap.size, _, none⟩) Ku.out.lt).trans (Ku.out.cell 2), (h.cell (p := ⟨w.heap.size, _, none⟩) Ku.out.lt).trans (Ku.out.cell 3), (h.cell (p := ⟨w.heap.size + 1, _, none⟩) Kc.out.lt).trans (Kc.out.cell 0), (h.cell (p := ⟨w.heap.size + 1, _, none⟩) Kc.out.lt).trans (Kc.out.cell 1), (h.cell (p := ⟨w.heap.size + 1, _, none⟩) Kc.out.lt).trans (Kc.out.cell 2), (h.cell (p := ⟨w.heap.size + 1, _, none⟩) Kc.out.lt).trans (Kc.out.cell 3), (h.cell (p := ⟨w2.heap.size, _, none⟩) Kx.out.lt).trans (Kx.out.cell 0), (h.cell (p := ⟨w2.heap.size, _, none⟩) Kx.out.lt).trans (Kx.out.cell 1), (h.cell (p := ⟨w2.heap.size, _, none⟩) Kx.out.lt).trans (Kx.out.cell 2), (h.cell (p := ⟨w2.heap.size, _, none⟩) Kx.out.lt).trans (Kx.out.cell 3), (h.cell (p := ⟨w2.heap.size, _, none⟩) Kx.out.lt).trans (Kx.out.cell 4), (h.cell (p := ⟨w2.heap.size, _, none⟩) Kx.out.lt).trans (Kx.out.cell 5), (h.cell (p := ⟨w2.heap.size, _, none⟩) Kx.out.lt).trans (Kx.out.cell 6), (h.cell (p := ⟨bb, _, none⟩) lb2).trans yb2, h⟩ : (fun w' => w'.cell? ⟨w.heap.size, 0, none⟩ = some (.int .i64 md) ∧ w'.cell? ⟨w.heap.size, 1, none⟩ = some (vi) ∧ w'.cell? ⟨w.heap.size, 2, none⟩ = some (vr) ∧ w'.cell? ⟨w.heap.size, 3, none⟩ = some (.slice (some ⟨bc, oc, none⟩) np cc) ∧ w'.cell? ⟨w.heap.size + 1, 0, none⟩ = some (.slice (some ⟨bp, op, none⟩) np cp) ∧ w'.cell? ⟨w.heap.size + 1, 1, none⟩ = some (ar) ∧ w'.cell? ⟨w.heap.size + 1, 2, none⟩ = some (am) ∧ w'.cell? ⟨w.heap.size + 1, 3, none⟩ = some (.slice (some ⟨bb, ob, none⟩) np cb) ∧ w'.cell? ⟨w2.heap.size, 0, none⟩ = some (.int .i64 9) ∧ w'.cell? ⟨w2.heap.size, 1, none⟩ = some (.int .i64 x.x.reg) ∧ w'.cell? ⟨w2.heap.size, 2, none⟩ = some (.int .i64 x.x.loc) ∧ w'.cell? ⟨w2.heap.size, 3, none⟩ = some (x.ev) ∧ w'.cell? ⟨w2.heap.size, 4, none⟩ = some (x.fv) ∧ w'.cell? ⟨w2.heap.size, 5, none⟩ = some (.bool x.x.ne) ∧ w'.cell? ⟨w2.heap.size, 6, none⟩ = some (.int .i64 x.x.to) ∧ w'.cell? ⟨bb, ob + k, none⟩ = some (.slice rb bf.length mb) ∧ Below w3.heap.size w3 w') w'))
    have bb0 : Below w3.heap.size w3 w3 := Below.refl _ _
    obtain ⟨uc0, uc1, uc2, uc3, ucl, cc0, cc1, cc2, cc3, ccl, xc0, xc1, xc2, xc3, xc4, xc5, xc6, xcl⟩ : w3.cell? ⟨w.heap.size, 0, none⟩ = some (.int .i64 md) ∧ w3.cell? ⟨w.heap.size, 1, none⟩ = some (vi) ∧ w3.cell? ⟨w.heap.size, 2, none⟩ = some (vr) ∧ w3.cell? ⟨w.heap.size, 3, none⟩ = some (.slice (some ⟨bc, oc, none⟩) np cc) ∧ w.heap.size < w3.heap.size ∧ w3.cell? ⟨w.heap.size + 1, 0, none⟩ = some (.slice (some ⟨bp, op, none⟩) np cp) ∧ w3.cell? ⟨w.heap.size + 1, 1, none⟩ = some (ar) ∧ w3.cell? ⟨w.heap.size + 1, 2, none⟩ = some (am) ∧ w3.cell? ⟨w.heap.size + 1, 3, none⟩ = some (.slice (some ⟨bb, ob, none⟩) np cb) ∧ w.heap.size + 1 < w3.heap.size ∧ w3.cell? ⟨w2.heap.size, 0, none⟩ = some (.int .i64 9) ∧ w3.cell? ⟨w2.heap.size, 1, none⟩ = some (.int .i64 x.x.reg) ∧ w3.cell? ⟨w2.heap.size, 2, none⟩ = some (.int .i64 x.x.loc) ∧ w3.cell? ⟨w2.heap.size, 3, none⟩ = some (x.ev) ∧ w3.cell? ⟨w2.heap.size, 4, none⟩ = some (x.fv) ∧ w3.cell? ⟨w2.heap.size, 5, none⟩ = some (.bool x.x.ne) ∧ w3.cell? ⟨w2.heap.size, 6, none⟩ = some (.int .i64 x.x.to) ∧ w2.heap.size < w3.heap.size := ⟨Ku.out.cell 0, Ku.out.cell 1, Ku.out.cell 2, Ku.out.cell 3, Ku.out.lt, Kc.out.cell 0, Kc.out.cell 1, Kc.out.cell 2, Kc.out.cell 3, Kc.out.lt, Kx.out.cell 0, Kx.out.cell 1, Kx.out.cell 2, Kx.out.cell 3, Kx.out.cell 4, Kx.out.cell 5, Kx.out.cell 6, Kx.out.lt⟩
    go_wp2_with fail
    clear uc0 uc1 uc2 uc3 ucl cc0 cc1 cc2 cc3 ccl xc0 xc1 xc2 xc3 xc4 xc5 xc6 xcl
    go_region_held3 (fun w' => w'.cell? ⟨w.heap.size, 0, none⟩ = some (.int .i64 md) ∧ w'.cell? ⟨w.heap.size, 1, none⟩ = some (vi) ∧ w'.cell? ⟨w.heap.size, 2, none⟩ = some (vr) ∧ w'.cell? ⟨w.heap.size, 3, none⟩ = some (.slice (some ⟨bc, oc, none⟩) np cc) ∧ w'.cell? ⟨w.heap.size + 1, 0, none⟩ = some (.slice (some ⟨bp, op, none⟩) np cp) ∧ w'.cell? ⟨w.heap.size + 1, 1, none⟩ = some (ar) ∧ w'.cell? ⟨w.heap.size + 1, 2, none⟩ = some (am) ∧ w'.cell? ⟨w.heap.size + 1, 3, none⟩ = some (.slice (some ⟨bb, ob, none⟩) np cb) ∧ w'.cell? ⟨w2.heap.size, 0, none⟩ = some (.int .i64 9) ∧ w'.cell? ⟨w2.heap.size, 1, none⟩ = some (.int .i64 x.x.reg) ∧ w'.cell? ⟨w2.heap.size, 2, none⟩ = some (.int .i64 x.x.loc) ∧ w'.cell? ⟨w2.heap.size, 3, none⟩ = some (x.ev) ∧ w'.cell? ⟨w2.heap.size, 4, none⟩ = some (x.fv) ∧ w'.cell? ⟨w2.heap.size, 5, none⟩ = some (.bool x.x.ne) ∧ w'.cell? ⟨w2.heap.size, 6, none⟩ = some (.int .i64 x.x.to) ∧ w'.cell? ⟨bb, ob + k, none⟩ = some (.slice rb bf.length mb) ∧ Below w3.heap.size w3 w')
      (first | with_reducible exact HCC.out _ bb0 | with_reducible exact HCC.out _ bb0.drew | with_reducible assumption | (go_split_ands; with_reducible exact HCC.out _ (by with_reducible assumption)))
      ((first | (go_split_ands; (with_reducible refine Calls.mono (HRX.out _ (by assumption)) ?_); rintro e wn ⟨rfl, bn⟩; have bb1 : Below w3.heap.size w3 wn := Below.trans (by assumption) (bn.mono (Below.size (by assumption)))) | (go_split_ands; (with_reducible refine Calls.mono (HVX.out _ (by assumption)) ?_); rintro e wn ⟨rfl, bn⟩; have bb1 : Below w3.heap.size w3 wn := Below.trans (by assumption) (bn.mono (Below.size (by assumption))))))
    all_goals
      go_split_ands
      go_wp2_with fail
      go_ret
      exact ⟨ret_bool (by rw [← HE3.out]; cases x.x.ne <;> (rw [Bool.eq_iff_iff]; simp)), B.out.trans (Below.mono (by assumption) B.out.size)⟩
  rw [if_neg o22, if_neg o4, if_neg (show ¬ (x.x.op = 5 ∨ x.x.op = 6 ∨ x.x.op = 7 ∨ x.x.op = 8) by omega), if_neg o9] at HE2
  obtain rfl : q = true := HE2.out.symm
  have p22 : (x.x.op == 22) = false := by simpa using o22
  have p4 : (x.x.op == 4) = false := by simpa using o4
  have p5 : (x.x.op == 5) = false := by simpa using o5
  have p6 : (x.x.op == 6) = false := by simpa using o6
  have p7 : (x.x.op == 7) = false := by simpa using o7
  have p8 : (x.x.op == 8) = false := by simpa using o8
  have p9 : (x.x.op == 9) = false := by simpa using o9
  replace o22 := Lib.hid o22
  replace o4 := Lib.hid o4
  replace o5 := Lib.hid o5
  replace o6 := Lib.hid o6
  replace o7 := Lib.hid o7
  replace o8 := Lib.hid o8
  replace o9 := Lib.hid o9
  obtain ⟨uc0, uc1, uc2, uc3, ucl, cc0, cc1, cc2, cc3, ccl, xc0, xc1, xc2, xc3, xc4, xc5, xc6, xcl⟩ : w3.cell? ⟨w.heap.size, 0, none⟩ = some (.int .i64 md) ∧ w3.cell? ⟨w.heap.size, 1, none⟩ = some (vi) ∧ w3.cell? ⟨w.heap.size, 2, none⟩ = some (vr) ∧ w3.cell? ⟨w.heap.size, 3, none⟩ = some (.slice (some ⟨bc, oc, none⟩) np cc) ∧ w.heap.size < w3.heap.size ∧ w3.cell? ⟨w.heap.size + 1, 0, none⟩ = some (.slice (some ⟨bp, op, none⟩) np cp) ∧ w3.cell? ⟨w.heap.size + 1, 1, none⟩ = some (ar) ∧ w3.cell? ⟨w.heap.size + 1, 2, none⟩ = some (am) ∧ w3.cell? ⟨w.heap.size + 1, 3, none⟩ = some (.slice (some ⟨bb, ob, none⟩) np cb) ∧ w.heap.size + 1 < w3.heap.size ∧ w3.cell? ⟨w2.heap.size, 0, none⟩ = some (.int .i64 x.x.op) ∧ w3.cell? ⟨w2.heap.size, 1, none⟩ = some (.int .i64 x.x.reg) ∧ w3.cell? ⟨w2.heap.size, 2, none⟩ = some (.int .i64 x.x.loc) ∧ w3.cell? ⟨w2.heap.size, 3, none⟩ = some (x.ev) ∧ w3.cell? ⟨w2.heap.size, 4, none⟩ = some (x.fv) ∧ w3.cell? ⟨w2.heap.size, 5, none⟩ = some (.bool x.x.ne) ∧ w3.cell? ⟨w2.heap.size, 6, none⟩ = some (.int .i64 x.x.to) ∧ w2.heap.size < w3.heap.size := ⟨Ku.out.cell 0, Ku.out.cell 1, Ku.out.cell 2, Ku.out.cell 3, Ku.out.lt, Kc.out.cell 0, Kc.out.cell 1, Kc.out.cell 2, Kc.out.cell 3, Kc.out.lt, Kx.out.cell 0, Kx.out.cell 1, Kx.out.cell 2, Kx.out.cell 3, Kx.out.cell 4, Kx.out.cell 5, Kx.out.cell 6, Kx.out.lt⟩
  go_wp2_with fail
  clear uc0 uc1 uc2 uc3 ucl cc0 cc1 cc2 cc3 ccl xc0 xc1 xc2 xc3 xc4 xc5 xc6 xcl
  go_ret
  exact ⟨rfl, B.out⟩
end Go.Proofs.YtacbanfnakgecaaGreat
