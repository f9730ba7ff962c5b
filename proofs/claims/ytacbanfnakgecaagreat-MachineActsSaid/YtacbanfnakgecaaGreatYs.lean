/- Layer 10, the code: a thread's turn is found. -/
import Derived.Test.YtacbanfnakgecaaGreatYe
import Derived.Test.YtacbanfnakgecaaGreatYc
import Derived.Test.YtacbanfnakgecaaGreatYa
import Derived.BigQuiet
namespace Go.Proofs.YtacbanfnakgecaaGreat
set_option linter.unusedSimpArgs false
set_option linter.unusedVariables false
open Go.RowKit
theorem below_sq (i n : Int) (b : Bool) (h : inB i n = b) (w : World) (k : Nat) : Calls Tryz.prog 54 #[.int .i64 i, .int .i64 n] (w.drewN k) fun e w' => e = .returned (.bool b) ∧ ∃ m, w' = w.drewN m :=
  (below_step i n b h _).mono fun _ _ ⟨h1, h2⟩ => ⟨h1, k, h2.symm⟩
theorem min_four (n : Int) (W : World) : Sem.run Tryz.prog (Builtin.min_ #[3, 3, 3, 3] 3 #[.int .i64 n, .int .i64 n, .int .i64 n, .int .i64 n]) W = .ok (.int .i64 n) W := by
  simp [Builtin.min_, Builtin.min2, go_sem]
def zeroT : Array Value := #[.int .i64 0, .int .i64 0, .int .i64 0, .slice none 0 0, .slice none 0 0, .slice none 0 0, .slice none 0 0, .int .i64 0, .int .i64 0, .int .i64 0, .int .i64 0, .slice none 0 0, .slice none 0 0, .bool false, .int .i64 0, .nilFunc, .nilFunc]
theorem one_zero : zeroT.all (·.oneCell') = true := by first | kernel_rfl | (simp [zeroT, Value.oneCell']) | decide
theorem i_kind : (Tryz.prog.info? 61).map (·.size) = some 2 := by kernel_rfl
theorem i_instr : (Tryz.prog.info? 57).map (·.size) = some 7 := by kernel_rfl
theorem i_turn' : (Tryz.prog.info? 63).map (·.size) = some 17 := by kernel_rfl
theorem results_turn {fn : Func} {p q : Tmp} (h : fn.results = #[.cell p 63, .tmp q]) (tmps : Array Value) (w : World) (b : Nat) (ta : Array Value) (z2 : Value) (hp : tmps.getD p undef = .pointer (some ⟨b, 0, none⟩)) (h2 : tmps.getD q undef = z2) (hb : Bk w b 63 ta) (hs : ta.size = 17) :
    (results fn tmps).run Tryz.prog w = .ok (.tuple #[.agg ta, z2]) w := by
  subst h2
  have hp2 : tmps[p]?.getD undef = .pointer (some ⟨b, 0, none⟩) := by simpa using hp
  have hr := run_loadVar_row (P := Tryz.prog) w b 63 63 ta (0, 0) _ hb Tryz.underlying63 rfl (by rw [hs]; exact i_turn')
  simp [results, h, hp2, asAddr, hr]
set_option maxRecDepth 100000 in
set_option maxHeartbeats 8000000 in
theorem turnOf_no (u : Un) (c : Cf) (model room t : Int) (vi vr vc ap ar am ab : Value) (w : World) (hu : UnD w vi vr vc u) (hc : CfD w ap ar am ab c) (n : Nat) (h1 : u.code.length = n) (h2 : c.pc.length = n) (h3 : c.regs.length = n) (h4 : c.buf.length = n) (ht : inB t n = false) :
    Calls Tryz.prog 32 #[.agg #[.int .i64 u.mod, vi, vr, vc], .agg #[ap, ar, am, ab], .int .i64 model, .int .i64 room, .int .i64 t] w fun e w' => e = .returned (.tuple #[.agg zeroT, .bool false]) ∧ Below w.heap.size w w' := by
  obtain ⟨xc, cc, rfl⟩ := hu.c.shape0
  obtain ⟨yp, dp, rfl⟩ := hc.p.shape0
  obtain ⟨yr, dr, rfl⟩ := hc.r.shape0
  obtain ⟨yb, db, rfl⟩ := hc.b.shape0
  rw [h1, h2, h3, h4]
  have B1 := Lib.hid (below_sq t n false ht)
  have T2 := Lib.hid (two_new w 25 29 #[.int .i64 u.mod, vi, vr, .slice xc n cc] #[.slice yp n dp, .slice yr n dr, am, .slice yb n db])
  clear hu hc h1 h2 h3 h4 ht
  go_enter Tryz.func32, Tryz.ntmps32
  go_wp2_with fail
  rw [min_four]
  go_wp2_with fail
  obtain ⟨L0, KA, KB⟩ := T2.out
  have LL := Lib.hid (bal L0 (.cells zeroT 63))
  have KZ := Lib.hid (Bk.new (World.alloc (World.alloc w (.cells #[.int .i64 u.mod, vi, vr, .slice xc n cc] 25)) (.cells #[.slice yp n dp, .slice yr n dr, am, .slice yb n db] 29)) 63 zeroT)
  rw [show (World.alloc (World.alloc w (.cells #[.int .i64 u.mod, vi, vr, .slice xc n cc] 25)) (.cells #[.slice yp n dp, .slice yr n dr, am, .slice yb n db] 29)).heap.size = w.heap.size + 1 + 1 by simp only [alloc_size]] at KZ
  clear L0 KA KB T2
  change Code.wp _ _ _ _ (World.alloc (World.alloc (World.alloc w _) _) (.cells zeroT 63))
  generalize World.alloc (World.alloc (World.alloc w _) _) _ = W at LL KZ ⊢
  go_quiet ((go_at_call 54; with_reducible exact B1.out _ _))
  all_goals
    go_wp2_with (refine wpList_store_row (P := Tryz.prog) rfl 63 (.tmp 10) (.tmp 48) rfl (w.heap.size + 1 + 1) zeroT rfl rfl 63 zeroT KZ.out i_turn' rfl one_zero ?_)
    go_wp2_with fail
    have KR : Hid (Bk (W.setRow (w.heap.size + 1 + 1) zeroT) (w.heap.size + 1 + 1) 63 zeroT) := Lib.hid (setRow_heap _ _ _ _ _ _ KZ.out)
    exact bodyPost_ret (v := .tuple #[.agg zeroT, .bool false]) (results_turn rfl _ _ _ zeroT _ rfl rfl KR.out rfl) rfl ⟨rfl, below_setRow (below_drewN' LL.out _) (show w.heap.size ≤ w.heap.size + 1 + 1 by omega) zeroT⟩
set_option maxRecDepth 100000 in
set_option maxHeartbeats 8000000 in
theorem turnOf_yes (u : Un) (c : Cf) (model room : Int) (vi vr vc ap ar am ab : Value) (w : World) (hu : UnD w vi vr vc u) (hc : CfD w ap ar am ab c) (n : Nat) (h1 : u.code.length = n) (h2 : c.pc.length = n) (h3 : c.regs.length = n) (h4 : c.buf.length = n) (hn : n ≤ 100000) (k : Nat) (hk : k < n)
    (pc : Nat) (hp : c.pc[k]'(by omega) = (pc : Int)) (hpl : pc < (u.code[k]'(by omega)).1.length) (hlen : (u.code[k]'(by omega)).1.length ≤ 100000) (kv : Value) (q : Bool) (hkd : ∀ (W : World) (b : Nat), W.heap[b]? = some (.map kindsA 10) → Sem.run Tryz.prog (Instr.lookup 97 (.map (some b)) (.int .i64 ((u.code[k]'(by omega)).1[pc]).x.op) true) W = .ok (.tuple #[kv, .bool q]) W) (f1 f2 : Value) (hkv : kv = .agg #[f1, f2]) (hone : (#[f1, f2] : Array Value).all (·.oneCell') = true) :
    Calls Tryz.prog 32 #[.agg #[.int .i64 u.mod, vi, vr, vc], .agg #[ap, ar, am, ab], .int .i64 model, .int .i64 room, .int .i64 k] w fun e w' => e = .returned (.tuple #[.agg (turnA u.mod model room ap ar am ab k ((u.code[k]'(by omega)).1[pc]) f1 f2), .bool q]) ∧ Below w.heap.size w w' := by
  subst hkv
  obtain ⟨xc, cc, rfl⟩ := hu.c.shape0
  obtain ⟨xi, ci, rfl⟩ := hu.i.shape0
  obtain ⟨xr, cr, rfl⟩ := hu.r.shape0
  obtain ⟨yp, dp, rfl⟩ := hc.p.shape0
  obtain ⟨yr, dr, rfl⟩ := hc.r.shape0
  obtain ⟨ym, dm, rfl⟩ := hc.m.shape0
  obtain ⟨yb, db, rfl⟩ := hc.b.shape0
  obtain ⟨bp, op, rfl, hbp, yp1⟩ := IntsD.at2 hc.p k (by omega)
  obtain ⟨bc, oc, rfl, hbc, hx⟩ := SlD.at hu.c k (by omega)
  obtain ⟨hx1, hx2⟩ := hx
  obtain ⟨ax, mx, hxv⟩ := hx2.shape0
  rw [hxv] at hx1 hx2
  obtain ⟨bi, oi, rfl, hbi, hI⟩ := SlD.at hx2 pc hpl
  generalize (u.code[k]'(by omega)).1[pc] = x at hkd hI ⊢
  rw [h1, h2, h3, h4]
  rw [hp] at yp1
  obtain ⟨nl, hnl⟩ : ∃ m, m = (u.code[k]'(by omega)).1.length := ⟨_, rfl⟩
  rw [← hnl] at hpl hlen hx1
  have B1 := Lib.hid (below_sq k n true (decide_eq_true (by omega)))
  have B2 := Lib.hid (below_sq pc nl true (decide_eq_true (by omega)))
  have T2 := Lib.hid (two_new w 25 29 #[.int .i64 u.mod, .slice xi u.init.length ci, .slice xr u.regs.length cr, .slice (some ⟨bc, oc, none⟩) n cc] #[.slice (some ⟨bp, op, none⟩) n dp, .slice yr n dr, .slice ym c.mem.length dm, .slice yb n db])
  have HKD := Lib.hid hkd
  generalize u.init.length = ni at T2 ⊢
  generalize u.regs.length = nr at T2 ⊢
  generalize c.mem.length = nm at T2 ⊢
  generalize u.mod = m at T2 ⊢
  clear hu hc h1 h2 h3 h4 hx2 hxv hp hnl hkd
  have g1 : (0 : Int) ≤ (k : Int) := by omega
  have g2 : (k : Int) < (n : Int) := by omega
  have g3 : (0 : Int) ≤ (pc : Int) := by omega
  have g4 : (pc : Int) < (nl : Int) := by omega
  go_enter Tryz.func32, Tryz.ntmps32
  go_wp2_with fail
  rw [min_four]
  go_wp2_with fail
  obtain ⟨L0, KA, KB⟩ := T2.out
  have LL := Lib.hid (bal L0 (.cells zeroT 63))
  have KZ := Lib.hid (Bk.new (World.alloc (World.alloc w (.cells #[.int .i64 m, .slice xi ni ci, .slice xr nr cr, .slice (some ⟨bc, oc, none⟩) n cc] 25)) (.cells #[.slice (some ⟨bp, op, none⟩) n dp, .slice yr n dr, .slice ym nm dm, .slice yb n db] 29)) 63 zeroT)
  rw [show (World.alloc (World.alloc w (.cells #[.int .i64 m, .slice xi ni ci, .slice xr nr cr, .slice (some ⟨bc, oc, none⟩) n cc] 25)) (.cells #[.slice (some ⟨bp, op, none⟩) n dp, .slice yr n dr, .slice ym nm dm, .slice yb n db] 29)).heap.size = w.heap.size + 1 + 1 by simp only [alloc_size]] at KZ
  have KA2 := Lib.hid (bk_alloc KA (.cells zeroT 63))
  have KB2 := Lib.hid (bk_alloc KB (.cells zeroT 63))
  clear L0 KA KB T2
  change Code.wp _ _ _ _ (World.alloc (World.alloc (World.alloc w _) _) (.cells zeroT 63))
  generalize World.alloc (World.alloc (World.alloc w _) _) _ = W at LL KZ KA2 KB2 ⊢
  obtain ⟨a0, a1, a2, a3, al, b0, b1, b2, b3, bl⟩ : W.cell? ⟨w.heap.size, 0, none⟩ = some (.int .i64 m) ∧ W.cell? ⟨w.heap.size, 1, none⟩ = some (.slice xi ni ci) ∧ W.cell? ⟨w.heap.size, 2, none⟩ = some (.slice xr nr cr) ∧ W.cell? ⟨w.heap.size, 3, none⟩ = some (.slice (some ⟨bc, oc, none⟩) n cc) ∧ w.heap.size < W.heap.size ∧
      W.cell? ⟨w.heap.size + 1, 0, none⟩ = some (.slice (some ⟨bp, op, none⟩) n dp) ∧ W.cell? ⟨w.heap.size + 1, 1, none⟩ = some (.slice yr n dr) ∧ W.cell? ⟨w.heap.size + 1, 2, none⟩ = some (.slice ym nm dm) ∧ W.cell? ⟨w.heap.size + 1, 3, none⟩ = some (.slice yb n db) ∧ w.heap.size + 1 < W.heap.size :=
    ⟨KA2.out.cell 0, KA2.out.cell 1, KA2.out.cell 2, KA2.out.cell 3, KA2.out.lt, KB2.out.cell 0, KB2.out.cell 1, KB2.out.cell 2, KB2.out.cell 3, KB2.out.lt⟩
  have p1 : W.cell? ⟨bp, op + k, none⟩ = some (.int .i64 pc) := (LL.out.cell (p := ⟨bp, _, none⟩) hbp).trans yp1
  have p2 : bp < W.heap.size := Nat.lt_of_lt_of_le hbp LL.out.size
  have p3 : W.cell? ⟨bc, oc + k, none⟩ = some (.slice (some ⟨bi, oi, none⟩) nl mx) := (LL.out.cell (p := ⟨bc, _, none⟩) hbc).trans (by rw [Nat.mul_one] at hx1; exact hx1)
  have p4 : bc < W.heap.size := Nat.lt_of_lt_of_le hbc LL.out.size
  have HII := Lib.hid (hI.below LL.out hbi)
  have p5 : bi < W.heap.size := Nat.lt_of_lt_of_le hbi LL.out.size
  clear yp1 hx1 hI hbp hbc hbi
  go_quiet ((go_at_call 54; first | with_reducible exact B1.out _ _ | with_reducible exact B2.out _ _))
  all_goals
    go_wp2_with fail
    obtain ⟨ae, ke, hev⟩ := HII.out.e.shape0
    obtain ⟨af, kf, hfv⟩ := HII.out.f.shape0
    have HONE : (#[.int .i64 x.x.op, .int .i64 x.x.reg, .int .i64 x.x.loc, x.ev, x.fv, .bool x.x.ne, .int .i64 x.x.to] : Array Value).all (·.oneCell') = true := by rw [hev, hfv]; simp [Value.oneCell']
    have HEV := Lib.hid hev
    have HFV := Lib.hid hfv
    clear hev hfv
    have HCC := Lib.hid (fun (W1 : World) (h : Below W.heap.size W W1) => (⟨(h.cell (p := ⟨w.heap.size, _, none⟩) al).trans a3, (h.cell (p := ⟨bc, _, none⟩) p4).trans p3, (h.cell (p := ⟨w.heap.size + 1, _, none⟩) bl).trans b0, (h.cell (p := ⟨bp, _, none⟩) p2).trans p1,
      ⟨(h.cell (p := ⟨bi, _, none⟩) p5).trans HII.out.c0, (h.cell (p := ⟨bi, _, none⟩) p5).trans HII.out.c1, (h.cell (p := ⟨bi, _, none⟩) p5).trans HII.out.c2, (h.cell (p := ⟨bi, _, none⟩) p5).trans HII.out.c3, (h.cell (p := ⟨bi, _, none⟩) p5).trans HII.out.c4, (h.cell (p := ⟨bi, _, none⟩) p5).trans HII.out.c5, (h.cell (p := ⟨bi, _, none⟩) p5).trans HII.out.c6⟩,
      Nat.lt_of_lt_of_le al h.size, Nat.lt_of_lt_of_le bl h.size, Nat.lt_of_lt_of_le p4 h.size, Nat.lt_of_lt_of_le p2 h.size, Nat.lt_of_lt_of_le p5 h.size, h⟩ : (fun W1 => W1.cell? ⟨w.heap.size, 3, none⟩ = some (.slice (some ⟨bc, oc, none⟩) n cc) ∧ W1.cell? ⟨bc, oc + k, none⟩ = some (.slice (some ⟨bi, oi, none⟩) nl mx) ∧ W1.cell? ⟨w.heap.size + 1, 0, none⟩ = some (.slice (some ⟨bp, op, none⟩) n dp) ∧ W1.cell? ⟨bp, op + k, none⟩ = some (.int .i64 pc) ∧ (W1.cell? ⟨bi, oi + pc * 7, none⟩ = some (.int .i64 x.x.op) ∧ W1.cell? ⟨bi, oi + pc * 7 + 1, none⟩ = some (.int .i64 x.x.reg) ∧ W1.cell? ⟨bi, oi + pc * 7 + 2, none⟩ = some (.int .i64 x.x.loc) ∧ W1.cell? ⟨bi, oi + pc * 7 + 3, none⟩ = some (x.ev) ∧ W1.cell? ⟨bi, oi + pc * 7 + 4, none⟩ = some (x.fv) ∧ W1.cell? ⟨bi, oi + pc * 7 + 5, none⟩ = some (.bool x.x.ne) ∧ W1.cell? ⟨bi, oi + pc * 7 + 6, none⟩ = some (.int .i64 x.x.to)) ∧ w.heap.size < W1.heap.size ∧ w.heap.size + 1 < W1.heap.size ∧ bc < W1.heap.size ∧ bp < W1.heap.size ∧ bi < W1.heap.size ∧ Below W.heap.size W W1) W1))
    have BQ : Below W.heap.size W (W.drewN nq) := below_drewN' (Below.refl _ _) _
    generalize W.drewN nq = Wq at BQ ⊢
    clear a0 a1 a2 a3 b0 b1 b2 b3 p1 p3
    refine wp_region_held_drew (S := fun W1 => W1.cell? ⟨w.heap.size, 3, none⟩ = some (.slice (some ⟨bc, oc, none⟩) n cc) ∧ W1.cell? ⟨bc, oc + k, none⟩ = some (.slice (some ⟨bi, oi, none⟩) nl mx) ∧ W1.cell? ⟨w.heap.size + 1, 0, none⟩ = some (.slice (some ⟨bp, op, none⟩) n dp) ∧ W1.cell? ⟨bp, op + k, none⟩ = some (.int .i64 pc) ∧ (W1.cell? ⟨bi, oi + pc * 7, none⟩ = some (.int .i64 x.x.op) ∧ W1.cell? ⟨bi, oi + pc * 7 + 1, none⟩ = some (.int .i64 x.x.reg) ∧ W1.cell? ⟨bi, oi + pc * 7 + 2, none⟩ = some (.int .i64 x.x.loc) ∧ W1.cell? ⟨bi, oi + pc * 7 + 3, none⟩ = some (x.ev) ∧ W1.cell? ⟨bi, oi + pc * 7 + 4, none⟩ = some (x.fv) ∧ W1.cell? ⟨bi, oi + pc * 7 + 5, none⟩ = some (.bool x.x.ne) ∧ W1.cell? ⟨bi, oi + pc * 7 + 6, none⟩ = some (.int .i64 x.x.to)) ∧ w.heap.size < W1.heap.size ∧ w.heap.size + 1 < W1.heap.size ∧ bc < W1.heap.size ∧ bp < W1.heap.size ∧ bi < W1.heap.size ∧ Below W.heap.size W W1) (by kernel_rfl) (HCC.out _ BQ.drew) (fun hS => ?_)
    refine wpAnyH_take (i := 0) (v := .pointer (some ⟨w.heap.size, 3, none⟩)) rfl (by kernel_rfl) (by kernel_rfl) (by kernel_rfl) (fun _ _ _ h => h) (Or.inl ⟨by rfl, fun w hSw => by obtain ⟨s1, s2, s3, s4, ⟨t0, t1, t2, t3, t4, t5, t6⟩, s6, s7, s8, s9, s10, s11⟩ := hSw; first | (go_simp; done) | (go_simp; with_reducible rfl)⟩) hS ?_
    simp only [Act.put, List.setIfInBounds_toArray, List.set_cons_zero, List.set_cons_succ]
    refine wpAnyH_take (i := 1) (v := .slice (some ⟨bc, oc, none⟩) n cc) rfl (by kernel_rfl) (by kernel_rfl) (by kernel_rfl) (fun _ _ _ h => h) (Or.inl ⟨by rfl, fun w hSw => by obtain ⟨s1, s2, s3, s4, ⟨t0, t1, t2, t3, t4, t5, t6⟩, s6, s7, s8, s9, s10, s11⟩ := hSw; first | (go_simp; done) | (go_simp; with_reducible rfl)⟩) hS ?_
    simp only [Act.put, List.setIfInBounds_toArray, List.set_cons_zero, List.set_cons_succ]
    refine wpAnyH_take (i := 2) (v := .int .i64 k) rfl (by kernel_rfl) (by kernel_rfl) (by kernel_rfl) (fun _ _ _ h => h) (Or.inl ⟨by rfl, fun w hSw => by obtain ⟨s1, s2, s3, s4, ⟨t0, t1, t2, t3, t4, t5, t6⟩, s6, s7, s8, s9, s10, s11⟩ := hSw; first | (go_simp; done) | (go_simp; with_reducible rfl)⟩) hS ?_
    simp only [Act.put, List.setIfInBounds_toArray, List.set_cons_zero, List.set_cons_succ]
    refine wpAnyH_take (i := 3) (v := .pointer (some ⟨bc, oc + k, none⟩)) rfl (by kernel_rfl) (by kernel_rfl) (by kernel_rfl) (fun _ _ _ h => h) (Or.inl ⟨by rfl, fun w hSw => by obtain ⟨s1, s2, s3, s4, ⟨t0, t1, t2, t3, t4, t5, t6⟩, s6, s7, s8, s9, s10, s11⟩ := hSw; first | (go_simp; done) | (go_simp; with_reducible rfl)⟩) hS ?_
    simp only [Act.put, List.setIfInBounds_toArray, List.set_cons_zero, List.set_cons_succ]
    refine wpAnyH_take (i := 4) (v := .slice (some ⟨bi, oi, none⟩) nl mx) rfl (by kernel_rfl) (by kernel_rfl) (by kernel_rfl) (fun _ _ _ h => h) (Or.inl ⟨by rfl, fun w hSw => by obtain ⟨s1, s2, s3, s4, ⟨t0, t1, t2, t3, t4, t5, t6⟩, s6, s7, s8, s9, s10, s11⟩ := hSw; first | (go_simp; done) | (go_simp; with_reducible rfl)⟩) hS ?_
    simp only [Act.put, List.setIfInBounds_toArray, List.set_cons_zero, List.set_cons_succ]
    refine wpAnyH_take (i := 5) (v := .pointer (some ⟨w.heap.size + 1, 0, none⟩)) rfl (by kernel_rfl) (by kernel_rfl) (by kernel_rfl) (fun _ _ _ h => h) (Or.inl ⟨by rfl, fun w hSw => by obtain ⟨s1, s2, s3, s4, ⟨t0, t1, t2, t3, t4, t5, t6⟩, s6, s7, s8, s9, s10, s11⟩ := hSw; first | (go_simp; done) | (go_simp; with_reducible rfl)⟩) hS ?_
    simp only [Act.put, List.setIfInBounds_toArray, List.set_cons_zero, List.set_cons_succ]
    refine wpAnyH_take (i := 6) (v := .slice (some ⟨bp, op, none⟩) n dp) rfl (by kernel_rfl) (by kernel_rfl) (by kernel_rfl) (fun _ _ _ h => h) (Or.inl ⟨by rfl, fun w hSw => by obtain ⟨s1, s2, s3, s4, ⟨t0, t1, t2, t3, t4, t5, t6⟩, s6, s7, s8, s9, s10, s11⟩ := hSw; first | (go_simp; done) | (go_simp; with_reducible rfl)⟩) hS ?_
    simp only [Act.put, List.setIfInBounds_toArray, List.set_cons_zero, List.set_cons_succ]
    refine wpAnyH_take (i := 7) (v := .int .i64 k) rfl (by kernel_rfl) (by kernel_rfl) (by kernel_rfl) (fun _ _ _ h => h) (Or.inl ⟨by rfl, fun w hSw => by obtain ⟨s1, s2, s3, s4, ⟨t0, t1, t2, t3, t4, t5, t6⟩, s6, s7, s8, s9, s10, s11⟩ := hSw; first | (go_simp; done) | (go_simp; with_reducible rfl)⟩) hS ?_
    simp only [Act.put, List.setIfInBounds_toArray, List.set_cons_zero, List.set_cons_succ]
    refine wpAnyH_take (i := 8) (v := .pointer (some ⟨bp, op + k, none⟩)) rfl (by kernel_rfl) (by kernel_rfl) (by kernel_rfl) (fun _ _ _ h => h) (Or.inl ⟨by rfl, fun w hSw => by obtain ⟨s1, s2, s3, s4, ⟨t0, t1, t2, t3, t4, t5, t6⟩, s6, s7, s8, s9, s10, s11⟩ := hSw; first | (go_simp; done) | (go_simp; with_reducible rfl)⟩) hS ?_
    simp only [Act.put, List.setIfInBounds_toArray, List.set_cons_zero, List.set_cons_succ]
    refine wpAnyH_take (i := 9) (v := .int .i64 pc) rfl (by kernel_rfl) (by kernel_rfl) (by kernel_rfl) (fun _ _ _ h => h) (Or.inl ⟨by rfl, fun w hSw => by obtain ⟨s1, s2, s3, s4, ⟨t0, t1, t2, t3, t4, t5, t6⟩, s6, s7, s8, s9, s10, s11⟩ := hSw; first | (go_simp; done) | (go_simp; with_reducible rfl)⟩) hS ?_
    simp only [Act.put, List.setIfInBounds_toArray, List.set_cons_zero, List.set_cons_succ]
    refine wpAnyH_take (i := 10) (v := .pointer (some ⟨bi, oi + pc * 7, none⟩)) rfl (by kernel_rfl) (by kernel_rfl) (by kernel_rfl) (fun _ _ _ h => h) (Or.inl ⟨by rfl, fun w hSw => by obtain ⟨s1, s2, s3, s4, ⟨t0, t1, t2, t3, t4, t5, t6⟩, s6, s7, s8, s9, s10, s11⟩ := hSw; first | (go_simp; done) | (go_simp; with_reducible rfl)⟩) hS ?_
    simp only [Act.put, List.setIfInBounds_toArray, List.set_cons_zero, List.set_cons_succ]
    refine wpAnyH_take (i := 11) (v := .agg #[.int .i64 x.x.op, .int .i64 x.x.reg, .int .i64 x.x.loc, x.ev, x.fv, .bool x.x.ne, .int .i64 x.x.to]) rfl (by kernel_rfl) (by kernel_rfl) (by kernel_rfl) (fun _ _ _ h => h) (Or.inl ⟨by rfl, fun w hSw => by obtain ⟨s1, s2, s3, s4, ⟨t0, t1, t2, t3, t4, t5, t6⟩, s6, s7, s8, s9, s10, s11⟩ := hSw; first | (go_simp; done) | (go_simp; with_reducible rfl)⟩) hS ?_
    simp only [Act.put, List.setIfInBounds_toArray, List.set_cons_zero, List.set_cons_succ]
    refine wpAnyH_ready (rs := [12]) (by kernel_rfl) (by simp) ?_
    refine AllReadyH.cons rfl (fun K hK => ?_) AllReadyH.nil
    go_simp
    have KZ5 := Bk.new Wq.drew 57 #[.int .i64 0, .int .i64 0, .int .i64 0, .slice none 0 0, .slice none 0 0, .bool false, .int .i64 0]
    have BZ5 : Below W.heap.size W (World.alloc Wq (.cells #[.int .i64 0, .int .i64 0, .int .i64 0, .slice none 0 0, .slice none 0 0, .bool false, .int .i64 0] 57)).drew := bdr (bal BQ _)
    refine hK.out _ _ (HCC.out _ BZ5) (fun hS => ?_)
    clear hK K
    refine wpAnyH_ready (rs := [13]) (by kernel_rfl) (by simp) ?_
    refine AllReadyH.cons rfl (fun K hK => ?_) AllReadyH.nil
    rw [if_pos (by rfl)]
    refine wp_store_row 57 (.tmp 13) (.tmp 60) rfl Wq.heap.size #[.int .i64 x.x.op, .int .i64 x.x.reg, .int .i64 x.x.loc, x.ev, x.fv, .bool x.x.ne, .int .i64 x.x.to] rfl rfl 57 #[.int .i64 0, .int .i64 0, .int .i64 0, .slice none 0 0, .slice none 0 0, .bool false, .int .i64 0] KZ5 i_instr rfl HONE ?_
    have KI : Bk ((World.alloc Wq (.cells #[.int .i64 0, .int .i64 0, .int .i64 0, .slice none 0 0, .slice none 0 0, .bool false, .int .i64 0] 57)).drew.setRow Wq.heap.size #[.int .i64 x.x.op, .int .i64 x.x.reg, .int .i64 x.x.loc, x.ev, x.fv, .bool x.x.ne, .int .i64 x.x.to]) Wq.heap.size 57 #[.int .i64 x.x.op, .int .i64 x.x.reg, .int .i64 x.x.loc, x.ev, x.fv, .bool x.x.ne, .int .i64 x.x.to] := setRow_heap _ _ _ _ _ _ KZ5
    have B5 : Below W.heap.size W ((World.alloc Wq (.cells #[.int .i64 0, .int .i64 0, .int .i64 0, .slice none 0 0, .slice none 0 0, .bool false, .int .i64 0] 57)).drew.setRow Wq.heap.size #[.int .i64 x.x.op, .int .i64 x.x.reg, .int .i64 x.x.loc, x.ev, x.fv, .bool x.x.ne, .int .i64 x.x.to]) := below_setRow BZ5 BQ.size _
    refine hK.out _ _ (HCC.out _ B5) (fun hS => ?_)
    clear hK K
    refine wpAnyH_done (by kernel_rfl) ?_ _
    obtain ⟨eb, heb⟩ : ∃ e, e = Wq.heap.size := ⟨_, rfl⟩
    have HEB := Lib.hid heb
    rw [← heb] at KI B5 ⊢
    generalize World.setRow _ _ _ = W5 at KI B5 ⊢
    simp only [Act.put, List.setIfInBounds_toArray, List.set_cons_zero, List.set_cons_succ]
    have i0 : W5.cell? ⟨eb, 0, none⟩ = some (.int .i64 x.x.op) := KI.cell 0
    have il := KI.lt
    clear hS KZ5 BZ5 BQ heb
    have HC5 := Lib.hid (fun (W1 : World) (h : Below W5.heap.size W5 W1) => (⟨⟨(h.cell (p := ⟨eb, _, none⟩) il).trans i0, Nat.lt_of_lt_of_le il h.size⟩, h⟩ : (fun W1 => (W1.cell? ⟨eb, 0, none⟩ = some (.int .i64 x.x.op) ∧ eb < W1.heap.size) ∧ Below W5.heap.size W5 W1) W1))
    have b5d : Below W5.heap.size W5 W5.drew := below_draws' W5
    go_wp2_with fail
    refine wp_region_held_drew (S := fun W1 => (W1.cell? ⟨eb, 0, none⟩ = some (.int .i64 x.x.op) ∧ eb < W1.heap.size) ∧ Below W5.heap.size W5 W1) (by kernel_rfl) (HC5.out _ b5d) (fun hS => ?_)
    refine wpAnyH_take (i := 1) (v := .pointer (some ⟨eb, 0, none⟩)) rfl (by kernel_rfl) (by kernel_rfl) (by kernel_rfl) (fun _ _ _ h => h) (Or.inl ⟨by rfl, fun w hSw => by obtain ⟨⟨s1, s2⟩, s3⟩ := hSw; first | (go_simp; done) | (go_simp; with_reducible rfl)⟩) hS ?_
    simp only [Act.put, List.setIfInBounds_toArray, List.set_cons_zero, List.set_cons_succ]
    refine wpAnyH_take (i := 2) (v := .int .i64 x.x.op) rfl (by kernel_rfl) (by kernel_rfl) (by kernel_rfl) (fun _ _ _ h => h) (Or.inl ⟨by rfl, fun w hSw => by obtain ⟨⟨s1, s2⟩, s3⟩ := hSw; first | (go_simp; done) | (go_simp; with_reducible rfl)⟩) hS ?_
    simp only [Act.put, List.setIfInBounds_toArray, List.set_cons_zero, List.set_cons_succ]
    refine wpAnyH_ready (rs := [0, 7]) (by kernel_rfl) (by simp) ?_
    refine AllReadyH.cons rfl (fun K hK => ?_) (AllReadyH.cons rfl (fun K hK => ?_) AllReadyH.nil)
    · skip
      go_simp
      go_wp2_with (fail)
      refine (kinds_any _).mono ?_
      rintro e w6 ⟨rfl, hw_w6⟩
      have hm_w6 : w6.heap[W5.drew.heap.size]? = some (.map kindsA 10) := by rw [hw_w6]; exact (MapKept.heap_alloc _ _).1
      have b_w6 : Below W5.heap.size W5 w6 := by rw [hw_w6]; exact bal b5d _
      clear hw_w6
      go_wp2_with (fail)
      refine hK.out _ _ (HC5.out _ b_w6) (fun hS => ?_)
      clear hK K
      refine wpAnyH_ready (rs := [3, 7]) (by kernel_rfl) (by simp) ?_
      refine AllReadyH.cons rfl (fun K hK => ?_) (AllReadyH.cons rfl (fun K hK => ?_) AllReadyH.nil)
      · skip
        have hl := HKD.out w6 W5.heap.size hm_w6
        go_simp
        try (rw [hl]; go_wp2_with (fail))
        refine hK.out _ _ (HC5.out _ b_w6) (fun hS => ?_)
        clear hK K
        refine wpAnyH_take (i := 4) (v := .tuple #[.agg #[f1, f2], .bool q]) rfl (by kernel_rfl) (by kernel_rfl) (by kernel_rfl) (fun _ _ _ h => h) (Or.inl ⟨by rfl, fun w hSw => by obtain ⟨⟨s1, s2⟩, s3⟩ := hSw; first | (go_simp; done) | (go_simp; with_reducible rfl)⟩) hS ?_
        simp only [Act.put, List.setIfInBounds_toArray, List.set_cons_zero, List.set_cons_succ]
        refine wpAnyH_take (i := 5) (v := .agg #[f1, f2]) rfl (by kernel_rfl) (by kernel_rfl) (by kernel_rfl) (fun _ _ _ h => h) (Or.inl ⟨by rfl, fun w hSw => by obtain ⟨⟨s1, s2⟩, s3⟩ := hSw; first | (go_simp; done) | (go_simp; with_reducible rfl)⟩) hS ?_
        simp only [Act.put, List.setIfInBounds_toArray, List.set_cons_zero, List.set_cons_succ]
        refine wpAnyH_take (i := 6) (v := .bool q) rfl (by kernel_rfl) (by kernel_rfl) (by kernel_rfl) (fun _ _ _ h => h) (Or.inl ⟨by rfl, fun w hSw => by obtain ⟨⟨s1, s2⟩, s3⟩ := hSw; first | (go_simp; done) | (go_simp; with_reducible rfl)⟩) hS ?_
        simp only [Act.put, List.setIfInBounds_toArray, List.set_cons_zero, List.set_cons_succ]
        refine wpAnyH_ready (rs := [7]) (by kernel_rfl) (by simp) ?_
        refine AllReadyH.cons rfl (fun K hK => ?_) AllReadyH.nil
        go_simp
        have k_w7 := Bk.new w6 61 #[.nilFunc, .nilFunc]
        have b_w7 : Below W5.heap.size W5 (World.alloc w6 (.cells #[.nilFunc, .nilFunc] 61)) := bal b_w6 _
        refine hK.out _ _ (HC5.out _ b_w7) (fun hS => ?_)
        clear hK K
        refine wpAnyH_ready (rs := [8]) (by kernel_rfl) (by simp) ?_
        refine AllReadyH.cons rfl (fun K hK => ?_) AllReadyH.nil
        rw [if_pos (by rfl)]
        refine wp_store_row 61 (.tmp 14) (.tmp 66) rfl (w6.heap.size) #[f1, f2] rfl rfl 61 #[.nilFunc, .nilFunc] k_w7 i_kind rfl hone ?_
        have KT : Bk ((World.alloc w6 (.cells #[.nilFunc, .nilFunc] 61)).setRow (w6.heap.size) #[f1, f2]) (w6.heap.size) 61 #[f1, f2] := setRow_heap _ _ _ _ _ _ k_w7
        have hkb : W5.heap.size ≤ w6.heap.size := by first | exact Nat.le_refl _ | exact b_w6.size | (have := b_w6.size; simp at this ⊢; omega)
        have BT : Below W5.heap.size W5 ((World.alloc w6 (.cells #[.nilFunc, .nilFunc] 61)).setRow (w6.heap.size) #[f1, f2]) := below_setRow b_w7 hkb _
        refine hK.out _ _ (HC5.out _ BT) (fun hS => ?_)
        clear hK K
        simp only [Act.put, List.setIfInBounds_toArray, List.set_cons_zero, List.set_cons_succ]
        refine wpAnyH_take (i := 9) (v := .bool q) rfl (by kernel_rfl) (by kernel_rfl) (by kernel_rfl) (fun _ _ _ h => h) (Or.inl ⟨by rfl, fun w hSw => by obtain ⟨⟨s1, s2⟩, s3⟩ := hSw; first | (go_simp; done) | (go_simp; with_reducible rfl)⟩) hS ?_
        simp only [Act.put, List.setIfInBounds_toArray, List.set_cons_zero, List.set_cons_succ]
        refine wpAnyH_done (by kernel_rfl) ?_ _
        try simp only [Act.put, List.setIfInBounds_toArray, List.set_cons_zero, List.set_cons_succ]
        obtain ⟨kb, hkbq⟩ : ∃ z, z = w6.heap.size := ⟨_, rfl⟩
        rw [← hkbq] at KT BT hkb ⊢
        generalize World.setRow _ kb _ = W6 at KT BT ⊢
        subst hkbq
        have B6 := Lib.hid (B5.trans (BT.mono B5.size))
        have KZ6 := Lib.hid (KZ.out.below B6.out)
        have KI6 := Lib.hid (KI.below BT)
        have KA6 := Lib.hid (KA2.out.below B6.out)
        have KB6 := Lib.hid (KB2.out.below B6.out)
        have KT6 := Lib.hid KT
        have L6 := Lib.hid (LL.out.trans (B6.out.mono LL.out.size))
        have HT1 : (turnA m model room (.slice (some ⟨bp, op, none⟩) n dp) (.slice yr n dr) (.slice ym nm dm) (.slice yb n db) k x f1 f2).all (·.oneCell') = true := by
          unfold turnA
          rw [HEV.out, HFV.out]
          simpa [Value.oneCell'] using hone
        clear KT KI BT hS HC5 i0 il
        obtain ⟨a0, al2, b0, b1, b2, b3, bl2⟩ : W6.cell? ⟨w.heap.size, 0, none⟩ = some (.int .i64 m) ∧ w.heap.size < W6.heap.size ∧ W6.cell? ⟨w.heap.size + 1, 0, none⟩ = some (.slice (some ⟨bp, op, none⟩) n dp) ∧ W6.cell? ⟨w.heap.size + 1, 1, none⟩ = some (.slice yr n dr) ∧ W6.cell? ⟨w.heap.size + 1, 2, none⟩ = some (.slice ym nm dm) ∧ W6.cell? ⟨w.heap.size + 1, 3, none⟩ = some (.slice yb n db) ∧ w.heap.size + 1 < W6.heap.size := ⟨KA6.out.cell 0, KA6.out.lt, KB6.out.cell 0, KB6.out.cell 1, KB6.out.cell 2, KB6.out.cell 3, KB6.out.lt⟩
        obtain ⟨i0, i1, i2, i3, i4, i5, i6, il⟩ : W6.cell? ⟨eb, 0, none⟩ = some (.int .i64 x.x.op) ∧ W6.cell? ⟨eb, 1, none⟩ = some (.int .i64 x.x.reg) ∧ W6.cell? ⟨eb, 2, none⟩ = some (.int .i64 x.x.loc) ∧ W6.cell? ⟨eb, 3, none⟩ = some x.ev ∧ W6.cell? ⟨eb, 4, none⟩ = some x.fv ∧ W6.cell? ⟨eb, 5, none⟩ = some (.bool x.x.ne) ∧ W6.cell? ⟨eb, 6, none⟩ = some (.int .i64 x.x.to) ∧ eb < W6.heap.size := ⟨KI6.out.cell 0, KI6.out.cell 1, KI6.out.cell 2, KI6.out.cell 3, KI6.out.cell 4, KI6.out.cell 5, KI6.out.cell 6, KI6.out.lt⟩
        have t0 := KT6.out.cell 0
        have t1 := KT6.out.cell 1
        have tl := KT6.out.lt
        change _ = some f1 at t0
        change _ = some f2 at t1
        go_wp2_with (refine wpList_store_row (P := Tryz.prog) rfl 63 (.tmp 10) _ rfl (w.heap.size + 1 + 1) (turnA m model room (.slice (some ⟨bp, op, none⟩) n dp) (.slice yr n dr) (.slice ym nm dm) (.slice yb n db) k x f1 f2) rfl rfl 63 zeroT KZ6.out i_turn' rfl HT1 ?_)
        have KR := Lib.hid (setRow_heap _ _ _ (turnA m model room (.slice (some ⟨bp, op, none⟩) n dp) (.slice yr n dr) (.slice ym nm dm) (.slice yb n db) k x f1 f2) _ _ KZ6.out)
        exact bodyPost_ret (v := .tuple #[.agg (turnA m model room (.slice (some ⟨bp, op, none⟩) n dp) (.slice yr n dr) (.slice ym nm dm) (.slice yb n db) k x f1 f2), .bool q]) (results_turn rfl _ _ _ (turnA m model room (.slice (some ⟨bp, op, none⟩) n dp) (.slice yr n dr) (.slice ym nm dm) (.slice yb n db) k x f1 f2) _ rfl rfl KR.out rfl) rfl ⟨rfl, below_setRow L6.out (show w.heap.size ≤ w.heap.size + 1 + 1 by omega) _⟩
      · skip
        go_simp
        have k_w7 := Bk.new w6 61 #[.nilFunc, .nilFunc]
        have b_w7 : Below W5.heap.size W5 (World.alloc w6 (.cells #[.nilFunc, .nilFunc] 61)) := bal b_w6 _
        refine hK.out _ _ (HC5.out _ b_w7) (fun hS => ?_)
        clear hK K
        refine wpAnyH_ready (rs := [3]) (by kernel_rfl) (by simp) ?_
        refine AllReadyH.cons rfl (fun K hK => ?_) AllReadyH.nil
        have hm7 : (World.alloc w6 (.cells #[.nilFunc, .nilFunc] 61)).heap[W5.heap.size]? = some (.map kindsA 10) := ((bal (Below.refl w6.heap.size w6) _).block _ (Array.getElem?_eq_some_iff.1 hm_w6).1).trans hm_w6
        have hl := HKD.out (World.alloc w6 (.cells #[.nilFunc, .nilFunc] 61)) W5.heap.size hm7
        go_simp
        try (rw [hl]; go_wp2_with (fail))
        refine hK.out _ _ (HC5.out _ b_w7) (fun hS => ?_)
        clear hK K
        refine wpAnyH_take (i := 4) (v := .tuple #[.agg #[f1, f2], .bool q]) rfl (by kernel_rfl) (by kernel_rfl) (by kernel_rfl) (fun _ _ _ h => h) (Or.inl ⟨by rfl, fun w hSw => by obtain ⟨⟨s1, s2⟩, s3⟩ := hSw; first | (go_simp; done) | (go_simp; with_reducible rfl)⟩) hS ?_
        simp only [Act.put, List.setIfInBounds_toArray, List.set_cons_zero, List.set_cons_succ]
        refine wpAnyH_take (i := 5) (v := .agg #[f1, f2]) rfl (by kernel_rfl) (by kernel_rfl) (by kernel_rfl) (fun _ _ _ h => h) (Or.inl ⟨by rfl, fun w hSw => by obtain ⟨⟨s1, s2⟩, s3⟩ := hSw; first | (go_simp; done) | (go_simp; with_reducible rfl)⟩) hS ?_
        simp only [Act.put, List.setIfInBounds_toArray, List.set_cons_zero, List.set_cons_succ]
        refine wpAnyH_take (i := 6) (v := .bool q) rfl (by kernel_rfl) (by kernel_rfl) (by kernel_rfl) (fun _ _ _ h => h) (Or.inl ⟨by rfl, fun w hSw => by obtain ⟨⟨s1, s2⟩, s3⟩ := hSw; first | (go_simp; done) | (go_simp; with_reducible rfl)⟩) hS ?_
        simp only [Act.put, List.setIfInBounds_toArray, List.set_cons_zero, List.set_cons_succ]
        refine wpAnyH_ready (rs := [8]) (by kernel_rfl) (by simp) ?_
        refine AllReadyH.cons rfl (fun K hK => ?_) AllReadyH.nil
        rw [if_pos (by rfl)]
        refine wp_store_row 61 (.tmp 14) (.tmp 66) rfl (w6.heap.size) #[f1, f2] rfl rfl 61 #[.nilFunc, .nilFunc] k_w7 i_kind rfl hone ?_
        have KT : Bk ((World.alloc w6 (.cells #[.nilFunc, .nilFunc] 61)).setRow (w6.heap.size) #[f1, f2]) (w6.heap.size) 61 #[f1, f2] := setRow_heap _ _ _ _ _ _ k_w7
        have hkb : W5.heap.size ≤ w6.heap.size := by first | exact Nat.le_refl _ | exact b_w6.size | (have := b_w6.size; simp at this ⊢; omega)
        have BT : Below W5.heap.size W5 ((World.alloc w6 (.cells #[.nilFunc, .nilFunc] 61)).setRow (w6.heap.size) #[f1, f2]) := below_setRow b_w7 hkb _
        refine hK.out _ _ (HC5.out _ BT) (fun hS => ?_)
        clear hK K
        simp only [Act.put, List.setIfInBounds_toArray, List.set_cons_zero, List.set_cons_succ]
        refine wpAnyH_take (i := 9) (v := .bool q) rfl (by kernel_rfl) (by kernel_rfl) (by kernel_rfl) (fun _ _ _ h => h) (Or.inl ⟨by rfl, fun w hSw => by obtain ⟨⟨s1, s2⟩, s3⟩ := hSw; first | (go_simp; done) | (go_simp; with_reducible rfl)⟩) hS ?_
        simp only [Act.put, List.setIfInBounds_toArray, List.set_cons_zero, List.set_cons_succ]
        refine wpAnyH_done (by kernel_rfl) ?_ _
        try simp only [Act.put, List.setIfInBounds_toArray, List.set_cons_zero, List.set_cons_succ]
        obtain ⟨kb, hkbq⟩ : ∃ z, z = w6.heap.size := ⟨_, rfl⟩
        rw [← hkbq] at KT BT hkb ⊢
        generalize World.setRow _ kb _ = W6 at KT BT ⊢
        subst hkbq
        have B6 := Lib.hid (B5.trans (BT.mono B5.size))
        have KZ6 := Lib.hid (KZ.out.below B6.out)
        have KI6 := Lib.hid (KI.below BT)
        have KA6 := Lib.hid (KA2.out.below B6.out)
        have KB6 := Lib.hid (KB2.out.below B6.out)
        have KT6 := Lib.hid KT
        have L6 := Lib.hid (LL.out.trans (B6.out.mono LL.out.size))
        have HT1 : (turnA m model room (.slice (some ⟨bp, op, none⟩) n dp) (.slice yr n dr) (.slice ym nm dm) (.slice yb n db) k x f1 f2).all (·.oneCell') = true := by
          unfold turnA
          rw [HEV.out, HFV.out]
          simpa [Value.oneCell'] using hone
        clear KT KI BT hS HC5 i0 il
        obtain ⟨a0, al2, b0, b1, b2, b3, bl2⟩ : W6.cell? ⟨w.heap.size, 0, none⟩ = some (.int .i64 m) ∧ w.heap.size < W6.heap.size ∧ W6.cell? ⟨w.heap.size + 1, 0, none⟩ = some (.slice (some ⟨bp, op, none⟩) n dp) ∧ W6.cell? ⟨w.heap.size + 1, 1, none⟩ = some (.slice yr n dr) ∧ W6.cell? ⟨w.heap.size + 1, 2, none⟩ = some (.slice ym nm dm) ∧ W6.cell? ⟨w.heap.size + 1, 3, none⟩ = some (.slice yb n db) ∧ w.heap.size + 1 < W6.heap.size := ⟨KA6.out.cell 0, KA6.out.lt, KB6.out.cell 0, KB6.out.cell 1, KB6.out.cell 2, KB6.out.cell 3, KB6.out.lt⟩
        obtain ⟨i0, i1, i2, i3, i4, i5, i6, il⟩ : W6.cell? ⟨eb, 0, none⟩ = some (.int .i64 x.x.op) ∧ W6.cell? ⟨eb, 1, none⟩ = some (.int .i64 x.x.reg) ∧ W6.cell? ⟨eb, 2, none⟩ = some (.int .i64 x.x.loc) ∧ W6.cell? ⟨eb, 3, none⟩ = some x.ev ∧ W6.cell? ⟨eb, 4, none⟩ = some x.fv ∧ W6.cell? ⟨eb, 5, none⟩ = some (.bool x.x.ne) ∧ W6.cell? ⟨eb, 6, none⟩ = some (.int .i64 x.x.to) ∧ eb < W6.heap.size := ⟨KI6.out.cell 0, KI6.out.cell 1, KI6.out.cell 2, KI6.out.cell 3, KI6.out.cell 4, KI6.out.cell 5, KI6.out.cell 6, KI6.out.lt⟩
        have t0 := KT6.out.cell 0
        have t1 := KT6.out.cell 1
        have tl := KT6.out.lt
        change _ = some f1 at t0
        change _ = some f2 at t1
        go_wp2_with (refine wpList_store_row (P := Tryz.prog) rfl 63 (.tmp 10) _ rfl (w.heap.size + 1 + 1) (turnA m model room (.slice (some ⟨bp, op, none⟩) n dp) (.slice yr n dr) (.slice ym nm dm) (.slice yb n db) k x f1 f2) rfl rfl 63 zeroT KZ6.out i_turn' rfl HT1 ?_)
        have KR := Lib.hid (setRow_heap _ _ _ (turnA m model room (.slice (some ⟨bp, op, none⟩) n dp) (.slice yr n dr) (.slice ym nm dm) (.slice yb n db) k x f1 f2) _ _ KZ6.out)
        exact bodyPost_ret (v := .tuple #[.agg (turnA m model room (.slice (some ⟨bp, op, none⟩) n dp) (.slice yr n dr) (.slice ym nm dm) (.slice yb n db) k x f1 f2), .bool q]) (results_turn rfl _ _ _ (turnA m model room (.slice (some ⟨bp, op, none⟩) n dp) (.slice yr n dr) (.slice ym nm dm) (.slice yb n db) k x f1 f2) _ rfl rfl KR.out rfl) rfl ⟨rfl, below_setRow L6.out (show w.heap.size ≤ w.heap.size + 1 + 1 by omega) _⟩
    · skip
      go_simp
      have k_w7 := Bk.new W5 61 #[.nilFunc, .nilFunc]
      have b_w7 : Below W5.heap.size W5 ((World.alloc W5 (.cells #[.nilFunc, .nilFunc] 61)).drew) := bdr (bal (Below.refl _ _) _)
      refine hK.out _ _ (HC5.out _ b_w7) (fun hS => ?_)
      clear hK K
      refine wpAnyH_ready (rs := [0]) (by kernel_rfl) (by simp) ?_
      refine AllReadyH.cons rfl (fun K hK => ?_) AllReadyH.nil
      go_simp
      go_wp2_with (fail)
      refine (kinds_any _).mono ?_
      rintro e w6 ⟨rfl, hw_w6⟩
      have k_w6 : Bk w6 W5.heap.size 61 #[.nilFunc, .nilFunc] := by rw [hw_w6]; exact Bk.below (show Bk (World.alloc W5 (.cells #[.nilFunc, .nilFunc] 61)).drew W5.heap.size 61 #[.nilFunc, .nilFunc] from k_w7) (bal (Below.refl _ _) _)
      have hm_w6 : w6.heap[(World.alloc W5 (.cells #[.nilFunc, .nilFunc] 61)).drew.heap.size]? = some (.map kindsA 10) := by rw [hw_w6]; exact (MapKept.heap_alloc _ _).1
      have b_w6 : Below W5.heap.size W5 w6 := by rw [hw_w6]; exact bal b_w7 _
      clear hw_w6
      go_wp2_with (fail)
      refine hK.out _ _ (HC5.out _ b_w6) (fun hS => ?_)
      clear hK K
      refine wpAnyH_ready (rs := [3]) (by kernel_rfl) (by simp) ?_
      refine AllReadyH.cons rfl (fun K hK => ?_) AllReadyH.nil
      have hl := HKD.out w6 (W5.heap.size + 1) (by have h := hm_w6; rw [show ((World.alloc W5 (.cells #[.nilFunc, .nilFunc] 61)).drew).heap.size = W5.heap.size + 1 from alloc_size _ _] at h; exact h)
      go_simp
      try (rw [hl]; go_wp2_with (fail))
      refine hK.out _ _ (HC5.out _ b_w6) (fun hS => ?_)
      clear hK K
      refine wpAnyH_take (i := 4) (v := .tuple #[.agg #[f1, f2], .bool q]) rfl (by kernel_rfl) (by kernel_rfl) (by kernel_rfl) (fun _ _ _ h => h) (Or.inl ⟨by rfl, fun w hSw => by obtain ⟨⟨s1, s2⟩, s3⟩ := hSw; first | (go_simp; done) | (go_simp; with_reducible rfl)⟩) hS ?_
      simp only [Act.put, List.setIfInBounds_toArray, List.set_cons_zero, List.set_cons_succ]
      refine wpAnyH_take (i := 5) (v := .agg #[f1, f2]) rfl (by kernel_rfl) (by kernel_rfl) (by kernel_rfl) (fun _ _ _ h => h) (Or.inl ⟨by rfl, fun w hSw => by obtain ⟨⟨s1, s2⟩, s3⟩ := hSw; first | (go_simp; done) | (go_simp; with_reducible rfl)⟩) hS ?_
      simp only [Act.put, List.setIfInBounds_toArray, List.set_cons_zero, List.set_cons_succ]
      refine wpAnyH_take (i := 6) (v := .bool q) rfl (by kernel_rfl) (by kernel_rfl) (by kernel_rfl) (fun _ _ _ h => h) (Or.inl ⟨by rfl, fun w hSw => by obtain ⟨⟨s1, s2⟩, s3⟩ := hSw; first | (go_simp; done) | (go_simp; with_reducible rfl)⟩) hS ?_
      simp only [Act.put, List.setIfInBounds_toArray, List.set_cons_zero, List.set_cons_succ]
      refine wpAnyH_ready (rs := [8]) (by kernel_rfl) (by simp) ?_
      refine AllReadyH.cons rfl (fun K hK => ?_) AllReadyH.nil
      rw [if_pos (by rfl)]
      refine wp_store_row 61 (.tmp 14) (.tmp 66) rfl (W5.heap.size) #[f1, f2] rfl rfl 61 #[.nilFunc, .nilFunc] k_w6 i_kind rfl hone ?_
      have KT : Bk ((w6).setRow (W5.heap.size) #[f1, f2]) (W5.heap.size) 61 #[f1, f2] := setRow_heap _ _ _ _ _ _ k_w6
      have hkb : W5.heap.size ≤ W5.heap.size := by first | exact Nat.le_refl _ | exact b_w6.size | (have := b_w6.size; simp at this ⊢; omega)
      have BT : Below W5.heap.size W5 ((w6).setRow (W5.heap.size) #[f1, f2]) := below_setRow b_w6 hkb _
      refine hK.out _ _ (HC5.out _ BT) (fun hS => ?_)
      clear hK K
      simp only [Act.put, List.setIfInBounds_toArray, List.set_cons_zero, List.set_cons_succ]
      refine wpAnyH_take (i := 9) (v := .bool q) rfl (by kernel_rfl) (by kernel_rfl) (by kernel_rfl) (fun _ _ _ h => h) (Or.inl ⟨by rfl, fun w hSw => by obtain ⟨⟨s1, s2⟩, s3⟩ := hSw; first | (go_simp; done) | (go_simp; with_reducible rfl)⟩) hS ?_
      simp only [Act.put, List.setIfInBounds_toArray, List.set_cons_zero, List.set_cons_succ]
      refine wpAnyH_done (by kernel_rfl) ?_ _
      try simp only [Act.put, List.setIfInBounds_toArray, List.set_cons_zero, List.set_cons_succ]
      obtain ⟨kb, hkbq⟩ : ∃ z, z = W5.heap.size := ⟨_, rfl⟩
      rw [← hkbq] at KT BT hkb ⊢
      generalize World.setRow _ kb _ = W6 at KT BT ⊢
      subst hkbq
      have B6 := Lib.hid (B5.trans (BT.mono B5.size))
      have KZ6 := Lib.hid (KZ.out.below B6.out)
      have KI6 := Lib.hid (KI.below BT)
      have KA6 := Lib.hid (KA2.out.below B6.out)
      have KB6 := Lib.hid (KB2.out.below B6.out)
      have KT6 := Lib.hid KT
      have L6 := Lib.hid (LL.out.trans (B6.out.mono LL.out.size))
      have HT1 : (turnA m model room (.slice (some ⟨bp, op, none⟩) n dp) (.slice yr n dr) (.slice ym nm dm) (.slice yb n db) k x f1 f2).all (·.oneCell') = true := by
        unfold turnA
        rw [HEV.out, HFV.out]
        simpa [Value.oneCell'] using hone
      clear KT KI BT hS HC5 i0 il
      obtain ⟨a0, al2, b0, b1, b2, b3, bl2⟩ : W6.cell? ⟨w.heap.size, 0, none⟩ = some (.int .i64 m) ∧ w.heap.size < W6.heap.size ∧ W6.cell? ⟨w.heap.size + 1, 0, none⟩ = some (.slice (some ⟨bp, op, none⟩) n dp) ∧ W6.cell? ⟨w.heap.size + 1, 1, none⟩ = some (.slice yr n dr) ∧ W6.cell? ⟨w.heap.size + 1, 2, none⟩ = some (.slice ym nm dm) ∧ W6.cell? ⟨w.heap.size + 1, 3, none⟩ = some (.slice yb n db) ∧ w.heap.size + 1 < W6.heap.size := ⟨KA6.out.cell 0, KA6.out.lt, KB6.out.cell 0, KB6.out.cell 1, KB6.out.cell 2, KB6.out.cell 3, KB6.out.lt⟩
      obtain ⟨i0, i1, i2, i3, i4, i5, i6, il⟩ : W6.cell? ⟨eb, 0, none⟩ = some (.int .i64 x.x.op) ∧ W6.cell? ⟨eb, 1, none⟩ = some (.int .i64 x.x.reg) ∧ W6.cell? ⟨eb, 2, none⟩ = some (.int .i64 x.x.loc) ∧ W6.cell? ⟨eb, 3, none⟩ = some x.ev ∧ W6.cell? ⟨eb, 4, none⟩ = some x.fv ∧ W6.cell? ⟨eb, 5, none⟩ = some (.bool x.x.ne) ∧ W6.cell? ⟨eb, 6, none⟩ = some (.int .i64 x.x.to) ∧ eb < W6.heap.size := ⟨KI6.out.cell 0, KI6.out.cell 1, KI6.out.cell 2, KI6.out.cell 3, KI6.out.cell 4, KI6.out.cell 5, KI6.out.cell 6, KI6.out.lt⟩
      have t0 := KT6.out.cell 0
      have t1 := KT6.out.cell 1
      have tl := KT6.out.lt
      change _ = some f1 at t0
      change _ = some f2 at t1
      go_wp2_with (refine wpList_store_row (P := Tryz.prog) rfl 63 (.tmp 10) _ rfl (w.heap.size + 1 + 1) (turnA m model room (.slice (some ⟨bp, op, none⟩) n dp) (.slice yr n dr) (.slice ym nm dm) (.slice yb n db) k x f1 f2) rfl rfl 63 zeroT KZ6.out i_turn' rfl HT1 ?_)
      have KR := Lib.hid (setRow_heap _ _ _ (turnA m model room (.slice (some ⟨bp, op, none⟩) n dp) (.slice yr n dr) (.slice ym nm dm) (.slice yb n db) k x f1 f2) _ _ KZ6.out)
      exact bodyPost_ret (v := .tuple #[.agg (turnA m model room (.slice (some ⟨bp, op, none⟩) n dp) (.slice yr n dr) (.slice ym nm dm) (.slice yb n db) k x f1 f2), .bool q]) (results_turn rfl _ _ _ (turnA m model room (.slice (some ⟨bp, op, none⟩) n dp) (.slice yr n dr) (.slice ym nm dm) (.slice yb n db) k x f1 f2) _ rfl rfl KR.out rfl) rfl ⟨rfl, below_setRow L6.out (show w.heap.size ≤ w.heap.size + 1 + 1 by omega) _⟩
end Go.Proofs.YtacbanfnakgecaaGreat
