/- Layer 11, the code: what an agent does, by what the step does. Layer 11, the code: Enabled and Act, by what the steps do. -/
import Derived.Test.YtacbanfnakgecaaGreatCy
import Derived.Test.YtacbanfnakgecaaGreatVg
import Derived.Test.YtacbanfnakgecaaGreatVa
namespace Go.Proofs.YtacbanfnakgecaaGreat
set_option linter.unusedSimpArgs false
set_option linter.unusedVariables false
open Go.RowKit
def StepIs (b : Bool) (q : Pf) (w : World) (e : Ending) (w' : World) : Prop :=
  ∃ (d : Cf) (yp yr ym yb : Value), e = .returned (.tuple #[.agg #[yp, yr, ym, yb], .bool b]) ∧ OwnC w' w.heap.size yp yr ym yb d ∧ d.pf = q ∧ Below w.heap.size w w'
set_option maxRecDepth 100000 in
set_option maxHeartbeats 2000000 in
theorem thr_en (m model room t : Int) (vi vr vc : Value) (xp xr xm xb : Value) (w : World) (b : Bool)
    (H : ∀ W, Below w.heap.size w W → Calls Tryz.prog 11 #[.agg #[.int .i64 m, vi, vr, vc], .agg #[xp, xr, xm, xb], .int .i64 model, .int .i64 room, .int .i64 t] W fun e w' => e = .returned (.bool b) ∧ Below W.heap.size W w') :
    Calls Tryz.prog 168 #[.agg #[.int .i64 m, vi, vr, vc, .int .i64 model, .int .i64 t], .agg #[xp, xr, xm, xb], .int .i64 room] w fun e w' => e = .returned (.bool b) ∧ Below w.heap.size w w' := by
  have HH := Lib.hid H
  clear H
  have L0 := Lib.hid (two_new w 103 29 #[.int .i64 m, vi, vr, vc, .int .i64 model, .int .i64 t] #[xp, xr, xm, xb]).1
  go_enter Tryz.func168, Tryz.ntmps168
  go_wp2_with fail
  generalize World.alloc (World.alloc w _) _ = w1 at L0 ⊢
  refine (HH.out w1 L0.out).mono ?_
  rintro e w2 ⟨rfl, b⟩
  go_wp2_with fail
  go_ret
  exact ⟨rfl, L0.out.trans (b.mono L0.out.size)⟩
set_option maxRecDepth 100000 in
set_option maxHeartbeats 2000000 in
theorem thr_ac (m model room t : Int) (vi vr vc : Value) (xp xr xm xb : Value) (w : World) (b : Bool) (q : Pf)
    (H : ∀ W, Below w.heap.size w W → Calls Tryz.prog 8 #[.agg #[.int .i64 m, vi, vr, vc], .agg #[xp, xr, xm, xb], .int .i64 model, .int .i64 room, .int .i64 t] W (StepIs b q W)) :
    Calls Tryz.prog 167 #[.agg #[.int .i64 m, vi, vr, vc, .int .i64 model, .int .i64 t], .agg #[xp, xr, xm, xb], .int .i64 room] w (StepIs b q w) := by
  have HH := Lib.hid H
  clear H
  have L2 := two_new w 103 29 #[.int .i64 m, vi, vr, vc, .int .i64 model, .int .i64 t] #[xp, xr, xm, xb]
  have L0 := Lib.hid (bal L2.1 (.cells #[.slice none 0 0, .slice none 0 0, .slice none 0 0, .slice none 0 0] 29))
  have KZ := Lib.hid (bk_at3 w (.cells #[.int .i64 m, vi, vr, vc, .int .i64 model, .int .i64 t] 103) (.cells #[xp, xr, xm, xb] 29) 29 #[.slice none 0 0, .slice none 0 0, .slice none 0 0, .slice none 0 0])
  have SZ : Hid ((((w.alloc (.cells #[.int .i64 m, vi, vr, vc, .int .i64 model, .int .i64 t] 103)).alloc (.cells #[xp, xr, xm, xb] 29)).alloc (.cells #[.slice none 0 0, .slice none 0 0, .slice none 0 0, .slice none 0 0] 29)).heap.size = w.heap.size + 1 + 1 + 1) := Lib.hid (by simp only [alloc_size])
  clear L2
  go_enter Tryz.func167, Tryz.ntmps167
  go_wp2_with fail
  generalize World.alloc (World.alloc (World.alloc w _) _) _ = w1 at L0 KZ SZ ⊢
  refine (HH.out w1 L0.out).mono ?_
  rintro e w2 ⟨d, yp, yr, ym, yb, rfl, od, hd, b⟩
  obtain ⟨a0, n0, a1, n1, a2, n2, a3, n3, rfl, rfl, rfl, rfl⟩ := od.shapes
  have OD := Lib.hid od
  have HD := Lib.hid hd
  have KZ2 := Lib.hid (KZ.out.below b)
  have B2 := Lib.hid (L0.out.trans (b.mono L0.out.size))
  clear od hd b KZ L0 HH
  obtain ⟨z0, z1, z2, z3, y0, y1, y2, y3, lz⟩ : w2.cell? ⟨w.heap.size + 1 + 1, 0, none⟩ = some (.slice none 0 0) ∧ w2.cell? ⟨w.heap.size + 1 + 1, 1, none⟩ = some (.slice none 0 0) ∧ w2.cell? ⟨w.heap.size + 1 + 1, 2, none⟩ = some (.slice none 0 0) ∧ w2.cell? ⟨w.heap.size + 1 + 1, 3, none⟩ = some (.slice none 0 0) ∧ w2.frozen? ⟨w.heap.size + 1 + 1, 0, none⟩ = false ∧ w2.frozen? ⟨w.heap.size + 1 + 1, 1, none⟩ = false ∧ w2.frozen? ⟨w.heap.size + 1 + 1, 2, none⟩ = false ∧ w2.frozen? ⟨w.heap.size + 1 + 1, 3, none⟩ = false ∧ w.heap.size + 1 + 1 < w2.heap.size := ⟨KZ2.out.cell 0, KZ2.out.cell 1, KZ2.out.cell 2, KZ2.out.cell 3, KZ2.out.fz 0, KZ2.out.fz 1, KZ2.out.fz 2, KZ2.out.fz 3, KZ2.out.lt⟩
  go_wp2_with fail
  have KF := Lib.hid (set4_bk (.slice a0 d.pc.length n0) (.slice a1 d.regs.length n1) (.slice a2 d.mem.length n2) (.slice a3 d.buf.length n3) KZ2.out)
  have kp := Lib.hid (set4_kp (w := w2) (B := w1.heap.size) (.slice a0 d.pc.length n0) (.slice a1 d.regs.length n1) (.slice a2 d.mem.length n2) (.slice a3 d.buf.length n3) (show w.heap.size + 1 + 1 < w1.heap.size by have := SZ.out; omega))
  have BF := Lib.hid (set4_below (.slice a0 d.pc.length n0) (.slice a1 d.regs.length n1) (.slice a2 d.mem.length n2) (.slice a3 d.buf.length n3) B2.out (show w.heap.size ≤ w.heap.size + 1 + 1 by omega))
  generalize (((w2.setCell _ _).setCell _ _).setCell _ _).setCell _ _ = w4 at KF kp BF ⊢
  clear z0 z1 z2 z3 y0 y1 y2 y3 lz
  have d0 : w4.cell? ⟨w.heap.size + 1 + 1, 0, none⟩ = some _ := KF.out.cell 0
  have d1 : w4.cell? ⟨w.heap.size + 1 + 1, 1, none⟩ = some _ := KF.out.cell 1
  have d2 : w4.cell? ⟨w.heap.size + 1 + 1, 2, none⟩ = some _ := KF.out.cell 2
  have d3 : w4.cell? ⟨w.heap.size + 1 + 1, 3, none⟩ = some _ := KF.out.cell 3
  refine bodyPost_ret (v := .tuple #[.agg #[.slice a0 d.pc.length n0, .slice a1 d.regs.length n1, .slice a2 d.mem.length n2, .slice a3 d.buf.length n3], .bool b]) (by simp [results, Tryz.results167, go_sem, d0, d1, d2, d3]) rfl ?_
  exact ⟨d, _, _, _, _, rfl, (OD.out.kp kp.out).base (by have := SZ.out; omega), HD.out, BF.out⟩
set_option maxRecDepth 100000 in
set_option maxHeartbeats 2000000 in
theorem fl_en (model room t loc : Int) (xp xr xm xb : Value) (w : World) (b : Bool)
    (H : ∀ W, Below w.heap.size w W → Calls Tryz.prog 30 #[.agg #[xp, xr, xm, xb], .int .i64 model, .int .i64 t, .int .i64 loc] W fun e w' => e = .returned (.bool b) ∧ Below W.heap.size W w') :
    Calls Tryz.prog 185 #[.agg #[.int .i64 model, .int .i64 t, .int .i64 loc], .agg #[xp, xr, xm, xb], .int .i64 room] w fun e w' => e = .returned (.bool b) ∧ Below w.heap.size w w' := by
  have HH := Lib.hid H
  clear H
  have L0 := Lib.hid (two_new w 105 29 #[.int .i64 model, .int .i64 t, .int .i64 loc] #[xp, xr, xm, xb]).1
  go_enter Tryz.func185, Tryz.ntmps185
  go_wp2_with fail
  generalize World.alloc (World.alloc w _) _ = w1 at L0 ⊢
  refine (HH.out w1 L0.out).mono ?_
  rintro e w2 ⟨rfl, b⟩
  go_wp2_with fail
  go_ret
  exact ⟨rfl, L0.out.trans (b.mono L0.out.size)⟩
set_option maxRecDepth 100000 in
set_option maxHeartbeats 2000000 in
theorem fl_ac (model room t loc : Int) (xp xr xm xb : Value) (w : World) (b : Bool) (q : Pf)
    (H : ∀ W, Below w.heap.size w W → Calls Tryz.prog 28 #[.agg #[xp, xr, xm, xb], .int .i64 model, .int .i64 t, .int .i64 loc] W (StepIs b q W)) :
    Calls Tryz.prog 184 #[.agg #[.int .i64 model, .int .i64 t, .int .i64 loc], .agg #[xp, xr, xm, xb], .int .i64 room] w (StepIs b q w) := by
  have HH := Lib.hid H
  clear H
  have L2 := two_new w 105 29 #[.int .i64 model, .int .i64 t, .int .i64 loc] #[xp, xr, xm, xb]
  have L0 := Lib.hid (bal L2.1 (.cells #[.slice none 0 0, .slice none 0 0, .slice none 0 0, .slice none 0 0] 29))
  have KZ := Lib.hid (bk_at3 w (.cells #[.int .i64 model, .int .i64 t, .int .i64 loc] 105) (.cells #[xp, xr, xm, xb] 29) 29 #[.slice none 0 0, .slice none 0 0, .slice none 0 0, .slice none 0 0])
  have SZ : Hid ((((w.alloc (.cells #[.int .i64 model, .int .i64 t, .int .i64 loc] 105)).alloc (.cells #[xp, xr, xm, xb] 29)).alloc (.cells #[.slice none 0 0, .slice none 0 0, .slice none 0 0, .slice none 0 0] 29)).heap.size = w.heap.size + 1 + 1 + 1) := Lib.hid (by simp only [alloc_size])
  clear L2
  go_enter Tryz.func184, Tryz.ntmps184
  go_wp2_with fail
  generalize World.alloc (World.alloc (World.alloc w _) _) _ = w1 at L0 KZ SZ ⊢
  refine (HH.out w1 L0.out).mono ?_
  rintro e w2 ⟨d, yp, yr, ym, yb, rfl, od, hd, b⟩
  obtain ⟨a0, n0, a1, n1, a2, n2, a3, n3, rfl, rfl, rfl, rfl⟩ := od.shapes
  have OD := Lib.hid od
  have HD := Lib.hid hd
  have KZ2 := Lib.hid (KZ.out.below b)
  have B2 := Lib.hid (L0.out.trans (b.mono L0.out.size))
  clear od hd b KZ L0 HH
  obtain ⟨z0, z1, z2, z3, y0, y1, y2, y3, lz⟩ : w2.cell? ⟨w.heap.size + 1 + 1, 0, none⟩ = some (.slice none 0 0) ∧ w2.cell? ⟨w.heap.size + 1 + 1, 1, none⟩ = some (.slice none 0 0) ∧ w2.cell? ⟨w.heap.size + 1 + 1, 2, none⟩ = some (.slice none 0 0) ∧ w2.cell? ⟨w.heap.size + 1 + 1, 3, none⟩ = some (.slice none 0 0) ∧ w2.frozen? ⟨w.heap.size + 1 + 1, 0, none⟩ = false ∧ w2.frozen? ⟨w.heap.size + 1 + 1, 1, none⟩ = false ∧ w2.frozen? ⟨w.heap.size + 1 + 1, 2, none⟩ = false ∧ w2.frozen? ⟨w.heap.size + 1 + 1, 3, none⟩ = false ∧ w.heap.size + 1 + 1 < w2.heap.size := ⟨KZ2.out.cell 0, KZ2.out.cell 1, KZ2.out.cell 2, KZ2.out.cell 3, KZ2.out.fz 0, KZ2.out.fz 1, KZ2.out.fz 2, KZ2.out.fz 3, KZ2.out.lt⟩
  go_wp2_with fail
  have KF := Lib.hid (set4_bk (.slice a0 d.pc.length n0) (.slice a1 d.regs.length n1) (.slice a2 d.mem.length n2) (.slice a3 d.buf.length n3) KZ2.out)
  have kp := Lib.hid (set4_kp (w := w2) (B := w1.heap.size) (.slice a0 d.pc.length n0) (.slice a1 d.regs.length n1) (.slice a2 d.mem.length n2) (.slice a3 d.buf.length n3) (show w.heap.size + 1 + 1 < w1.heap.size by have := SZ.out; omega))
  have BF := Lib.hid (set4_below (.slice a0 d.pc.length n0) (.slice a1 d.regs.length n1) (.slice a2 d.mem.length n2) (.slice a3 d.buf.length n3) B2.out (show w.heap.size ≤ w.heap.size + 1 + 1 by omega))
  generalize (((w2.setCell _ _).setCell _ _).setCell _ _).setCell _ _ = w4 at KF kp BF ⊢
  clear z0 z1 z2 z3 y0 y1 y2 y3 lz
  have d0 : w4.cell? ⟨w.heap.size + 1 + 1, 0, none⟩ = some _ := KF.out.cell 0
  have d1 : w4.cell? ⟨w.heap.size + 1 + 1, 1, none⟩ = some _ := KF.out.cell 1
  have d2 : w4.cell? ⟨w.heap.size + 1 + 1, 2, none⟩ = some _ := KF.out.cell 2
  have d3 : w4.cell? ⟨w.heap.size + 1 + 1, 3, none⟩ = some _ := KF.out.cell 3
  refine bodyPost_ret (v := .tuple #[.agg #[.slice a0 d.pc.length n0, .slice a1 d.regs.length n1, .slice a2 d.mem.length n2, .slice a3 d.buf.length n3], .bool b]) (by simp [results, Tryz.results184, go_sem, d0, d1, d2, d3]) rfl ?_
  exact ⟨d, _, _, _, _, rfl, (OD.out.kp kp.out).base (by have := SZ.out; omega), HD.out, BF.out⟩
end Go.Proofs.YtacbanfnakgecaaGreat

namespace Go.Proofs.YtacbanfnakgecaaGreat
set_option linter.unusedSimpArgs false
set_option linter.unusedVariables false
open Go.RowKit
theorem meth_thr_en (a : Array Value) (w : World) : Sem.run Tryz.prog (method 292 103 (.agg a) "spinnaker/machine.enabled") w = .ok (168, .agg a) w := by kernel_rfl
theorem meth_thr_ac (a : Array Value) (w : World) : Sem.run Tryz.prog (method 292 103 (.agg a) "spinnaker/machine.act") w = .ok (167, .agg a) w := by kernel_rfl
theorem meth_thr_na (a : Array Value) (w : World) : Sem.run Tryz.prog (method 292 103 (.agg a) "spinnaker/machine.name") w = .ok (169, .agg a) w := by kernel_rfl
theorem meth_fl_en (a : Array Value) (w : World) : Sem.run Tryz.prog (method 292 105 (.agg a) "spinnaker/machine.enabled") w = .ok (185, .agg a) w := by kernel_rfl
theorem meth_fl_ac (a : Array Value) (w : World) : Sem.run Tryz.prog (method 292 105 (.agg a) "spinnaker/machine.act") w = .ok (184, .agg a) w := by kernel_rfl
theorem meth_fl_na (a : Array Value) (w : World) : Sem.run Tryz.prog (method 292 105 (.agg a) "spinnaker/machine.name") w = .ok (186, .agg a) w := by kernel_rfl
set_option maxRecDepth 100000 in
set_option maxHeartbeats 2000000 in
theorem men_core (u : Un) (model room a : Int) (vi vr vc xp xr xm xb : Value) (w : World) (hu : UnD w vi vr vc u) (hl : LtU u) (b : Bool) (g : Ag) (hg : agOf u.code.length u.init.length model a = g)
    (H0 : g = .no → b = false)
    (H1 : ∀ t, g = .thr t → ∀ W, Below w.heap.size w W → Calls Tryz.prog 11 #[.agg #[.int .i64 u.mod, vi, vr, vc], .agg #[xp, xr, xm, xb], .int .i64 model, .int .i64 room, .int .i64 t] W fun e w' => e = .returned (.bool b) ∧ Below W.heap.size W w')
    (H2 : ∀ t loc, g = .fl t loc → ∀ W, Below w.heap.size w W → Calls Tryz.prog 30 #[.agg #[xp, xr, xm, xb], .int .i64 model, .int .i64 t, .int .i64 loc] W fun e w' => e = .returned (.bool b) ∧ Below W.heap.size W w') :
    Calls Tryz.prog 17 #[.agg #[.int .i64 u.mod, vi, vr, vc], .agg #[xp, xr, xm, xb], .int .i64 model, .int .i64 room, .int .i64 a] w fun e w' => e = .returned (.bool b) ∧ Below w.heap.size w w' := by
  have HAG := Lib.hid (fun (W : World) (h : Below w.heap.size w W) => agentOf_any u model a vi vr vc W (hu.below h) hl g hg)
  clear hg
  have L0 := Lib.hid (two_new w 25 29 #[.int .i64 u.mod, vi, vr, vc] #[xp, xr, xm, xb]).1
  have KC := Lib.hid (two_new w 25 29 #[.int .i64 u.mod, vi, vr, vc] #[xp, xr, xm, xb]).2.2
  cases g with
  | no =>
    obtain rfl := H0 rfl
    clear H0 H1 H2
    go_enter Tryz.func17, Tryz.ntmps17
    go_wp2_with fail
    generalize World.alloc (World.alloc w _) _ = w1 at L0 KC ⊢
    refine (HAG.out w1 L0.out).mono ?_
    rintro e w2 ⟨rfl, b⟩
    go_wp2_with fail
    go_ret
    exact ⟨rfl, L0.out.trans (b.mono L0.out.size)⟩
  | thr t =>
    have H := Lib.hid (fun (r0 : Value) => H1 t rfl)
    clear H0 H1 H2
    go_enter Tryz.func17, Tryz.ntmps17
    go_wp2_with fail
    generalize World.alloc (World.alloc w _) _ = w1 at L0 KC ⊢
    refine (HAG.out w1 L0.out).mono ?_
    rintro e w2 ⟨rfl, b⟩
    have B2 := Lib.hid (L0.out.trans (b.mono L0.out.size))
    have KC2 := Lib.hid (KC.out.below b)
    clear b L0 KC
    obtain ⟨c0, c1, c2, c3, cl⟩ : w2.cell? ⟨w.heap.size + 1, 0, none⟩ = some xp ∧ w2.cell? ⟨w.heap.size + 1, 1, none⟩ = some xr ∧ w2.cell? ⟨w.heap.size + 1, 2, none⟩ = some xm ∧ w2.cell? ⟨w.heap.size + 1, 3, none⟩ = some xb ∧ w.heap.size + 1 < w2.heap.size := ⟨KC2.out.cell 0, KC2.out.cell 1, KC2.out.cell 2, KC2.out.cell 3, KC2.out.lt⟩
    have hme := meth_thr_en #[.int .i64 u.mod, vi, vr, vc, .int .i64 model, .int .i64 t]
    unfold agV agB
    go_wp2_with fail
    refine (thr_en _ _ _ _ _ _ _ _ _ _ _ w2 b (fun W h => H.out undef W (B2.out.trans (h.mono B2.out.size)))).mono ?_
    rintro e w3 ⟨rfl, b⟩
    go_wp2_with fail
    go_ret
    exact ⟨rfl, B2.out.trans (b.mono B2.out.size)⟩
  | fl t loc =>
    have H := Lib.hid (fun (r0 : Value) => H2 t loc rfl)
    clear H0 H1 H2
    go_enter Tryz.func17, Tryz.ntmps17
    go_wp2_with fail
    generalize World.alloc (World.alloc w _) _ = w1 at L0 KC ⊢
    refine (HAG.out w1 L0.out).mono ?_
    rintro e w2 ⟨rfl, b⟩
    have B2 := Lib.hid (L0.out.trans (b.mono L0.out.size))
    have KC2 := Lib.hid (KC.out.below b)
    clear b L0 KC
    obtain ⟨c0, c1, c2, c3, cl⟩ : w2.cell? ⟨w.heap.size + 1, 0, none⟩ = some xp ∧ w2.cell? ⟨w.heap.size + 1, 1, none⟩ = some xr ∧ w2.cell? ⟨w.heap.size + 1, 2, none⟩ = some xm ∧ w2.cell? ⟨w.heap.size + 1, 3, none⟩ = some xb ∧ w.heap.size + 1 < w2.heap.size := ⟨KC2.out.cell 0, KC2.out.cell 1, KC2.out.cell 2, KC2.out.cell 3, KC2.out.lt⟩
    have hme := meth_fl_en #[.int .i64 model, .int .i64 t, .int .i64 loc]
    unfold agV agB
    go_wp2_with fail
    refine (fl_en _ _ _ _ _ _ _ _ w2 b (fun W h => H.out undef W (B2.out.trans (h.mono B2.out.size)))).mono ?_
    rintro e w3 ⟨rfl, b⟩
    go_wp2_with fail
    go_ret
    exact ⟨rfl, B2.out.trans (b.mono B2.out.size)⟩
set_option maxRecDepth 100000 in
set_option maxHeartbeats 4000000 in
theorem mac_core (u : Un) (c : Cf) (model room a : Int) (vi vr vc xp xr xm xb : Value) (w : World) (hu : UnD w vi vr vc u) (hl : LtU u) (hc : CfD w xp xr xm xb c) (hs : ShortC c) (bb : Bool) (q : Pf) (g : Ag) (hg : agOf u.code.length u.init.length model a = g)
    (H0 : g = .no → bb = false ∧ c.pf = q)
    (H1 : ∀ t, g = .thr t → ∀ W, Below w.heap.size w W → Calls Tryz.prog 8 #[.agg #[.int .i64 u.mod, vi, vr, vc], .agg #[xp, xr, xm, xb], .int .i64 model, .int .i64 room, .int .i64 t] W (StepIs bb q W))
    (H2 : ∀ t loc, g = .fl t loc → ∀ W, Below w.heap.size w W → Calls Tryz.prog 28 #[.agg #[xp, xr, xm, xb], .int .i64 model, .int .i64 t, .int .i64 loc] W (StepIs bb q W)) :
    Calls Tryz.prog 15 #[.agg #[.int .i64 u.mod, vi, vr, vc], .agg #[xp, xr, xm, xb], .int .i64 model, .int .i64 room, .int .i64 a] w (StepIs bb q w) := by
  have HAG := Lib.hid (fun (W : World) (h : Below w.heap.size w W) => agentOf_any u model a vi vr vc W (hu.below h) hl g hg)
  have HCP := Lib.hid (fun (W : World) (h : Below w.heap.size w W) => ncopy_any c xp xr xm xb W (hc.below h) hs)
  clear hg hc
  have L2 := two_new w 25 29 #[.int .i64 u.mod, vi, vr, vc] #[xp, xr, xm, xb]
  have L0 := Lib.hid (bal L2.1 (.cells #[.slice none 0 0, .slice none 0 0, .slice none 0 0, .slice none 0 0] 29))
  have KC := Lib.hid (bk_alloc L2.2.2 (.cells #[.slice none 0 0, .slice none 0 0, .slice none 0 0, .slice none 0 0] 29))
  have KZ := Lib.hid (bk_at3 w (.cells #[.int .i64 u.mod, vi, vr, vc] 25) (.cells #[xp, xr, xm, xb] 29) 29 #[.slice none 0 0, .slice none 0 0, .slice none 0 0, .slice none 0 0])
  have SZ : Hid ((((w.alloc (.cells #[.int .i64 u.mod, vi, vr, vc] 25)).alloc (.cells #[xp, xr, xm, xb] 29)).alloc (.cells #[.slice none 0 0, .slice none 0 0, .slice none 0 0, .slice none 0 0] 29)).heap.size = w.heap.size + 1 + 1 + 1) := Lib.hid (by simp only [alloc_size])
  clear L2
  cases g with
  | no =>
    obtain ⟨rfl, rfl⟩ := H0 rfl
    clear H0 H1 H2
    go_enter Tryz.func15, Tryz.ntmps15
    go_wp2_with fail
    generalize World.alloc (World.alloc (World.alloc w _) _) _ = w1 at L0 KC KZ SZ ⊢
    refine (HAG.out w1 L0.out).mono ?_
    rintro e w2 ⟨rfl, b⟩
    have SW : Hid (w1.heap.size ≤ w2.heap.size) := Lib.hid b.size
    have B2 := Lib.hid (L0.out.trans (b.mono L0.out.size))
    have KC2 := Lib.hid (KC.out.below b)
    have KZ2 := Lib.hid (KZ.out.below b)
    clear b L0 KC KZ
    obtain ⟨c0, c1, c2, c3, cl⟩ : w2.cell? ⟨w.heap.size + 1, 0, none⟩ = some xp ∧ w2.cell? ⟨w.heap.size + 1, 1, none⟩ = some xr ∧ w2.cell? ⟨w.heap.size + 1, 2, none⟩ = some xm ∧ w2.cell? ⟨w.heap.size + 1, 3, none⟩ = some xb ∧ w.heap.size + 1 < w2.heap.size := ⟨KC2.out.cell 0, KC2.out.cell 1, KC2.out.cell 2, KC2.out.cell 3, KC2.out.lt⟩
    go_wp2_with fail
    refine (HCP.out w2 B2.out).mono ?_
    rintro e w3 ⟨d, yp, yr, ym, yb, rfl, od, hd, b⟩
    obtain ⟨a0, n0, a1, n1, a2, n2, a3, n3, rfl, rfl, rfl, rfl⟩ := od.shapes
    have OD := Lib.hid od
    have HD := Lib.hid hd
    have KZ3 := Lib.hid (KZ2.out.below b)
    have B3 := Lib.hid (B2.out.trans (b.mono B2.out.size))
    clear od hd b KZ2 KC2 c0 c1 c2 c3 cl
    obtain ⟨z0, z1, z2, z3, y0, y1, y2, y3, lz⟩ : w3.cell? ⟨w.heap.size + 1 + 1, 0, none⟩ = some (.slice none 0 0) ∧ w3.cell? ⟨w.heap.size + 1 + 1, 1, none⟩ = some (.slice none 0 0) ∧ w3.cell? ⟨w.heap.size + 1 + 1, 2, none⟩ = some (.slice none 0 0) ∧ w3.cell? ⟨w.heap.size + 1 + 1, 3, none⟩ = some (.slice none 0 0) ∧ w3.frozen? ⟨w.heap.size + 1 + 1, 0, none⟩ = false ∧ w3.frozen? ⟨w.heap.size + 1 + 1, 1, none⟩ = false ∧ w3.frozen? ⟨w.heap.size + 1 + 1, 2, none⟩ = false ∧ w3.frozen? ⟨w.heap.size + 1 + 1, 3, none⟩ = false ∧ w.heap.size + 1 + 1 < w3.heap.size := ⟨KZ3.out.cell 0, KZ3.out.cell 1, KZ3.out.cell 2, KZ3.out.cell 3, KZ3.out.fz 0, KZ3.out.fz 1, KZ3.out.fz 2, KZ3.out.fz 3, KZ3.out.lt⟩
    go_wp2_with fail
    have KF := Lib.hid (set4_bk (.slice a0 d.pc.length n0) (.slice a1 d.regs.length n1) (.slice a2 d.mem.length n2) (.slice a3 d.buf.length n3) KZ3.out)
    have kp := Lib.hid (set4_kp (w := w3) (B := w2.heap.size) (.slice a0 d.pc.length n0) (.slice a1 d.regs.length n1) (.slice a2 d.mem.length n2) (.slice a3 d.buf.length n3) (show w.heap.size + 1 + 1 < w2.heap.size by have := SZ.out; have := SW.out; omega))
    have BF := Lib.hid (set4_below (.slice a0 d.pc.length n0) (.slice a1 d.regs.length n1) (.slice a2 d.mem.length n2) (.slice a3 d.buf.length n3) B3.out (show w.heap.size ≤ w.heap.size + 1 + 1 by omega))
    generalize (((w3.setCell _ _).setCell _ _).setCell _ _).setCell _ _ = w9 at KF kp BF ⊢
    clear z0 z1 z2 z3 y0 y1 y2 y3 lz
    have d0 : w9.cell? ⟨w.heap.size + 1 + 1, 0, none⟩ = some _ := KF.out.cell 0
    have d1 : w9.cell? ⟨w.heap.size + 1 + 1, 1, none⟩ = some _ := KF.out.cell 1
    have d2 : w9.cell? ⟨w.heap.size + 1 + 1, 2, none⟩ = some _ := KF.out.cell 2
    have d3 : w9.cell? ⟨w.heap.size + 1 + 1, 3, none⟩ = some _ := KF.out.cell 3
    refine bodyPost_ret (v := .tuple #[.agg #[.slice a0 d.pc.length n0, .slice a1 d.regs.length n1, .slice a2 d.mem.length n2, .slice a3 d.buf.length n3], .bool false]) (by simp [results, Tryz.results15, go_sem, d0, d1, d2, d3]) rfl ?_
    exact ⟨d, _, _, _, _, rfl, (OD.out.kp kp.out).base (by have := SZ.out; have := SW.out; omega), HD.out, BF.out⟩
  | thr t =>
    have H := Lib.hid (H1 t rfl)
    clear H0 H1 H2
    go_enter Tryz.func15, Tryz.ntmps15
    go_wp2_with fail
    generalize World.alloc (World.alloc (World.alloc w _) _) _ = w1 at L0 KC KZ SZ ⊢
    refine (HAG.out w1 L0.out).mono ?_
    rintro e w2 ⟨rfl, b⟩
    have SW : Hid (w1.heap.size ≤ w2.heap.size) := Lib.hid b.size
    have B2 := Lib.hid (L0.out.trans (b.mono L0.out.size))
    have KC2 := Lib.hid (KC.out.below b)
    have KZ2 := Lib.hid (KZ.out.below b)
    clear b L0 KC KZ
    obtain ⟨c0, c1, c2, c3, cl⟩ : w2.cell? ⟨w.heap.size + 1, 0, none⟩ = some xp ∧ w2.cell? ⟨w.heap.size + 1, 1, none⟩ = some xr ∧ w2.cell? ⟨w.heap.size + 1, 2, none⟩ = some xm ∧ w2.cell? ⟨w.heap.size + 1, 3, none⟩ = some xb ∧ w.heap.size + 1 < w2.heap.size := ⟨KC2.out.cell 0, KC2.out.cell 1, KC2.out.cell 2, KC2.out.cell 3, KC2.out.lt⟩
    have hme := meth_thr_ac #[.int .i64 u.mod, vi, vr, vc, .int .i64 model, .int .i64 t]
    unfold agV agB
    go_wp2_with fail
    refine (thr_ac _ _ _ _ _ _ _ _ _ _ _ w2 bb q (fun W h => H.out W (B2.out.trans (h.mono B2.out.size)))).mono ?_
    rintro e w3 ⟨d, yp, yr, ym, yb, rfl, od, hd, b⟩
    obtain ⟨a0, n0, a1, n1, a2, n2, a3, n3, rfl, rfl, rfl, rfl⟩ := od.shapes
    have OD := Lib.hid od
    have HD := Lib.hid hd
    have KZ3 := Lib.hid (KZ2.out.below b)
    have B3 := Lib.hid (B2.out.trans (b.mono B2.out.size))
    clear od hd b KZ2 KC2 c0 c1 c2 c3 cl
    obtain ⟨z0, z1, z2, z3, y0, y1, y2, y3, lz⟩ : w3.cell? ⟨w.heap.size + 1 + 1, 0, none⟩ = some (.slice none 0 0) ∧ w3.cell? ⟨w.heap.size + 1 + 1, 1, none⟩ = some (.slice none 0 0) ∧ w3.cell? ⟨w.heap.size + 1 + 1, 2, none⟩ = some (.slice none 0 0) ∧ w3.cell? ⟨w.heap.size + 1 + 1, 3, none⟩ = some (.slice none 0 0) ∧ w3.frozen? ⟨w.heap.size + 1 + 1, 0, none⟩ = false ∧ w3.frozen? ⟨w.heap.size + 1 + 1, 1, none⟩ = false ∧ w3.frozen? ⟨w.heap.size + 1 + 1, 2, none⟩ = false ∧ w3.frozen? ⟨w.heap.size + 1 + 1, 3, none⟩ = false ∧ w.heap.size + 1 + 1 < w3.heap.size := ⟨KZ3.out.cell 0, KZ3.out.cell 1, KZ3.out.cell 2, KZ3.out.cell 3, KZ3.out.fz 0, KZ3.out.fz 1, KZ3.out.fz 2, KZ3.out.fz 3, KZ3.out.lt⟩
    go_wp2_with fail
    have KF := Lib.hid (set4_bk (.slice a0 d.pc.length n0) (.slice a1 d.regs.length n1) (.slice a2 d.mem.length n2) (.slice a3 d.buf.length n3) KZ3.out)
    have kp := Lib.hid (set4_kp (w := w3) (B := w2.heap.size) (.slice a0 d.pc.length n0) (.slice a1 d.regs.length n1) (.slice a2 d.mem.length n2) (.slice a3 d.buf.length n3) (show w.heap.size + 1 + 1 < w2.heap.size by have := SZ.out; have := SW.out; omega))
    have BF := Lib.hid (set4_below (.slice a0 d.pc.length n0) (.slice a1 d.regs.length n1) (.slice a2 d.mem.length n2) (.slice a3 d.buf.length n3) B3.out (show w.heap.size ≤ w.heap.size + 1 + 1 by omega))
    generalize (((w3.setCell _ _).setCell _ _).setCell _ _).setCell _ _ = w9 at KF kp BF ⊢
    clear z0 z1 z2 z3 y0 y1 y2 y3 lz
    have d0 : w9.cell? ⟨w.heap.size + 1 + 1, 0, none⟩ = some _ := KF.out.cell 0
    have d1 : w9.cell? ⟨w.heap.size + 1 + 1, 1, none⟩ = some _ := KF.out.cell 1
    have d2 : w9.cell? ⟨w.heap.size + 1 + 1, 2, none⟩ = some _ := KF.out.cell 2
    have d3 : w9.cell? ⟨w.heap.size + 1 + 1, 3, none⟩ = some _ := KF.out.cell 3
    refine bodyPost_ret (v := .tuple #[.agg #[.slice a0 d.pc.length n0, .slice a1 d.regs.length n1, .slice a2 d.mem.length n2, .slice a3 d.buf.length n3], .bool bb]) (by simp [results, Tryz.results15, go_sem, d0, d1, d2, d3]) rfl ?_
    exact ⟨d, _, _, _, _, rfl, (OD.out.kp kp.out).base (by have := SZ.out; have := SW.out; omega), HD.out, BF.out⟩
  | fl t loc =>
    have H := Lib.hid (H2 t loc rfl)
    clear H0 H1 H2
    go_enter Tryz.func15, Tryz.ntmps15
    go_wp2_with fail
    generalize World.alloc (World.alloc (World.alloc w _) _) _ = w1 at L0 KC KZ SZ ⊢
    refine (HAG.out w1 L0.out).mono ?_
    rintro e w2 ⟨rfl, b⟩
    have SW : Hid (w1.heap.size ≤ w2.heap.size) := Lib.hid b.size
    have B2 := Lib.hid (L0.out.trans (b.mono L0.out.size))
    have KC2 := Lib.hid (KC.out.below b)
    have KZ2 := Lib.hid (KZ.out.below b)
    clear b L0 KC KZ
    obtain ⟨c0, c1, c2, c3, cl⟩ : w2.cell? ⟨w.heap.size + 1, 0, none⟩ = some xp ∧ w2.cell? ⟨w.heap.size + 1, 1, none⟩ = some xr ∧ w2.cell? ⟨w.heap.size + 1, 2, none⟩ = some xm ∧ w2.cell? ⟨w.heap.size + 1, 3, none⟩ = some xb ∧ w.heap.size + 1 < w2.heap.size := ⟨KC2.out.cell 0, KC2.out.cell 1, KC2.out.cell 2, KC2.out.cell 3, KC2.out.lt⟩
    have hme := meth_fl_ac #[.int .i64 model, .int .i64 t, .int .i64 loc]
    unfold agV agB
    go_wp2_with fail
    refine (fl_ac _ _ _ _ _ _ _ _ w2 bb q (fun W h => H.out W (B2.out.trans (h.mono B2.out.size)))).mono ?_
    rintro e w3 ⟨d, yp, yr, ym, yb, rfl, od, hd, b⟩
    obtain ⟨a0, n0, a1, n1, a2, n2, a3, n3, rfl, rfl, rfl, rfl⟩ := od.shapes
    have OD := Lib.hid od
    have HD := Lib.hid hd
    have KZ3 := Lib.hid (KZ2.out.below b)
    have B3 := Lib.hid (B2.out.trans (b.mono B2.out.size))
    clear od hd b KZ2 KC2 c0 c1 c2 c3 cl
    obtain ⟨z0, z1, z2, z3, y0, y1, y2, y3, lz⟩ : w3.cell? ⟨w.heap.size + 1 + 1, 0, none⟩ = some (.slice none 0 0) ∧ w3.cell? ⟨w.heap.size + 1 + 1, 1, none⟩ = some (.slice none 0 0) ∧ w3.cell? ⟨w.heap.size + 1 + 1, 2, none⟩ = some (.slice none 0 0) ∧ w3.cell? ⟨w.heap.size + 1 + 1, 3, none⟩ = some (.slice none 0 0) ∧ w3.frozen? ⟨w.heap.size + 1 + 1, 0, none⟩ = false ∧ w3.frozen? ⟨w.heap.size + 1 + 1, 1, none⟩ = false ∧ w3.frozen? ⟨w.heap.size + 1 + 1, 2, none⟩ = false ∧ w3.frozen? ⟨w.heap.size + 1 + 1, 3, none⟩ = false ∧ w.heap.size + 1 + 1 < w3.heap.size := ⟨KZ3.out.cell 0, KZ3.out.cell 1, KZ3.out.cell 2, KZ3.out.cell 3, KZ3.out.fz 0, KZ3.out.fz 1, KZ3.out.fz 2, KZ3.out.fz 3, KZ3.out.lt⟩
    go_wp2_with fail
    have KF := Lib.hid (set4_bk (.slice a0 d.pc.length n0) (.slice a1 d.regs.length n1) (.slice a2 d.mem.length n2) (.slice a3 d.buf.length n3) KZ3.out)
    have kp := Lib.hid (set4_kp (w := w3) (B := w2.heap.size) (.slice a0 d.pc.length n0) (.slice a1 d.regs.length n1) (.slice a2 d.mem.length n2) (.slice a3 d.buf.length n3) (show w.heap.size + 1 + 1 < w2.heap.size by have := SZ.out; have := SW.out; omega))
    have BF := Lib.hid (set4_below (.slice a0 d.pc.length n0) (.slice a1 d.regs.length n1) (.slice a2 d.mem.length n2) (.slice a3 d.buf.length n3) B3.out (show w.heap.size ≤ w.heap.size + 1 + 1 by omega))
    generalize (((w3.setCell _ _).setCell _ _).setCell _ _).setCell _ _ = w9 at KF kp BF ⊢
    clear z0 z1 z2 z3 y0 y1 y2 y3 lz
    have d0 : w9.cell? ⟨w.heap.size + 1 + 1, 0, none⟩ = some _ := KF.out.cell 0
    have d1 : w9.cell? ⟨w.heap.size + 1 + 1, 1, none⟩ = some _ := KF.out.cell 1
    have d2 : w9.cell? ⟨w.heap.size + 1 + 1, 2, none⟩ = some _ := KF.out.cell 2
    have d3 : w9.cell? ⟨w.heap.size + 1 + 1, 3, none⟩ = some _ := KF.out.cell 3
    refine bodyPost_ret (v := .tuple #[.agg #[.slice a0 d.pc.length n0, .slice a1 d.regs.length n1, .slice a2 d.mem.length n2, .slice a3 d.buf.length n3], .bool bb]) (by simp [results, Tryz.results15, go_sem, d0, d1, d2, d3]) rfl ?_
    exact ⟨d, _, _, _, _, rfl, (OD.out.kp kp.out).base (by have := SZ.out; have := SW.out; omega), HD.out, BF.out⟩
end Go.Proofs.YtacbanfnakgecaaGreat
