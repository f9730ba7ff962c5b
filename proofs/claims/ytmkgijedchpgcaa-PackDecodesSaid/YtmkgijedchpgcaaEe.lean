/- Layer 12's law: light, a case that came in. -/
import Derived.Test.YtmkgijedchpgcaaEl
import Derived.Test.YtmkgijedchpgcaaVg
import Derived.Test.YtmkgijedchpgcaaVi
import Derived.Test.YtmkgijedchpgcaaUm
import Derived.Test.YtmkgijedchpgcaaUo
namespace Go.Proofs.Ytmkgijedchpgcaa
set_option linter.unusedSimpArgs false
set_option linter.unusedVariables false
open Go.RowKit

set_option maxRecDepth 100000 in
set_option maxHeartbeats 4000000 in
theorem light12_any (u : Un) (c : Cf) (model room : Int) (vi vr vc xp xr xm xb : Value) (w : World) (hu : UnD w vi vr vc u) (hc : CfD w xp xr xm xb c) (q : Bool) (hq : (lightU u && lightC c) = q) :
    Calls Try.prog 8 #[.agg #[.int .i64 u.mod, vi, vr, vc, xp, xr, xm, xb, .int .i64 model, .int .i64 room]] w fun e w' => e = .returned (.bool q) ∧ Below w.heap.size w w' := by
  have HU := Lib.hid hu
  have HC := Lib.hid hc
  obtain ⟨ai, ci, rfl⟩ := hu.i.shape0
  obtain ⟨ar, cr, rfl⟩ := hu.r.shape0
  obtain ⟨ac, cc, rfl⟩ := hu.c.shape0
  obtain ⟨ap, cp, rfl⟩ := hc.p.shape0
  obtain ⟨aq, cq, rfl⟩ := hc.r.shape0
  obtain ⟨am, cm, rfl⟩ := hc.m.shape0
  obtain ⟨ab, cb, rfl⟩ := hc.b.shape0
  have HL := Lib.hid (fun (W : World) (h : Below w.heap.size w W) => ulight_any u _ _ _ W (HU.out.below h) _ rfl)
  have HLC := Lib.hid (fun (W : World) (h : Below w.heap.size w W) => clight_any c _ _ _ _ W (HC.out.below h) _ rfl)
  have HQL := Lib.hid (rfl : lightU u = lightU u)
  generalize u.init.length = ni at HL ⊢
  generalize u.regs.length = nr at HL ⊢
  generalize u.code.length = nc at HL ⊢
  generalize c.pc.length = np at HLC ⊢
  generalize c.regs.length = nq at HLC ⊢
  generalize c.mem.length = nm at HLC ⊢
  generalize c.buf.length = nb at HLC ⊢
  generalize u.mod = md at HL ⊢
  obtain ⟨q1, h1⟩ : ∃ q, lightU u = q := ⟨_, rfl⟩
  obtain ⟨q2, h2⟩ : ∃ q, lightC c = q := ⟨_, rfl⟩
  rw [h1, h2] at hq
  rw [h1] at HL
  rw [h2] at HLC
  replace h1 := Lib.hid h1
  replace h2 := Lib.hid h2
  subst hq
  clear hu hc HU HC HQL
  have K := Lib.hid (Bk.new w 31 #[.int .i64 md, .slice ai ni ci, .slice ar nr cr, .slice ac nc cc, .slice ap np cp, .slice aq nq cq, .slice am nm cm, .slice ab nb cb, .int .i64 model, .int .i64 room])
  have B : Hid (Below w.heap.size w (World.alloc w (.cells #[.int .i64 md, .slice ai ni ci, .slice ar nr cr, .slice ac nc cc, .slice ap np cp, .slice aq nq cq, .slice am nm cm, .slice ab nb cb, .int .i64 model, .int .i64 room] 31))) := Lib.hid (bal (Below.refl _ _) _)
  go_enter Try.func8, Try.ntmps8
  go_wp2_with fail
  generalize World.alloc w (.cells #[.int .i64 md, .slice ai ni ci, .slice ar nr cr, .slice ac nc cc, .slice ap np cp, .slice aq nq cq, .slice am nm cm, .slice ab nb cb, .int .i64 model, .int .i64 room] 31) = w1 at K B ⊢
  obtain ⟨c0, c1, c2, c3, c4, c5, c6, c7, c8, c9, cl⟩ : w1.cell? ⟨w.heap.size, 0, none⟩ = some (.int .i64 md) ∧ w1.cell? ⟨w.heap.size, 1, none⟩ = some (.slice ai ni ci) ∧ w1.cell? ⟨w.heap.size, 2, none⟩ = some (.slice ar nr cr) ∧ w1.cell? ⟨w.heap.size, 3, none⟩ = some (.slice ac nc cc) ∧ w1.cell? ⟨w.heap.size, 4, none⟩ = some (.slice ap np cp) ∧ w1.cell? ⟨w.heap.size, 5, none⟩ = some (.slice aq nq cq) ∧ w1.cell? ⟨w.heap.size, 6, none⟩ = some (.slice am nm cm) ∧ w1.cell? ⟨w.heap.size, 7, none⟩ = some (.slice ab nb cb) ∧ w1.cell? ⟨w.heap.size, 8, none⟩ = some (.int .i64 model) ∧ w1.cell? ⟨w.heap.size, 9, none⟩ = some (.int .i64 room) ∧ w.heap.size < w1.heap.size := ⟨K.out.cell 0, K.out.cell 1, K.out.cell 2, K.out.cell 3, K.out.cell 4, K.out.cell 5, K.out.cell 6, K.out.cell 7, K.out.cell 8, K.out.cell 9, K.out.lt⟩
  go_wp2_with fail
  clear c0 c1 c2 c3 c4 c5 c6 c7 c8 c9 cl
  refine (HL.out w1 B.out).mono ?_
  rintro e w2 ⟨rfl, b⟩
  replace K := Lib.hid (K.out.below b)
  replace B := Lib.hid (B.out.trans (b.mono B.out.size))
  clear b
  obtain ⟨c0, c1, c2, c3, c4, c5, c6, c7, c8, c9, cl⟩ : w2.cell? ⟨w.heap.size, 0, none⟩ = some (.int .i64 md) ∧ w2.cell? ⟨w.heap.size, 1, none⟩ = some (.slice ai ni ci) ∧ w2.cell? ⟨w.heap.size, 2, none⟩ = some (.slice ar nr cr) ∧ w2.cell? ⟨w.heap.size, 3, none⟩ = some (.slice ac nc cc) ∧ w2.cell? ⟨w.heap.size, 4, none⟩ = some (.slice ap np cp) ∧ w2.cell? ⟨w.heap.size, 5, none⟩ = some (.slice aq nq cq) ∧ w2.cell? ⟨w.heap.size, 6, none⟩ = some (.slice am nm cm) ∧ w2.cell? ⟨w.heap.size, 7, none⟩ = some (.slice ab nb cb) ∧ w2.cell? ⟨w.heap.size, 8, none⟩ = some (.int .i64 model) ∧ w2.cell? ⟨w.heap.size, 9, none⟩ = some (.int .i64 room) ∧ w.heap.size < w2.heap.size := ⟨K.out.cell 0, K.out.cell 1, K.out.cell 2, K.out.cell 3, K.out.cell 4, K.out.cell 5, K.out.cell 6, K.out.cell 7, K.out.cell 8, K.out.cell 9, K.out.lt⟩
  cases q1 with
  | false => go_wp2_with fail; refine bodyPost_ret (v := .bool _) (by simp [results, Try.results8, go_sem]) rfl ⟨rfl, B.out⟩
  | true =>
    go_wp2_with fail
    clear c0 c1 c2 c3 c4 c5 c6 c7 c8 c9 cl
    refine (HLC.out w2 B.out).mono ?_
    rintro e w3 ⟨rfl, b⟩
    replace K := Lib.hid (K.out.below b)
    replace B := Lib.hid (B.out.trans (b.mono B.out.size))
    clear b
    obtain ⟨c0, c1, c2, c3, c4, c5, c6, c7, c8, c9, cl⟩ : w3.cell? ⟨w.heap.size, 0, none⟩ = some (.int .i64 md) ∧ w3.cell? ⟨w.heap.size, 1, none⟩ = some (.slice ai ni ci) ∧ w3.cell? ⟨w.heap.size, 2, none⟩ = some (.slice ar nr cr) ∧ w3.cell? ⟨w.heap.size, 3, none⟩ = some (.slice ac nc cc) ∧ w3.cell? ⟨w.heap.size, 4, none⟩ = some (.slice ap np cp) ∧ w3.cell? ⟨w.heap.size, 5, none⟩ = some (.slice aq nq cq) ∧ w3.cell? ⟨w.heap.size, 6, none⟩ = some (.slice am nm cm) ∧ w3.cell? ⟨w.heap.size, 7, none⟩ = some (.slice ab nb cb) ∧ w3.cell? ⟨w.heap.size, 8, none⟩ = some (.int .i64 model) ∧ w3.cell? ⟨w.heap.size, 9, none⟩ = some (.int .i64 room) ∧ w.heap.size < w3.heap.size := ⟨K.out.cell 0, K.out.cell 1, K.out.cell 2, K.out.cell 3, K.out.cell 4, K.out.cell 5, K.out.cell 6, K.out.cell 7, K.out.cell 8, K.out.cell 9, K.out.lt⟩
    go_wp2_with fail
    cases q2 <;> refine bodyPost_ret (v := .bool _) (by simp [results, Try.results8, go_sem]) rfl ⟨rfl, B.out⟩

open Go.ChangeShapes Go.WideShapes Go.ChangeAt Go.RowKit
set_option maxRecDepth 100000
theorem open_case12 {H : Type} {enc : TypeId × Value → H} {W : World} {base : Nat} {v : Value} {d : DataW H} {p : List MemPlace} (hv : Value.okWide Try.prog W .any base 31 v) (h : DataW.Trod enc Try.prog W 0 (fun _ => true) true 31 v d p) :
    ∃ (u : Un) (c : Cf) (vi vr vc xp xr xm xb : Value) (model room : Int), v = .agg #[.int .i64 u.mod, vi, vr, vc, xp, xr, xm, xb, .int .i64 model, .int .i64 room] ∧ UnD W vi vr vc u ∧ CfD W xp xr xm xb c := by
  obtain ⟨cs, rfl, hsz⟩ := okWide_struct Try.underlying31 hv
  obtain ⟨fuel, hf⟩ := h
  have hs : Try.prog.cellsOf 31 = 10 := by kernel_rfl
  rw [hs] at hsz
  obtain ⟨l⟩ := cs
  have hl : l.length = 10 := hsz
  have hf : DataW.trod enc Try.prog W 0 (fun _ => true) true fuel 31 l = some (d, p) := hf
  obtain ⟨xs, m, _, _, _, hxl, hf⟩ := DataW.trod_struct Try.underlying31 hf
  match l, hl with
  | [c0, c1, c2, c3, c4, c5, c6, c7, c8, c9], _ =>
    match xs, hxl with
    | [x0, x1, x2, x3], _ =>
      have f0 : DataW.trod enc Try.prog W 0 (fun _ => true) true m 25 (([c0, c1, c2, c3, c4, c5, c6, c7, c8, c9].drop 0).take (Try.prog.cellsOf 25)) = some x0 := hf 0 _ rfl
      rw [c_unit] at f0
      have f1 : DataW.trod enc Try.prog W 0 (fun _ => true) true m 29 (([c0, c1, c2, c3, c4, c5, c6, c7, c8, c9].drop 4).take (Try.prog.cellsOf 29)) = some x1 := hf 1 _ rfl
      rw [c_conf] at f1
      have f2 : DataW.trod enc Try.prog W 0 (fun _ => true) true m 3 (([c0, c1, c2, c3, c4, c5, c6, c7, c8, c9].drop 8).take (Try.prog.cellsOf 3)) = some x2 := hf 2 _ rfl
      rw [c_int] at f2
      have f3 : DataW.trod enc Try.prog W 0 (fun _ => true) true m 3 (([c0, c1, c2, c3, c4, c5, c6, c7, c8, c9].drop 9).take (Try.prog.cellsOf 3)) = some x3 := hf 3 _ rfl
      rw [c_int] at f3
      have f0 : DataW.trod enc Try.prog W 0 (fun _ => true) true m 25 [c0, c1, c2, c3] = some x0 := f0
      have f1 : DataW.trod enc Try.prog W 0 (fun _ => true) true m 29 [c4, c5, c6, c7] = some x1 := f1
      obtain ⟨u, vi, vr, vc, hu, du⟩ := cell_unit f0 rfl
      obtain ⟨c, xp, xr, xm, xb, hc, dc⟩ := cell_conf f1 rfl
      obtain ⟨n2, e2, _⟩ := DataW.trod_int Try.underlying3 f2
      have e2' : c8 = _ := (List.cons.inj e2).1
      subst e2'
      obtain ⟨n3, e3, _⟩ := DataW.trod_int Try.underlying3 f3
      have e3' : c9 = _ := (List.cons.inj e3).1
      subst e3'
      injection hu with h1 hu
      injection hu with h2 hu
      injection hu with h3 hu
      injection hu with h4 hu
      injection hc with g1 hc
      injection hc with g2 hc
      injection hc with g3 hc
      injection hc with g4 hc
      subst h1 h2 h3 h4 g1 g2 g3 g4
      exact ⟨u, c, _, _, _, _, _, _, _, n2, n3, rfl, du, dc⟩

end Go.Proofs.Ytmkgijedchpgcaa
