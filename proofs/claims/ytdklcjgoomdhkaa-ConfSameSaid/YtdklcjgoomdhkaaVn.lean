/- ConfTells: its walk. -/
import Derived.Test.YtdklcjgoomdhkaaVk
import Derived.Test.YtdklcjgoomdhkaaUx
import Derived.Deep.DrawnRows
namespace Go.Proofs.Ytdklcjgoomdhkaa
set_option linter.unusedSimpArgs false
set_option linter.unusedVariables false
open Go.RowKit

theorem lightC_short {c : Cf} (h : lightC c = true) : ShortC c := by
  unfold lightC at h
  simp only [Bool.and_eq_true, decide_eq_true_eq, List.all_eq_true] at h
  obtain ⟨⟨h1, h2, h3, h4⟩, h5, h6⟩ := h
  exact ⟨by omega, by omega, by omega, by omega, fun x hx => by have := h5 x hx; omega, fun x hx => by have := h6 x hx; omega⟩
theorem lightU_code {u : Un} (h : lightU u = true) : u.code.length ≤ 100000 := by
  unfold lightU at h
  simp only [Bool.and_eq_true, decide_eq_true_eq] at h
  omega

attribute [local go_sem ↓] Go.wp_at_zero Go.wp_at_succ
set_option maxRecDepth 100000 in
set_option maxHeartbeats 16000000 in
theorem tells_in (u : Un) (c : Cf) (vi vr vc yp yr ym yb : Value) (t0 t1 t2 : Int) (w : World) (hu : UnD w vi vr vc u) (hc : CfD w yp yr ym yb c) :
    Calls Try.prog 4 #[.agg #[.int .i64 u.mod, vi, vr, vc], .agg #[yp, yr, ym, yb], .agg #[.int .i64 t0, .int .i64 t1, .int .i64 t2]] w fun e w' => e = .returned (.bool true) ∧ Below w.heap.size w w' := by
  have HL := Lib.hid (fun (W : World) (h : Below w.heap.size w W) => ulight_any u vi vr vc W (hu.below h) _ rfl)
  have HLC := Lib.hid (fun (W : World) (h : Below w.heap.size w W) => clight_any c yp yr ym yb W (hc.below h) _ rfl)
  have HKN := Lib.hid known_any
  have HR1 := Lib.hid (fun (hl : lightU u = true) (hk : lightC c = true) (W : World) (h : Below w.heap.size w W) => nright_any u c t0 t1 _ _ _ _ _ _ _ W (hu.below h) (hc.below h) (lightU_short hl) (lightC_short hk) _ rfl)
  have HR2 := Lib.hid (fun (hl : lightU u = true) (hk : lightC c = true) (W : World) (h : Below w.heap.size w W) => rcright_any u c t0 t1 _ _ _ _ _ _ _ W (hu.below h) (hc.below h) (lightU_short hl) (lightC_short hk) _ rfl)
  have HQ1 := Lib.hid (fun (hk : lightC c = true) (W : World) (h : Below w.heap.size w W) => nquiet_any c _ _ _ _ W (hc.below h) (lightC_short hk).b _ rfl)
  have HQ2 := Lib.hid (fun (hk : lightC c = true) (W : World) (h : Below w.heap.size w W) => quiet_any c _ _ _ _ W (hc.below h) (lightC_short hk).b _ rfl)
  have HF1 := Lib.hid (fun (hl : lightU u = true) (hk : lightC c = true) (W : World) (h : Below w.heap.size w W) => nfinal_any u c _ _ _ _ _ _ _ W (hu.below h) (hc.below h) (lightU_code hl) (lightC_short hk).b _ rfl)
  have HF2 := Lib.hid (fun (hl : lightU u = true) (hk : lightC c = true) (W : World) (h : Below w.heap.size w W) => final_any u c _ _ _ _ _ _ _ W (hu.below h) (hc.below h) (lightU_code hl) (lightC_short hk).b _ rfl)
  have HE1 := Lib.hid (fun (t : Int) (W : World) (h : Below w.heap.size w W) => nended_any u c t _ _ _ _ _ _ _ W (hu.below h) (hc.below h) _ rfl)
  have HE2 := Lib.hid (fun (t : Int) (W : World) (h : Below w.heap.size w W) => ended_any u c t _ _ _ _ _ _ _ W (hu.below h) (hc.below h) _ rfl)
  obtain ⟨ql, hql⟩ : ∃ q, lightU u = q := ⟨_, rfl⟩
  obtain ⟨qc, hqc⟩ : ∃ q, lightC c = q := ⟨_, rfl⟩
  rw [hql] at HL
  rw [hqc] at HLC
  have HQL := Lib.hid hql
  have HQC := Lib.hid hqc
  generalize rightC u c t0 t1 = q1 at HR1 HR2
  generalize quietC c = q2 at HQ1 HQ2
  generalize finalC u c = q3 at HF1 HF2
  obtain ⟨xi, ci, rfl⟩ := hu.i.shape0
  obtain ⟨xr, cr, rfl⟩ := hu.r.shape0
  obtain ⟨xc, cc, rfl⟩ := hu.c.shape0
  obtain ⟨zp, dp, rfl⟩ := hc.p.shape0
  obtain ⟨zr, dr, rfl⟩ := hc.r.shape0
  obtain ⟨zm, dm, rfl⟩ := hc.m.shape0
  obtain ⟨zb, db, rfl⟩ := hc.b.shape0
  clear hu hc hql hqc
  generalize u.mod = m at HL HR1 HR2 HF1 HF2 HE1 HE2 ⊢
  generalize u.init.length = ni at HL HR1 HR2 HF1 HF2 HE1 HE2 ⊢
  generalize u.regs.length = nr at HL HR1 HR2 HF1 HF2 HE1 HE2 ⊢
  generalize u.code.length = nc at HL HR1 HR2 HF1 HF2 HE1 HE2 ⊢
  generalize c.pc.length = np at HLC HR1 HR2 HQ1 HQ2 HF1 HF2 HE1 HE2 ⊢
  generalize c.regs.length = mr at HLC HR1 HR2 HQ1 HQ2 HF1 HF2 HE1 HE2 ⊢
  generalize c.mem.length = mm at HLC HR1 HR2 HQ1 HQ2 HF1 HF2 HE1 HE2 ⊢
  generalize c.buf.length = mb at HLC HR1 HR2 HQ1 HQ2 HF1 HF2 HE1 HE2 ⊢
  have KA : Hid (Bk (((w.alloc (.cells #[.int .i64 m, .slice xi ni ci, .slice xr nr cr, .slice xc nc cc] 25)).alloc (.cells #[.slice zp np dp, .slice zr mr dr, .slice zm mm dm, .slice zb mb db] 31)).alloc (.cells #[.int .i64 t0, .int .i64 t1, .int .i64 t2] 36)) w.heap.size 25 #[.int .i64 m, .slice xi ni ci, .slice xr nr cr, .slice xc nc cc]) := Lib.hid (bk_alloc (bk_alloc (Bk.new _ _ _) _) _)
  have KB : Hid (Bk (((w.alloc (.cells #[.int .i64 m, .slice xi ni ci, .slice xr nr cr, .slice xc nc cc] 25)).alloc (.cells #[.slice zp np dp, .slice zr mr dr, .slice zm mm dm, .slice zb mb db] 31)).alloc (.cells #[.int .i64 t0, .int .i64 t1, .int .i64 t2] 36)) (w.heap.size + 1) 31 #[.slice zp np dp, .slice zr mr dr, .slice zm mm dm, .slice zb mb db]) := Lib.hid (bk_alloc (bk_at2 _ _ _ _) _)
  have KD : Hid (Bk (((w.alloc (.cells #[.int .i64 m, .slice xi ni ci, .slice xr nr cr, .slice xc nc cc] 25)).alloc (.cells #[.slice zp np dp, .slice zr mr dr, .slice zm mm dm, .slice zb mb db] 31)).alloc (.cells #[.int .i64 t0, .int .i64 t1, .int .i64 t2] 36)) (w.heap.size + 1 + 1) 36 #[.int .i64 t0, .int .i64 t1, .int .i64 t2]) := Lib.hid (bk_at3 _ _ _ _ _)
  have LL : Hid (Below w.heap.size w (((w.alloc (.cells #[.int .i64 m, .slice xi ni ci, .slice xr nr cr, .slice xc nc cc] 25)).alloc (.cells #[.slice zp np dp, .slice zr mr dr, .slice zm mm dm, .slice zb mb db] 31)).alloc (.cells #[.int .i64 t0, .int .i64 t1, .int .i64 t2] 36))) := Lib.hid (bal (bal (bal (Below.refl _ _) _) _) _)
  go_enter Try.func4, Try.ntmps4
  go_wp2_with fail
  generalize ((w.alloc _).alloc _).alloc _ = w0 at KA KB KD LL ⊢
  have KK := Lib.hid (fun (W : World) (hb : Below w0.heap.size w0 W) => (⟨(KA.out.below hb).cell 0, (KA.out.below hb).cell 1, (KA.out.below hb).cell 2, (KA.out.below hb).cell 3, (KB.out.below hb).cell 0, (KB.out.below hb).cell 1, (KB.out.below hb).cell 2, (KB.out.below hb).cell 3, (KD.out.below hb).cell 0, (KD.out.below hb).cell 1, (KD.out.below hb).cell 2, (KA.out.below hb).lt, (KB.out.below hb).lt, (KD.out.below hb).lt, LL.out.trans (hb.mono LL.out.size)⟩ : W.cell? ⟨w.heap.size, 0, none⟩ = some (.int .i64 m) ∧ W.cell? ⟨w.heap.size, 1, none⟩ = some (.slice xi ni ci) ∧ W.cell? ⟨w.heap.size, 2, none⟩ = some (.slice xr nr cr) ∧ W.cell? ⟨w.heap.size, 3, none⟩ = some (.slice xc nc cc) ∧ W.cell? ⟨w.heap.size + 1, 0, none⟩ = some (.slice zp np dp) ∧ W.cell? ⟨w.heap.size + 1, 1, none⟩ = some (.slice zr mr dr) ∧ W.cell? ⟨w.heap.size + 1, 2, none⟩ = some (.slice zm mm dm) ∧ W.cell? ⟨w.heap.size + 1, 3, none⟩ = some (.slice zb mb db) ∧ W.cell? ⟨w.heap.size + 1 + 1, 0, none⟩ = some (.int .i64 t0) ∧ W.cell? ⟨w.heap.size + 1 + 1, 1, none⟩ = some (.int .i64 t1) ∧ W.cell? ⟨w.heap.size + 1 + 1, 2, none⟩ = some (.int .i64 t2) ∧ w.heap.size < W.heap.size ∧ w.heap.size + 1 < W.heap.size ∧ w.heap.size + 1 + 1 < W.heap.size ∧ Below w.heap.size w W))
  have R0 : Hid (Below w0.heap.size w0 w0) := Lib.hid (Below.refl _ _)
  clear KA KB KD
  refine (HL.out _ LL.out).mono ?_
  rintro e w1 ⟨rfl, b1⟩
  have B1 := Lib.hid b1
  obtain ⟨c0, c1, c2, c3, d0, d1, d2, d3, e0, e1, e2, l1, l2, l3, g1⟩ := KK.out w1 b1
  have G1 := Lib.hid g1
  clear b1 g1 HL
  cases ql with
  | false =>
    go_wp2_with fail
    refine (HKN.out _).mono ?_
    rintro e w2 ⟨rfl, b2⟩
    have L2 := Lib.hid (G1.out.trans (b2.mono G1.out.size))
    clear b2 KK
    go_wp2
    go_ret
    exact ⟨rfl, L2.out⟩
  | true =>
    go_wp2_with fail
    refine (HLC.out _ G1.out).mono ?_
    rintro e w2 ⟨rfl, b2⟩
    clear c0 c1 c2 c3 d0 d1 d2 d3 e0 e1 e2 l1 l2 l3
    have B2 := Lib.hid (B1.out.trans (b2.mono B1.out.size))
    obtain ⟨c0, c1, c2, c3, d0, d1, d2, d3, e0, e1, e2, l1, l2, l3, g2⟩ := KK.out w2 B2.out
    have G2 := Lib.hid g2
    clear b2 g2 HLC
    cases qc with
    | false =>
      go_wp2_with fail
      refine (HKN.out _).mono ?_
      rintro e w3 ⟨rfl, b3⟩
      have L3 := Lib.hid (G2.out.trans (b3.mono G2.out.size))
      clear b3 KK
      go_wp2
      go_ret
      exact ⟨rfl, L3.out⟩
    | true =>
      replace HR1 := Lib.hid (HR1.out HQL.out HQC.out)
      replace HR2 := Lib.hid (HR2.out HQL.out HQC.out)
      replace HQ1 := Lib.hid (HQ1.out HQC.out)
      replace HQ2 := Lib.hid (HQ2.out HQC.out)
      replace HF1 := Lib.hid (HF1.out HQL.out HQC.out)
      replace HF2 := Lib.hid (HF2.out HQL.out HQC.out)
      replace HE0 := Lib.hid (HE1.out 0)
      replace HE3 := Lib.hid (HE2.out 0)
      replace HE1 := Lib.hid (HE1.out t2)
      replace HE2 := Lib.hid (HE2.out t2)
      generalize endedC u c 0 = q5 at HE0 HE3
      generalize endedC u c t2 = q4 at HE1 HE2
      have KS := Lib.hid (fun (W : World) (h : Below w2.heap.size w2 W) => by
        obtain ⟨c0, c1, c2, c3, d0, d1, d2, d3, e0, e1, e2, _, _, _, _⟩ := KK.out W (B2.out.trans (h.mono B2.out.size))
        exact (⟨c0, c1, c2, c3, d0, d1, d2, d3, e0, e1, e2, h⟩ : W.cell? ⟨w.heap.size, 0, none⟩ = some (.int .i64 m) ∧ W.cell? ⟨w.heap.size, 1, none⟩ = some (.slice xi ni ci) ∧ W.cell? ⟨w.heap.size, 2, none⟩ = some (.slice xr nr cr) ∧ W.cell? ⟨w.heap.size, 3, none⟩ = some (.slice xc nc cc) ∧ W.cell? ⟨w.heap.size + 1, 0, none⟩ = some (.slice zp np dp) ∧ W.cell? ⟨w.heap.size + 1, 1, none⟩ = some (.slice zr mr dr) ∧ W.cell? ⟨w.heap.size + 1, 2, none⟩ = some (.slice zm mm dm) ∧ W.cell? ⟨w.heap.size + 1, 3, none⟩ = some (.slice zb mb db) ∧ W.cell? ⟨w.heap.size + 1 + 1, 0, none⟩ = some (.int .i64 t0) ∧ W.cell? ⟨w.heap.size + 1 + 1, 1, none⟩ = some (.int .i64 t1) ∧ W.cell? ⟨w.heap.size + 1 + 1, 2, none⟩ = some (.int .i64 t2) ∧ Below w2.heap.size w2 W))
      have GG := Lib.hid (fun (W : World) (h : Below w2.heap.size w2 W) => G2.out.trans (h.mono G2.out.size))
      have bb : Below w2.heap.size w2 w2.drew := below_draws' w2
      have bc : Below w2.heap.size w2 w2 := Below.refl _ _
      clear KK B1 B2 R0 LL G1
      go_wp2_with fail
      go_region_held3 (fun W => W.cell? ⟨w.heap.size, 0, none⟩ = some (.int .i64 m) ∧ W.cell? ⟨w.heap.size, 1, none⟩ = some (.slice xi ni ci) ∧ W.cell? ⟨w.heap.size, 2, none⟩ = some (.slice xr nr cr) ∧ W.cell? ⟨w.heap.size, 3, none⟩ = some (.slice xc nc cc) ∧ W.cell? ⟨w.heap.size + 1, 0, none⟩ = some (.slice zp np dp) ∧ W.cell? ⟨w.heap.size + 1, 1, none⟩ = some (.slice zr mr dr) ∧ W.cell? ⟨w.heap.size + 1, 2, none⟩ = some (.slice zm mm dm) ∧ W.cell? ⟨w.heap.size + 1, 3, none⟩ = some (.slice zb mb db) ∧ W.cell? ⟨w.heap.size + 1 + 1, 0, none⟩ = some (.int .i64 t0) ∧ W.cell? ⟨w.heap.size + 1 + 1, 1, none⟩ = some (.int .i64 t1) ∧ W.cell? ⟨w.heap.size + 1 + 1, 2, none⟩ = some (.int .i64 t2) ∧ Below w2.heap.size w2 W)
        (first | with_reducible exact ⟨c0, c1, c2, c3, d0, d1, d2, d3, e0, e1, e2, bc⟩ | with_reducible exact ⟨c0, c1, c2, c3, d0, d1, d2, d3, e0, e1, e2, bb⟩ | with_reducible assumption | with_reducible exact KS.out _ bb)
        ((first
          | (go_at_call 13; go_split_ands; (with_reducible refine Calls.mono (HR1.out _ (GG.out _ bb)) ?_); rintro e wn ⟨rfl, bn⟩; have bb : Below w2.heap.size w2 wn := Below.trans bb (bn.mono (Below.size bb)))
          | (go_at_call 14; go_split_ands; (with_reducible refine Calls.mono (HR2.out _ (GG.out _ bb)) ?_); rintro e wn ⟨rfl, bn⟩; have bb : Below w2.heap.size w2 wn := Below.trans bb (bn.mono (Below.size bb)))
          | (go_at_call 15; go_split_ands; (with_reducible refine Calls.mono (HQ1.out _ (GG.out _ bb)) ?_); rintro e wn ⟨rfl, bn⟩; have bb : Below w2.heap.size w2 wn := Below.trans bb (bn.mono (Below.size bb)))
          | (go_at_call 16; go_split_ands; (with_reducible refine Calls.mono (HQ2.out _ (GG.out _ bb)) ?_); rintro e wn ⟨rfl, bn⟩; have bb : Below w2.heap.size w2 wn := Below.trans bb (bn.mono (Below.size bb)))
          | (go_at_call 17; go_split_ands; (with_reducible refine Calls.mono (HF1.out _ (GG.out _ bb)) ?_); rintro e wn ⟨rfl, bn⟩; have bb : Below w2.heap.size w2 wn := Below.trans bb (bn.mono (Below.size bb)))
          | (go_at_call 18; go_split_ands; (with_reducible refine Calls.mono (HF2.out _ (GG.out _ bb)) ?_); rintro e wn ⟨rfl, bn⟩; have bb : Below w2.heap.size w2 wn := Below.trans bb (bn.mono (Below.size bb)))
          | (go_at_call 19; go_split_ands; (with_reducible refine Calls.mono (HE1.out _ (GG.out _ bb)) ?_); rintro e wn ⟨rfl, bn⟩; have bb : Below w2.heap.size w2 wn := Below.trans bb (bn.mono (Below.size bb)))
          | (go_at_call 19; go_split_ands; (with_reducible refine Calls.mono (HE0.out _ (GG.out _ bb)) ?_); rintro e wn ⟨rfl, bn⟩; have bb : Below w2.heap.size w2 wn := Below.trans bb (bn.mono (Below.size bb)))
          | (go_at_call 20; go_split_ands; (with_reducible refine Calls.mono (HE2.out _ (GG.out _ bb)) ?_); rintro e wn ⟨rfl, bn⟩; have bb : Below w2.heap.size w2 wn := Below.trans bb (bn.mono (Below.size bb)))
          | (go_at_call 20; go_split_ands; (with_reducible refine Calls.mono (HE3.out _ (GG.out _ bb)) ?_); rintro e wn ⟨rfl, bn⟩; have bb : Below w2.heap.size w2 wn := Below.trans bb (bn.mono (Below.size bb)))
          | (go_at_call 8; go_split_ands; (with_reducible refine Calls.mono (HKN.out _) ?_); rintro e wn ⟨rfl, bn⟩; have bb : Below w2.heap.size w2 wn := Below.trans bb (bn.mono (Below.size bb)))))
      go_split_ands
      go_wp2
      go_ret
      exact ⟨rfl, G2.out.trans (Below.mono bb G2.out.size)⟩

end Go.Proofs.Ytdklcjgoomdhkaa
