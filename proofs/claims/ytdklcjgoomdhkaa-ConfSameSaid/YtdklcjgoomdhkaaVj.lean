/- Layer 9's law: known. -/
import Derived.Test.YtdklcjgoomdhkaaVg
import Derived.Test.YtdklcjgoomdhkaaVh
import Derived.Test.YtdklcjgoomdhkaaVf
import Derived.Test.YtdklcjgoomdhkaaVe
import Derived.Test.YtdklcjgoomdhkaaVc
import Derived.Deep.DrawnRows
namespace Go.Proofs.Ytdklcjgoomdhkaa
set_option linter.unusedSimpArgs false
set_option linter.unusedVariables false
open Go.RowKit

def zeroU : Un := ⟨0, [], [], []⟩
theorem zeroD (w : World) : UnD w (.slice none 0 0) (.slice none 0 0) (.slice none 0 0) zeroU := ⟨SlD.nil, SlD.nil, SlD.nil⟩

/-- A configuration of one thread, with a register, and of one location. -/
def confK (p : Int) (r b : Value) : Cf := ⟨[p], [([0], r)], [3], [([], b)]⟩
theorem conf_pf {c : Cf} {p : Int} (h : c.pf = ⟨[p], [[0]], [3], [[]]⟩) : ∃ r b, c = confK p r b := by
  obtain ⟨pc, regs, mem, buf⟩ := c
  simp only [Cf.pf, Pf.mk.injEq] at h
  obtain ⟨h1, h2, h3, h4⟩ := h
  subst h1 h3
  match regs, h2 with
  | [(a, r)], h2 =>
    match buf, h4 with
    | [(l, b)], h4 =>
      simp at h2 h4
      subst h2 h4
      exact ⟨r, b, rfl⟩
theorem confK_short (p : Int) (r b : Value) : ShortC (confK p r b) := by
  refine ⟨by simp [confK], by simp [confK], by simp [confK], by simp [confK], fun x hx => ?_, fun x hx => ?_⟩
  · rw [show x = ([0], r) from List.mem_singleton.1 hx]; simp
  · rw [show x = ([], b) from List.mem_singleton.1 hx]; simp
theorem confK_shapes {w : World} {B : Nat} {vp vr vm vb : Value} {p : Int} {r b : Value} (h : OwnC w B vp vr vm vb (confK p r b)) :
    ∃ gp kp a1 k1 gm km a3 k3, vp = .slice (some ⟨gp, 0, none⟩) 1 kp ∧ vr = .slice a1 1 k1 ∧ vm = .slice (some ⟨gm, 0, none⟩) 1 km ∧ vb = .slice a3 1 k3 ∧
      B ≤ gp ∧ gp < w.heap.size ∧ w.cell? ⟨gp, 0, none⟩ = some (.int .i64 p) ∧ w.frozen? ⟨gp, 0, none⟩ = false ∧ B ≤ gm ∧ gm < w.heap.size ∧ w.cell? ⟨gm, 0, none⟩ = some (.int .i64 3) := by
  obtain ⟨gp, kp, rfl, hp1, hp2⟩ := World.ownsRow.form h.p (by simp [confK])
  obtain ⟨gm, km, rfl, hm1, hm2⟩ := World.ownsRow.form h.m (by simp [confK])
  obtain ⟨a1, k1, rfl, _⟩ := own_shape' h.r.h
  obtain ⟨a3, k3, rfl, _⟩ := own_shape' h.b.h
  exact ⟨gp, kp, a1, k1, gm, km, a3, k3, rfl, rfl, rfl, rfl, hp1, hp2, h.p.cellAt 0 (by simp [confK]), h.p.frozenAt 0, hm1, hm2, h.m.cellAt 0 (by simp [confK])⟩

/-- What is owned from a base on stays so where the cells stay. -/
theorem own_keepBase {w w' : World} {B C T S n : Nat} {v : Value} {xs : List Value} (h : w.ownsRow B T S v n xs) (h' : w'.ownsRow C T S v n xs) : w'.ownsRow B T S v n xs := by
  refine ⟨h'.1, ?_⟩
  rcases h'.2 with h2 | ⟨g, cap, cur, hv, _, r⟩
  · exact .inl h2
  · refine .inr ⟨g, cap, cur, hv, (h.lt g (by rw [hv]; rfl)).1, r⟩

attribute [local go_sem ↓] Go.wp_at_zero Go.wp_at_succ
set_option maxRecDepth 100000 in
set_option maxHeartbeats 16000000 in
theorem known_any (w : World) :
    Calls Try.prog 8 #[] w fun e w' => e = .returned (.bool true) ∧ Below w.heap.size w w' := by
  have HUN := Lib.hid unit_any
  go_enter Try.func8, Try.ntmps8
  go_wp2_with fail
  refine (HUN.out w).mono ?_
  rintro e w1 ⟨ai, ar, ac, v1, rfl, du1, b1⟩
  have B1 := Lib.hid b1
  have HS1 := Lib.hid (nstart_yes (unitU v1) _ _ _ w1 du1 (unit_short v1) (unit_right v1))
  clear b1 du1
  go_wp2_with fail
  refine HS1.out.mono ?_
  rintro e w2 ⟨c, xp, xr, xm, xb, rfl, oc, pc, b2⟩
  obtain ⟨rv, bv, rfl⟩ := conf_pf (p := 0) (pc.trans rfl)
  obtain ⟨gp, kp, a1, k1, gm, km, a3, k3, rfl, rfl, rfl, rfl, hp1, hp2, cp, fp, hm1, hm2, cm⟩ := confK_shapes oc
  have OC := Lib.hid oc
  have B2 := Lib.hid (B1.out.trans (b2.mono B1.out.size))
  have HS2 := Lib.hid (fun (W : World) => nstart_no zeroU _ _ _ W (zeroD W) ⟨by simp [zeroU], by simp [zeroU], by simp [zeroU]⟩ rfl)
  clear oc pc b2 HS1 hp1 hp2 cp fp hm1 hm2 cm
  have K2 := Lib.hid (Bk.new w2 31 #[.slice (some ⟨gp, 0, none⟩) 1 kp, .slice a1 1 k1, .slice (some ⟨gm, 0, none⟩) 1 km, .slice a3 1 k3])
  have L2 : Hid (Below w2.heap.size w2 (w2.alloc (.cells #[.slice (some ⟨gp, 0, none⟩) 1 kp, .slice a1 1 k1, .slice (some ⟨gm, 0, none⟩) 1 km, .slice a3 1 k3] 31))) := (Below.refl _ _).alloc (Nat.le_refl _) _
  go_wp2_with fail
  generalize w2.alloc _ = w3 at K2 L2 ⊢
  refine (HS2.out w3).mono ?_
  rintro e w4 ⟨rfl, b4⟩
  have L4 := Lib.hid (L2.out.trans (b4.mono L2.out.size))
  have K4 := Lib.hid (K2.out.below b4)
  clear b4 K2 L2 HS2
  have c0 : w4.cell? ⟨w2.heap.size, 0, none⟩ = some (.slice (some ⟨gp, 0, none⟩) 1 kp) := K4.out.cell 0
  have c1 : w4.cell? ⟨w2.heap.size, 1, none⟩ = some (.slice a1 1 k1) := K4.out.cell 1
  have c2 : w4.cell? ⟨w2.heap.size, 2, none⟩ = some (.slice (some ⟨gm, 0, none⟩) 1 km) := K4.out.cell 2
  have c3 : w4.cell? ⟨w2.heap.size, 3, none⟩ = some (.slice a3 1 k3) := K4.out.cell 3
  have l4 := K4.out.lt
  have L5 : Hid (Below w4.heap.size w4 (w4.alloc (.cells #[.slice none 0 0, .slice none 0 0, .slice none 0 0, .slice none 0 0] 31))) := Lib.hid ((Below.refl _ _).alloc (Nat.le_refl _) _)
  go_wp2_with fail
  generalize w4.alloc _ = w5 at L5 ⊢
  have M5 := Lib.hid (L4.out.trans (L5.out.mono L4.out.size))
  have K5 := Lib.hid (K4.out.below L5.out)
  have OC5 := Lib.hid (OC.out.below M5.out)
  have HCP := Lib.hid (ncopy_ap _ _ _ _ _ w5 OC5.out.data (confK_short 0 rv bv))
  clear c0 c1 c2 c3 l4 L5 L4 K4 OC
  refine HCP.out.mono ?_
  rintro e w6 ⟨d, yp, yr, ym, yb, rfl, od, pd, b6, B6, ap⟩
  obtain ⟨rd, bd, rfl⟩ := conf_pf (p := 0) pd
  obtain ⟨gq, kq, a5, k5, gn, kn, a7, k7, rfl, rfl, rfl, rfl, hq1, hq2, cq, fq, hn1, hn2, cn⟩ := confK_shapes od
  have OD := Lib.hid od
  have AP := Lib.hid ap
  have M6 := Lib.hid (M5.out.trans (b6.mono M5.out.size))
  have K6 := Lib.hid (K5.out.below b6)
  have OC6 := Lib.hid (OC5.out.below b6)
  have HQ1 := Lib.hid hq1
  have HQ2 := Lib.hid hq2
  have HCQ := Lib.hid cq
  have HFQ := Lib.hid fq
  have HB6 := Lib.hid b6
  clear od ap pd b6 HCP hn1 hn2 cn hq1
  go_wp2_with fail
  have H8 : Hid (OwnC ((w6.setCell ⟨gq, 0, none⟩ (.int .i64 1)).alloc (.cells #[.slice (some ⟨gq, 0, none⟩) 1 kq, .slice a5 1 k5, .slice (some ⟨gn, 0, none⟩) 1 kn, .slice a7 1 k7] 31)) w5.heap.size (.slice (some ⟨gq, 0, none⟩) 1 kq) (.slice a5 1 k5) (.slice (some ⟨gn, 0, none⟩) 1 kn) (.slice a7 1 k7) (confK 1 rd bd)) := Lib.hid (by
    have hlt := AP.out.p gq rfl
    have kp : Kp B6 w6 (w6.setCell ⟨gq, 0, none⟩ (.int .i64 1)) := ⟨by simp, fun g h1 _ => heap_setCell_other _ _ _ _ (by simp; omega)⟩
    have hlo := HQ1.out
    have st := (OD.out.p.stored 0 (.int .i64 1)).1
    have hr := OwnR.kp AP.out.r kp
    have hm := own_kp AP.out.m kp
    have hbf := OwnB.kp AP.out.b kp
    have hs : w5.heap.size ≤ w5.heap.size := Nat.le_refl _
    refine OwnC.below (w := w6.setCell ⟨gq, 0, none⟩ (.int .i64 1)) ⟨st, ⟨?_, fun x hx => ?_⟩, ?_, ⟨?_, fun x hx => ?_⟩⟩ ((Below.refl _ _).alloc (Nat.le_refl _) _)
    · exact own_keepBase OD.out.r.h hr.h
    · exact own_keepBase (OD.out.r.r x hx) (hr.r x hx)
    · exact own_keepBase OD.out.m hm
    · exact own_keepBase OD.out.b.h hbf.h
    · exact own_keepBase (OD.out.b.r x hx) (hbf.r x hx))
  have L8 : Hid (Below w5.heap.size w5 ((w6.setCell ⟨gq, 0, none⟩ (.int .i64 1)).alloc (.cells #[.slice (some ⟨gq, 0, none⟩) 1 kq, .slice a5 1 k5, .slice (some ⟨gn, 0, none⟩) 1 kn, .slice a7 1 k7] 31))) := Lib.hid ((Below.setCell (p := ⟨gq, 0, none⟩) HB6.out HQ1.out _).alloc (by simp; exact HB6.out.size) _)
  have KD8 : Hid (Bk ((w6.setCell ⟨gq, 0, none⟩ (.int .i64 1)).alloc (.cells #[.slice (some ⟨gq, 0, none⟩) 1 kq, .slice a5 1 k5, .slice (some ⟨gn, 0, none⟩) 1 kn, .slice a7 1 k7] 31)) w6.heap.size 31 #[.slice (some ⟨gq, 0, none⟩) 1 kq, .slice a5 1 k5, .slice (some ⟨gn, 0, none⟩) 1 kn, .slice a7 1 k7]) := Lib.hid (bk_here (by simp))
  obtain ⟨_, _, _, _, _, _, _, _, q1, q2, q3, q4, p1, p2, cp5, _, p3, p4, cm5⟩ := confK_shapes OC5.out
  injection q1 with q1 _ q1c
  injection q1 with q1
  injection q1 with q1 _ _
  injection q3 with q3 _ q3c
  injection q3 with q3
  injection q3 with q3 _ _
  subst q1 q3 q1c q3c
  have D5 := Lib.hid OC5.out.data
  clear q2 q4 p1 p3 OD AP OC6 K6 HB6 HQ2 HCQ HFQ M6
  generalize (w6.setCell ⟨gq, 0, none⟩ (.int .i64 1)).alloc _ = w8 at H8 L8 KD8 ⊢
  have K8 := Lib.hid (K5.out.below L8.out)
  have D8 := Lib.hid (D5.out.below L8.out)
  have cp8 : w8.cell? ⟨gp, 0, none⟩ = some (.int .i64 0) := (L8.out.cell (p := ⟨gp, 0, none⟩) p2).trans cp5
  have cm8 : w8.cell? ⟨gm, 0, none⟩ = some (.int .i64 3) := (L8.out.cell (p := ⟨gm, 0, none⟩) p4).trans cm5
  have ltp : gp < w8.heap.size := Nat.lt_of_lt_of_le p2 L8.out.size
  have ltm : gm < w8.heap.size := Nat.lt_of_lt_of_le p4 L8.out.size
  have M8 := Lib.hid (M5.out.trans (L8.out.mono M5.out.size))
  have M9 := Lib.hid (B2.out.trans (M8.out.mono B2.out.size))
  have KK := Lib.hid (fun (W : World) (hb : Below w8.heap.size w8 W) => (⟨(K8.out.below hb).cell 0, (K8.out.below hb).cell 1, (K8.out.below hb).cell 2, (K8.out.below hb).cell 3, (KD8.out.below hb).cell 0, (KD8.out.below hb).cell 1, (KD8.out.below hb).cell 2, (KD8.out.below hb).cell 3, (hb.cell (p := ⟨gp, 0, none⟩) ltp).trans cp8, (hb.cell (p := ⟨gm, 0, none⟩) ltm).trans cm8, hb⟩ : W.cell? ⟨w2.heap.size, 0, none⟩ = some (.slice (some ⟨gp, 0, none⟩) 1 kp) ∧ W.cell? ⟨w2.heap.size, 1, none⟩ = some (.slice a1 1 k1) ∧ W.cell? ⟨w2.heap.size, 2, none⟩ = some (.slice (some ⟨gm, 0, none⟩) 1 km) ∧ W.cell? ⟨w2.heap.size, 3, none⟩ = some (.slice a3 1 k3) ∧ W.cell? ⟨w6.heap.size, 0, none⟩ = some (.slice (some ⟨gq, 0, none⟩) 1 kq) ∧ W.cell? ⟨w6.heap.size, 1, none⟩ = some (.slice a5 1 k5) ∧ W.cell? ⟨w6.heap.size, 2, none⟩ = some (.slice (some ⟨gn, 0, none⟩) 1 kn) ∧ W.cell? ⟨w6.heap.size, 3, none⟩ = some (.slice a7 1 k7) ∧ W.cell? ⟨gp, 0, none⟩ = some (.int .i64 0) ∧ W.cell? ⟨gm, 0, none⟩ = some (.int .i64 3) ∧ Below w8.heap.size w8 W))
  have HR1 := Lib.hid (fun (W : World) (ai ar ac : Option Addr) (v : Value) (du : UnD W (.slice ai 1 1) (.slice ar 1 1) (.slice ac 1 1) (unitU v)) (hb : Below w8.heap.size w8 W) => (show Calls Try.prog 13 #[.agg #[.int .i64 4, .slice ai 1 1, .slice ar 1 1, .slice ac 1 1], .agg #[.slice (some ⟨gp, 0, none⟩) 1 kp, .slice a1 1 k1, .slice (some ⟨gm, 0, none⟩) 1 km, .slice a3 1 k3], .int .i64 1, .int .i64 1] W fun e w' => e = .returned (.bool true) ∧ Below W.heap.size W w' from nright_any (unitU v) (confK 0 rv bv) 1 1 _ _ _ _ _ _ _ W du (D8.out.below hb) (unit_short v) (confK_short 0 rv bv) true rfl))
  have HR4 := Lib.hid (fun (W : World) (ai ar ac : Option Addr) (v : Value) (du : UnD W (.slice ai 1 1) (.slice ar 1 1) (.slice ac 1 1) (unitU v)) (hb : Below w8.heap.size w8 W) => (show Calls Try.prog 13 #[.agg #[.int .i64 4, .slice ai 1 1, .slice ar 1 1, .slice ac 1 1], .agg #[.slice (some ⟨gp, 0, none⟩) 1 kp, .slice a1 1 k1, .slice (some ⟨gm, 0, none⟩) 1 km, .slice a3 1 k3], .int .i64 4, .int .i64 1] W fun e w' => e = .returned (.bool false) ∧ Below W.heap.size W w' from nright_any (unitU v) (confK 0 rv bv) 4 1 _ _ _ _ _ _ _ W du (D8.out.below hb) (unit_short v) (confK_short 0 rv bv) false rfl))
  have HF0 := Lib.hid (fun (W : World) (ai ar ac : Option Addr) (v : Value) (du : UnD W (.slice ai 1 1) (.slice ar 1 1) (.slice ac 1 1) (unitU v)) (hb : Below w8.heap.size w8 W) => (show Calls Try.prog 17 #[.agg #[.int .i64 4, .slice ai 1 1, .slice ar 1 1, .slice ac 1 1], .agg #[.slice (some ⟨gp, 0, none⟩) 1 kp, .slice a1 1 k1, .slice (some ⟨gm, 0, none⟩) 1 km, .slice a3 1 k3]] W fun e w' => e = .returned (.bool false) ∧ Below W.heap.size W w' from nfinal_any (unitU v) (confK 0 rv bv) _ _ _ _ _ _ _ W du (D8.out.below hb) (by simp [unitU]) (by simp [confK]) false rfl))
  have HF1 := Lib.hid (fun (W : World) (ai ar ac : Option Addr) (v : Value) (du : UnD W (.slice ai 1 1) (.slice ar 1 1) (.slice ac 1 1) (unitU v)) (hb : Below w8.heap.size w8 W) => (show Calls Try.prog 17 #[.agg #[.int .i64 4, .slice ai 1 1, .slice ar 1 1, .slice ac 1 1], .agg #[.slice (some ⟨gq, 0, none⟩) 1 kq, .slice a5 1 k5, .slice (some ⟨gn, 0, none⟩) 1 kn, .slice a7 1 k7]] W fun e w' => e = .returned (.bool true) ∧ Below W.heap.size W w' from nfinal_any (unitU v) (confK 1 rd bd) _ _ _ _ _ _ _ W du (H8.out.data.below hb) (by simp [unitU]) (by simp [confK]) true rfl))
  have HE0 := Lib.hid (fun (W : World) (ai ar ac : Option Addr) (v : Value) (du : UnD W (.slice ai 1 1) (.slice ar 1 1) (.slice ac 1 1) (unitU v)) (hb : Below w8.heap.size w8 W) => (show Calls Try.prog 19 #[.agg #[.int .i64 4, .slice ai 1 1, .slice ar 1 1, .slice ac 1 1], .agg #[.slice (some ⟨gq, 0, none⟩) 1 kq, .slice a5 1 k5, .slice (some ⟨gn, 0, none⟩) 1 kn, .slice a7 1 k7], .int .i64 0] W fun e w' => e = .returned (.bool true) ∧ Below W.heap.size W w' from nended_any (unitU v) (confK 1 rd bd) 0 _ _ _ _ _ _ _ W du (H8.out.data.below hb) true rfl))
  have HE1 := Lib.hid (fun (W : World) (ai ar ac : Option Addr) (v : Value) (du : UnD W (.slice ai 1 1) (.slice ar 1 1) (.slice ac 1 1) (unitU v)) (hb : Below w8.heap.size w8 W) => (show Calls Try.prog 19 #[.agg #[.int .i64 4, .slice ai 1 1, .slice ar 1 1, .slice ac 1 1], .agg #[.slice (some ⟨gq, 0, none⟩) 1 kq, .slice a5 1 k5, .slice (some ⟨gn, 0, none⟩) 1 kn, .slice a7 1 k7], .int .i64 1] W fun e w' => e = .returned (.bool false) ∧ Below W.heap.size W w' from nended_any (unitU v) (confK 1 rd bd) 1 _ _ _ _ _ _ _ W du (H8.out.data.below hb) false rfl))
  have HQC := Lib.hid (fun (W : World) (hb : Below w8.heap.size w8 W) => nquiet_any (confK 0 rv bv) _ _ _ _ W (D8.out.below hb) (by simp [confK]) true rfl)
  have HSC := Lib.hid (fun (W : World) (hb : Below w8.heap.size w8 W) => ncsame_any (confK 0 rv bv) (confK 1 rd bd) _ _ _ _ _ _ _ _ W (D8.out.below hb) (H8.out.data.below hb) (confK_short 0 rv bv) false rfl)
  have HCO := Lib.hid (fun (W : World) (hb : Below w8.heap.size w8 W) => ncopy_any (confK 0 rv bv) _ _ _ _ W (D8.out.below hb) (confK_short 0 rv bv))
  have HSK := Lib.hid (fun (W : World) (c' : Cf) (yp yr ym yb : Value) (hd : CfD W yp yr ym yb c') (hc : c'.pf = (confK 0 rv bv).pf) (hb : Below w8.heap.size w8 W) => ncsame_any (confK 0 rv bv) c' _ _ _ _ yp yr ym yb W (D8.out.below hb) hd (confK_short 0 rv bv) true (by rw [sameC_pf, hc]; exact decide_eq_true rfl))
  have bb : Below w8.heap.size w8 w8.drew := below_draws' w8
  obtain ⟨j0, j1, j2, j3, j4, j5, j6, j7, j8, j9, bc⟩ := KK.out w8 (Below.refl _ _)
  clear OC5 K5 D5 cp5 cm5 p2 p4 L8 H8 KD8 K8 D8 cp8 cm8 B1 B2 M5 M8
  go_wp2_with fail
  go_region_held3 (fun W => W.cell? ⟨w2.heap.size, 0, none⟩ = some (.slice (some ⟨gp, 0, none⟩) 1 kp) ∧ W.cell? ⟨w2.heap.size, 1, none⟩ = some (.slice a1 1 k1) ∧ W.cell? ⟨w2.heap.size, 2, none⟩ = some (.slice (some ⟨gm, 0, none⟩) 1 km) ∧ W.cell? ⟨w2.heap.size, 3, none⟩ = some (.slice a3 1 k3) ∧ W.cell? ⟨w6.heap.size, 0, none⟩ = some (.slice (some ⟨gq, 0, none⟩) 1 kq) ∧ W.cell? ⟨w6.heap.size, 1, none⟩ = some (.slice a5 1 k5) ∧ W.cell? ⟨w6.heap.size, 2, none⟩ = some (.slice (some ⟨gn, 0, none⟩) 1 kn) ∧ W.cell? ⟨w6.heap.size, 3, none⟩ = some (.slice a7 1 k7) ∧ W.cell? ⟨gp, 0, none⟩ = some (.int .i64 0) ∧ W.cell? ⟨gm, 0, none⟩ = some (.int .i64 3) ∧ Below w8.heap.size w8 W)
    (first | with_reducible exact ⟨j0, j1, j2, j3, j4, j5, j6, j7, j8, j9, bc⟩ | with_reducible exact ⟨j0, j1, j2, j3, j4, j5, j6, j7, j8, j9, bb⟩ | with_reducible assumption | with_reducible exact KK.out _ bb)
    ((first
      | (go_at_call 25; go_split_ands; (with_reducible refine Calls.mono (HUN.out _) ?_); rintro e wn ⟨_, _, _, _, rfl, du, bn⟩; have bb : Below w8.heap.size w8 wn := Below.trans (by assumption) (bn.mono (Below.size (by assumption))))
      | (go_at_call 13; go_split_ands; (first | (with_reducible refine Calls.mono (HR1.out _ _ _ _ _ du bb) ?_) | (with_reducible refine Calls.mono (HR4.out _ _ _ _ _ du bb) ?_)); rintro e wn ⟨rfl, bn⟩; have bb : Below w8.heap.size w8 wn := Below.trans (by assumption) (bn.mono (Below.size (by assumption))))
      | (go_at_call 17; go_split_ands; (first | (with_reducible refine Calls.mono (HF0.out _ _ _ _ _ du bb) ?_) | (with_reducible refine Calls.mono (HF1.out _ _ _ _ _ du bb) ?_)); rintro e wn ⟨rfl, bn⟩; have bb : Below w8.heap.size w8 wn := Below.trans (by assumption) (bn.mono (Below.size (by assumption))))
      | (go_at_call 19; go_split_ands; (first | (with_reducible refine Calls.mono (HE0.out _ _ _ _ _ du bb) ?_) | (with_reducible refine Calls.mono (HE1.out _ _ _ _ _ du bb) ?_)); rintro e wn ⟨rfl, bn⟩; have bb : Below w8.heap.size w8 wn := Below.trans (by assumption) (bn.mono (Below.size (by assumption))))
      | (go_at_call 15; go_split_ands; (with_reducible refine Calls.mono (HQC.out _ bb) ?_); rintro e wn ⟨rfl, bn⟩; have bb : Below w8.heap.size w8 wn := Below.trans (by assumption) (bn.mono (Below.size (by assumption))))
      | (go_at_call 21; go_split_ands; (with_reducible refine Calls.mono (HCO.out _ bb) ?_); rintro e wn ⟨c', xp', xr', xm', xb', rfl, oc', pc', bn⟩; obtain ⟨_, _, _, _, _, _, _, _, rfl, rfl, rfl, rfl⟩ := oc'.shapes; have dc' := oc'.data; have bb : Below w8.heap.size w8 wn := Below.trans (by assumption) (bn.mono (Below.size (by assumption))))
      | (go_at_call 23; go_split_ands; (first | (with_reducible refine Calls.mono (HSC.out _ bb) ?_) | (with_reducible refine Calls.mono (HSK.out _ _ _ _ _ _ dc' pc' bb) ?_)); rintro e wn ⟨rfl, bn⟩; have bb : Below w8.heap.size w8 wn := Below.trans (by assumption) (bn.mono (Below.size (by assumption))))))
  go_split_ands
  go_wp2
  go_ret
  exact ⟨rfl, M9.out.trans (Below.mono bb M9.out.size)⟩

end Go.Proofs.Ytdklcjgoomdhkaa
