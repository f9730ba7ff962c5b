/- ConfStarts: its walk. -/
import Derived.Test.YtdklcjgoomdhkaaWa
import Derived.Test.YtdklcjgoomdhkaaVn
namespace Go.Proofs.Ytdklcjgoomdhkaa
set_option linter.unusedSimpArgs false
set_option linter.unusedVariables false
open Go.RowKit

def startQ (u : Un) : Pf := if rightU u = true then startP u else ⟨[], [], [], []⟩
def startE (u : Un) : Int := if rightU u = true then 0 else 8
theorem own_none (w : World) (B : Nat) : OwnC w B (.slice none 0 0) (.slice none 0 0) (.slice none 0 0) (.slice none 0 0) ⟨[], [], [], []⟩ :=
  ⟨World.ownsRow_nil _ _ _ _, ⟨World.ownsRow_nil _ _ _ _, fun x hx => absurd hx (by simp)⟩, World.ownsRow_nil _ _ _ _, ⟨World.ownsRow_nil _ _ _ _, fun x hx => absurd hx (by simp)⟩⟩
theorem startQ_short {u : Un} {c : Cf} (hc : c.pf = startQ u) : ShortC c := by
  unfold startQ at hc
  by_cases hr : rightU u = true
  · rw [if_pos hr] at hc
    exact start_short hr hc
  · rw [if_neg hr] at hc
    obtain ⟨pc, regs, mem, buf⟩ := c
    simp only [Cf.pf, Pf.mk.injEq, List.map_eq_nil_iff] at hc
    obtain ⟨rfl, rfl, rfl, rfl⟩ := hc
    exact ⟨by simp, by simp, by simp, by simp, fun x hx => absurd hx (by simp), fun x hx => absurd hx (by simp)⟩
theorem nstart_q (u : Un) (vi vr vc : Value) (w : World) (hu : UnD w vi vr vc u) (hs : ShortU u) :
    Calls Try.prog 9 #[.agg #[.int .i64 u.mod, vi, vr, vc]] w fun e w' => ∃ (c : Cf) (xp xr xm xb : Value), e = .returned (.tuple #[.agg #[xp, xr, xm, xb], .int .i64 (startE u)]) ∧ OwnC w' w.heap.size xp xr xm xb c ∧ c.pf = startQ u ∧ Below w.heap.size w w' := by
  unfold startE startQ
  by_cases hr : rightU u = true
  · rw [if_pos hr, if_pos hr]
    exact nstart_yes u vi vr vc w hu hs hr
  · rw [if_neg hr, if_neg hr]
    exact (nstart_no u vi vr vc w hu hs (by simpa using hr)).mono fun _ w' ⟨h1, h2⟩ => ⟨_, _, _, _, _, h1, own_none w' _, rfl, h2⟩
theorem rstart_q (u : Un) (vi vr vc : Value) (w : World) (hu : UnD w vi vr vc u) (hs : ShortU u) :
    Calls Try.prog 10 #[.agg #[.int .i64 u.mod, vi, vr, vc]] w fun e w' => ∃ (c : Cf) (xp xr xm xb : Value), e = .returned (.tuple #[.agg #[xp, xr, xm, xb], .int .i64 (startE u)]) ∧ OwnC w' w.heap.size xp xr xm xb c ∧ c.pf = startQ u ∧ Below w.heap.size w w' := by
  unfold startE startQ
  by_cases hr : rightU u = true
  · rw [if_pos hr, if_pos hr]
    exact rstart_yes u vi vr vc w hu hs hr
  · rw [if_neg hr, if_neg hr]
    exact (rstart_no u vi vr vc w hu hs (by simpa using hr)).mono fun _ w' ⟨h1, h2⟩ => ⟨_, _, _, _, _, h1, own_none w' _, rfl, h2⟩

/-- The numbers of one row are written over: all other blocks stay. -/
structure OneR (B : Nat) (w0 w : World) (gm nm : Nat) (v : Value) : Prop where
  o : ∃ xs, w.ownsRow B 3 1 v nm xs
  f : ∀ g, v.ownBlock ≠ some g → w.heap[g]? = w0.heap[g]?
  sz : w.heap.size = w0.heap.size
  b : Below B w0 w
theorem OneR.step {B : Nat} {w0 w : World} {gm nm cap : Nat} (h : OneR B w0 w gm nm (.slice (some ⟨gm, 0, none⟩) nm cap)) (k : Nat) (u : Value) : OneR B w0 (w.setCell ⟨gm, k, none⟩ u) gm nm (.slice (some ⟨gm, 0, none⟩) nm cap) := by
  obtain ⟨xs, ho⟩ := h.o
  have hB : B ≤ gm := (ho.lt gm rfl).1
  refine ⟨⟨_, (ho.stored k u).1⟩, fun g hg => ?_, by simp [h.sz], Below.setCell (p := ⟨gm, k, none⟩) h.b hB _⟩
  have hne : g ≠ gm := fun e => hg (by rw [e]; rfl)
  exact (heap_setCell_other _ _ _ _ hne).trans (h.f g hg)
theorem OneR.cell {B : Nat} {w0 w : World} {gm nm cap : Nat} (h : OneR B w0 w gm nm (.slice (some ⟨gm, 0, none⟩) nm cap)) (k : Nat) (hk : k < nm) : (∃ x, w.cell? ⟨gm, k, none⟩ = some x) ∧ w.frozen? ⟨gm, k, none⟩ = false ∧ gm < w.heap.size := by
  obtain ⟨xs, ho⟩ := h.o
  refine ⟨?_, ho.frozenAt k, (ho.lt gm rfl).2⟩
  rw [ho.cellAt k (by omega), List.getElem?_eq_getElem (by rw [ho.1]; omega)]
  exact ⟨_, rfl⟩
theorem OneR.bk {B : Nat} {w0 w : World} {gm nm : Nat} {v : Value} (h : OneR B w0 w gm nm v) {g T n : Nat} {xs : List Value} {cs : Array Value} (hb : Bk w0 g T cs) (h0 : w0.ownsRow B 3 1 v n xs) (hT : 3 ≠ T) : Bk w g T cs :=
  (h.f g (fun e => (own_ne_bk h0 hb hT) e.symm)).trans hb

set_option maxRecDepth 100000 in
set_option maxHeartbeats 8000000 in
theorem starts_in (u : Un) (vi vr vc : Value) (w : World) (hu : UnD w vi vr vc u) :
    Calls Try.prog 3 #[.agg #[.int .i64 u.mod, vi, vr, vc]] w fun e w' => e = .returned (.bool true) ∧ Below w.heap.size w w' := by
  have HL := Lib.hid (fun (W : World) (h : Below w.heap.size w W) => ulight_any u vi vr vc W (hu.below h) _ rfl)
  have HKN := Lib.hid known_any
  have HY1 := Lib.hid (fun (hl : lightU u = true) (W : World) (h : Below w.heap.size w W) => nstart_q u vi vr vc W (hu.below h) (lightU_short hl))
  have HY2 := Lib.hid (fun (hl : lightU u = true) (W : World) (h : Below w.heap.size w W) => rstart_q u vi vr vc W (hu.below h) (lightU_short hl))
  generalize startE u = ec at HY1 HY2
  obtain ⟨ql, hql⟩ : ∃ q, lightU u = q := ⟨_, rfl⟩
  rw [hql] at HL
  have HQL := Lib.hid hql
  obtain ⟨xi, ci, rfl⟩ := hu.i.shape0
  obtain ⟨xr, cr, rfl⟩ := hu.r.shape0
  obtain ⟨xc, cc, rfl⟩ := hu.c.shape0
  generalize u.mod = m at HL HY1 HY2 ⊢
  generalize u.init.length = ni at HL HY1 HY2 ⊢
  generalize u.regs.length = nr at HL HY1 HY2 ⊢
  generalize u.code.length = nc at HL HY1 HY2 ⊢
  clear hu hql
  have KA := Lib.hid (Bk.new w 25 #[.int .i64 m, .slice xi ni ci, .slice xr nr cr, .slice xc nc cc])
  have LA : Hid (Below w.heap.size w (w.alloc (.cells #[.int .i64 m, .slice xi ni ci, .slice xr nr cr, .slice xc nc cc] 25))) := (Below.refl _ _).alloc (Nat.le_refl _) _
  go_enter Try.func3, Try.ntmps3
  go_wp2_with fail
  generalize w.alloc _ = w0 at KA LA ⊢
  refine (HL.out _ LA.out).mono ?_
  rintro e w1 ⟨rfl, b1⟩
  have K1 := Lib.hid (KA.out.below b1)
  have L1 := Lib.hid (LA.out.trans (b1.mono LA.out.size))
  clear b1 KA LA HL
  cases ql with
  | false =>
    go_wp2_with fail
    refine (HKN.out _).mono ?_
    rintro e w2 ⟨rfl, b2⟩
    have L2 := Lib.hid (L1.out.trans (b2.mono L1.out.size))
    clear b2
    go_wp2
    go_ret
    exact ⟨rfl, L2.out⟩
  | true =>
    have c0 : w1.cell? ⟨w.heap.size, 0, none⟩ = some (.int .i64 m) := K1.out.cell 0
    have c1 : w1.cell? ⟨w.heap.size, 1, none⟩ = some (.slice xi ni ci) := K1.out.cell 1
    have c2 : w1.cell? ⟨w.heap.size, 2, none⟩ = some (.slice xr nr cr) := K1.out.cell 2
    have c3 : w1.cell? ⟨w.heap.size, 3, none⟩ = some (.slice xc nc cc) := K1.out.cell 3
    have l1 := K1.out.lt
    replace HY1 := Lib.hid (HY1.out HQL.out)
    replace HY2 := Lib.hid (HY2.out HQL.out)
    go_wp2_with fail
    refine (HY1.out _ L1.out).mono ?_
    rintro e w2 ⟨a, xp, xr', xm, xb, rfl, oa, pa, b2⟩
    obtain ⟨a0, k0, a1, k1, a2, k2, a3, k3, rfl, rfl, rfl, rfl⟩ := oa.shapes
    have OA := Lib.hid oa
    have PA := Lib.hid pa
    have L2 := Lib.hid (L1.out.trans (b2.mono L1.out.size))
    have K2 := Lib.hid (K1.out.below b2)
    have S2 : Hid (w1.heap.size ≤ w2.heap.size) := Lib.hid b2.size
    clear b2 oa pa c0 c1 c2 c3 l1 K1
    generalize a.pc.length = np at OA ⊢
    generalize a.regs.length = mr at OA ⊢
    obtain ⟨mm, hmm⟩ : ∃ n, n = a.mem.length := ⟨_, rfl⟩
    rw [← hmm] at OA ⊢
    have HMM := Lib.hid hmm
    generalize a.buf.length = mb at OA ⊢
    clear hmm
    have c0 : w2.cell? ⟨w.heap.size, 0, none⟩ = some (.int .i64 m) := K2.out.cell 0
    have c1 : w2.cell? ⟨w.heap.size, 1, none⟩ = some (.slice xi ni ci) := K2.out.cell 1
    have c2 : w2.cell? ⟨w.heap.size, 2, none⟩ = some (.slice xr nr cr) := K2.out.cell 2
    have c3 : w2.cell? ⟨w.heap.size, 3, none⟩ = some (.slice xc nc cc) := K2.out.cell 3
    have l2 := K2.out.lt
    have KX := Lib.hid (Bk.new w2 31 #[.slice a0 np k0, .slice a1 mr k1, .slice a2 mm k2, .slice a3 mb k3])
    have LX : Hid (Below w2.heap.size w2 (w2.alloc (.cells #[.slice a0 np k0, .slice a1 mr k1, .slice a2 mm k2, .slice a3 mb k3] 31))) := (Below.refl _ _).alloc (Nat.le_refl _) _
    go_wp2_with fail
    generalize w2.alloc _ = w3 at KX LX ⊢
    have L3 := Lib.hid (L2.out.trans (LX.out.mono L2.out.size))
    refine (HY2.out _ L3.out).mono ?_
    rintro e w4 ⟨b, yp, yr, ym, yb, rfl, ob, pb, b4⟩
    obtain ⟨b0, j0, b1, j1, b2', j2, b3, j3, rfl, rfl, rfl, rfl⟩ := ob.shapes
    have OB := Lib.hid ob
    have PB := Lib.hid pb
    have L4 := Lib.hid (L3.out.trans (b4.mono L3.out.size))
    have K4 := Lib.hid ((K2.out.below LX.out).below b4)
    have KX4 := Lib.hid (KX.out.below b4)
    have OA4 := Lib.hid ((OA.out.below LX.out).below b4)
    have S4 : Hid (w2.heap.size ≤ w3.heap.size ∧ w3.heap.size ≤ w4.heap.size) := Lib.hid ⟨LX.out.size, b4.size⟩
    have HLM : Hid (∀ g, (Value.slice a2 mm k2).ownBlock = some g → g < w2.heap.size) := Lib.hid (fun g hg => (OA.out.m.lt g hg).2)
    clear b4 ob pb c0 c1 c2 c3 l2 K2 KX LX OA
    generalize b.pc.length = nq at OB ⊢
    generalize b.regs.length = ns at OB ⊢
    generalize b.mem.length = nt at OB ⊢
    generalize b.buf.length = nu at OB ⊢
    have KY := Lib.hid (Bk.new w4 31 #[.slice b0 nq j0, .slice b1 ns j1, .slice b2' nt j2, .slice b3 nu j3])
    have LY : Hid (Below w4.heap.size w4 (w4.alloc (.cells #[.slice b0 nq j0, .slice b1 ns j1, .slice b2' nt j2, .slice b3 nu j3] 31))) := (Below.refl _ _).alloc (Nat.le_refl _) _
    have c0 : w4.cell? ⟨w2.heap.size, 0, none⟩ = some (.slice a0 np k0) := KX4.out.cell 0
    have c1 : w4.cell? ⟨w2.heap.size, 1, none⟩ = some (.slice a1 mr k1) := KX4.out.cell 1
    have c2 : w4.cell? ⟨w2.heap.size, 2, none⟩ = some (.slice a2 mm k2) := KX4.out.cell 2
    have c3 : w4.cell? ⟨w2.heap.size, 3, none⟩ = some (.slice a3 mb k3) := KX4.out.cell 3
    have l4 := KX4.out.lt
    go_wp2_with fail
    generalize w4.alloc _ = w5 at KY LY ⊢
    have OA5 := Lib.hid (OA4.out.below LY.out)
    have OB5 := Lib.hid (OB.out.below LY.out)
    have HSAB := Lib.hid (csame_any a b _ _ _ _ _ _ _ _ w5 OA5.out.data OB5.out.data (startQ_short PA.out) true (by rw [sameC_pf, PA.out, PB.out]; exact decide_eq_true rfl))
    clear c0 c1 c2 c3 l4
    refine HSAB.out.mono ?_
    rintro e w6 ⟨rfl, b6⟩
    have L6 := Lib.hid (L4.out.trans ((LY.out.mono L4.out.size).trans (b6.mono (Nat.le_trans L4.out.size LY.out.size))))
    have K6 := Lib.hid ((K4.out.below LY.out).below b6)
    have KX6 := Lib.hid ((KX4.out.below LY.out).below b6)
    have KY6 := Lib.hid (KY.out.below b6)
    have OA6 := Lib.hid (OA5.out.below b6)
    have OB6 := Lib.hid (OB5.out.below b6)
    have I0 : Hid (OneR w1.heap.size w6 w6 0 mm (.slice a2 mm k2)) := Lib.hid ⟨⟨_, by have := OA6.out.m; rw [OwnI, ← HMM.out] at this; exact this⟩, fun _ _ => rfl, rfl, Below.refl _ _⟩
    clear b6 HSAB KY LY K4 KX4 OA4 OB OA5 OB5
    go_wp2_with fail
    go_loopg [8] mm (fun fuel i' wr => ∃ (k : Nat), i' = .int .i64 k ∧ k ≤ mm ∧ mm - k ≤ fuel ∧ OneR w1.heap.size w6 wr 0 mm (.slice a2 mm k2))
    case atStart => exact ⟨0, rfl, Nat.zero_le _, Nat.le_refl _, I0.out⟩
    case round =>
      obtain ⟨k, rfl, hk, hf, hi⟩ := hrel
      have HI := Lib.hid hi
      have hm9 := OA6.out.m
      rw [OwnI, ← HMM.out] at hm9
      have KXR := Lib.hid (hi.bk KX6.out hm9 (by decide))
      clear hi I0 hm9
      have c2 : wr.cell? ⟨w2.heap.size, 2, none⟩ = some (.slice a2 mm k2) := KXR.out.cell 2
      have l2 := KXR.out.lt
      by_cases hlt : k < mm
      · obtain ⟨xs, ho⟩ := HI.out.o
        obtain ⟨g, cap, hv, hg1, hg2⟩ := ho.form (by omega)
        injection hv with hv1 _ hv2
        subst hv1 hv2
        have HST := Lib.hid (OneR.step (gm := g) ⟨HI.out.o, HI.out.f, HI.out.sz, HI.out.b⟩ k (.int .i64 99))
        obtain ⟨⟨x0, d0⟩, f0, l0⟩ := OneR.cell (gm := g) (w := wr) (w0 := w6) (B := w1.heap.size) ⟨HI.out.o, HI.out.f, HI.out.sz, HI.out.b⟩ k hlt
        have hmm9 : mm ≤ 100000 := by rw [HMM.out]; exact (startQ_short PA.out).m
        have e1 : (0 : Int) ≤ (k : Int) := Int.natCast_nonneg _
        have e2 : (k : Int) < (mm : Int) := by omega
        clear ho hg1 hg2
        go_wp2_with fail
        go_roundg (gk - 1)
        case measure => omega
        case rel => exact ⟨k + 1, by go_num, by omega, by omega, ⟨HST.out.o, HST.out.f, HST.out.sz, HST.out.b⟩⟩
      · have HL9 := Lib.hid (L6.out.trans (HI.out.b.mono (by have := L1.out.size; exact this)))
        have hm9 := OA6.out.m
        rw [OwnI, ← HMM.out] at hm9
        have KR := Lib.hid (HI.out.bk K6.out hm9 (by decide))
        have KYR := Lib.hid (HI.out.bk KY6.out hm9 (by decide))
        have OBR : Hid (OwnC wr w3.heap.size (.slice b0 nq j0) (.slice b1 ns j1) (.slice b2' nt j2) (.slice b3 nu j3) b) := Lib.hid (OB6.out.kp ⟨Nat.le_of_eq HI.out.sz.symm, fun g h1 h2 => HI.out.f g (fun e => by have := HLM.out g e; have := S4.out; omega)⟩)
        have cx : wr.cell? ⟨w2.heap.size, 2, none⟩ = some (.slice a2 mm k2) := KXR.out.cell 2
        have lx := KXR.out.lt
        clear hm9 KXR c2 l2 K6 KX6 KY6 OA6 OB6
        have c0 : wr.cell? ⟨w.heap.size, 0, none⟩ = some (.int .i64 m) := KR.out.cell 0
        have c1 : wr.cell? ⟨w.heap.size, 1, none⟩ = some (.slice xi ni ci) := KR.out.cell 1
        have c2 : wr.cell? ⟨w.heap.size, 2, none⟩ = some (.slice xr nr cr) := KR.out.cell 2
        have c3 : wr.cell? ⟨w.heap.size, 3, none⟩ = some (.slice xc nc cc) := KR.out.cell 3
        have l2 := KR.out.lt
        go_wp2_with fail
        refine (HY1.out _ HL9.out).mono ?_
        rintro e w7 ⟨c, zp, zr, zm, zb, rfl, oc, pc, b7⟩
        obtain ⟨f0, h0, f1, h1, f2, h2, f3, h3, rfl, rfl, rfl, rfl⟩ := oc.shapes
        have OC := Lib.hid oc
        have PC := Lib.hid pc
        have L7 := Lib.hid (HL9.out.trans (b7.mono HL9.out.size))
        have KY7 := Lib.hid (KYR.out.below b7)
        have OB7 := Lib.hid (OBR.out.below b7)
        clear b7 oc pc c0 c1 c2 c3 l2 cx lx KR KYR OBR
        generalize c.pc.length = nf at OC ⊢
        generalize c.regs.length = ng at OC ⊢
        generalize c.mem.length = nh at OC ⊢
        generalize c.buf.length = nk at OC ⊢
        have KZ := Lib.hid (Bk.new w7 31 #[.slice f0 nf h0, .slice f1 ng h1, .slice f2 nh h2, .slice f3 nk h3])
        have LZ : Hid (Below w7.heap.size w7 (w7.alloc (.cells #[.slice f0 nf h0, .slice f1 ng h1, .slice f2 nh h2, .slice f3 nk h3] 31))) := (Below.refl _ _).alloc (Nat.le_refl _) _
        have c0 : w7.cell? ⟨w4.heap.size, 0, none⟩ = some (.slice b0 nq j0) := KY7.out.cell 0
        have c1 : w7.cell? ⟨w4.heap.size, 1, none⟩ = some (.slice b1 ns j1) := KY7.out.cell 1
        have c2 : w7.cell? ⟨w4.heap.size, 2, none⟩ = some (.slice b2' nt j2) := KY7.out.cell 2
        have c3 : w7.cell? ⟨w4.heap.size, 3, none⟩ = some (.slice b3 nu j3) := KY7.out.cell 3
        have l7 := KY7.out.lt
        go_wp2_with fail
        generalize w7.alloc _ = w8 at KZ LZ ⊢
        have HSCB := Lib.hid (csame_any c b _ _ _ _ _ _ _ _ w8 (OC.out.below LZ.out).data (OB7.out.below LZ.out).data (startQ_short PC.out) true (by rw [sameC_pf, PC.out, PB.out]; exact decide_eq_true rfl))
        have L8 := Lib.hid (L7.out.trans (LZ.out.mono L7.out.size))
        clear c0 c1 c2 c3 l7 KZ LZ KY7 OB7 OC
        refine HSCB.out.mono ?_
        rintro e w9 ⟨rfl, b9⟩
        have L9 := Lib.hid (L8.out.trans (b9.mono L8.out.size))
        clear b9 HSCB
        go_wp2_with fail
        refine (HKN.out _).mono ?_
        rintro e w10 ⟨rfl, b10⟩
        have L10 := Lib.hid (L9.out.trans (b10.mono L9.out.size))
        clear b10
        go_wp2
        go_ret
        exact ⟨rfl, L10.out⟩

end Go.Proofs.Ytdklcjgoomdhkaa
