/- ConfSame: its walk. -/
import Derived.Test.YtdklcjgoomdhkaaWd
import Derived.Test.YtdklcjgoomdhkaaVn
import Derived.Deep.DrawnRows
namespace Go.Proofs.Ytdklcjgoomdhkaa
set_option linter.unusedSimpArgs false
set_option linter.unusedVariables false
open Go.RowKit

/-- Numbers and entries of blocks from B on, ahead of C, may have been written over: all else stays. -/
structure SC (B C : Nat) (w0 w : World) : Prop where
  f : ∀ g, ¬ (B ≤ g ∧ g < C) → w.heap[g]? = w0.heap[g]?
  k : ∀ (g : Nat) (cs : Array Value) (T : TypeId) (m : Nat × Nat), w0.heap[g]? = some (.cells cs T m) → ∃ cs' : Array Value, w.heap[g]? = some (.cells cs' T m) ∧ cs'.size = cs.size ∧ (T ≠ 3 ∧ T ≠ 45 → cs' = cs)
  sz : w.heap.size = w0.heap.size
  b : Below B w0 w
theorem SC.refl (B C : Nat) (w : World) : SC B C w w := ⟨fun _ _ => rfl, fun g cs T m h => ⟨cs, h, rfl, fun _ => rfl⟩, rfl, Below.refl _ _⟩
theorem SC.set {B C : Nat} {w0 w : World} (h : SC B C w0 w) {g : Nat} {cs : Array Value} {T k : Nat} (u : Value) (hg : w0.heap[g]? = some (.cells cs T (0, 0))) (hT : T = 3 ∨ T = 45) (hB : B ≤ g) (hC : g < C) : SC B C w0 (w.setCell ⟨g, k, none⟩ u) := by
  refine ⟨fun g' hg' => ?_, fun g' cs' T' m hh => ?_, by simp [h.sz], Below.setCell (p := ⟨g, k, none⟩) h.b hB _⟩
  · have hne : g' ≠ g := fun e => hg' (e ▸ ⟨hB, hC⟩)
    exact (heap_setCell_other _ _ _ _ hne).trans (h.f g' hg')
  · by_cases he : g' = g
    · subst he
      rw [hg] at hh
      injection hh with hh
      injection hh with e1 e2 e3
      subst e1 e2 e3
      obtain ⟨cs2, h1, h2, h3⟩ := h.k _ _ _ _ hg
      refine ⟨_, heap_setCell_same w g' k cs2 T u h1, by simp [h2], fun hn => ?_⟩
      rcases hT with hT | hT
      · exact absurd hT hn.1
      · exact absurd hT hn.2
    · obtain ⟨cs2, h1, h2, h3⟩ := h.k _ _ _ _ hh
      exact ⟨cs2, (heap_setCell_other _ _ _ _ he).trans h1, h2, h3⟩
theorem SC.own {B B' C T S n : Nat} {w0 w : World} {v : Value} {xs : List Value} (h : SC B C w0 w) (o : w0.ownsRow B' T S v n xs) (hT : T ≠ 3 ∧ T ≠ 45) : w.ownsRow B' T S v n xs := by
  refine ⟨o.1, ?_⟩
  rcases o.2 with o2 | ⟨g, cap, cur, hv, hg, hh, r⟩
  · exact .inl o2
  · obtain ⟨cs2, h1, h2, h3⟩ := h.k _ _ _ _ hh
    rw [h3 hT] at h1
    exact .inr ⟨g, cap, cur, hv, hg, h1, r⟩
theorem SC.bk {B C T g : Nat} {w0 w : World} {cs : Array Value} (h : SC B C w0 w) (o : Bk w0 g T cs) (hT : T ≠ 3 ∧ T ≠ 45) : Bk w g T cs := by
  obtain ⟨cs2, h1, h2, h3⟩ := h.k _ _ _ _ o
  rw [h3 hT] at h1
  exact h1
theorem SC.row {B C T S n : Nat} {w0 w : World} {v : Value} {xs : List Value} (h : SC B C w0 w) (o : w0.ownsRow B T S v n xs) (hT : T = 3 ∨ T = 45) (hC : w0.heap.size ≤ C ∨ ∀ g, v.ownBlock = some g → g < C) (hn : 0 < n) :
    ∃ g cap, v = .slice (some ⟨g, 0, none⟩) n cap ∧ g < w.heap.size ∧ ∀ k, k < n * S → (∃ x, w.cell? ⟨g, k, none⟩ = some x) ∧ w.frozen? ⟨g, k, none⟩ = false ∧ ∀ u, SC B C w0 (w.setCell ⟨g, k, none⟩ u) := by
  rcases o.2 with ⟨_, o2⟩ | ⟨g, cap, cur, hv, hg, hh, hle, _, hcs, _⟩
  · omega
  · have hgl : g < w0.heap.size := (Array.getElem?_eq_some_iff.1 hh).1
    have hgC : g < C := by
      rcases hC with hC | hC
      · omega
      · exact hC g (by rw [hv]; rfl)
    obtain ⟨cs2, h1, h2, _⟩ := h.k _ _ _ _ hh
    have hb : Bk w g T cs2 := h1
    refine ⟨g, cap, hv, hb.lt, fun k hk => ⟨?_, hb.fz k, fun u => h.set u hh hT hg hgC⟩⟩
    rw [hb.cell k]
    have : k < cs2.size := by rw [h2, hcs]; exact Nat.lt_of_lt_of_le hk (Nat.mul_le_mul_right _ hle)
    exact ⟨_, Array.getElem?_eq_getElem this⟩

theorem SC.head {B C T n i : Nat} {w0 : World} {v : Value} {β : Type} {l : List (β × Value)} (o : w0.ownsRow B T 1 v n (l.map (·.2))) (hT : T ≠ 3 ∧ T ≠ 45) (hi : i < n) (hn : n = l.length) :
    ∃ gh cap, v = .slice (some ⟨gh, 0, none⟩) n cap ∧ ∀ W, SC B C w0 W → W.cell? ⟨gh, i, none⟩ = some (l[i]'(by omega)).2 ∧ gh < W.heap.size := by
  obtain ⟨gh, cap, rfl, _, _⟩ := o.form (by omega)
  refine ⟨gh, cap, rfl, fun W h => ?_⟩
  have o2 := h.own o hT
  refine ⟨?_, (o2.lt gh rfl).2⟩
  rw [o2.cellAt i (by omega), List.getElem?_map, List.getElem?_eq_getElem (by omega)]
  rfl

theorem shortC_pf {a c : Cf} (h : c.pf = a.pf) (ha : ShortC a) : ShortC c := by
  obtain ⟨pc, regs, mem, buf⟩ := c
  obtain ⟨pc', regs', mem', buf'⟩ := a
  simp only [Cf.pf, Pf.mk.injEq] at h
  obtain ⟨e1, e2, e3, e4⟩ := h
  have l2 := congrArg List.length e2
  have l4 := congrArg List.length e4
  simp only [List.length_map] at l2 l4
  obtain ⟨h1, h2, h3, h4, h5, h6⟩ := ha
  simp only [] at h1 h2 h3 h4 h5 h6
  subst e1 e3
  refine ⟨h1, by simp only []; omega, h3, by simp only []; omega, fun x hx => ?_, fun x hx => ?_⟩
  · have : x.1 ∈ regs.map (·.1) := List.mem_map_of_mem hx
    rw [e2] at this
    obtain ⟨y, hy, he⟩ := List.mem_map.1 this
    rw [← he]
    exact h5 y hy
  · have : x.1 ∈ buf.map (·.1) := List.mem_map_of_mem hx
    rw [e4] at this
    obtain ⟨y, hy, he⟩ := List.mem_map.1 this
    rw [← he]
    exact h6 y hy

attribute [local go_sem ↓] Go.wp_at_zero Go.wp_at_succ
set_option maxRecDepth 100000 in
set_option maxHeartbeats 16000000 in
theorem same_in (a b : Cf) (ap ar am ab bp br bm bb : Value) (w : World) (ha : CfD w ap ar am ab a) (hb : CfD w bp br bm bb b) :
    Calls Try.prog 5 #[.agg #[ap, ar, am, ab], .agg #[bp, br, bm, bb]] w fun e w' => e = .returned (.bool true) ∧ Below w.heap.size w w' := by
  have HLA := Lib.hid (fun (W : World) (h : Below w.heap.size w W) => clight_any a ap ar am ab W (ha.below h) _ rfl)
  have HLB := Lib.hid (fun (W : World) (h : Below w.heap.size w W) => clight_any b bp br bm bb W (hb.below h) _ rfl)
  have HKN := Lib.hid known_any
  have HC1 := Lib.hid (fun (hl : lightC a = true) (W : World) (h : Below w.heap.size w W) => ncopy_any a ap ar am ab W (ha.below h) (lightC_short hl))
  have HC2 := Lib.hid (fun (hl : lightC a = true) (W : World) (h : Below w.heap.size w W) => rcopy_any a ap ar am ab W (ha.below h) (lightC_short hl))
  have HS1 := Lib.hid (fun (hl : lightC a = true) (W : World) (h : Below w.heap.size w W) => ncsame_any a b ap ar am ab bp br bm bb W (ha.below h) (hb.below h) (lightC_short hl) _ rfl)
  have HS2 := Lib.hid (fun (hl : lightC a = true) (W : World) (h : Below w.heap.size w W) => csame_any a b ap ar am ab bp br bm bb W (ha.below h) (hb.below h) (lightC_short hl) _ rfl)
  have HS3 := Lib.hid (fun (hl : lightC a = true) (W : World) (h : Below w.heap.size w W) => ncsame_any a a ap ar am ab ap ar am ab W (ha.below h) (ha.below h) (lightC_short hl) true (by rw [sameC_pf]; exact decide_eq_true rfl))
  have HA := Lib.hid ha
  generalize sameC a b = qs at HS1 HS2
  obtain ⟨qa, hqa⟩ : ∃ q, lightC a = q := ⟨_, rfl⟩
  rw [hqa] at HLA
  have HQA := Lib.hid hqa
  generalize lightC b = qb at HLB
  obtain ⟨xp, cp, rfl⟩ := ha.p.shape0
  obtain ⟨xr, cr, rfl⟩ := ha.r.shape0
  obtain ⟨xm, cm, rfl⟩ := ha.m.shape0
  obtain ⟨xb, cb, rfl⟩ := ha.b.shape0
  obtain ⟨yp, dp, rfl⟩ := hb.p.shape0
  obtain ⟨yr, dr, rfl⟩ := hb.r.shape0
  obtain ⟨ym, dm, rfl⟩ := hb.m.shape0
  obtain ⟨yb, db, rfl⟩ := hb.b.shape0
  generalize a.pc.length = na at HLA HC1 HC2 HS1 HS2 HS3 HA ⊢
  generalize a.mem.length = nm at HLA HC1 HC2 HS1 HS2 HS3 HA ⊢
  generalize a.regs.length = nr at HLA HC1 HC2 HS1 HS2 HS3 HA ⊢
  generalize a.buf.length = nb at HLA HC1 HC2 HS1 HS2 HS3 HA ⊢
  generalize b.pc.length = ma at HLB HS1 HS2 ⊢
  generalize b.mem.length = mm at HLB HS1 HS2 ⊢
  generalize b.regs.length = mr at HLB HS1 HS2 ⊢
  generalize b.buf.length = mb at HLB HS1 HS2 ⊢
  clear ha hb hqa
  have T2 := Lib.hid (two_new w 31 31 #[.slice xp na cp, .slice xr nr cr, .slice xm nm cm, .slice xb nb cb] #[.slice yp ma dp, .slice yr mr dr, .slice ym mm dm, .slice yb mb db])
  go_enter Try.func5, Try.ntmps5
  go_wp2_with fail
  obtain ⟨L0, KA0, KB0⟩ := T2.out
  have LL := Lib.hid L0
  have KA := Lib.hid KA0
  have KB := Lib.hid KB0
  clear L0 KA0 KB0 T2
  generalize (w.alloc _).alloc _ = w0 at LL KA KB ⊢
  have KK := Lib.hid (fun (W : World) (hb : Below w0.heap.size w0 W) => (⟨(KA.out.below hb).cell 0, (KA.out.below hb).cell 1, (KA.out.below hb).cell 2, (KA.out.below hb).cell 3, (KB.out.below hb).cell 0, (KB.out.below hb).cell 1, (KB.out.below hb).cell 2, (KB.out.below hb).cell 3, (KA.out.below hb).lt, (KB.out.below hb).lt, LL.out.trans (hb.mono LL.out.size)⟩ : W.cell? ⟨w.heap.size, 0, none⟩ = some (.slice xp na cp) ∧ W.cell? ⟨w.heap.size, 1, none⟩ = some (.slice xr nr cr) ∧ W.cell? ⟨w.heap.size, 2, none⟩ = some (.slice xm nm cm) ∧ W.cell? ⟨w.heap.size, 3, none⟩ = some (.slice xb nb cb) ∧
    W.cell? ⟨w.heap.size + 1, 0, none⟩ = some (.slice yp ma dp) ∧ W.cell? ⟨w.heap.size + 1, 1, none⟩ = some (.slice yr mr dr) ∧ W.cell? ⟨w.heap.size + 1, 2, none⟩ = some (.slice ym mm dm) ∧ W.cell? ⟨w.heap.size + 1, 3, none⟩ = some (.slice yb mb db) ∧ w.heap.size < W.heap.size ∧ w.heap.size + 1 < W.heap.size ∧ Below w.heap.size w W))
  refine (HLA.out _ LL.out).mono ?_
  rintro e w1 ⟨rfl, b1⟩
  have B1 := Lib.hid b1
  obtain ⟨c0, c1, c2, c3, d0, d1, d2, d3, l1, l2, g1⟩ := KK.out w1 b1
  have G1 := Lib.hid g1
  clear b1 g1 HLA
  cases qa with
  | false =>
    go_wp2_with fail
    refine (HKN.out _).mono ?_
    rintro e w2 ⟨rfl, b2⟩
    have L2 := Lib.hid (G1.out.trans (b2.mono G1.out.size))
    clear b2 KK
    go_wp2
    go_ret
    exact ⟨rfl, L2.out⟩
  | true =>
    replace HC1 := Lib.hid (HC1.out HQA.out)
    replace HC2 := Lib.hid (HC2.out HQA.out)
    replace HS1 := Lib.hid (HS1.out HQA.out)
    replace HS2 := Lib.hid (HS2.out HQA.out)
    replace HS3 := Lib.hid (HS3.out HQA.out)
    go_wp2_with fail
    refine (HLB.out _ G1.out).mono ?_
    rintro e w2 ⟨rfl, b2⟩
    clear c0 c1 c2 c3 d0 d1 d2 d3 l1 l2
    have B2 := Lib.hid (B1.out.trans (b2.mono B1.out.size))
    obtain ⟨c0, c1, c2, c3, d0, d1, d2, d3, l1, l2, g2⟩ := KK.out w2 B2.out
    have G2 := Lib.hid g2
    clear b2 g2 HLB
    cases qb with
    | false =>
      go_wp2_with fail
      refine (HKN.out _).mono ?_
      rintro e w3 ⟨rfl, b3⟩
      have L3 := Lib.hid (G2.out.trans (b3.mono G2.out.size))
      clear b3 KK
      go_wp2
      go_ret
      exact ⟨rfl, L3.out⟩
    | true =>
      go_wp2_with fail
      refine (HC1.out _ G2.out).mono ?_
      rintro e w3 ⟨c, zp, zr, zm, zb, rfl, oc, pc, b3⟩
      obtain ⟨a0, k0, a1, k1, a2, k2, a3, k3, rfl, rfl, rfl, rfl⟩ := oc.shapes
      have OC := Lib.hid oc
      have PC := Lib.hid pc
      have B3 := Lib.hid (B2.out.trans (b3.mono B2.out.size))
      have S3 : Hid (w2.heap.size ≤ w3.heap.size) := Lib.hid b3.size
      clear c0 c1 c2 c3 d0 d1 d2 d3 l1 l2 oc pc b3
      obtain ⟨c0, c1, c2, c3, d0, d1, d2, d3, l1, l2, g3⟩ := KK.out w3 B3.out
      have G3 := Lib.hid g3
      obtain ⟨n0, hn0⟩ : ∃ n, n = c.pc.length := ⟨_, rfl⟩
      obtain ⟨n1, hn1⟩ : ∃ n, n = c.regs.length := ⟨_, rfl⟩
      obtain ⟨n2, hn2⟩ : ∃ n, n = c.mem.length := ⟨_, rfl⟩
      obtain ⟨n3, hn3⟩ : ∃ n, n = c.buf.length := ⟨_, rfl⟩
      have HN0 := Lib.hid hn0
      have HN1 := Lib.hid hn1
      have HN2 := Lib.hid hn2
      have HN3 := Lib.hid hn3
      rw [← hn0, ← hn1, ← hn2, ← hn3] at OC ⊢
      have HLP : Hid (∀ g, (Value.slice a0 n0 k0).ownBlock = some g → g < w3.heap.size) := Lib.hid (fun g hg => (OC.out.p.lt g hg).2)
      have HLM : Hid (∀ g, (Value.slice a2 n2 k2).ownBlock = some g → g < w3.heap.size) := Lib.hid (fun g hg => (OC.out.m.lt g hg).2)
      have HLR : Hid (∀ x ∈ c.regs, ∀ g, x.2.ownBlock = some g → g < w3.heap.size) := Lib.hid (fun x hx g hg => ((OC.out.r.r x hx).lt g hg).2)
      have HLB : Hid (∀ x ∈ c.buf, ∀ g, x.2.ownBlock = some g → g < w3.heap.size) := Lib.hid (fun x hx g hg => ((OC.out.b.r x hx).lt g hg).2)
      clear g3 hn0 hn1 hn2 hn3
      have KC := Lib.hid (Bk.new w3 31 #[.slice a0 n0 k0, .slice a1 n1 k1, .slice a2 n2 k2, .slice a3 n3 k3])
      have LC : Hid (Below w3.heap.size w3 (w3.alloc (.cells #[.slice a0 n0 k0, .slice a1 n1 k1, .slice a2 n2 k2, .slice a3 n3 k3] 31))) := (Below.refl _ _).alloc (Nat.le_refl _) _
      go_wp2_with fail
      generalize w3.alloc _ = w4 at KC LC ⊢
      have G4 := Lib.hid (G3.out.trans (LC.out.mono G3.out.size))
      have S34 : Hid (w3.heap.size ≤ w4.heap.size) := Lib.hid LC.out.size
      refine (HC2.out _ G4.out).mono ?_
      rintro e w5 ⟨s, zp, zr, zm, zb, rfl, os, ps, b5⟩
      obtain ⟨p0, q0, p1, q1, p2, q2, p3, q3, rfl, rfl, rfl, rfl⟩ := os.shapes
      have OS := Lib.hid os
      have PS := Lib.hid ps
      have L5 := Lib.hid (LC.out.trans (b5.mono LC.out.size))
      have B5 := Lib.hid (B3.out.trans (L5.out.mono B3.out.size))
      have KC5 := Lib.hid (KC.out.below b5)
      have OC5 := Lib.hid (OC.out.below L5.out)
      clear c0 c1 c2 c3 d0 d1 d2 d3 l1 l2 os ps b5 KC LC OC
      obtain ⟨c0, c1, c2, c3, d0, d1, d2, d3, l1, l2, g5⟩ := KK.out w5 B5.out
      have G5 := Lib.hid g5
      generalize s.pc.length = m0 at OS ⊢
      generalize s.regs.length = m1 at OS ⊢
      generalize s.mem.length = m2 at OS ⊢
      generalize s.buf.length = m3 at OS ⊢
      clear g5
      have KS := Lib.hid (Bk.new w5 31 #[.slice p0 m0 q0, .slice p1 m1 q1, .slice p2 m2 q2, .slice p3 m3 q3])
      have LS : Hid (Below w5.heap.size w5 (w5.alloc (.cells #[.slice p0 m0 q0, .slice p1 m1 q1, .slice p2 m2 q2, .slice p3 m3 q3] 31))) := (Below.refl _ _).alloc (Nat.le_refl _) _
      clear c0 c1 c2 c3 d0 d1 d2 d3 l1 l2
      obtain ⟨w6, hw6⟩ : ∃ W, W = w5.alloc (.cells #[.slice p0 m0 q0, .slice p1 m1 q1, .slice p2 m2 q2, .slice p3 m3 q3] 31) := ⟨_, rfl⟩
      rw [← hw6] at KS LS
      have HW6 := Lib.hid hw6
      have B6 := Lib.hid (B5.out.trans (LS.out.mono B5.out.size))
      have G6 := Lib.hid (G5.out.trans (LS.out.mono G5.out.size))
      have KC6 := Lib.hid (KC5.out.below LS.out)
      have OC6 := Lib.hid (OC5.out.below LS.out)
      have OS6 := Lib.hid (OS.out.below LS.out)
      have hsa := lightC_short HQA.out
      have hsc := shortC_pf PC.out hsa
      have HSC := Lib.hid hsc
      have HSA := Lib.hid hsa
      have HCD : Hid (∀ W : World, Below w6.heap.size w6 W → CfD W (.slice a0 n0 k0) (.slice a1 n1 k1) (.slice a2 n2 k2) (.slice a3 n3 k3) c) := Lib.hid (fun W h => OC6.out.data.below h)
      have HS4 := Lib.hid (fun (W : World) (h : Below w.heap.size w W) (h6 : Below w6.heap.size w6 W) => ncsame_any c a _ _ _ _ _ _ _ _ W (HCD.out W h6) (HA.out.below h) hsc true (by rw [sameC_pf, PC.out]; exact decide_eq_true rfl))
      have HS5 := Lib.hid (fun (W : World) (h : Below w.heap.size w W) (h6 : Below w6.heap.size w6 W) => csame_any c a _ _ _ _ _ _ _ _ W (HCD.out W h6) (HA.out.below h) hsc true (by rw [sameC_pf, PC.out]; exact decide_eq_true rfl))
      have KS6 : Hid (∀ W : World, Below w6.heap.size w6 W → W.cell? ⟨w.heap.size, 0, none⟩ = some (.slice xp na cp) ∧ W.cell? ⟨w.heap.size, 1, none⟩ = some (.slice xr nr cr) ∧ W.cell? ⟨w.heap.size, 2, none⟩ = some (.slice xm nm cm) ∧ W.cell? ⟨w.heap.size, 3, none⟩ = some (.slice xb nb cb) ∧ W.cell? ⟨w.heap.size + 1, 0, none⟩ = some (.slice yp ma dp) ∧ W.cell? ⟨w.heap.size + 1, 1, none⟩ = some (.slice yr mr dr) ∧ W.cell? ⟨w.heap.size + 1, 2, none⟩ = some (.slice ym mm dm) ∧ W.cell? ⟨w.heap.size + 1, 3, none⟩ = some (.slice yb mb db) ∧ W.cell? ⟨w3.heap.size, 0, none⟩ = some (.slice a0 n0 k0) ∧ W.cell? ⟨w3.heap.size, 1, none⟩ = some (.slice a1 n1 k1) ∧ W.cell? ⟨w3.heap.size, 2, none⟩ = some (.slice a2 n2 k2) ∧ W.cell? ⟨w3.heap.size, 3, none⟩ = some (.slice a3 n3 k3) ∧ Below w6.heap.size w6 W) := Lib.hid (fun W h => by
        obtain ⟨c0, c1, c2, c3, d0, d1, d2, d3, _, _, _⟩ := KK.out W (B6.out.trans (h.mono B6.out.size))
        exact ⟨c0, c1, c2, c3, d0, d1, d2, d3, (KC6.out.below h).cell 0, (KC6.out.below h).cell 1, (KC6.out.below h).cell 2, (KC6.out.below h).cell 3, h⟩)
      have GG := Lib.hid (fun (W : World) (h : Below w6.heap.size w6 W) => G6.out.trans (h.mono G6.out.size))
      have bb : Below w6.heap.size w6 w6.drew := below_draws' w6
      have bc : Below w6.heap.size w6 w6 := Below.refl _ _
      clear hw6 hsa hsc B1 B2 B3 G1 G3 G4 G5 L5 LS B5 KC5 OC5 OS
      go_wp2_with fail
      rw [← HW6.out]
      go_region_held3 (fun W => W.cell? ⟨w.heap.size, 0, none⟩ = some (.slice xp na cp) ∧ W.cell? ⟨w.heap.size, 1, none⟩ = some (.slice xr nr cr) ∧ W.cell? ⟨w.heap.size, 2, none⟩ = some (.slice xm nm cm) ∧ W.cell? ⟨w.heap.size, 3, none⟩ = some (.slice xb nb cb) ∧ W.cell? ⟨w.heap.size + 1, 0, none⟩ = some (.slice yp ma dp) ∧ W.cell? ⟨w.heap.size + 1, 1, none⟩ = some (.slice yr mr dr) ∧ W.cell? ⟨w.heap.size + 1, 2, none⟩ = some (.slice ym mm dm) ∧ W.cell? ⟨w.heap.size + 1, 3, none⟩ = some (.slice yb mb db) ∧ W.cell? ⟨w3.heap.size, 0, none⟩ = some (.slice a0 n0 k0) ∧ W.cell? ⟨w3.heap.size, 1, none⟩ = some (.slice a1 n1 k1) ∧ W.cell? ⟨w3.heap.size, 2, none⟩ = some (.slice a2 n2 k2) ∧ W.cell? ⟨w3.heap.size, 3, none⟩ = some (.slice a3 n3 k3) ∧ Below w6.heap.size w6 W)
        (first | with_reducible exact KS6.out _ bc | with_reducible exact KS6.out _ bb | with_reducible assumption)
        ((first
          | (go_at_call 23; go_split_ands; (with_reducible refine Calls.mono (HS1.out _ (GG.out _ bb)) ?_); rintro e wn ⟨rfl, bn⟩; have bb : Below w6.heap.size w6 wn := Below.trans bb (bn.mono (Below.size bb)))
          | (go_at_call 23; go_split_ands; (with_reducible refine Calls.mono (HS3.out _ (GG.out _ bb)) ?_); rintro e wn ⟨rfl, bn⟩; have bb : Below w6.heap.size w6 wn := Below.trans bb (bn.mono (Below.size bb)))
          | (go_at_call 23; go_split_ands; (with_reducible refine Calls.mono (HS4.out _ (GG.out _ bb) bb) ?_); rintro e wn ⟨rfl, bn⟩; have bb : Below w6.heap.size w6 wn := Below.trans bb (bn.mono (Below.size bb)))
          | (go_at_call 11; go_split_ands; (with_reducible refine Calls.mono (HS2.out _ (GG.out _ bb)) ?_); rintro e wn ⟨rfl, bn⟩; have bb : Below w6.heap.size w6 wn := Below.trans bb (bn.mono (Below.size bb)))
          | (go_at_call 11; go_split_ands; (with_reducible refine Calls.mono (HS5.out _ (GG.out _ bb) bb) ?_); rintro e wn ⟨rfl, bn⟩; have bb : Below w6.heap.size w6 wn := Below.trans bb (bn.mono (Below.size bb)))))
      have b9 : Below w6.heap.size w6 wn := bb
      have G7 := Lib.hid (GG.out _ b9)
      have KA7 := Lib.hid (KA.out.below (B6.out.trans (b9.mono B6.out.size)))
      have KC7 := Lib.hid (KC6.out.below b9)
      have KS7 := Lib.hid (KS.out.below b9)
      have OC7 := Lib.hid (OC6.out.below b9)
      have OS7 := Lib.hid (OS6.out.below b9)
      have OP7 : Hid (wn.ownsRow w2.heap.size 3 1 (.slice a0 n0 k0) n0 (rowI c.pc)) := Lib.hid (by have := OC7.out.p; rw [OwnI, ← HN0.out] at this; exact this)
      have OM7 : Hid (wn.ownsRow w2.heap.size 3 1 (.slice a2 n2 k2) n2 (rowI c.mem)) := Lib.hid (by have := OC7.out.m; rw [OwnI, ← HN2.out] at this; exact this)
      have OR7 : Hid (wn.ownsRow w2.heap.size 22 1 (.slice a1 n1 k1) n1 (c.regs.map (·.2))) := Lib.hid (by have := OC7.out.r.h; rw [← HN1.out] at this; exact this)
      have OB7 : Hid (wn.ownsRow w2.heap.size 43 1 (.slice a3 n3 k3) n3 (c.buf.map (·.2))) := Lib.hid (by have := OC7.out.b.h; rw [← HN3.out] at this; exact this)
      have S7 : Hid (SC w2.heap.size w3.heap.size wn wn) := Lib.hid (SC.refl _ _ _)
      have N7 : Hid (n0 ≤ 100000 ∧ n1 ≤ 100000 ∧ n2 ≤ 100000 ∧ n3 ≤ 100000) := Lib.hid (by
        have := HSC.out
        exact ⟨by rw [HN0.out]; exact this.p, by rw [HN1.out]; exact this.r, by rw [HN2.out]; exact this.m, by rw [HN3.out]; exact this.b⟩)
      have HS6 := Lib.hid (fun (W : World) (h : SC w2.heap.size w3.heap.size wn W) (h2 : w.heap.size ≤ w2.heap.size) (h3 : w3.heap.size ≤ w4.heap.size) => csame_any a s _ _ _ _ _ _ _ _ W (HA.out.below (G7.out.trans (h.b.mono h2))) ((OS7.out.kp (w' := W) ⟨Nat.le_of_eq h.sz.symm, fun g h4 _ => h.f g (by omega)⟩).data) HSA.out true (by rw [sameC_pf, PS.out]; exact decide_eq_true rfl))
      clear HS1 HS2 HS3 HS4 HS5 KS6 GG bb b9 bc KK KC6 OC6 OS6 KA KB KS B6 HCD G6 HC1 HC2
      go_split_ands
      go_wp2_with fail
      go_loopg [8] n0 (fun fuel i' wr => ∃ (k : Nat), i' = .int .i64 k ∧ k ≤ n0 ∧ n0 - k ≤ fuel ∧ SC w2.heap.size w3.heap.size wn wr)
      case atStart => exact ⟨0, rfl, Nat.zero_le _, Nat.le_refl _, S7.out⟩
      case round =>
        obtain ⟨k, rfl, hk, hf, hi⟩ := hrel
        have HI := Lib.hid hi
        have KCR := Lib.hid (hi.bk KC7.out (by decide))
        clear hi S7
        have c0 : wr.cell? ⟨w3.heap.size, 0, none⟩ = some (.slice a0 n0 k0) := KCR.out.cell 0
        have l2 := KCR.out.lt
        by_cases hlt : k < n0
        · obtain ⟨g, cap, hv, hg, hr⟩ := HI.out.row OP7.out (.inl rfl) (.inr HLP.out) (by omega)
          injection hv with hv1 _ hv2
          subst hv1 hv2
          obtain ⟨⟨x0, d0⟩, f0, hst⟩ := hr k (by omega)
          have HST := Lib.hid (hst (.int .i64 (-7)))
          have hn9 := N7.out.1
          have e1 : (0 : Int) ≤ (k : Int) := Int.natCast_nonneg _
          have e2 : (k : Int) < (n0 : Int) := by omega
          clear hr hst
          go_wp2_with fail
          go_roundg (gk - 1)
          case measure => omega
          case rel => exact ⟨k + 1, by go_num, by omega, by omega, HST.out⟩
        · obtain ⟨wo, hwo⟩ : ∃ x, x = wr := ⟨_, rfl⟩
          go_wp2_with fail
          rw [← hwo] at HI KCR
          clear c0 l2
          go_loopg [9] n2 (fun fuel i' wi => ∃ (k : Nat), i' = .int .i64 k ∧ k ≤ n2 ∧ n2 - k ≤ fuel ∧ SC w2.heap.size w3.heap.size wn wi)
          case atStart => exact ⟨0, rfl, Nat.zero_le _, Nat.le_refl _, by rw [← hwo]; exact HI.out⟩
          case round =>
            clear hwo HI KCR wo hlt hk hf
            obtain ⟨k, rfl, hk, hf, hi⟩ := hrel
            have HI := Lib.hid hi
            have KCR := Lib.hid (hi.bk KC7.out (by decide))
            clear hi
            have c2 : wr.cell? ⟨w3.heap.size, 2, none⟩ = some (.slice a2 n2 k2) := KCR.out.cell 2
            have l2 := KCR.out.lt
            by_cases hlt : k < n2
            · obtain ⟨g, cap, hv, hg, hr⟩ := HI.out.row OM7.out (.inl rfl) (.inr HLM.out) (by omega)
              injection hv with hv1 _ hv2
              subst hv1 hv2
              obtain ⟨⟨x0, d0⟩, f0, hst⟩ := hr k (by omega)
              have HST := Lib.hid (hst (.int .i64 (-7)))
              have hn9 := N7.out.2.2.1
              have e1 : (0 : Int) ≤ (k : Int) := Int.natCast_nonneg _
              have e2 : (k : Int) < (n2 : Int) := by omega
              clear hr hst
              go_wp2_with fail
              go_roundg (gk - 1)
              case measure => omega
              case rel => exact ⟨k + 1, by go_num, by omega, by omega, HST.out⟩
            · obtain ⟨wo, hwo⟩ : ∃ x, x = wr := ⟨_, rfl⟩
              go_wp2_with fail
              rw [← hwo] at HI KCR
              clear c2 l2
              go_loopg [10] n1 (fun fuel i' wi => ∃ (k : Nat), i' = .int .i64 k ∧ k ≤ n1 ∧ n1 - k ≤ fuel ∧ SC w2.heap.size w3.heap.size wn wi)
              case atStart => exact ⟨0, rfl, Nat.zero_le _, Nat.le_refl _, by rw [← hwo]; exact HI.out⟩
              case round =>
                clear hwo HI KCR wo hlt hk hf
                obtain ⟨k, rfl, hk, hf, hi⟩ := hrel
                have HI := Lib.hid hi
                have KCR := Lib.hid (hi.bk KC7.out (by decide))
                clear hi
                by_cases hlt : k < n1
                · obtain ⟨gh, cap, hv, hh⟩ := SC.head (C := w3.heap.size) OR7.out (by decide) hlt HN1.out
                  injection hv with hv1 _ hv2
                  subst hv1 hv2
                  have hk1 : k < c.regs.length := by rw [← HN1.out]; exact hlt
                  have hro := OC7.out.r.r _ (List.getElem_mem hk1)
                  have hlb := HLR.out _ (List.getElem_mem hk1)
                  have hxl : c.regs[k].1.length ≤ 100000 := HSC.out.rr _ (List.getElem_mem hk1)
                  obtain ⟨ax, kx, hrow, _⟩ := own_shape' hro
                  rw [hrow] at hro hlb hh
                  generalize c.regs[k].1 = xs at hro hlb hh hxl
                  obtain ⟨nx, hnx⟩ : ∃ n, n = xs.length := ⟨_, rfl⟩
                  have HRO : Hid (wn.ownsRow w2.heap.size 3 1 (.slice ax nx kx) nx (rowI xs)) := Lib.hid (by rw [hnx]; exact hro)
                  rw [← hnx] at hlb hh hxl
                  have HLX := Lib.hid hlb
                  have HH := Lib.hid hh
                  have HXL := Lib.hid hxl
                  clear hro hlb hh hxl hnx hrow hk1
                  have cx : wr.cell? ⟨w3.heap.size, 1, none⟩ = some (.slice (some ⟨gh, 0, none⟩) n1 k1) := KCR.out.cell 1
                  have l2 := KCR.out.lt
                  obtain ⟨hx, lx⟩ := HH.out wr HI.out
                  have e1 : (0 : Int) ≤ (k : Int) := Int.natCast_nonneg _
                  have e2 : (k : Int) < (n1 : Int) := by omega
                  have hn9 : n1 ≤ 100000 := by have := N7.out; omega
                  generalize gk = gk1 at *
                  obtain ⟨wo, hwo⟩ : ∃ x, x = wr := ⟨_, rfl⟩
                  go_wp2_with fail
                  rw [← hwo] at HI KCR
                  clear cx l2 hx lx
                  go_loopg [11] nx (fun fuel i' wi => ∃ (q : Nat), i' = .int .i64 q ∧ q ≤ nx ∧ nx - q ≤ fuel ∧ SC w2.heap.size w3.heap.size wn wi)
                  case atStart => exact ⟨0, rfl, Nat.zero_le _, Nat.le_refl _, by rw [← hwo]; exact HI.out⟩
                  case round =>
                    clear hwo HI KCR wo
                    obtain ⟨q, rfl, hq, hfq, hi⟩ := hrel
                    have HI := Lib.hid hi
                    have KCR := Lib.hid (hi.bk KC7.out (by decide))
                    clear hi
                    have cx : wr.cell? ⟨w3.heap.size, 1, none⟩ = some (.slice (some ⟨gh, 0, none⟩) n1 k1) := KCR.out.cell 1
                    have l2 := KCR.out.lt
                    obtain ⟨hx, lx⟩ := HH.out wr HI.out
                    have hx9 : nx ≤ 100000 := HXL.out
                    have e1 : (0 : Int) ≤ (k : Int) := Int.natCast_nonneg _
                    have e2 : (k : Int) < (n1 : Int) := by omega
                    by_cases hlq : q < nx
                    · obtain ⟨g, cap', hv, hg, hr⟩ := HI.out.row HRO.out (.inl rfl) (.inr HLX.out) (by omega)
                      injection hv with hv1 _ hv2
                      subst hv1 hv2
                      obtain ⟨⟨x0, d0⟩, f0, hst⟩ := hr (q) (by omega)
                      have HST := Lib.hid (hst (.int .i64 (-7)))
                      have e3 : (0 : Int) ≤ (q : Int) := Int.natCast_nonneg _
                      have e4 : (q : Int) < (nx : Int) := by omega
                      clear hr hst
                      go_wp2_with fail
                      go_roundg (gk - 1)
                      case measure => omega
                      case rel => exact ⟨q + 1, by go_num, by omega, by omega, HST.out⟩
                    · go_wp2_with fail
                      go_roundg (gk1 - 1)
                      case measure => omega
                      case rel => exact ⟨k + 1, by go_num, by omega, by omega, HI.out⟩
                · have cx : wr.cell? ⟨w3.heap.size, 1, none⟩ = some (.slice a1 n1 k1) := KCR.out.cell 1
                  have l2 := KCR.out.lt
                  obtain ⟨wo, hwo⟩ : ∃ x, x = wr := ⟨_, rfl⟩
                  go_wp2_with fail
                  rw [← hwo] at HI KCR
                  clear cx l2
                  go_loopg [12] n3 (fun fuel i' wi => ∃ (k : Nat), i' = .int .i64 k ∧ k ≤ n3 ∧ n3 - k ≤ fuel ∧ SC w2.heap.size w3.heap.size wn wi)
                  case atStart => exact ⟨0, rfl, Nat.zero_le _, Nat.le_refl _, by rw [← hwo]; exact HI.out⟩
                  case round =>
                    clear hwo HI KCR wo hlt hk hf
                    obtain ⟨k, rfl, hk, hf, hi⟩ := hrel
                    have HI := Lib.hid hi
                    have KCR := Lib.hid (hi.bk KC7.out (by decide))
                    clear hi
                    by_cases hlt : k < n3
                    · obtain ⟨gh, cap, hv, hh⟩ := SC.head (C := w3.heap.size) OB7.out (by decide) hlt HN3.out
                      injection hv with hv1 _ hv2
                      subst hv1 hv2
                      have hk3 : k < c.buf.length := by rw [← HN3.out]; exact hlt
                      have hro := OC7.out.b.r _ (List.getElem_mem hk3)
                      have hlb := HLB.out _ (List.getElem_mem hk3)
                      have hxl : c.buf[k].1.length ≤ 100000 := HSC.out.bb _ (List.getElem_mem hk3)
                      obtain ⟨ax, kx, hrow, _⟩ := own_shape' hro
                      rw [hrow] at hro hlb hh
                      generalize c.buf[k].1 = xs at hro hlb hh hxl
                      obtain ⟨nx, hnx⟩ : ∃ n, n = xs.length := ⟨_, rfl⟩
                      have HRO : Hid (wn.ownsRow w2.heap.size 45 2 (.slice ax nx kx) nx (rowE xs)) := Lib.hid (by rw [hnx]; exact hro)
                      rw [← hnx] at hlb hh hxl
                      have HLX := Lib.hid hlb
                      have HH := Lib.hid hh
                      have HXL := Lib.hid hxl
                      clear hro hlb hh hxl hnx hrow hk3
                      have cx : wr.cell? ⟨w3.heap.size, 3, none⟩ = some (.slice (some ⟨gh, 0, none⟩) n3 k3) := KCR.out.cell 3
                      have l2 := KCR.out.lt
                      obtain ⟨hx, lx⟩ := HH.out wr HI.out
                      have e1 : (0 : Int) ≤ (k : Int) := Int.natCast_nonneg _
                      have e2 : (k : Int) < (n3 : Int) := by omega
                      have hn9 : n3 ≤ 100000 := by have := N7.out; omega
                      generalize gk = gk1 at *
                      obtain ⟨wo, hwo⟩ : ∃ x, x = wr := ⟨_, rfl⟩
                      go_wp2_with fail
                      rw [← hwo] at HI KCR
                      clear cx l2 hx lx
                      go_loopg [13] nx (fun fuel i' wi => ∃ (q : Nat), i' = .int .i64 q ∧ q ≤ nx ∧ nx - q ≤ fuel ∧ SC w2.heap.size w3.heap.size wn wi)
                      case atStart => exact ⟨0, rfl, Nat.zero_le _, Nat.le_refl _, by rw [← hwo]; exact HI.out⟩
                      case round =>
                        clear hwo HI KCR wo
                        obtain ⟨q, rfl, hq, hfq, hi⟩ := hrel
                        have HI := Lib.hid hi
                        have KCR := Lib.hid (hi.bk KC7.out (by decide))
                        clear hi
                        have cx : wr.cell? ⟨w3.heap.size, 3, none⟩ = some (.slice (some ⟨gh, 0, none⟩) n3 k3) := KCR.out.cell 3
                        have l2 := KCR.out.lt
                        obtain ⟨hx, lx⟩ := HH.out wr HI.out
                        have hx9 : nx ≤ 100000 := HXL.out
                        have e1 : (0 : Int) ≤ (k : Int) := Int.natCast_nonneg _
                        have e2 : (k : Int) < (n3 : Int) := by omega
                        by_cases hlq : q < nx
                        · obtain ⟨g, cap', hv, hg, hr⟩ := HI.out.row HRO.out (.inr rfl) (.inr HLX.out) (by omega)
                          injection hv with hv1 _ hv2
                          subst hv1 hv2
                          obtain ⟨⟨x0, d0⟩, f0, hst⟩ := hr (q * 2 + 1) (by omega)
                          have HST := Lib.hid (hst (.int .i64 (-7)))
                          have e3 : (0 : Int) ≤ (q : Int) := Int.natCast_nonneg _
                          have e4 : (q : Int) < (nx : Int) := by omega
                          clear hr hst
                          go_wp2_with fail
                          go_roundg (gk - 1)
                          case measure => omega
                          case rel => exact ⟨q + 1, by go_num, by omega, by omega, HST.out⟩
                        · go_wp2_with fail
                          go_roundg (gk1 - 1)
                          case measure => omega
                          case rel => exact ⟨k + 1, by go_num, by omega, by omega, HI.out⟩
                    · have cx : wr.cell? ⟨w3.heap.size, 3, none⟩ = some (.slice a3 n3 k3) := KCR.out.cell 3
                      have l2 := KCR.out.lt
                      have KAR := Lib.hid (HI.out.bk KA7.out (by decide))
                      have KSR := Lib.hid (HI.out.bk KS7.out (by decide))
                      have GR := Lib.hid (G7.out.trans (HI.out.b.mono G2.out.size))
                      have HF := Lib.hid (HS6.out wr HI.out G2.out.size S34.out)
                      have c0 : wr.cell? ⟨w.heap.size, 0, none⟩ = some (.slice xp na cp) := KAR.out.cell 0
                      have c1 : wr.cell? ⟨w.heap.size, 1, none⟩ = some (.slice xr nr cr) := KAR.out.cell 1
                      have c2 : wr.cell? ⟨w.heap.size, 2, none⟩ = some (.slice xm nm cm) := KAR.out.cell 2
                      have c3 : wr.cell? ⟨w.heap.size, 3, none⟩ = some (.slice xb nb cb) := KAR.out.cell 3
                      have l1 := KAR.out.lt
                      have d0 : wr.cell? ⟨w5.heap.size, 0, none⟩ = some (.slice p0 m0 q0) := KSR.out.cell 0
                      have d1 : wr.cell? ⟨w5.heap.size, 1, none⟩ = some (.slice p1 m1 q1) := KSR.out.cell 1
                      have d2 : wr.cell? ⟨w5.heap.size, 2, none⟩ = some (.slice p2 m2 q2) := KSR.out.cell 2
                      have d3 : wr.cell? ⟨w5.heap.size, 3, none⟩ = some (.slice p3 m3 q3) := KSR.out.cell 3
                      have l3 := KSR.out.lt
                      go_wp2_with fail
                      refine HF.out.mono ?_
                      rintro e w8 ⟨rfl, b8⟩
                      have L8 := Lib.hid (GR.out.trans (b8.mono GR.out.size))
                      clear b8 HF cx l2 c0 c1 c2 c3 l1 d0 d1 d2 d3 l3
                      go_wp2_with fail
                      refine (HKN.out _).mono ?_
                      rintro e w9 ⟨rfl, b9⟩
                      have L9 := Lib.hid (L8.out.trans (b9.mono L8.out.size))
                      clear b9
                      go_wp2
                      go_ret
                      exact ⟨rfl, L9.out⟩

end Go.Proofs.Ytdklcjgoomdhkaa
