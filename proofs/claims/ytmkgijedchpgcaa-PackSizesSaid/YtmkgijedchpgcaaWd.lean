/- Layer 9: the reference's Copy. -/
import Derived.Test.YtmkgijedchpgcaaWa
namespace Go.Proofs.Ytmkgijedchpgcaa
set_option linter.unusedSimpArgs false
set_option linter.unusedVariables false
open Go.RowKit

/-- append of a slice of numbers to nil, at a step of a region that draws. -/
theorem step_ints0 {w : World} {ops : Array Oper} {o : Oper} {a : Act} {K : Act → World → Prop} {Q : Exit → Act → World → Prop} {E' : Prop} (hgd : o.guard = none) (s x : Operand)
    (ho : o.op = .call { callee := .builtin .append, args := #[s, x], argTypes := #[22, 22] }) (hs : a.eval s = .slice none 0 0) (ad : Option Addr) (m cap : Nat) (hx : a.eval x = .slice ad m cap) (ys : List Int) (hys : IntsD w (.slice ad m cap) ys) (hn : ys.length ≤ 1000000)
    (h : ∀ ad' cap' w', w'.ownsRow w.heap.size 3 1 (.slice ad' m cap') ys.length (rowI ys) → Below w.heap.size w w' → K (a.put o.dst (.slice ad' m cap')) w') :
    if Region.wanted o (yielded ops a.tmps) = true then Oper.wp Try.prog o a w K Q else E' := by
  have hw : Region.wanted o (yielded ops a.tmps) = true := by simp [Region.wanted, hgd]
  rw [if_pos hw]
  obtain ⟨i0, hi, hz0, hz1, hz2⟩ := info_parts info_int
  have hm : ys.length = m ∧ (ad = none → cap = 0) ∧ ys.length ≤ cap := by
    obtain ⟨ad', cap', hv, h1, h2, hc⟩ := hys
    injection hv with e1 e2 e3
    subst e1; subst e2; subst e3
    exact ⟨rfl, h1.2, h1.1⟩
  obtain ⟨rfl, h0, h1⟩ := hm
  cases ad with
  | none =>
    have hc0 := h0 rfl
    have hy0 : ys = [] := List.eq_nil_of_length_eq_zero (by omega)
    subst hy0; subst hc0
    have hrun := run_append_owned_none (P := Try.prog) (w := w) w.heap.size 22 o.type 3 i0 1 Try.underlying22 hi (.slice none 0 0) 0 [] (World.ownsRow_nil _ _ _ _)
    unfold Oper.wp
    simp [execOp, ho, resolve, invoke, builtin, hs, hx, hrun, Result.andThen]
    exact h none 0 w (World.ownsRow_nil _ _ _ _) (Below.refl _ _)
  | some a0 =>
    refine wp_append_own _ s x 22 ho w.heap.size 3 i0 (.int .i64 0) 1 8 Try.underlying22 hi hz0 hz1 hz2 rfl (by decide) (.slice none 0 0) 0 [] hs (World.ownsRow_nil _ _ _ _) a0 ys.length cap (rowI ys) hx (by rw [rowI_len, Nat.mul_one]) (ints_flat hys) (rowI_one ys) (by unfold maxLen; omega) (by omega) (Nat.le_refl _) ?_
    intro v' w' h2 h3 _
    rw [Nat.zero_add, List.nil_append] at h2
    obtain ⟨ad', cap', rfl, _⟩ := own_shape' h2
    exact h ad' cap' w' h2 ((Below.refl _ w).grown h3 (Nat.le_refl _) (fun k hk => by cases hk))
theorem step_ents0 {w : World} {ops : Array Oper} {o : Oper} {a : Act} {K : Act → World → Prop} {Q : Exit → Act → World → Prop} {E' : Prop} (hgd : o.guard = none) (s x : Operand)
    (ho : o.op = .call { callee := .builtin .append, args := #[s, x], argTypes := #[48, 48] }) (hs : a.eval s = .slice none 0 0) (ad : Option Addr) (m cap : Nat) (hx : a.eval x = .slice ad m cap) (ys : List Ent) (hys : EntsD w (.slice ad m cap) ys) (hn : ys.length ≤ 1000000)
    (h : ∀ ad' cap' w', w'.ownsRow w.heap.size 50 2 (.slice ad' m cap') ys.length (rowE ys) → Below w.heap.size w w' → K (a.put o.dst (.slice ad' m cap')) w') :
    if Region.wanted o (yielded ops a.tmps) = true then Oper.wp Try.prog o a w K Q else E' := by
  have hw : Region.wanted o (yielded ops a.tmps) = true := by simp [Region.wanted, hgd]
  rw [if_pos hw]
  obtain ⟨i0, hi, hz0, hz1, hz2⟩ := info_parts info_ent
  have hm : ys.length = m ∧ (ad = none → cap = 0) ∧ ys.length ≤ cap := by
    obtain ⟨ad', cap', hv, h1, h2, hc⟩ := hys
    injection hv with e1 e2 e3
    subst e1; subst e2; subst e3
    exact ⟨rfl, h1.2, h1.1⟩
  obtain ⟨rfl, h0, h1⟩ := hm
  cases ad with
  | none =>
    have hc0 := h0 rfl
    have hy0 : ys = [] := List.eq_nil_of_length_eq_zero (by omega)
    subst hy0; subst hc0
    have hrun := run_append_owned_none (P := Try.prog) (w := w) w.heap.size 48 o.type 50 i0 2 Try.underlying48 hi (.slice none 0 0) 0 [] (World.ownsRow_nil _ _ _ _)
    unfold Oper.wp
    simp [execOp, ho, resolve, invoke, builtin, hs, hx, hrun, Result.andThen]
    exact h none 0 w (World.ownsRow_nil _ _ _ _) (Below.refl _ _)
  | some a0 =>
    refine wp_append_own _ s x 48 ho w.heap.size 50 i0 (.agg #[.int .i64 0, .int .i64 0]) 2 16 Try.underlying48 hi hz0 hz1 hz2 rfl (by decide) (.slice none 0 0) 0 [] hs (World.ownsRow_nil _ _ _ _) a0 ys.length cap (rowE ys) hx (rowE_len ys) (ents_flat hys) (rowE_one ys) (by unfold maxLen; omega) (by omega) (Nat.le_refl _) ?_
    intro v' w' h2 h3 _
    rw [Nat.zero_add, List.nil_append] at h2
    obtain ⟨ad', cap', rfl, _⟩ := own_shape' h2
    exact h ad' cap' w' h2 ((Below.refl _ w).grown h3 (Nat.le_refl _) (fun k hk => by cases hk))

/-- The reference's copy as far as it is made: j rows of registers, l buffers. -/
structure CI (B : Nat) (w0 w : World) (gd : Nat) (c : Cf) (j l : Nat) (vp vm : Value) (ar : Option Addr) (kr : Nat) (ab : Option Addr) (kb : Nat) (rs : List (List Int × Value)) (bs : List (List Ent × Value)) : Prop where
  hc : Bk w gd 29 #[vp, .slice ar j kr, vm, .slice ab l kb]
  p : OwnI w B vp c.pc
  m : OwnI w B vm c.mem
  r : w.ownsRow B 22 1 (.slice ar j kr) j (rs.map (·.2))
  rr : ∀ x ∈ rs, OwnI w B x.2 x.1
  lr : rs.length = j
  er : rs.map (·.1) = (c.regs.take j).map (·.1)
  b : w.ownsRow B 48 1 (.slice ab l kb) l (bs.map (·.2))
  bb : ∀ x ∈ bs, OwnE w B x.2 x.1
  lb : bs.length = l
  eb : bs.map (·.1) = (c.buf.take l).map (·.1)
  bel : Below gd w0 w
  gdB : gd < B
  sz : B ≤ w.heap.size
  dj : DjC vp vm rs
theorem DjC.snoc {vp vm u : Value} {rs : List (List Int × Value)} {xs : List Int} (h : DjC vp vm rs) (h1 : Apart vp u) (h2 : Apart vm u) (h3 : ∀ x ∈ rs, Apart x.2 u) : DjC vp vm (rs ++ [(xs, u)]) :=
  ⟨h.pm, fun x hx => (List.mem_append.1 hx).elim (h.pr x) (fun hx => by rw [List.mem_singleton.1 hx]; exact h1), fun x hx => (List.mem_append.1 hx).elim (h.mr x) (fun hx => by rw [List.mem_singleton.1 hx]; exact h2),
    List.pairwise_append.2 ⟨h.rr, List.pairwise_singleton _ _, fun x hx y hy => by rw [List.mem_singleton.1 hy]; exact h3 x hx⟩⟩
theorem CI.below {B : Nat} {w0 w wa : World} {gd j l : Nat} {c : Cf} {vp vm : Value} {ar ab : Option Addr} {kr kb : Nat} {rs : List (List Int × Value)} {bs : List (List Ent × Value)} (h : CI B w0 w gd c j l vp vm ar kr ab kb rs bs) (hb : Below w.heap.size w wa) : CI B w0 wa gd c j l vp vm ar kr ab kb rs bs :=
  ⟨h.hc.below hb, own_below h.p hb, own_below h.m hb, own_below h.r hb, fun x hx => own_below (h.rr x hx) hb, h.lr, h.er, own_below h.b hb, fun x hx => own_below (h.bb x hx) hb, h.lb, h.eb, h.bel.trans (hb.mono (Nat.le_trans (Nat.le_of_lt h.gdB) h.sz)), h.gdB, Nat.le_trans h.sz hb.size, h.dj⟩
theorem CI.stepR {B : Nat} {w0 wa w2 : World} {gd j l g' cap : Nat} {c : Cf} {vp vm : Value} {ar ab : Option Addr} {kr kb : Nat} {rs : List (List Int × Value)} {bs : List (List Ent × Value)} (h : CI B w0 wa gd c j l vp vm ar kr ab kb rs bs) (hk : j < c.regs.length) (u : Value) (xs : List Int) (hx : xs = c.regs[j].1)
    (hu : OwnI wa B u xs) (hdj : DjC vp vm (rs ++ [(xs, u)])) (o : w2.ownsRow B 22 1 (.slice (some ⟨g', 0, none⟩) (j + 1) cap) (j + 1) (rs.map (·.2) ++ [u])) (hb : Below B wa w2) (hgr : wa.grownBy w2 (Value.ownBlock (.slice ar j kr))) :
    CI B w0 (w2.setCell ⟨gd, 1, none⟩ (.slice (some ⟨g', 0, none⟩) (j + 1) cap)) gd c (j + 1) l vp vm (some ⟨g', 0, none⟩) cap ab kb (rs ++ [(xs, u)]) bs := by
  have hc2 : Bk w2 gd _ _ := bk_grown h.hc hgr (own_ne_bk h.r h.hc (by decide))
  refine ⟨bk_set1 _ hc2, own_setT (h.p.kept hgr (own_types h.p h.r (by decide))) hc2 (by decide), own_setT (h.m.kept hgr (own_types h.m h.r (by decide))) hc2 (by decide), ?_, fun x hx => ?_, by rw [List.length_append, h.lr]; rfl, ?_,
    own_setT (h.b.kept hgr (own_types h.b h.r (by decide))) hc2 (by decide), fun x hx => own_setT ((h.bb x hx).kept hgr (own_types (h.bb x hx) h.r (by decide))) hc2 (by decide), h.lb, h.eb, ?_, h.gdB, ?_, hdj⟩
  · have := own_setT (j := 1) (u := .slice (some ⟨g', 0, none⟩) (j + 1) cap) o hc2 (by decide)
    simpa using this
  · rcases List.mem_append.1 hx with hx | hx
    · exact own_setT ((h.rr x hx).kept hgr (own_types (h.rr x hx) h.r (by decide))) hc2 (by decide)
    · rw [List.mem_singleton.1 hx]
      exact own_setT (hu.kept hgr (own_types hu h.r (by decide))) hc2 (by decide)
  · rw [List.map_append, h.er, hx, List.take_add_one, List.getElem?_eq_getElem hk, List.map_append]
    rfl
  · exact Below.setCell (p := ⟨gd, 1, none⟩) (h.bel.trans (hb.mono (Nat.le_of_lt h.gdB))) (Nat.le_refl _) _
  · simp; exact Nat.le_trans h.sz hb.size
theorem CI.stepB {B : Nat} {w0 wa w2 : World} {gd j l g' cap : Nat} {c : Cf} {vp vm : Value} {ar ab : Option Addr} {kr kb : Nat} {rs : List (List Int × Value)} {bs : List (List Ent × Value)} (h : CI B w0 wa gd c j l vp vm ar kr ab kb rs bs) (hk : l < c.buf.length) (u : Value) (xs : List Ent) (hx : xs = c.buf[l].1)
    (hu : OwnE wa B u xs) (o : w2.ownsRow B 48 1 (.slice (some ⟨g', 0, none⟩) (l + 1) cap) (l + 1) (bs.map (·.2) ++ [u])) (hb : Below B wa w2) (hgr : wa.grownBy w2 (Value.ownBlock (.slice ab l kb))) :
    CI B w0 (w2.setCell ⟨gd, 3, none⟩ (.slice (some ⟨g', 0, none⟩) (l + 1) cap)) gd c j (l + 1) vp vm ar kr (some ⟨g', 0, none⟩) cap rs (bs ++ [(xs, u)]) := by
  have hc2 : Bk w2 gd _ _ := bk_grown h.hc hgr (own_ne_bk h.b h.hc (by decide))
  refine ⟨bk_set3 _ hc2, own_setT (h.p.kept hgr (own_types h.p h.b (by decide))) hc2 (by decide), own_setT (h.m.kept hgr (own_types h.m h.b (by decide))) hc2 (by decide), own_setT (h.r.kept hgr (own_types h.r h.b (by decide))) hc2 (by decide), fun x hx => own_setT ((h.rr x hx).kept hgr (own_types (h.rr x hx) h.b (by decide))) hc2 (by decide), h.lr, h.er,
    ?_, fun x hx => ?_, by rw [List.length_append, h.lb]; rfl, ?_, ?_, h.gdB, ?_, h.dj⟩
  · have := own_setT (j := 3) (u := .slice (some ⟨g', 0, none⟩) (l + 1) cap) o hc2 (by decide)
    simpa using this
  · rcases List.mem_append.1 hx with hx | hx
    · exact own_setT ((h.bb x hx).kept hgr (own_types (h.bb x hx) h.b (by decide))) hc2 (by decide)
    · rw [List.mem_singleton.1 hx]
      exact own_setT (hu.kept hgr (own_types hu h.b (by decide))) hc2 (by decide)
  · rw [List.map_append, h.eb, hx, List.take_add_one, List.getElem?_eq_getElem hk, List.map_append]
    rfl
  · exact Below.setCell (p := ⟨gd, 3, none⟩) (h.bel.trans (hb.mono (Nat.le_of_lt h.gdB))) (Nat.le_refl _) _
  · simp; exact Nat.le_trans h.sz hb.size

attribute [local go_sem ↓] Go.wp_at_zero Go.wp_at_succ
set_option maxRecDepth 100000 in
set_option maxHeartbeats 8000000 in
theorem rcopy_any (c : Cf) (vp vr vm vb : Value) (w : World) (hd : CfD w vp vr vm vb c) (hs : ShortC c) :
    Calls Try.prog 20 #[.agg #[vp, vr, vm, vb]] w fun e w' => ∃ (c' : Cf) (xp xr xm xb : Value), e = .returned (.agg #[xp, xr, xm, xb]) ∧ OwnC w' w.heap.size xp xr xm xb c' ∧ c'.pf = c.pf ∧ Below w.heap.size w w' ∧ DjC xp xm c'.regs := by
  have HD := Lib.hid hd
  have HS := Lib.hid hs
  obtain ⟨yp, cp, rfl⟩ := hd.p.shape0
  obtain ⟨yr, cr, rfl⟩ := hd.r.shape0
  obtain ⟨ym, cm, rfl⟩ := hd.m.shape0
  obtain ⟨yb, cb, rfl⟩ := hd.b.shape0
  obtain ⟨np, hnp⟩ : ∃ n, n = c.pc.length := ⟨_, rfl⟩
  obtain ⟨nr, hnr⟩ : ∃ n, n = c.regs.length := ⟨_, rfl⟩
  obtain ⟨nm, hnm⟩ : ∃ n, n = c.mem.length := ⟨_, rfl⟩
  obtain ⟨nb, hnb⟩ : ∃ n, n = c.buf.length := ⟨_, rfl⟩
  have HNR := Lib.hid hnr
  have HNB := Lib.hid hnb
  have HNP := Lib.hid hnp
  have HNM := Lib.hid hnm
  rw [← hnp, ← hnr, ← hnm, ← hnb] at HD ⊢
  have HP6 : Hid (c.pc.length ≤ 1000000) := Lib.hid (by have := hs.p; omega)
  have HM6 : Hid (c.mem.length ≤ 1000000) := Lib.hid (by have := hs.m; omega)
  clear hd hs hnp hnr hnm hnb
  have KA : Hid (Bk (((w.alloc (.cells #[.slice yp np cp, .slice yr nr cr, .slice ym nm cm, .slice yb nb cb] 29)).alloc (.cells #[.slice none 0 0, .slice none 0 0, .slice none 0 0, .slice none 0 0] 29)).alloc (.cells #[.slice none 0 0, .slice none 0 0, .slice none 0 0, .slice none 0 0] 29)) w.heap.size 29 #[.slice yp np cp, .slice yr nr cr, .slice ym nm cm, .slice yb nb cb]) := Lib.hid (bk_alloc (bk_alloc (Bk.new _ _ _) _) _)
  have KB : Hid (Bk (((w.alloc (.cells #[.slice yp np cp, .slice yr nr cr, .slice ym nm cm, .slice yb nb cb] 29)).alloc (.cells #[.slice none 0 0, .slice none 0 0, .slice none 0 0, .slice none 0 0] 29)).alloc (.cells #[.slice none 0 0, .slice none 0 0, .slice none 0 0, .slice none 0 0] 29)) (w.heap.size + 1) 29 #[.slice none 0 0, .slice none 0 0, .slice none 0 0, .slice none 0 0]) := Lib.hid (bk_alloc (bk_at2 _ _ _ _) _)
  have KD : Hid (Bk (((w.alloc (.cells #[.slice yp np cp, .slice yr nr cr, .slice ym nm cm, .slice yb nb cb] 29)).alloc (.cells #[.slice none 0 0, .slice none 0 0, .slice none 0 0, .slice none 0 0] 29)).alloc (.cells #[.slice none 0 0, .slice none 0 0, .slice none 0 0, .slice none 0 0] 29)) (w.heap.size + 1 + 1) 29 #[.slice none 0 0, .slice none 0 0, .slice none 0 0, .slice none 0 0]) := Lib.hid (bk_at3 _ _ _ _ _)
  have LL : Hid (Below w.heap.size w (((w.alloc (.cells #[.slice yp np cp, .slice yr nr cr, .slice ym nm cm, .slice yb nb cb] 29)).alloc (.cells #[.slice none 0 0, .slice none 0 0, .slice none 0 0, .slice none 0 0] 29)).alloc (.cells #[.slice none 0 0, .slice none 0 0, .slice none 0 0, .slice none 0 0] 29))) := Lib.hid (bal (bal (bal (Below.refl _ _) _) _) _)
  have SZ : Hid ((((w.alloc (.cells #[.slice yp np cp, .slice yr nr cr, .slice ym nm cm, .slice yb nb cb] 29)).alloc (.cells #[.slice none 0 0, .slice none 0 0, .slice none 0 0, .slice none 0 0] 29)).alloc (.cells #[.slice none 0 0, .slice none 0 0, .slice none 0 0, .slice none 0 0] 29)).heap.size = w.heap.size + 1 + 1 + 1) := Lib.hid (by simp only [alloc_size])
  have HDP := Lib.hid (fun (W : World) (h : Below w.heap.size w W) => IntsD.below HD.out.p h)
  have HDM := Lib.hid (fun (W : World) (h : Below w.heap.size w W) => IntsD.below HD.out.m h)
  go_enter Try.func20, Try.ntmps20
  go_wp2_with (at_builtin; refine append_ints0 rfl (.tmp 10) (.tmp 12) rfl rfl yp np cp rfl c.pc (HDP.out _ LL.out) HP6.out ?_)
  generalize ((w.alloc _).alloc _).alloc _ = w0 at KA KB KD LL SZ ⊢
  obtain ⟨gd, hgd⟩ : ∃ g, g = w.heap.size + 1 + 1 := ⟨_, rfl⟩
  rw [← hgd] at KD ⊢
  have HGD := Lib.hid hgd
  clear hgd
  intro ap kp w1 O1 B1
  have SZ' : Hid (w0.heap.size = gd + 1) := Lib.hid (by rw [SZ.out, HGD.out])
  replace B1 : Hid (Below w0.heap.size w0 w1) := Lib.hid (by rw [SZ'.out]; exact B1.out)
  have HO1 : Hid (w1.ownsRow (gd + 1) 3 1 (.slice ap np kp) c.pc.length (rowI c.pc)) := Lib.hid O1.out
  have KD1 := Lib.hid (KD.out.below B1.out)
  have KA1 := Lib.hid (KA.out.below B1.out)
  have L1 := Lib.hid (LL.out.trans (B1.out.mono LL.out.size))
  have hne : ¬ gd = w.heap.size := by have := HGD.out; omega
  have hne' : ¬ w.heap.size = gd := by have := HGD.out; omega
  have d0 : w1.cell? ⟨gd, 0, none⟩ = some (.slice none 0 0) := KD1.out.cell 0
  have d2 : w1.cell? ⟨gd, 2, none⟩ = some (.slice none 0 0) := KD1.out.cell 2
  have f0 : w1.frozen? ⟨gd, 0, none⟩ = false := KD1.out.fz 0
  have l1 := KD1.out.lt
  have c2 : w1.cell? ⟨w.heap.size, 2, none⟩ = some (.slice ym nm cm) := KA1.out.cell 2
  have l2 := KA1.out.lt
  have L2 : Hid (Below w.heap.size w (w1.setCell ⟨gd, 0, none⟩ (.slice ap np kp))) := Lib.hid (Below.setCell (p := ⟨gd, 0, none⟩) L1.out (show w.heap.size ≤ gd by have := HGD.out; omega) _)
  have KD2 : Hid (Bk (w1.setCell ⟨gd, 0, none⟩ (.slice ap np kp)) gd 29 #[.slice ap np kp, .slice none 0 0, .slice none 0 0, .slice none 0 0]) := Lib.hid (bk_set0 _ KD1.out)
  have KA2 : Hid (Bk (w1.setCell ⟨gd, 0, none⟩ (.slice ap np kp)) w.heap.size 29 #[.slice yp np cp, .slice yr nr cr, .slice ym nm cm, .slice yb nb cb]) := Lib.hid ((heap_setCell_other _ _ _ _ hne').trans KA1.out)
  have HO2 : Hid ((w1.setCell ⟨gd, 0, none⟩ (.slice ap np kp)).ownsRow (gd + 1) 3 1 (.slice ap np kp) c.pc.length (rowI c.pc)) := Lib.hid (own_setT HO1.out KD1.out (by decide))
  have BE2 : Hid (Below gd w0 (w1.setCell ⟨gd, 0, none⟩ (.slice ap np kp))) := Lib.hid (Below.setCell (p := ⟨gd, 0, none⟩) (B1.out.mono (show gd ≤ w0.heap.size by have := SZ'.out; omega)) (Nat.le_refl _) _)
  have SZ2 : Hid (gd + 1 ≤ (w1.setCell ⟨gd, 0, none⟩ (.slice ap np kp)).heap.size) := Lib.hid (by rw [setCell_size]; have := B1.out.size; have := SZ'.out; omega)
  clear O1 KD1 KA1 KD SZ L1 HO1 B1 KA2
  go_wp2_with (at_builtin; refine append_ints0 rfl (.tmp 16) (.tmp 18) rfl rfl ym nm cm rfl c.mem (HDM.out _ L2.out) HM6.out ?_)
  intro am km w3 O3 B3
  have B3' : Hid (Below (w1.setCell ⟨gd, 0, none⟩ (.slice ap np kp)).heap.size (w1.setCell ⟨gd, 0, none⟩ (.slice ap np kp)) w3) := Lib.hid (by rw [setCell_size]; exact B3.out)
  have KD3 := Lib.hid (KD2.out.below B3'.out)
  have HO3 : Hid (w3.ownsRow (gd + 1) 3 1 (.slice am nm km) c.mem.length (rowI c.mem)) := Lib.hid (own_base O3.out (by have := SZ2.out; rw [setCell_size] at this; exact this))
  have HAPM : Hid (Apart (.slice ap np kp) (.slice am nm km)) := Lib.hid (apart_own HO2.out O3.out (by rw [setCell_size]; exact Nat.le_refl _))
  have J0 : Hid (CI (gd + 1) w0 (w3.setCell ⟨gd, 2, none⟩ (.slice am nm km)) gd c 0 0 (.slice ap np kp) (.slice am nm km) none 0 none 0 [] []) := Lib.hid
    ⟨bk_set2 _ KD3.out, own_setT (own_below HO2.out B3'.out) KD3.out (by decide), own_setT HO3.out KD3.out (by decide), World.ownsRow_nil _ _ _ _, fun x hx => absurd hx (by simp), rfl, by simp, World.ownsRow_nil _ _ _ _, fun x hx => absurd hx (by simp), rfl, by simp,
      Below.setCell (p := ⟨gd, 2, none⟩) (BE2.out.trans (B3'.out.mono (by have := SZ2.out; omega))) (Nat.le_refl _) _, Nat.lt_succ_self _, by rw [setCell_size]; exact Nat.le_trans SZ2.out B3'.out.size, ⟨HAPM.out, fun x hx => absurd hx (by simp), fun x hx => absurd hx (by simp), List.Pairwise.nil⟩⟩
  have e2 : w3.cell? ⟨gd, 2, none⟩ = some (.slice none 0 0) := KD3.out.cell 2
  have g2 : w3.frozen? ⟨gd, 2, none⟩ = false := KD3.out.fz 2
  have l3 := KD3.out.lt
  clear O3 B3 B3' KD3 HO3 KD2 L2 HO2 BE2 SZ2 d0 d2 f0 l1 c2 l2
  go_wp2_with fail
  generalize w3.setCell _ _ = w4 at J0 ⊢
  have HKA : Hid (∀ W : World, Below gd w0 W → Bk W w.heap.size 29 #[.slice yp np cp, .slice yr nr cr, .slice ym nm cm, .slice yb nb cb]) := Lib.hid (fun W h => (h.block w.heap.size (by have := HGD.out; omega)).trans KA.out)
  have HKB : Hid (∀ W : World, Below gd w0 W → Bk W (w.heap.size + 1) 29 #[.slice none 0 0, .slice none 0 0, .slice none 0 0, .slice none 0 0]) := Lib.hid (fun W h => (h.block (w.heap.size + 1) (by have := HGD.out; omega)).trans KB.out)
  have HLL : Hid (∀ W : World, Below gd w0 W → Below w.heap.size w W) := Lib.hid (fun W h => LL.out.trans (h.mono (by have := HGD.out; omega)))
  clear KA KB LL
  go_loopg [4] nr (fun fuel i' wr => ∃ (k : Nat) (ar : Option Addr) (kr : Nat) (rs : List (List Int × Value)), i' = .int .i64 k ∧ k ≤ nr ∧ nr - k ≤ fuel ∧ CI (gd + 1) w0 wr gd c k 0 (.slice ap np kp) (.slice am nm km) ar kr none 0 rs [])
  case atStart => exact ⟨0, _, _, [], rfl, Nat.zero_le _, Nat.le_refl _, J0.out⟩
  case round =>
    obtain ⟨k, ar, kr, rs, rfl, hk, hf, hi⟩ := hrel
    have HI := Lib.hid hi
    have KAR := Lib.hid (HKA.out _ hi.bel)
    clear hi J0
    have c1 : wr.cell? ⟨w.heap.size, 1, none⟩ = some (.slice yr nr cr) := KAR.out.cell 1
    have l2 := KAR.out.lt
    by_cases hlt : k < nr
    · have hk1 : k < c.regs.length := by rw [← HNR.out]; exact hlt
      obtain ⟨b4, o4, a4, m4, rfl, hb4, y4, z4⟩ := AllD.at2 (HD.out.below (HLL.out _ HI.out.bel)).r k hk1
      have hs4 : c.regs[k].1.length ≤ 1000000 := by have := HS.out.rr _ (List.getElem_mem hk1); omega
      obtain ⟨xs, hxs⟩ : ∃ xs, xs = c.regs[k].1 := ⟨_, rfl⟩
      rw [← hxs] at y4 z4 hs4
      have HXS := Lib.hid hxs
      have HS4 := Lib.hid hs4
      have Z4 := Lib.hid z4
      obtain ⟨nx, hnx⟩ : ∃ n, n = xs.length := ⟨_, rfl⟩
      rw [← hnx] at y4 Z4
      have HNX := Lib.hid hnx
      have e1 : (0 : Int) ≤ (k : Int) := Int.natCast_nonneg _
      have e2 : (k : Int) < (nr : Int) := by omega
      clear hxs hs4 z4 hnx
      have hn4 : nr ≤ 100000 := by rw [HNR.out]; exact HS.out.r
      have HN4 : Hid (k ≤ 1000000) := Lib.hid (by omega)
      go_wp2_with (at_builtin; refine append_ints0 rfl (.tmp 28) (.tmp 33) rfl rfl a4 nx m4 rfl xs Z4.out HS4.out ?_)
      intro ax kx w5 O5 B5
      have J1 := Lib.hid (HI.out.below B5.out)
      have O5' : Hid (OwnI w5 (gd + 1) (.slice ax nx kx) xs) := Lib.hid (own_base O5.out HI.out.sz)
      have HDJ : Hid (DjC (.slice ap np kp) (.slice am nm km) (rs ++ [(xs, .slice ax nx kx)])) := Lib.hid (HI.out.dj.snoc (apart_own HI.out.p O5.out (Nat.le_refl _)) (apart_own HI.out.m O5.out (Nat.le_refl _)) fun x hx => apart_own (HI.out.rr x hx) O5.out (Nat.le_refl _))
      have c1' : w5.cell? ⟨gd, 1, none⟩ = some (.slice ar k kr) := J1.out.hc.cell 1
      have f1' : w5.frozen? ⟨gd, 1, none⟩ = false := J1.out.hc.fz 1
      have l5 := J1.out.hc.lt
      have IA := Lib.hid (J1.out.below (bal (Below.refl _ _) (.cells #[.slice ax nx kx] 22)))
      have KN := Lib.hid (Bk.new w5 22 #[.slice ax nx kx])
      have OX : Hid (OwnI (w5.alloc (.cells #[.slice ax nx kx] 22)) (gd + 1) (.slice ax nx kx) xs) := Lib.hid (World.ownsRow.alloc O5'.out _)
      clear O5 B5 O5' HI KAR c1 l2 y4
      go_wp2_with (at_builtin; refine list_app1 rfl (.tmp 36) (.tmp 38) 26 22 (.slice none 0 0) 24 rfl Try.underlying26 info_ints rfl (by decide) (gd + 1) (.slice ar k kr) k _ rfl IA.out.r w5.heap.size (.slice ax nx kx) rfl KN.out rfl HN4.out IA.out.sz _ rfl ?_)
      intro g3 cap3 w6 O6 B6 G6 H6
      have K6 := Lib.hid (bk_grown IA.out.hc G6.out (own_ne_bk IA.out.r IA.out.hc (by decide)))
      have J3 := Lib.hid (IA.out.stepR hk1 (.slice ax nx kx) xs HXS.out OX.out HDJ.out O6.out B6.out G6.out)
      have d1 : w6.cell? ⟨gd, 1, none⟩ = some (.slice ar k kr) := K6.out.cell 1
      have g1 : w6.frozen? ⟨gd, 1, none⟩ = false := K6.out.fz 1
      have l6 := K6.out.lt
      clear O6 B6 G6 H6 K6 KN IA OX J1 c1' f1' l5
      go_wp2_with fail
      generalize w6.setCell _ _ = w7 at J3 ⊢
      go_roundg (gk - 1)
      case measure => omega
      case rel => exact ⟨k + 1, _, _, _, by go_num, by omega, by omega, J3.out⟩
    · have hkn : k = nr := by omega
      subst hkn
      clear hk hf
      obtain ⟨wo, hwo⟩ : ∃ x, x = wr := ⟨_, rfl⟩
      go_wp2_with fail
      rw [← hwo] at HI KAR
      clear c1 l2
      go_loopg [6] nb (fun fuel i' wi => ∃ (l : Nat) (ab : Option Addr) (kb : Nat) (bs : List (List Ent × Value)), i' = .int .i64 l ∧ l ≤ nb ∧ nb - l ≤ fuel ∧ CI (gd + 1) w0 wi gd c k l (.slice ap np kp) (.slice am nm km) ar kr ab kb rs bs)
      case atStart => exact ⟨0, _, _, [], rfl, Nat.zero_le _, Nat.le_refl _, by rw [← hwo]; exact HI.out⟩
      case round =>
        clear hwo HI KAR wo hlt
        obtain ⟨l, ab, kb, bs, rfl, hl, hfl, hi⟩ := hrel
        have HI := Lib.hid hi
        have KAR := Lib.hid (HKA.out _ hi.bel)
        clear hi
        have c3 : wr.cell? ⟨w.heap.size, 3, none⟩ = some (.slice yb nb cb) := KAR.out.cell 3
        have l2 := KAR.out.lt
        by_cases hlt : l < nb
        · have hk1 : l < c.buf.length := by rw [← HNB.out]; exact hlt
          obtain ⟨b4, o4, a4, m4, rfl, hb4, y4, z4⟩ := BufsD.at2 (HD.out.below (HLL.out _ HI.out.bel)).b l hk1
          have hs4 : c.buf[l].1.length ≤ 100000 := HS.out.bb _ (List.getElem_mem hk1)
          obtain ⟨xs, hxs⟩ : ∃ xs, xs = c.buf[l].1 := ⟨_, rfl⟩
          rw [← hxs] at y4 z4 hs4
          have HXS := Lib.hid hxs
          have HS4 : Hid (([] : List Ent).length + xs.length ≤ 1000000) := Lib.hid (by simp; omega)
          have Z4 := Lib.hid z4
          obtain ⟨nx, hnx⟩ : ∃ n, n = xs.length := ⟨_, rfl⟩
          rw [← hnx] at y4 Z4
          have HNX := Lib.hid hnx
          have e1 : (0 : Int) ≤ (l : Int) := Int.natCast_nonneg _
          have e2 : (l : Int) < (nb : Int) := by omega
          clear hxs hs4 z4 hnx
          have hn4 : nb ≤ 100000 := by rw [HNB.out]; exact HS.out.b
          have HN4 : Hid (l ≤ 1000000) := Lib.hid (by omega)
          go_wp2_with (at_builtin; refine append_ents rfl (.tmp 48) (.tmp 53) rfl wr.heap.size (.slice none 0 0) [] xs rfl a4 nx m4 rfl (World.ownsRow_nil _ _ _ _) Z4.out HS4.out (Nat.le_refl _) xs rfl ?_)
          intro vx w5 O5 b5
          have B5 := Lib.hid b5
          obtain ⟨ax, kx, rfl, _⟩ := own_shape' O5.out
          have J1 := Lib.hid (HI.out.below B5.out)
          have O5' : Hid (OwnE w5 (gd + 1) (.slice ax xs.length kx) xs) := Lib.hid (own_base O5.out HI.out.sz)
          rw [← HNX.out] at O5' ⊢
          have c3' : w5.cell? ⟨gd, 3, none⟩ = some (.slice ab l kb) := J1.out.hc.cell 3
          have l5 := J1.out.hc.lt
          have IA := Lib.hid (J1.out.below (bal (Below.refl _ _) (.cells #[.slice ax nx kx] 48)))
          have KN := Lib.hid (Bk.new w5 48 #[.slice ax nx kx])
          have OX : Hid (OwnE (w5.alloc (.cells #[.slice ax nx kx] 48)) (gd + 1) (.slice ax nx kx) xs) := Lib.hid (World.ownsRow.alloc O5'.out _)
          clear O5 b5 B5 O5' HI KAR c3 l2 y4
          go_wp2_with (at_builtin; refine list_app1 rfl (.tmp 56) (.tmp 58) 27 48 (.slice none 0 0) 24 rfl Try.underlying27 info_ents rfl (by decide) (gd + 1) (.slice ab l kb) l _ rfl IA.out.b w5.heap.size (.slice ax nx kx) rfl KN.out rfl HN4.out IA.out.sz _ rfl ?_)
          intro g3 cap3 w6 O6 B6 G6 H6
          have K6 := Lib.hid (bk_grown IA.out.hc G6.out (own_ne_bk IA.out.b IA.out.hc (by decide)))
          have J3 := Lib.hid (IA.out.stepB hk1 (.slice ax nx kx) xs HXS.out OX.out O6.out B6.out G6.out)
          have d3 : w6.cell? ⟨gd, 3, none⟩ = some (.slice ab l kb) := K6.out.cell 3
          have g3' : w6.frozen? ⟨gd, 3, none⟩ = false := K6.out.fz 3
          have l6 := K6.out.lt
          clear O6 B6 G6 H6 K6 KN IA OX J1 c3' l5
          go_wp2_with fail
          generalize w6.setCell _ _ = w7 at J3 ⊢
          go_roundg (gk - 1)
          case measure => omega
          case rel => exact ⟨l + 1, _, _, _, by go_num, by omega, by omega, J3.out⟩
        · have hln : l = nb := by omega
          subst hln
          have KBR := Lib.hid (HKB.out _ HI.out.bel)
          have LBR := Lib.hid (HLL.out _ HI.out.bel)
          have d0 : wr.cell? ⟨gd, 0, none⟩ = some (.slice ap np kp) := HI.out.hc.cell 0
          have d1 : wr.cell? ⟨gd, 1, none⟩ = some (.slice ar k kr) := HI.out.hc.cell 1
          have d2 : wr.cell? ⟨gd, 2, none⟩ = some (.slice am nm km) := HI.out.hc.cell 2
          have d3 : wr.cell? ⟨gd, 3, none⟩ = some (.slice ab l kb) := HI.out.hc.cell 3
          have l3 := HI.out.hc.lt
          have e0 : wr.cell? ⟨w.heap.size + 1, 0, none⟩ = some (.slice none 0 0) := KBR.out.cell 0
          have e1 : wr.cell? ⟨w.heap.size + 1, 1, none⟩ = some (.slice none 0 0) := KBR.out.cell 1
          have e2 : wr.cell? ⟨w.heap.size + 1, 2, none⟩ = some (.slice none 0 0) := KBR.out.cell 2
          have e3 : wr.cell? ⟨w.heap.size + 1, 3, none⟩ = some (.slice none 0 0) := KBR.out.cell 3
          have f0 : wr.frozen? ⟨w.heap.size + 1, 0, none⟩ = false := KBR.out.fz 0
          have f1 : wr.frozen? ⟨w.heap.size + 1, 1, none⟩ = false := KBR.out.fz 1
          have f2 : wr.frozen? ⟨w.heap.size + 1, 2, none⟩ = false := KBR.out.fz 2
          have f3 : wr.frozen? ⟨w.heap.size + 1, 3, none⟩ = false := KBR.out.fz 3
          have l4 := KBR.out.lt
          go_wp2_with fail
          have kp4 := set4_kp (w := wr) (B := gd + 1) (.slice ap np kp) (.slice ar k kr) (.slice am nm km) (.slice ab l kb) (show w.heap.size + 1 < gd + 1 by have := HGD.out; omega)
          have KF := set4_bk (.slice ap np kp) (.slice ar k kr) (.slice am nm km) (.slice ab l kb) KBR.out
          have LF := set4_below (.slice ap np kp) (.slice ar k kr) (.slice am nm km) (.slice ab l kb) LBR.out (Nat.le_succ w.heap.size)
          generalize (((wr.setCell ⟨w.heap.size + 1, 0, none⟩ (.slice ap np kp)).setCell ⟨w.heap.size + 1, 1, none⟩ (.slice ar k kr)).setCell ⟨w.heap.size + 1, 2, none⟩ (.slice am nm km)).setCell ⟨w.heap.size + 1, 3, none⟩ (.slice ab l kb) = w9 at *
          clear d0 d1 d2 d3 e0 e1 e2 e3 f0 f1 f2 f3
          have d0 : w9.cell? ⟨w.heap.size + 1, 0, none⟩ = some _ := KF.cell 0
          have d1 : w9.cell? ⟨w.heap.size + 1, 1, none⟩ = some _ := KF.cell 1
          have d2 : w9.cell? ⟨w.heap.size + 1, 2, none⟩ = some _ := KF.cell 2
          have d3 : w9.cell? ⟨w.heap.size + 1, 3, none⟩ = some _ := KF.cell 3
          have I := HI.out
          have HO : OwnC w9 w.heap.size (.slice ap np kp) (.slice ar k kr) (.slice am nm km) (.slice ab l kb) ⟨c.pc, rs, c.mem, bs⟩ := OwnC.base (B := gd + 1) ⟨own_kp I.p kp4, ⟨by rw [I.lr]; exact own_kp I.r kp4, fun x hx => own_kp (I.rr x hx) kp4⟩, own_kp I.m kp4, ⟨by rw [I.lb]; exact own_kp I.b kp4, fun x hx => own_kp (I.bb x hx) kp4⟩⟩ (by have := HGD.out; omega)
          have HPF : (⟨c.pc, rs, c.mem, bs⟩ : Cf).pf = c.pf := by
            unfold Cf.pf
            simp only []
            rw [I.er, I.eb, HNR.out, HNB.out, List.take_length, List.take_length]
          refine bodyPost_ret (v := .agg #[.slice ap np kp, .slice ar k kr, .slice am nm km, .slice ab l kb]) (by simp [results, Try.results20, go_sem, d0, d1, d2, d3]) rfl ?_
          exact ⟨_, _, _, _, _, rfl, HO, HPF, LF, I.dj⟩

end Go.Proofs.Ytmkgijedchpgcaa
