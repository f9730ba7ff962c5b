/- Layer 9: the reference's Start. -/
import Derived.Test.YtmkgijedchpgcaaVg
import Derived.Test.YtmkgijedchpgcaaUl
import Derived.Deep.DrawnRows
import Derived.Deep.RegionLaw
namespace Go.Proofs.Ytmkgijedchpgcaa
set_option linter.unusedSimpArgs false
set_option linter.unusedVariables false
open Go.RowKit

/-- append of one element that takes one cell to a row of one's own: where the new row lies. -/
theorem list_app1 {w : World} {ops : Array Oper} {rest : List Oper} {o : Oper} {a : Act} {Q : Exit → Act → World → Prop} (hgd : o.guard = none) (s x : Operand) (T E : TypeId) (z : Value) (by' : Nat)
    (ho : o.op = .call { callee := .builtin .append, args := #[s, x], argTypes := #[T, T] }) (hu : Try.prog.underlying T = some (.slice E)) (hin : (Try.prog.info? E).map (fun i => (i.zero, i.size, i.bytes)) = some (some z, 1, by')) (hz1 : z.cells.size = 1) (hby : by' ≤ 64)
    (base : Nat) (v : Value) (n : Nat) (xs : List Value) (hs : a.eval s = v) (hown : w.ownsRow base E 1 v n xs) (g : Nat) (u : Value) (hx : a.eval x = .slice (some ⟨g, 0, none⟩) 1 1) (hg : Bk w g E #[u]) (h1 : u.oneCell' = true) (hn : n ≤ 1000000) (hbase : base ≤ w.heap.size) (zs : List Value) (hz : xs ++ [u] = zs)
    (h : ∀ g' cap w', Hid (w'.ownsRow base E 1 (.slice (some ⟨g', 0, none⟩) (n + 1) cap) (n + 1) zs) → Hid (Below base w w') → Hid (w.grownBy w' v.ownBlock) → Hid (v.ownBlock = some g' ∨ g' = w.heap.size) → wpList Try.prog ops Q rest (a.put o.dst (.slice (some ⟨g', 0, none⟩) (n + 1) cap)) w') :
    wpList Try.prog ops Q (o :: rest) a w := by
  obtain ⟨i0, hi, hz0, hz2, hz3⟩ := info_parts hin
  subst hz
  refine wpList_append_lies _ hgd s x T ho base E i0 z 1 by' hu hi hz0 hz2 hz3 hz1 (by decide) v n xs hs hown ⟨g, 0, none⟩ 1 1 [u] hx rfl (fun j y hy => World.news_of_block (show w.heap[g]? = some (.cells #[u] E (0, 0)) from hg) j y (by simpa using hy)) (by intro y hy; rw [List.mem_singleton.1 hy]; exact h1) (by decide) (by unfold maxLen; omega) (Nat.le_trans (Nat.mul_le_mul (by omega : n + 1 ≤ 1000001) hby) (by decide)) hbase _ rfl ?_
  intro g' cap w' h2 h3 h4 _
  exact h g' cap w' (Lib.hid h2) (Lib.hid ((Below.refl base w).grown h3 hbase (fun k hk => (hown.lt k hk).1))) (Lib.hid h3) (Lib.hid h4)

theorem own_ne_bk {w : World} {B T S n gc T' : Nat} {v : Value} {xs : List Value} {cs : Array Value} (h : w.ownsRow B T S v n xs) (hb : Bk w gc T' cs) (hT : T ≠ T') : some gc ≠ v.ownBlock := by
  rcases h.2 with ⟨rfl, _⟩ | ⟨g, cap, cur, rfl, _, hh, _⟩
  · intro e; cases e
  · intro e
    have e' : gc = g := by simpa [Value.ownBlock] using e
    subst e'
    have hb' : w.heap[gc]? = _ := hb
    rw [hh] at hb'
    injection hb' with hb'
    injection hb' with _ e _
    exact hT e
theorem bk_grown {w w' : World} {g T : Nat} {cs : Array Value} {row : Option Nat} (h : Bk w g T cs) (hg : w.grownBy w' row) (hne : some g ≠ row) : Bk w' g T cs := (hg.block g h.lt hne).trans h

/-- The reference's round: i counters, j rows of registers, l buffers. -/
structure RI (B : Nat) (w0 w : World) (gc : Nat) (regs : List Int) (i j l : Nat) (ap : Option Addr) (kp : Nat) (ar : Option Addr) (kr : Nat) (ab : Option Addr) (kb : Nat) (rs : List (List Int × Value)) : Prop where
  hc : Bk w gc 29 #[.slice ap i kp, .slice ar j kr, .slice none 0 0, .slice ab l kb]
  p : w.ownsRow B 3 1 (.slice ap i kp) i (rowI (List.replicate i 0))
  r : w.ownsRow B 22 1 (.slice ar j kr) j (rs.map (·.2))
  rr : ∀ x ∈ rs, OwnI w B x.2 x.1 ∧ ApartV x.2 (.slice ap i kp)
  len : rs.length = j
  e : rs.map (·.1) = (regs.take j).map fun n => List.replicate n.toNat 0
  b : w.ownsRow B 48 1 (.slice ab l kb) l (List.replicate l (Value.slice none 0 0))
  bel : Below B w0 w
  gcB : B ≤ gc
  sz : B ≤ w.heap.size
  pw : rs.Pairwise fun x y => Apart x.2 y.2
theorem RI.below {B : Nat} {w0 w wa : World} {gc : Nat} {regs : List Int} {i j l : Nat} {ap ar ab : Option Addr} {kp kr kb : Nat} {rs : List (List Int × Value)} (h : RI B w0 w gc regs i j l ap kp ar kr ab kb rs) (hb : Below w.heap.size w wa) : RI B w0 wa gc regs i j l ap kp ar kr ab kb rs :=
  ⟨h.hc.below hb, own_below h.p hb, own_below h.r hb, fun x hx => ⟨own_below (h.rr x hx).1 hb, (h.rr x hx).2⟩, h.len, h.e, own_below h.b hb, h.bel.trans (hb.mono h.sz), h.gcB, Nat.le_trans h.sz hb.size, h.pw⟩
theorem bk_set0 {w : World} {g T : Nat} {a0 a1 a2 a3 : Value} (u : Value) (h : Bk w g T #[a0, a1, a2, a3]) : Bk (w.setCell ⟨g, 0, none⟩ u) g T #[u, a1, a2, a3] := heap_setCell_same w g 0 _ T u h
theorem bk_set2 {w : World} {g T : Nat} {a0 a1 a2 a3 : Value} (u : Value) (h : Bk w g T #[a0, a1, a2, a3]) : Bk (w.setCell ⟨g, 2, none⟩ u) g T #[a0, a1, u, a3] := heap_setCell_same w g 2 _ T u h
theorem bk_set3 {w : World} {g T : Nat} {a0 a1 a2 a3 : Value} (u : Value) (h : Bk w g T #[a0, a1, a2, a3]) : Bk (w.setCell ⟨g, 3, none⟩ u) g T #[a0, a1, a2, u] := heap_setCell_same w g 3 _ T u h

theorem RI.stepP {B : Nat} {w0 w w2 : World} {gc : Nat} {regs : List Int} {i j l g' cap : Nat} {ap ar ab : Option Addr} {kp kr kb : Nat} {rs : List (List Int × Value)} (h : RI B w0 w gc regs i j l ap kp ar kr ab kb rs)
    (o : w2.ownsRow B 3 1 (.slice (some ⟨g', 0, none⟩) (i + 1) cap) (i + 1) (rowI (List.replicate (i + 1) 0))) (hb : Below B w w2) (hgr : w.grownBy w2 (Value.ownBlock (.slice ap i kp))) (hl : Value.ownBlock (.slice ap i kp) = some g' ∨ g' = w.heap.size) :
    RI B w0 (w2.setCell ⟨gc, 0, none⟩ (.slice (some ⟨g', 0, none⟩) (i + 1) cap)) gc regs (i + 1) j l (some ⟨g', 0, none⟩) cap ar kr ab kb rs := by
  have hc2 : Bk w2 gc _ _ := bk_grown h.hc hgr (own_ne_bk h.p h.hc (by decide))
  refine ⟨bk_set0 _ hc2, own_setT o hc2 (by decide), own_setT (h.r.kept hgr (own_types h.r h.p (by decide))) hc2 (by decide), fun x hx => ⟨own_setT ((h.rr x hx).1.kept hgr (h.rr x hx).2) hc2 (by decide), ?_⟩, h.len, h.e, own_setT (h.b.kept hgr (own_types h.b h.p (by decide))) hc2 (by decide), ?_, h.gcB, ?_, h.pw⟩
  · rcases (h.rr x hx).2 with h1 | h1
    · exact .inl h1
    · refine .inr fun e => ?_
      have e2 : x.2.ownBlock = some g' := by simpa [Value.ownBlock] using e
      rcases hl with hl | hl
      · exact h1 (e2.trans hl.symm)
      · have := ((h.rr x hx).1.lt g' e2).2
        omega
  · exact Below.setCell (p := ⟨gc, 0, none⟩) (h.bel.trans hb) h.gcB _
  · simp; exact Nat.le_trans h.sz hb.size
theorem RI.stepR {B : Nat} {w0 w wa w2 : World} {gc : Nat} {regs : List Int} {i j l g' cap : Nat} {ap ar ab : Option Addr} {kp kr kb : Nat} {rs : List (List Int × Value)} {u : Value} (h : RI B w0 w gc regs i j l ap kp ar kr ab kb rs) (hk : j < regs.length) (ba : Below w.heap.size w wa)
    (hu : wa.ownsRow w.heap.size 3 1 u regs[j].toNat (rowI (List.replicate regs[j].toNat 0)))
    (o : w2.ownsRow B 22 1 (.slice (some ⟨g', 0, none⟩) (j + 1) cap) (j + 1) (rs.map (·.2) ++ [u])) (hb : Below B wa w2) (hgr : wa.grownBy w2 (Value.ownBlock (.slice ar j kr))) :
    RI B w0 (w2.setCell ⟨gc, 1, none⟩ (.slice (some ⟨g', 0, none⟩) (j + 1) cap)) gc regs i (j + 1) l ap kp (some ⟨g', 0, none⟩) cap ab kb (rs ++ [(List.replicate regs[j].toNat 0, u)]) := by
  have h' := h.below ba
  have hc2 : Bk w2 gc _ _ := bk_grown h'.hc hgr (own_ne_bk h'.r h'.hc (by decide))
  have hub : wa.ownsRow B 3 1 u regs[j].toNat (rowI (List.replicate regs[j].toNat 0)) := own_base hu h.sz
  refine ⟨bk_set1 _ hc2, own_setT (h'.p.kept hgr (own_types h'.p h'.r (by decide))) hc2 (by decide), ?_, fun x hx => ?_, by rw [List.length_append, h.len]; rfl, ?_, own_setT (h'.b.kept hgr (own_types h'.b h'.r (by decide))) hc2 (by decide), ?_, h.gcB, ?_, List.pairwise_append.2 ⟨h.pw, List.pairwise_singleton _ _, fun x hx y hy => by rw [List.mem_singleton.1 hy]; exact apart_own (h.rr x hx).1 hu (Nat.le_refl _)⟩⟩
  · have := own_setT (j := 1) (u := .slice (some ⟨g', 0, none⟩) (j + 1) cap) o hc2 (by decide)
    simpa using this
  · rcases List.mem_append.1 hx with hx | hx
    · exact ⟨own_setT ((h'.rr x hx).1.kept hgr (own_types (h'.rr x hx).1 h'.r (by decide))) hc2 (by decide), (h'.rr x hx).2⟩
    · rw [List.mem_singleton.1 hx]
      refine ⟨?_, ?_⟩
      · rw [OwnI, List.length_replicate]
        exact own_setT (hub.kept hgr (own_types hub h'.r (by decide))) hc2 (by decide)
      · exact apart_new hu h.p (Nat.le_refl _)
  · rw [List.map_append, h.e, List.take_add_one, List.getElem?_eq_getElem hk, List.map_append]
    rfl
  · exact Below.setCell (p := ⟨gc, 1, none⟩) (h'.bel.trans hb) h.gcB _
  · simp; exact Nat.le_trans h'.sz hb.size
theorem RI.stepB {B : Nat} {w0 w w2 : World} {gc : Nat} {regs : List Int} {i j l g' cap : Nat} {ap ar ab : Option Addr} {kp kr kb : Nat} {rs : List (List Int × Value)} (h : RI B w0 w gc regs i j l ap kp ar kr ab kb rs)
    (o : w2.ownsRow B 48 1 (.slice (some ⟨g', 0, none⟩) (l + 1) cap) (l + 1) (List.replicate (l + 1) (Value.slice none 0 0))) (hb : Below B w w2) (hgr : w.grownBy w2 (Value.ownBlock (.slice ab l kb))) :
    RI B w0 (w2.setCell ⟨gc, 3, none⟩ (.slice (some ⟨g', 0, none⟩) (l + 1) cap)) gc regs i j (l + 1) ap kp ar kr (some ⟨g', 0, none⟩) cap rs := by
  have hc2 : Bk w2 gc _ _ := bk_grown h.hc hgr (own_ne_bk h.b h.hc (by decide))
  refine ⟨bk_set3 _ hc2, own_setT (h.p.kept hgr (own_types h.p h.b (by decide))) hc2 (by decide), own_setT (h.r.kept hgr (own_types h.r h.b (by decide))) hc2 (by decide), fun x hx => ⟨own_setT ((h.rr x hx).1.kept hgr (own_types (h.rr x hx).1 h.b (by decide))) hc2 (by decide), (h.rr x hx).2⟩, h.len, h.e, own_setT o hc2 (by decide), ?_, h.gcB, ?_, h.pw⟩
  · exact Below.setCell (p := ⟨gc, 3, none⟩) (h.bel.trans hb) h.gcB _
  · simp; exact Nat.le_trans h.sz hb.size

/-- append of a slice of numbers to nil. -/
theorem append_ints0 {w : World} {ops : Array Oper} {rest : List Oper} {o : Oper} {a : Act} {Q : Exit → Act → World → Prop} (hgd : o.guard = none) (s x : Operand)
    (ho : o.op = .call { callee := .builtin .append, args := #[s, x], argTypes := #[22, 22] }) (hs : a.eval s = .slice none 0 0) (ad : Option Addr) (m cap : Nat) (hx : a.eval x = .slice ad m cap) (ys : List Int) (hys : IntsD w (.slice ad m cap) ys) (hn : ys.length ≤ 1000000)
    (h : ∀ ad' cap' w', Hid (w'.ownsRow w.heap.size 3 1 (.slice ad' m cap') ys.length (rowI ys)) → Hid (Below w.heap.size w w') → wpList Try.prog ops Q rest (a.put o.dst (.slice ad' m cap')) w') : wpList Try.prog ops Q (o :: rest) a w := by
  obtain ⟨i0, hi, hz0, hz1, hz2⟩ := info_parts info_int
  have hm : ys.length = m ∧ (ad = none → cap = 0) ∧ ys.length ≤ cap := by
    obtain ⟨ad', cap', hv, h1, h2, hc⟩ := hys
    injection hv with e1 e2 e3
    subst e1; subst e2; subst e3
    exact ⟨rfl, h1.2, h1.1⟩
  obtain ⟨rfl, h0, h1⟩ := hm
  cases ad with
  | none =>
    have hc0 := h0 rfl
    have hy0 : ys = [] := List.eq_nil_of_length_eq_zero (by omega)
    subst hy0; subst hc0
    refine wpList_append_own_none hgd s x 22 ho w.heap.size 3 i0 1 Try.underlying22 hi (.slice none 0 0) 0 [] hs (World.ownsRow_nil _ _ _ _) hx ?_
    exact h none 0 w (Lib.hid (World.ownsRow_nil _ _ _ _)) (Lib.hid (Below.refl _ _))
  | some a0 =>
    refine wpList_append_own _ hgd s x 22 ho w.heap.size 3 i0 (.int .i64 0) 1 8 Try.underlying22 hi hz0 hz1 hz2 rfl (by decide) (.slice none 0 0) 0 [] hs (World.ownsRow_nil _ _ _ _) a0 ys.length cap (rowI ys) hx (by rw [rowI_len, Nat.mul_one]) (ints_flat hys) (rowI_one ys) (by unfold maxLen; omega) (by omega) (Nat.le_refl _) ?_
    intro v' w' h2 h3 _
    rw [Nat.zero_add, List.nil_append] at h2
    obtain ⟨ad', cap', rfl, _⟩ := own_shape' h2
    exact h ad' cap' w' (Lib.hid h2) (Lib.hid ((Below.refl _ w).grown h3 (Nat.le_refl _) (fun k hk => by cases hk)))

theorem rstart_own {w1 wr w3 w9 : World} {u : Un} {gc nc nr B gr : Nat} {ap ar ab : Option Addr} {kp kr kb : Nat} {vm : Value} {rs : List (List Int × Value)} (I : RI w1.heap.size w1 wr gc u.regs nr nr nr ap kp ar kr ab kb rs) (b3 : Below wr.heap.size wr w3) (om : w3.ownsRow wr.heap.size 3 1 vm u.init.length (rowI u.init))
    (h1 : nr = u.regs.length) (h2 : nc = u.code.length) (h3 : nc = nr) (hB : B ≤ w1.heap.size) (hgr : gr < w1.heap.size) (j : Nat) (x : Value)
    (kp' : ∀ b, b ≠ gr → w9.heap[b]? = (w3.setCell ⟨gc, j, none⟩ x).heap[b]?) (hsz : w9.heap.size = (w3.setCell ⟨gc, j, none⟩ x).heap.size) :
    OwnC w9 B (.slice ap nr kp) (.slice ar nr kr) vm (.slice ab nr kb) ⟨List.replicate nr 0, rs, u.init, List.replicate nr ([], .slice none 0 0)⟩ ∧ (⟨List.replicate nr 0, rs, u.init, List.replicate nr ([], .slice none 0 0)⟩ : Cf).pf = startP u ∧ DjC (.slice ap nr kp) vm rs := by
  have I3 := I.below b3
  have k1 : Kp w1.heap.size (w3.setCell ⟨gc, j, none⟩ x) w9 := ⟨Nat.le_of_eq hsz.symm, fun b hb _ => kp' b (by omega)⟩
  have hom : w3.ownsRow w1.heap.size 3 1 vm u.init.length (rowI u.init) := own_base om I.sz
  refine ⟨⟨?_, ⟨?_, fun y hy => ?_⟩, ?_, ⟨?_, fun y hy => ?_⟩⟩, ?_, ⟨apart_own I.p om (Nat.le_refl _), fun x hx g h4 h5 => ?_, fun x hx => (apart_own (I.rr x hx).1 om (Nat.le_refl _)).symm, I.pw⟩⟩
  · have := own_base (own_kp (own_setT (j := j) (u := x) I3.p I3.hc (by decide)) k1) hB
    rw [OwnI, List.length_replicate]
    exact this
  · have := own_base (own_kp (own_setT (j := j) (u := x) I3.r I3.hc (by decide)) k1) hB
    rw [I.len]
    exact this
  · exact own_base (own_kp (own_setT (j := j) (u := x) (I3.rr y hy).1 I3.hc (by decide)) k1) hB
  · exact own_base (own_kp (own_setT (j := j) (u := x) hom I3.hc (by decide)) k1) hB
  · have := own_base (own_kp (own_setT (j := j) (u := x) I3.b I3.hc (by decide)) k1) hB
    show World.ownsRow _ _ _ _ _ _ _
    simp only [List.length_replicate, List.map_replicate]
    exact this
  · rw [List.eq_of_mem_replicate hy]
    exact World.ownsRow_nil _ _ _ _
  · unfold Cf.pf startP
    simp only [List.map_replicate]
    rw [I.e, h1, List.take_length, ← h2, h3, h1]
  · rcases (I.rr x hx).2 with h6 | h6
    · rw [h6] at h5; cases h5
    · exact h6 (h5.trans h4.symm)

attribute [local go_sem ↓] Go.wp_at_zero Go.wp_at_succ
set_option maxRecDepth 100000 in
set_option maxHeartbeats 8000000 in
theorem rstart_dj (u : Un) (vi vr vc : Value) (w : World) (hu : UnD w vi vr vc u) (hs : ShortU u) (hr : rightU u = true) :
    Calls Try.prog 21 #[.agg #[.int .i64 u.mod, vi, vr, vc]] w fun e w' => ∃ (c : Cf) (xp xr xm xb : Value), e = .returned (.tuple #[.agg #[xp, xr, xm, xb], .int .i64 0]) ∧ OwnC w' w.heap.size xp xr xm xb c ∧ c.pf = startP u ∧ Below w.heap.size w w' ∧ DjC xp xm c.regs := by
  have HUR := Lib.hid (fun (W : World) (h : Below w.heap.size w W) => uright_any u vi vr vc W (hu.below h) hs _ hr)
  have HU := Lib.hid hu
  have HRG := Lib.hid (fun (k : Nat) (hk : k < u.regs.length) => regs_bd hr k hk)
  obtain ⟨xi, ci, rfl⟩ := hu.i.shape0
  obtain ⟨xr, cr, rfl⟩ := hu.r.shape0
  obtain ⟨xc, cc, rfl⟩ := hu.c.shape0
  have h6 : u.init.length ≤ 6 ∧ 1 ≤ u.regs.length ∧ u.regs.length ≤ 4 ∧ u.code.length = u.regs.length := by
    have h5 := hr
    unfold rightU at h5
    rw [Bool.and_eq_true] at h5
    have := of_decide_eq_true h5.1
    omega
  generalize u.mod = m at HUR ⊢
  obtain ⟨ni, hni⟩ : ∃ n, n = u.init.length := ⟨_, rfl⟩
  obtain ⟨nr, hnr⟩ : ∃ n, n = u.regs.length := ⟨_, rfl⟩
  obtain ⟨nc, hnc⟩ : ∃ n, n = u.code.length := ⟨_, rfl⟩
  have HNI := Lib.hid hni
  have HNR := Lib.hid hnr
  have HNC := Lib.hid hnc
  rw [← hni] at HUR HU h6 ⊢
  rw [← hnr] at HUR HU h6 ⊢
  rw [← hnc] at HUR HU h6 ⊢
  have H6 := Lib.hid h6
  clear hu hs hr h6 hni hnr hnc
  go_enter Try.func21, Try.ntmps21
  go_wp2_with fail
  have T2 := Lib.hid (two_new w 25 29 #[.int .i64 m, .slice xi ni ci, .slice xr nr cr, .slice xc nc cc] #[.slice none 0 0, .slice none 0 0, .slice none 0 0, .slice none 0 0])
  obtain ⟨L0, KA0, KB0⟩ := T2.out
  have LL := Lib.hid L0
  have KA := Lib.hid KA0
  have KB := Lib.hid KB0
  clear L0 KA0 KB0 T2
  generalize (w.alloc _).alloc _ = w0 at LL KA KB ⊢
  refine (HUR.out _ LL.out).mono ?_
  rintro e w1 ⟨rfl, b1⟩
  have KA1 := Lib.hid (KA.out.below b1)
  have KB1 := Lib.hid (KB.out.below b1)
  have L1 := Lib.hid (LL.out.trans (b1.mono LL.out.size))
  clear b1 KA KB HUR
  go_wp2_with fail
  obtain ⟨gc, hgc⟩ : ∃ g, g = w1.heap.size := ⟨_, rfl⟩
  have I0 : Hid (RI w1.heap.size w1 (w1.alloc (.cells #[.slice none 0 0, .slice none 0 0, .slice none 0 0, .slice none 0 0] 29)) gc u.regs 0 0 0 none 0 none 0 none 0 []) := Lib.hid
    ⟨hgc ▸ Bk.new w1 _ _, World.ownsRow_nil _ _ _ _, World.ownsRow_nil _ _ _ _, fun x hx => absurd hx (by simp), rfl, by simp, World.ownsRow_nil _ _ _ _, bal (Below.refl _ _) _, by omega, by simp, List.Pairwise.nil⟩
  rw [← hgc] at ⊢
  have HGC := Lib.hid hgc
  clear hgc
  generalize w1.alloc _ = w2 at I0 ⊢
  go_loopg [5] nr (fun fuel i' wr => ∃ (k : Nat) (ap : Option Addr) (kp : Nat) (ar : Option Addr) (kr : Nat) (ab : Option Addr) (kb : Nat) (rs : List (List Int × Value)), i' = .int .i64 k ∧ k ≤ nr ∧ nr - k ≤ fuel ∧ RI w1.heap.size w1 wr gc u.regs k k k ap kp ar kr ab kb rs)
  case atStart => exact ⟨0, _, _, _, _, _, _, [], rfl, Nat.zero_le _, Nat.le_refl _, I0.out⟩
  case round =>
    obtain ⟨k, ap, kp, ar, kr, ab, kb, rs, rfl, hk, hf, hi⟩ := hrel
    have HI := Lib.hid hi
    have LR := Lib.hid (L1.out.trans (hi.bel.mono L1.out.size))
    have KAR := Lib.hid (KA1.out.below hi.bel)
    clear hi I0
    have c2 : wr.cell? ⟨w.heap.size, 2, none⟩ = some (.slice xr nr cr) := KAR.out.cell 2
    have l2 := KAR.out.lt
    by_cases hlt : k < nr
    · have hk1 : k < u.regs.length := by rw [← HNR.out]; exact hlt
      have c0 : wr.cell? ⟨gc, 0, none⟩ = some (.slice ap k kp) := HI.out.hc.cell 0
      have f0 : wr.frozen? ⟨gc, 0, none⟩ = false := HI.out.hc.fz 0
      have lc := HI.out.hc.lt
      have hk4 : k ≤ 1000000 := by have := H6.out; omega
      have HK4 := Lib.hid hk4
      have IA := Lib.hid (HI.out.below (bal (Below.refl _ _) (.cells #[.int .i64 0] 3)))
      have KN := Lib.hid (Bk.new wr 3 #[.int .i64 0])
      have HZ : Hid (rowI (List.replicate k 0) ++ [Value.int .i64 0] = rowI (List.replicate (k + 1) 0)) := Lib.hid (by rw [show k + 1 = k + 1 from rfl, List.replicate_succ', rowI_app]; rfl)
      go_wp2_with (at_builtin; refine list_app1 rfl (.tmp 19) (.tmp 20) 22 3 (.int .i64 0) 8 rfl Try.underlying22 info_int rfl (by decide) w1.heap.size (.slice ap k kp) k _ rfl IA.out.p wr.heap.size (.int .i64 0) rfl KN.out rfl HK4.out IA.out.sz _ HZ.out ?_)
      intro g1 cap1 w3 O3 B3 G3 H3
      have K3 := Lib.hid (bk_grown IA.out.hc G3.out (own_ne_bk IA.out.p IA.out.hc (by decide)))
      have J1 := Lib.hid (IA.out.stepP O3.out B3.out G3.out (by rw [alloc_size]; exact H3.out))
      have d0 : w3.cell? ⟨gc, 0, none⟩ = some (.slice ap k kp) := K3.out.cell 0
      have g0 : w3.frozen? ⟨gc, 0, none⟩ = false := K3.out.fz 0
      have l3 := K3.out.lt
      clear c0 f0 lc O3 B3 G3 H3 K3 KN IA c2 l2 HZ
      go_wp2_with fail
      generalize w3.setCell _ _ = w4 at J1 ⊢
      have L4 := Lib.hid (L1.out.trans (J1.out.bel.mono L1.out.size))
      have KA4 := Lib.hid (KA1.out.below J1.out.bel)
      have c2 : w4.cell? ⟨w.heap.size, 2, none⟩ = some (.slice xr nr cr) := KA4.out.cell 2
      have l2 := KA4.out.lt
      have hrg := HRG.out k hk1
      obtain ⟨b4, o4, rfl, hb4, y4⟩ := IntsD.at2 (HU.out.below L4.out).r k hk1
      have HST := Lib.hid (fun (wa w7 : World) (g' cap : Nat) (u' : Value) => J1.out.stepR (wa := wa) (w2 := w7) (g' := g') (cap := cap) (u := u') hk1)
      obtain ⟨rn, hrn⟩ : ∃ r : Nat, u.regs[k] = (r : Int) := ⟨u.regs[k].toNat, by omega⟩
      rw [hrn] at y4 HST
      simp only [Int.toNat_natCast] at HST
      have HZL0 : (rowI (List.replicate rn 0)).length = rn := by rw [rowI_len, List.length_replicate]
      obtain ⟨Z4, hZ4⟩ : ∃ Z, Z = rowI (List.replicate rn 0) := ⟨_, rfl⟩
      have mk3 := fun (W : World) => make_int rn (by omega) W
      rw [show (List.replicate rn (Value.int .i64 0)) = Z4 by rw [hZ4, rowI_eq, List.map_replicate]] at mk3
      rw [← hZ4] at HST HZL0
      have HZL := Lib.hid HZL0
      have HRN : Hid (rn ≤ 1000000) := Lib.hid (by omega)
      have HL6 : Hid (∀ W : World, Below w4.heap.size w4 W → w1.heap.size ≤ W.heap.size) := Lib.hid (fun W h => Nat.le_trans J1.out.sz h.size)
      have HC8 : Hid (∀ wa w7 : World, Below w4.heap.size w4 wa → wa.grownBy w7 (Value.ownBlock (.slice ar k kr)) → w7.cell? ⟨gc, 1, none⟩ = some (.slice ar k kr) ∧ w7.frozen? ⟨gc, 1, none⟩ = false ∧ gc < w7.heap.size) := Lib.hid (fun wa w7 h1 h2 => by
        have h' := J1.out.below h1
        have hb := bk_grown h'.hc h2 (own_ne_bk h'.r h'.hc (by decide))
        exact ⟨hb.cell 1, hb.fz 1, hb.lt⟩)
      have c1 : w4.cell? ⟨gc, 1, none⟩ = some (.slice ar k kr) := J1.out.hc.cell 1
      have lc := J1.out.hc.lt
      have l4 := hb4
      have e1 : (0 : Int) ≤ (k : Int) := Int.natCast_nonneg _
      have e2 : (k : Int) < (nr : Int) := by omega
      clear hrg hrn hZ4 HZL0 hk1 HI LR KAR
      go_wp2_with fail
      have e1 : (0 : Int) ≤ (k : Int) := Int.natCast_nonneg _
      go_region_law
        ((refine step_app1 (by rfl) (.tmp 24) (.tmp 31) 26 22 (by rfl) Try.underlying26 info_ints w1.heap.size (.slice ar k kr) k _ (by rfl) (own_below J1.out.r (by repeat' (first | with_reducible exact Below.refl _ _ | with_reducible refine bdr ?_ | with_reducible refine bal ?_ _))) _ _ (by rfl) (by repeat' (first | with_reducible refine bk_drew ?_ | ((refine bk_at ?_); (simp only [alloc_size, drew_size]; done)) | with_reducible refine bk_alloc ?_ _)) (by rfl) HK4.out (HL6.out _ (by repeat' (first | with_reducible exact Below.refl _ _ | with_reducible refine bdr ?_ | with_reducible refine bal ?_ _))) _ (by rfl) ?_; intro g' cap w7 O7 B7 G7; obtain ⟨q1, q2, q3⟩ := HC8.out _ _ (by repeat' (first | with_reducible exact Below.refl _ _ | with_reducible refine bdr ?_ | with_reducible refine bal ?_ _)) G7; have J2 := Lib.hid (HST.out _ w7 g' cap _ (by repeat' (first | with_reducible exact Below.refl _ _ | with_reducible refine bdr ?_ | with_reducible refine bal ?_ _)) (by first | exact own_below (World.ownsRow.alloc (own_new (Nat.le_refl _) HZL.out HRN.out) _) (by repeat' (first | with_reducible exact Below.refl _ _ | with_reducible refine bdr ?_ | with_reducible refine bal ?_ _))) O7 B7 G7)))
      all_goals
        clear q1 q2 q3 O7 B7 G7 c1 c2 HC8 HL6 HST J1 L4 KA4 y4 mk3
        generalize w7.setCell _ _ = w8 at J2 ⊢
        have c3 : w8.cell? ⟨gc, 3, none⟩ = some (.slice ab k kb) := J2.out.hc.cell 3
        have lc8 := J2.out.hc.lt
        have IB := Lib.hid (J2.out.below (bal (Below.refl _ _) (.cells #[.slice none 0 0] 48)))
        have KN := Lib.hid (Bk.new w8 48 #[.slice none 0 0])
        have HZ : Hid (List.replicate k (Value.slice none 0 0) ++ [Value.slice none 0 0] = List.replicate (k + 1) (Value.slice none 0 0)) := Lib.hid (by rw [List.replicate_succ'])
        go_wp2_with (at_builtin; refine list_app1 rfl (.tmp 35) (.tmp 36) 27 48 (.slice none 0 0) 24 rfl Try.underlying27 info_ents rfl (by decide) w1.heap.size (.slice ab k kb) k _ rfl IB.out.b w8.heap.size (.slice none 0 0) rfl KN.out rfl HK4.out IB.out.sz _ HZ.out ?_)
        intro g3 cap3 w9 O9 B9 G9 H9
        have K9 := Lib.hid (bk_grown IB.out.hc G9.out (own_ne_bk IB.out.b IB.out.hc (by decide)))
        have J3 := Lib.hid (IB.out.stepB O9.out B9.out G9.out)
        have d3 : w9.cell? ⟨gc, 3, none⟩ = some (.slice ab k kb) := K9.out.cell 3
        have g3' : w9.frozen? ⟨gc, 3, none⟩ = false := K9.out.fz 3
        have l9 := K9.out.lt
        clear c3 lc8 O9 B9 G9 H9 K9 KN IB HZ J2
        go_wp2_with fail
        generalize w9.setCell _ _ = w10 at J3 ⊢
        have hk44 : k ≤ 4 := by have := H6.out; omega
        go_roundg (gk - 1)
        case measure => omega
        case rel => exact ⟨k + 1, _, _, _, _, _, _, _, by go_num, by omega, by omega, J3.out⟩
    · have hkn : k = nr := by omega
      subst hkn
      have LR1 := Lib.hid (L1.out.trans (HI.out.bel.mono L1.out.size))
      have c2' : wr.cell? ⟨gc, 2, none⟩ = some (.slice none 0 0) := HI.out.hc.cell 2
      have lc := HI.out.hc.lt
      have c1' : wr.cell? ⟨w.heap.size, 1, none⟩ = some (.slice xi ni ci) := KAR.out.cell 1
      have HDI := Lib.hid (IntsD.below HU.out.i LR1.out)
      have hni6 : u.init.length ≤ 1000000 := by have := H6.out; have := HNI.out; omega
      have HN6 := Lib.hid hni6
      clear hni6
      go_wp2_with (at_builtin; refine append_ints0 rfl (.tmp 40) (.tmp 42) rfl rfl xi ni ci rfl u.init HDI.out HN6.out ?_)
      intro am km w3 O3 B3
      have K3 := Lib.hid ((HI.out.below B3.out).hc)
      have KB3 := Lib.hid ((KB1.out.below HI.out.bel).below B3.out)
      have HLT : Hid (w.heap.size + 1 < w1.heap.size) := Lib.hid KB1.out.lt
      have hne : ¬ gc = w.heap.size + 1 := by have := HLT.out; have := HGC.out; omega
      have hne' : ¬ w.heap.size + 1 = gc := fun e => hne e.symm
      have HNE := Lib.hid hne'
      have d0 : w3.cell? ⟨gc, 0, none⟩ = some (.slice ap k kp) := K3.out.cell 0
      have d1 : w3.cell? ⟨gc, 1, none⟩ = some (.slice ar k kr) := K3.out.cell 1
      have d2 : w3.cell? ⟨gc, 2, none⟩ = some (.slice none 0 0) := K3.out.cell 2
      have d3 : w3.cell? ⟨gc, 3, none⟩ = some (.slice ab k kb) := K3.out.cell 3
      have g2 : w3.frozen? ⟨gc, 2, none⟩ = false := K3.out.fz 2
      have l3 := K3.out.lt
      have e0 : w3.cell? ⟨w.heap.size + 1, 0, none⟩ = some (.slice none 0 0) := KB3.out.cell 0
      have e1 : w3.cell? ⟨w.heap.size + 1, 1, none⟩ = some (.slice none 0 0) := KB3.out.cell 1
      have e2 : w3.cell? ⟨w.heap.size + 1, 2, none⟩ = some (.slice none 0 0) := KB3.out.cell 2
      have e3 : w3.cell? ⟨w.heap.size + 1, 3, none⟩ = some (.slice none 0 0) := KB3.out.cell 3
      have f0 : w3.frozen? ⟨w.heap.size + 1, 0, none⟩ = false := KB3.out.fz 0
      have f1 : w3.frozen? ⟨w.heap.size + 1, 1, none⟩ = false := KB3.out.fz 1
      have f2 : w3.frozen? ⟨w.heap.size + 1, 2, none⟩ = false := KB3.out.fz 2
      have f3 : w3.frozen? ⟨w.heap.size + 1, 3, none⟩ = false := KB3.out.fz 3
      have l4 := KB3.out.lt
      have KB4 : Hid (Bk (w3.setCell ⟨gc, 2, none⟩ (.slice am ni km)) (w.heap.size + 1) 29 #[.slice none 0 0, .slice none 0 0, .slice none 0 0, .slice none 0 0]) := Lib.hid ((heap_setCell_other _ _ _ _ HNE.out).trans KB3.out)
      have LB4 : Hid (Below w.heap.size w (w3.setCell ⟨gc, 2, none⟩ (.slice am ni km))) := Lib.hid (Below.setCell (p := ⟨gc, 2, none⟩) (LR1.out.trans (B3.out.mono LR1.out.size)) (by have := HGC.out; have := L1.out.size; simp; omega) _)
      clear c2' lc c1' c2 l2
      go_wp2_with fail
      have hkp := set4_keep (w := w3.setCell ⟨gc, 2, none⟩ (.slice am ni km)) (g := w.heap.size + 1) (.slice ap k kp) (.slice ar k kr) (.slice am ni km) (.slice ab k kb)
      have KD := set4_bk (.slice ap k kp) (.slice ar k kr) (.slice am ni km) (.slice ab k kb) KB4.out
      have LD := set4_below (.slice ap k kp) (.slice ar k kr) (.slice am ni km) (.slice ab k kb) LB4.out (Nat.le_succ w.heap.size)
      have O3' : w3.ownsRow wr.heap.size 3 1 (.slice am ni km) u.init.length (rowI u.init) := O3.out
      generalize ((((w3.setCell ⟨gc, 2, none⟩ (.slice am ni km)).setCell ⟨w.heap.size + 1, 0, none⟩ (.slice ap k kp)).setCell ⟨w.heap.size + 1, 1, none⟩ (.slice ar k kr)).setCell ⟨w.heap.size + 1, 2, none⟩ (.slice am ni km)).setCell ⟨w.heap.size + 1, 3, none⟩ (.slice ab k kb) = w9 at *
      clear d0 d1 d2 d3 e0 e1 e2 e3 f0 f1 f2 f3
      have d0 : w9.cell? ⟨w.heap.size + 1, 0, none⟩ = some _ := KD.cell 0
      have d1 : w9.cell? ⟨w.heap.size + 1, 1, none⟩ = some _ := KD.cell 1
      have d2 : w9.cell? ⟨w.heap.size + 1, 2, none⟩ = some _ := KD.cell 2
      have d3 : w9.cell? ⟨w.heap.size + 1, 3, none⟩ = some _ := KD.cell 3
      have HO := rstart_own (B := w.heap.size) (gr := w.heap.size + 1) HI.out B3.out O3' HNR.out HNC.out H6.out.2.2.2 L1.out.size HLT.out 2 (.slice am ni km) hkp.1 hkp.2
      refine bodyPost_ret (v := .tuple #[.agg #[.slice ap k kp, .slice ar k kr, .slice am ni km, .slice ab k kb], .int .i64 0]) (by simp [results, Try.results21, go_sem, d0, d1, d2, d3]) rfl ?_
      exact ⟨_, _, _, _, _, rfl, HO.1, HO.2.1, LD, HO.2.2⟩

theorem rstart_yes (u : Un) (vi vr vc : Value) (w : World) (hu : UnD w vi vr vc u) (hs : ShortU u) (hr : rightU u = true) :
    Calls Try.prog 21 #[.agg #[.int .i64 u.mod, vi, vr, vc]] w fun e w' => ∃ (c : Cf) (xp xr xm xb : Value), e = .returned (.tuple #[.agg #[xp, xr, xm, xb], .int .i64 0]) ∧ OwnC w' w.heap.size xp xr xm xb c ∧ c.pf = startP u ∧ Below w.heap.size w w' := by
  refine (rstart_dj u vi vr vc w hu hs hr).mono ?_
  rintro e w' ⟨c, xp, xr, xm, xb, h1, h2, h3, h4, _⟩
  exact ⟨c, xp, xr, xm, xb, h1, h2, h3, h4⟩

set_option maxRecDepth 100000 in
set_option maxHeartbeats 4000000 in
theorem rstart_no (u : Un) (vi vr vc : Value) (w : World) (hu : UnD w vi vr vc u) (hs : ShortU u) (hr : rightU u = false) :
    Calls Try.prog 21 #[.agg #[.int .i64 u.mod, vi, vr, vc]] w fun e w' => e = .returned (.tuple #[.agg #[.slice none 0 0, .slice none 0 0, .slice none 0 0, .slice none 0 0], .int .i64 8]) ∧ Below w.heap.size w w' := by
  have HUR := Lib.hid (fun (W : World) (h : Below w.heap.size w W) => uright_any u vi vr vc W (hu.below h) hs _ hr)
  obtain ⟨xi, ci, rfl⟩ := hu.i.shape0
  obtain ⟨xr, cr, rfl⟩ := hu.r.shape0
  obtain ⟨xc, cc, rfl⟩ := hu.c.shape0
  generalize u.mod = m at HUR ⊢
  generalize u.init.length = ni at HUR ⊢
  generalize u.regs.length = nr at HUR ⊢
  generalize u.code.length = nc at HUR ⊢
  clear hu hs hr
  go_enter Try.func21, Try.ntmps21
  go_wp2_with fail
  have T2 := Lib.hid (two_new w 25 29 #[.int .i64 m, .slice xi ni ci, .slice xr nr cr, .slice xc nc cc] #[.slice none 0 0, .slice none 0 0, .slice none 0 0, .slice none 0 0])
  obtain ⟨L0, KA0, KB0⟩ := T2.out
  have LL := Lib.hid L0
  have KB := Lib.hid KB0
  clear L0 KA0 KB0 T2
  generalize (w.alloc _).alloc _ = w0 at LL KB ⊢
  refine (HUR.out _ LL.out).mono ?_
  rintro e w1 ⟨rfl, b1⟩
  have KC := Lib.hid (KB.out.below b1)
  have L1 := Lib.hid (LL.out.trans (b1.mono LL.out.size))
  have LT : w.heap.size ≤ w.heap.size + 1 := by omega
  clear b1
  have d0 : w1.cell? ⟨w.heap.size + 1, 0, none⟩ = some _ := KC.out.cell 0
  have d1 : w1.cell? ⟨w.heap.size + 1, 1, none⟩ = some _ := KC.out.cell 1
  have d2 : w1.cell? ⟨w.heap.size + 1, 2, none⟩ = some _ := KC.out.cell 2
  have d3 : w1.cell? ⟨w.heap.size + 1, 3, none⟩ = some _ := KC.out.cell 3
  have f0 : w1.frozen? ⟨w.heap.size + 1, 0, none⟩ = false := KC.out.fz 0
  have f1 : w1.frozen? ⟨w.heap.size + 1, 1, none⟩ = false := KC.out.fz 1
  have f2 : w1.frozen? ⟨w.heap.size + 1, 2, none⟩ = false := KC.out.fz 2
  have f3 : w1.frozen? ⟨w.heap.size + 1, 3, none⟩ = false := KC.out.fz 3
  have l1 := KC.out.lt
  go_wp2_with fail
  have KD := set4_bk (.slice none 0 0) (.slice none 0 0) (.slice none 0 0) (.slice none 0 0) KC.out
  have LD := set4_below (.slice none 0 0) (.slice none 0 0) (.slice none 0 0) (.slice none 0 0) L1.out LT
  generalize (((w1.setCell ⟨w.heap.size + 1, 0, none⟩ (.slice none 0 0)).setCell ⟨w.heap.size + 1, 1, none⟩ (.slice none 0 0)).setCell ⟨w.heap.size + 1, 2, none⟩ (.slice none 0 0)).setCell ⟨w.heap.size + 1, 3, none⟩ (.slice none 0 0) = w5 at *
  clear d0 d1 d2 d3
  have d0 : w5.cell? ⟨w.heap.size + 1, 0, none⟩ = some _ := KD.cell 0
  have d1 : w5.cell? ⟨w.heap.size + 1, 1, none⟩ = some _ := KD.cell 1
  have d2 : w5.cell? ⟨w.heap.size + 1, 2, none⟩ = some _ := KD.cell 2
  have d3 : w5.cell? ⟨w.heap.size + 1, 3, none⟩ = some _ := KD.cell 3
  refine bodyPost_ret (v := .tuple #[.agg #[.slice none 0 0, .slice none 0 0, .slice none 0 0, .slice none 0 0], .int .i64 8]) (by simp [results, Try.results21, go_sem, d0, d1, d2, d3]) rfl ?_
  exact ⟨rfl, LD⟩

end Go.Proofs.Ytmkgijedchpgcaa
