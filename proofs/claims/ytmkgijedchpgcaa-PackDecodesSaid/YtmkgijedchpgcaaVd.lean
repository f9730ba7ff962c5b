/- Layer 9, the code: copies. -/
import Derived.Test.YtmkgijedchpgcaaVa
namespace Go.Proofs.Ytmkgijedchpgcaa
set_option linter.unusedSimpArgs false
set_option linter.unusedVariables false
open Go.RowKit

set_option maxRecDepth 100000 in
/-- make of a row whose elements take one cell. -/
theorem make_one {w : World} {ops : Array Oper} {rest : List Oper} {o : Oper} {a : Act} {Q : Exit → Act → World → Prop} (hgd : o.guard = none) (l c : Operand) (T E : TypeId) (z : Value) (by' : Nat)
    (hu : Try.prog.underlying T = some (.slice E)) (hin : (Try.prog.info? E).map (fun i => (i.zero, i.size, i.bytes)) = some (some z, 1, by')) (hz : z.cells = #[z]) (hby : by' ≤ 64)
    (hop : o.op = Op.makeSlice T l c) (n : Nat) (hl : a.eval l = .int .i64 n) (hc : a.eval c = .int .i64 n) (hn : n ≤ 1000000)
    (h : ∀ w' Z, Hid (Z = List.replicate n z) → Hid (w'.heap[w.heap.size]? = some (.cells Z.toArray E (0, 0))) → Below w.heap.size w w' → wpList Try.prog ops Q rest (a.put o.dst (.slice (some ⟨w.heap.size, 0, none⟩) n n)) w') : wpList Try.prog ops Q (o :: rest) a w := by
  obtain ⟨i0, hi, hz0, hz1, hz2⟩ := info_parts hin
  refine wpList_make_full w hgd l c T hop w.heap.size E i0 z 1 hu hi hz0 hz1 .i64 .i64 n n n hl hc rfl rfl (by rw [hz2]; exact Nat.le_trans (Nat.mul_le_mul hby hn) (by decide)) (by unfold maxLen; omega) (Nat.le_refl _) ?_
  intro w' h1 h2
  refine h w' _ (Lib.hid rfl) ?_ ((Below.refl _ _).grown h2 (Nat.le_refl _) (fun k h => by cases h))
  rw [hz, toList_madeCells_one, Nat.mul_one] at h1
  rcases h1.2 with ⟨hv, _⟩ | ⟨g, cap, cur, hv, _, hg, _, _, hcs, ht⟩
  · injection hv with e1; cases e1
  · injection hv with e1 e2 e3
    injection e1 with e1
    injection e1 with e1
    subst e1; subst e3
    rw [List.take_of_length_le (by rw [Array.length_toList, hcs]; exact Nat.le_refl _)] at ht
    show _ = _
    rw [hg, ← ht]

theorem info_int : (Try.prog.info? 3).map (fun i => (i.zero, i.size, i.bytes)) = some (some (.int .i64 0), 1, 8) := by kernel_rfl
theorem info_ints : (Try.prog.info? 22).map (fun i => (i.zero, i.size, i.bytes)) = some (some (.slice none 0 0), 1, 24) := by kernel_rfl
theorem info_ents : (Try.prog.info? 48).map (fun i => (i.zero, i.size, i.bytes)) = some (some (.slice none 0 0), 1, 24) := by kernel_rfl

theorem own_of_bk {w : World} {B g T S n : Nat} {cs : Array Value} {xs : List Value} (h : w.heap[g]? = some (.cells cs T (0, 0))) (hcs : cs.toList = xs) (hB : B ≤ g) (hl : xs.length = n * S) (hn : n ≤ 1000000) : w.ownsRow B T S (.slice (some ⟨g, 0, none⟩) n n) n xs :=
  ⟨hl, .inr ⟨g, n, cs, rfl, hB, h, Nat.le_refl _, by unfold maxLen; omega, by rw [← Array.length_toList, hcs, hl], by rw [hcs, ← hl, List.take_length]⟩⟩

theorem ints_flat {w : World} {a : Addr} {n cap : Nat} {l : List Int} (h : IntsD w (.slice (some a) n cap) l) : ∀ j u, (rowI l)[j]? = some u → w.cell? (a.add j) = some u := by
  intro j u hu
  have hj : j < l.length := by rw [← rowI_len]; exact (List.getElem?_eq_some_iff.1 hu).1
  obtain ⟨b, off, he, hb, hc⟩ := IntsD.at2 h j hj
  injection he with he
  subst he
  rw [rowI_eq, List.getElem?_map, List.getElem?_eq_getElem hj] at hu
  injection hu with hu
  rw [addr_add', hc, ← hu]
theorem rowI_one (l : List Int) : ∀ u ∈ rowI l, u.oneCell' = true := by
  intro u hu
  obtain ⟨o, _, ho⟩ := List.mem_flatMap.1 hu
  simp at ho
  rw [ho]; rfl
theorem splice_all {α : Type} (Z X : List α) (h : Z.length = X.length) : splice Z 0 X = X := by
  unfold splice
  rw [List.take_zero, List.nil_append, List.drop_eq_nil_of_le (by omega), List.append_nil]

theorem IntsD.nn {w : World} {n cap : Nat} {l : List Int} (h : IntsD w (.slice none n cap) l) : l.length = 0 := by
  rcases Nat.eq_zero_or_pos l.length with h0 | h0
  · exact h0
  · obtain ⟨b, off, he, _⟩ := IntsD.at2 h 0 h0
    cases he

/-- copy of a row of numbers into a row that is known whole. -/
theorem copy_ints {w : World} {ops : Array Oper} {rest : List Oper} {o : Oper} {a : Act} {Q : Exit → Act → World → Prop} (hgd : o.guard = none) (d s : Operand)
    (ho : o.op = .call { callee := .builtin .copy, args := #[d, s], argTypes := #[22, 22] })
    (dp sp : Option Addr) (dLen dCap sLen sCap : Nat) (hd : a.eval d = .slice dp dLen dCap) (hs : a.eval s = .slice sp sLen sCap)
    (g off : Nat) (cur : List Value) (t : TypeId) (hg : w.heap[g]? = some (.cells cur.toArray t (0, 0))) (xs : List Int) (hle : sLen ≤ dLen) (hxs : IntsD w (.slice sp sLen sCap) xs)
    (hpos : 0 < xs.length → dp = some ⟨g, off, none⟩) (hfit : off + xs.length ≤ cur.length) (B : Nat) (w0 : World) (hb : Below B w0 w) (hBg : B ≤ g)
    (h : ∀ w', Hid (w'.heap[g]? = some (.cells (splice cur off (rowI xs)).toArray t (0, 0))) → Below B w0 w' → wpList Try.prog ops Q rest (a.put o.dst (goInt xs.length)) w') :
    wpList Try.prog ops Q (o :: rest) a w := by
  have hm : xs.length = sLen := (SlD.len hxs).symm
  refine wpList_copy_splice hgd d s 22 22 ho 3 Try.underlying22 (by kernel_rfl) dp sp dLen dCap sLen sCap hd hs g off cur t hg (rowI xs) (by rw [rowI_len, hm]; exact (Nat.min_eq_left hle).symm) ?_ (by rw [rowI_len]; exact hfit) (rowI_one xs) B w0 hb hBg ?_
  · intro h0
    rw [rowI_len] at h0
    refine ⟨hpos h0, ?_⟩
    cases sp with
    | none =>
      have h1 := IntsD.nn hxs
      omega
    | some ad => exact ⟨ad, rfl, ints_flat hxs⟩
  · intro w' h1 h2
    have h3 := h w' h1 h2
    rw [rowI_len]
    exact h3

set_option maxRecDepth 100000 in
set_option maxHeartbeats 2000000 in
theorem copiedI_any (l : List Int) (v : Value) (w : World) (hv : IntsD w v l) (hn : l.length ≤ 100000) :
    Calls Try.prog 39 #[v] w fun e w' => ∃ v', e = .returned v' ∧ OwnI w' w.heap.size v' l ∧ Below w.heap.size w w' := by
  have H1 := Lib.hid hv
  obtain ⟨a1, p1, rfl⟩ := hv.shape0
  obtain ⟨n, hN⟩ : ∃ n, n = l.length := ⟨_, rfl⟩
  rw [← hN] at hn H1 ⊢
  have N1 := Lib.hid hN
  have hn6 : n ≤ 1000000 := by omega
  clear hv hN
  go_enter Try.func39, Try.ntmps39
  go_wp2_with (refine make_one rfl (.tmp 5) (.tmp 5) 22 3 (.int .i64 0) 8 Try.underlying22 info_int rfl (by decide) rfl n rfl rfl hn6 ?_)
  intro w1 Z HZ G1 b1
  have B1 := Lib.hid b1
  clear b1
  obtain ⟨g, hg⟩ : ∃ g, g = w.heap.size := ⟨_, rfl⟩
  rw [← hg] at G1 ⊢
  have HG := Lib.hid hg
  clear hg
  have HZL : Hid (Z.length = n) := Lib.hid (by rw [HZ.out, List.length_replicate])
  go_wp2_with (refine copy_ints rfl (.tmp 7) (.tmp 8) rfl (some ⟨g, 0, none⟩) a1 n n n p1 rfl rfl g 0 Z 3 G1.out l (Nat.le_refl _) (IntsD.below H1.out B1.out) (fun _ => rfl) (by rw [← N1.out, HZL.out]; omega) w.heap.size w B1.out (Nat.le_of_eq HG.out.symm) ?_)
  intro w2 G2 b2
  have B2 := Lib.hid b2
  clear b2
  go_wp2
  go_ret
  refine ⟨_, rfl, ?_, B2.out⟩
  have h2 := G2.out
  rw [splice_all Z _ (by rw [HZL.out, rowI_len, N1.out])] at h2
  show World.ownsRow _ _ _ _ _ _ _
  rw [← N1.out]
  exact own_of_bk h2 rfl (Nat.le_of_eq HG.out.symm) (by rw [rowI_len, N1.out, Nat.mul_one]) hn6

/-- Rows that have been copied: the first k of n. -/
structure Part (w0 w : World) (g T E S : Nat) {β : Type} (f : List β → List Value) (n k : Nat) (l : List (List β × Value)) (rs : List (List β × Value)) : Prop where
  h : w.heap[g]? = some (.cells (rs.map (·.2) ++ List.replicate (n - k) (Value.slice none 0 0)).toArray T (0, 0))
  n : rs.length = k
  e : rs.map (·.1) = (l.take k).map (·.1)
  o : ∀ x ∈ rs, w.ownsRow (g + 1) E S x.2 x.1.length (f x.1)
  b : Below w0.heap.size w0 w
  a : rs.Pairwise fun x y => Apart x.2 y.2

theorem set_next {α : Type} (l : List α) (k n : Nat) (z v : α) (h : l.length = k) (hk : k < n) : (l ++ List.replicate (n - k) z).set k v = (l ++ [v]) ++ List.replicate (n - (k + 1)) z := by
  subst h
  rw [show n - l.length = (n - (l.length + 1)) + 1 by omega, List.replicate_succ, List.set_append_right _ _ (Nat.le_refl _), Nat.sub_self, List.set_cons_zero]
  simp
theorem Part.cell {w0 w : World} {g T E S : Nat} {β : Type} {f : List β → List Value} {n k : Nat} {l rs : List (List β × Value)} (h : Part w0 w g T E S f n k l rs) (hk : k < n) {w2 : World} (hb : Below w.heap.size w w2) :
    w2.cell? ⟨g, k, none⟩ = some (.slice none 0 0) ∧ w2.frozen? ⟨g, k, none⟩ = false ∧ g < w2.heap.size := by
  have hl := (Array.getElem?_eq_some_iff.1 h.h).1
  have hw : Bk w2 g T _ := (hb.block g hl).trans h.h
  refine ⟨?_, hw.fz k, hw.lt⟩
  rw [hw.cell k, List.getElem?_toArray, List.getElem?_append_right (by rw [List.length_map, h.n]; exact Nat.le_refl _), List.length_map, h.n, Nat.sub_self, List.getElem?_replicate, if_pos (by omega)]
theorem Part.step {w0 w : World} {g T E S : Nat} {β : Type} {f : List β → List Value} {n k : Nat} {l rs : List (List β × Value)} (h : Part w0 w g T E S f n k l rs) (hk : k < n) (hl : n = l.length) {w2 : World} (hb : Below w.heap.size w w2) (xs : List β) (hx : xs = (l[k]'(by omega)).1) (v : Value) (o : w2.ownsRow w.heap.size E S v xs.length (f xs)) (hg : w0.heap.size ≤ g) :
    Part w0 (w2.setCell ⟨g, k, none⟩ v) g T E S f n (k + 1) l (rs ++ [(xs, v)]) := by
  have hlt := (Array.getElem?_eq_some_iff.1 h.h).1
  have hw : w2.heap[g]? = some _ := (hb.block g hlt).trans h.h
  have kp : Kp (g + 1) w2 (w2.setCell ⟨g, k, none⟩ v) := ⟨by simp, fun j hj _ => heap_setCell_other w2 ⟨g, k, none⟩ j v (by simp; omega)⟩
  refine ⟨?_, by rw [List.length_append, h.n]; rfl, ?_, ?_, ?_, List.pairwise_append.2 ⟨h.a, List.pairwise_singleton _ _, fun x hx y hy => ?_⟩⟩
  · rw [heap_setCell_same w2 g k _ T v hw]
    congr 2
    rw [List.setIfInBounds_toArray, set_next _ k n _ _ (by rw [List.length_map, h.n]) hk]
    simp
  · rw [List.map_append, h.e, hx, List.take_add_one, List.getElem?_eq_getElem (by omega), List.map_append]
    rfl
  · intro x hx
    rcases List.mem_append.1 hx with hx | hx
    · exact own_kp (own_kp (h.o x hx) (Kp.below hb (Nat.le_refl _))) kp
    · rw [List.mem_singleton.1 hx]
      exact own_kp (own_base o hlt) kp
  · have := h.b.trans (hb.mono h.b.size)
    exact Below.setCell this (p := ⟨g, k, none⟩) hg _
  · rw [List.mem_singleton.1 hy]
    exact apart_own (h.o x hx) o (Nat.le_refl _)

theorem OwnC.shapes {w : World} {B : Nat} {vp vr vm vb : Value} {c : Cf} (h : OwnC w B vp vr vm vb c) : ∃ a0 k0 a1 k1 a2 k2 a3 k3, vp = .slice a0 c.pc.length k0 ∧ vr = .slice a1 c.regs.length k1 ∧ vm = .slice a2 c.mem.length k2 ∧ vb = .slice a3 c.buf.length k3 := by
  obtain ⟨a0, k0, h0, _⟩ := own_shape' h.p
  obtain ⟨a1, k1, h1, _⟩ := own_shape' h.r.h
  obtain ⟨a2, k2, h2, _⟩ := own_shape' h.m
  obtain ⟨a3, k3, h3, _⟩ := own_shape' h.b.h
  exact ⟨a0, k0, a1, k1, a2, k2, a3, k3, h0, h1, h2, h3⟩

theorem Kp.up {B C : Nat} {w w' : World} (h : Kp B w w') (hC : B ≤ C) : Kp C w w' := ⟨h.1, fun g h3 h4 => h.2 g (Nat.le_trans hC h3) h4⟩
/-- The four cells of a result are written. -/
theorem set4_keep {w : World} {g : Nat} (x0 x1 x2 x3 : Value) :
    (∀ b, b ≠ g → ((((w.setCell ⟨g, 0, none⟩ x0).setCell ⟨g, 1, none⟩ x1).setCell ⟨g, 2, none⟩ x2).setCell ⟨g, 3, none⟩ x3).heap[b]? = w.heap[b]?) ∧ ((((w.setCell ⟨g, 0, none⟩ x0).setCell ⟨g, 1, none⟩ x1).setCell ⟨g, 2, none⟩ x2).setCell ⟨g, 3, none⟩ x3).heap.size = w.heap.size := by
  refine ⟨fun b hb => ?_, by simp⟩
  rw [heap_setCell_other _ _ _ _ hb, heap_setCell_other _ _ _ _ hb, heap_setCell_other _ _ _ _ hb, heap_setCell_other _ _ _ _ hb]
theorem set4_cell {w : World} {g b j : Nat} {v : Value} (x0 x1 x2 x3 : Value) (hb : b ≠ g) (h : w.cell? ⟨b, j, none⟩ = some v) :
    ((((w.setCell ⟨g, 0, none⟩ x0).setCell ⟨g, 1, none⟩ x1).setCell ⟨g, 2, none⟩ x2).setCell ⟨g, 3, none⟩ x3).cell? ⟨b, j, none⟩ = some v :=
  (World.cell?_of_block (a := ⟨b, j, none⟩) ((set4_keep x0 x1 x2 x3).1 b hb)).trans h
theorem set4_below {a w : World} {B g : Nat} (x0 x1 x2 x3 : Value) (hb : Below B a w) (hg : B ≤ g) : Below B a ((((w.setCell ⟨g, 0, none⟩ x0).setCell ⟨g, 1, none⟩ x1).setCell ⟨g, 2, none⟩ x2).setCell ⟨g, 3, none⟩ x3) :=
  Below.setCell (p := ⟨g, 3, none⟩) (Below.setCell (p := ⟨g, 2, none⟩) (Below.setCell (p := ⟨g, 1, none⟩) (Below.setCell (p := ⟨g, 0, none⟩) hb hg _) hg _) hg _) hg _
theorem set4_kp {w : World} {B g : Nat} (x0 x1 x2 x3 : Value) (hg : g < B) : Kp B w ((((w.setCell ⟨g, 0, none⟩ x0).setCell ⟨g, 1, none⟩ x1).setCell ⟨g, 2, none⟩ x2).setCell ⟨g, 3, none⟩ x3) :=
  ⟨Nat.le_of_eq (set4_keep x0 x1 x2 x3).2.symm, fun b hb _ => (set4_keep x0 x1 x2 x3).1 b (by omega)⟩

theorem set4_bk {w : World} {g T : Nat} {a0 a1 a2 a3 : Value} (x0 x1 x2 x3 : Value) (h : Bk w g T #[a0, a1, a2, a3]) : Bk ((((w.setCell ⟨g, 0, none⟩ x0).setCell ⟨g, 1, none⟩ x1).setCell ⟨g, 2, none⟩ x2).setCell ⟨g, 3, none⟩ x3) g T #[x0, x1, x2, x3] := by
  have h0 := heap_setCell_same w g 0 _ T x0 h
  have h1 := heap_setCell_same _ g 1 _ T x1 h0
  have h2 := heap_setCell_same _ g 2 _ T x2 h1
  have h3 := heap_setCell_same _ g 3 _ T x3 h2
  exact h3

end Go.Proofs.Ytmkgijedchpgcaa
