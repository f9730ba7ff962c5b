/- Layer 14, the reference: Build. -/
import Derived.Test.YtkdpimifojjhaaaNs
import Derived.Deep.RegionLaw
namespace Go.Proofs.Ytkdpimifojjhaaa
set_option linter.unusedSimpArgs false
set_option linter.unusedVariables false
open Go.RowKit

/-- append of one number to a row of numbers, at a step of a region that draws. -/
theorem step_appI {w : World} {ops : Array Oper} {o : Oper} {a : Act} {K : Act → World → Prop} {Q : Exit → Act → World → Prop} {E' : Prop} (hgd : o.guard = none) (s x : Operand)
    (ho : o.op = .call { callee := .builtin .append, args := #[s, x], argTypes := #[22, 22] })
    (base : Nat) (v : Value) (n : Nat) (xs : List Int) (hs : a.eval s = v) (hown : w.ownsRow base 3 1 v n (ints xs)) (hxn : xs.length = n) (g : Nat) (u : Int) (hx : a.eval x = .slice (some ⟨g, 0, none⟩) 1 1) (hg : Bk w g 3 #[.int .i64 u]) (hn : n ≤ 1000000) (hbase : base ≤ w.heap.size)
    (h : ∀ g' cap w', w'.ownsRow base 3 1 (.slice (some ⟨g', 0, none⟩) (n + 1) cap) (xs ++ [u]).length (ints (xs ++ [u])) → Below base w w' → w.grownBy w' v.ownBlock → (v.ownBlock = some g' ∨ g' = w.heap.size) → K (a.put o.dst (.slice (some ⟨g', 0, none⟩) (n + 1) cap)) w') :
    if Region.wanted o (yielded ops a.tmps) = true then Oper.wp Try.prog o a w K Q else E' := by
  subst hxn
  obtain ⟨i0, hi, hz0, hz1, hz2⟩ := info_parts info_int
  refine step_append_lies _ hgd s x 22 ho base 3 i0 (.int .i64 0) 1 8 Try.underlying22 hi hz0 hz1 hz2 rfl (by decide) v xs.length (ints xs) hs hown ⟨g, 0, none⟩ 1 1 [.int .i64 u] hx rfl (fun j y hy => World.news_of_block (show w.heap[g]? = some (.cells #[.int .i64 u] 3 (0, 0)) from hg) j y (by simpa using hy)) (by intro y hy; rw [List.mem_singleton.1 hy]; rfl) (by decide) (by unfold maxLen; omega) (by omega) hbase _ rfl ?_
  intro g' cap w' h2 h3 h4 _
  refine h g' cap w' ?_ ((Below.refl base w).grown h3 hbase (fun k hk => (hown.lt k hk).1)) h3 h4
  rw [List.length_append, show ints (xs ++ [u]) = ints xs ++ [.int .i64 u] by simp [ints]]
  exact h2
theorem own_other {w w' : World} {B n : Nat} {vs va : Value} {xs : List Value} (h : w.ownsRow B 3 1 va n xs) (ha : Apart vs va) (hg : w.grownBy w' vs.ownBlock) : w'.ownsRow B 3 1 va n xs := by
  obtain ⟨h1, h2⟩ := h
  refine ⟨h1, ?_⟩
  rcases h2 with h2 | ⟨g, cap, cur, rfl, hB, hh, r⟩
  · exact .inl h2
  · exact .inr ⟨g, cap, cur, rfl, hB, (hg.block g (Array.getElem?_eq_some_iff.1 hh).1 (fun e => ha g e.symm rfl)).trans hh, r⟩
theorem apart_put {w : World} {B n g' k c : Nat} {vs va : Value} {xs : List Value} (h : w.ownsRow B 3 1 va n xs) (ha : Apart vs va) (hg : vs.ownBlock = some g' ∨ g' = w.heap.size) : Apart (.slice (some ⟨g', 0, none⟩) k c) va := by
  intro g e1 e2
  have e3 : g' = g := by simpa [Value.ownBlock] using e1
  subst e3
  rcases hg with hg | hg
  · exact ha _ hg e2
  · have := (h.lt _ e2).2
    omega
/-- The reference's graph while it is made. -/
structure RB (w0 w : World) (B r g7 : Nat) (vs va vt : Value) (S A T : List Int) : Prop where
  h4 : Bk w r 24 #[.slice none 0 0, .slice none 0 0, .slice none 0 0]
  h7 : Bk w g7 24 #[vs, va, vt]
  os : w.ownsRow B 3 1 vs S.length (ints S)
  oa : w.ownsRow B 3 1 va A.length (ints A)
  ot : w.ownsRow B 3 1 vt T.length (ints T)
  sa : Apart vs va
  st : Apart vs vt
  at' : Apart va vt
  l4 : r < B
  l7 : g7 < B
  n47 : r ≠ g7
  bw : B ≤ w.heap.size
  g0 : w0.heap.size ≤ g7
  b : Below w0.heap.size w0 w
section
variable {w0 w w1 w' : World} {B r g7 g' c k : Nat} {vs va vt : Value} {S A T : List Int} {x : Int}
theorem RB.below (h : RB w0 w B r g7 vs va vt S A T) (hb : Below w.heap.size w w1) : RB w0 w1 B r g7 vs va vt S A T :=
  ⟨h.h4.below hb, h.h7.below hb, own_below h.os hb, own_below h.oa hb, own_below h.ot hb, h.sa, h.st, h.at', h.l4, h.l7, h.n47, Nat.le_trans h.bw hb.size, h.g0, h.b.trans (hb.mono h.b.size)⟩
theorem RB.at7 (h : RB w0 w B r g7 vs va vt S A T) (hb : Below w.heap.size w w1) (hb2 : Below B w1 w') : Bk w' g7 24 #[vs, va, vt] := (hb2.block g7 h.l7).trans (h.h7.below hb)
theorem RB.putS (h : RB w0 w B r g7 vs va vt S A T) (hb : Below w.heap.size w w1) (ho : w'.ownsRow B 3 1 (.slice (some ⟨g', 0, none⟩) k c) (S ++ [x]).length (ints (S ++ [x]))) (hb2 : Below B w1 w') (hg : w1.grownBy w' vs.ownBlock) (he : vs.ownBlock = some g' ∨ g' = w1.heap.size) :
    RB w0 (w'.setCell ⟨g7, 0, none⟩ (.slice (some ⟨g', 0, none⟩) k c)) B r g7 (.slice (some ⟨g', 0, none⟩) k c) va vt (S ++ [x]) A T := by
  have h1 := h.below hb
  have k7 := h.at7 hb hb2
  have k4 : Bk w' r 24 _ := (hb2.block r h.l4).trans h1.h4
  refine ⟨k4.other h.n47 0, heap_setCell_same w' g7 0 _ _ _ k7, own_setT ho k7 (by decide), own_setT (own_other h1.oa h.sa hg) k7 (by decide), own_setT (own_other h1.ot h.st hg) k7 (by decide), apart_put h1.oa h.sa he, apart_put h1.ot h.st he, h.at', h.l4, h.l7, h.n47, ?_, h.g0, ?_⟩
  · rw [setCell_size]; have := h1.bw; have := hb2.size; omega
  · exact (h1.b.trans (hb2.mono (by have := h.l7; have := h.g0; omega))).setCell h.g0 _
theorem RB.putA (h : RB w0 w B r g7 vs va vt S A T) (hb : Below w.heap.size w w1) (ho : w'.ownsRow B 3 1 (.slice (some ⟨g', 0, none⟩) k c) (A ++ [x]).length (ints (A ++ [x]))) (hb2 : Below B w1 w') (hg : w1.grownBy w' va.ownBlock) (he : va.ownBlock = some g' ∨ g' = w1.heap.size) :
    RB w0 (w'.setCell ⟨g7, 1, none⟩ (.slice (some ⟨g', 0, none⟩) k c)) B r g7 vs (.slice (some ⟨g', 0, none⟩) k c) vt S (A ++ [x]) T := by
  have h1 := h.below hb
  have k7 := h.at7 hb hb2
  have k4 : Bk w' r 24 _ := (hb2.block r h.l4).trans h1.h4
  refine ⟨k4.other h.n47 1, heap_setCell_same w' g7 1 _ _ _ k7, own_setT (own_other h1.os h.sa.symm hg) k7 (by decide), own_setT ho k7 (by decide), own_setT (own_other h1.ot h.at' hg) k7 (by decide), (apart_put h1.os h.sa.symm he).symm, h.st, apart_put h1.ot h.at' he, h.l4, h.l7, h.n47, ?_, h.g0, ?_⟩
  · rw [setCell_size]; have := h1.bw; have := hb2.size; omega
  · exact (h1.b.trans (hb2.mono (by have := h.l7; have := h.g0; omega))).setCell h.g0 _
theorem RB.putT (h : RB w0 w B r g7 vs va vt S A T) (hb : Below w.heap.size w w1) (ho : w'.ownsRow B 3 1 (.slice (some ⟨g', 0, none⟩) k c) (T ++ [x]).length (ints (T ++ [x]))) (hb2 : Below B w1 w') (hg : w1.grownBy w' vt.ownBlock) (he : vt.ownBlock = some g' ∨ g' = w1.heap.size) :
    RB w0 (w'.setCell ⟨g7, 2, none⟩ (.slice (some ⟨g', 0, none⟩) k c)) B r g7 vs va (.slice (some ⟨g', 0, none⟩) k c) S A (T ++ [x]) := by
  have h1 := h.below hb
  have k7 := h.at7 hb hb2
  have k4 : Bk w' r 24 _ := (hb2.block r h.l4).trans h1.h4
  refine ⟨k4.other h.n47 2, heap_setCell_same w' g7 2 _ _ _ k7, own_setT (own_other h1.os h.st.symm hg) k7 (by decide), own_setT (own_other h1.oa h.at'.symm hg) k7 (by decide), own_setT ho k7 (by decide), h.sa, (apart_put h1.os h.st.symm he).symm, (apart_put h1.oa h.at'.symm he).symm, h.l4, h.l7, h.n47, ?_, h.g0, ?_⟩
  · rw [setCell_size]; have := h1.bw; have := hb2.size; omega
  · exact (h1.b.trans (hb2.mono (by have := h.l7; have := h.g0; omega))).setCell h.g0 _
end
theorem srt_more (l : List Edg) (i k : Nat) (h : k < l.length) : srt i l ++ ofN (l.take (k + 1)) i = (srt i l ++ ofN (l.take k) i) ++ if l[k].1 = (i : Int) then [l[k]] else [] := by
  rw [ofN_take l i k h, List.append_assoc]
def stL (l : List Edg) (i : Nat) : List Int := (List.range (i + 1)).map fun j => (lenS l j : Int)
theorem stL_zero (l : List Edg) : stL l 0 = [0] := rfl
theorem stL_succ (l : List Edg) (i : Nat) : stL l i ++ [(lenS l (i + 1) : Int)] = stL l (i + 1) := by
  unfold stL
  rw [List.range_succ (n := i + 1), List.map_append]; rfl
theorem stL_len (l : List Edg) (i : Nat) : (stL l i).length = i + 1 := by simp [stL]

end Go.Proofs.Ytkdpimifojjhaaa
