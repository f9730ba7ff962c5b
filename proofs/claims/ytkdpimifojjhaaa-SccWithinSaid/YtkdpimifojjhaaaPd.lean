/- Layer 14, the reference: Out. -/
import Derived.Test.YtkdpimifojjhaaaPc
import Derived.Test.YtkdpimifojjhaaaNt
namespace Go.Proofs.Ytkdpimifojjhaaa
set_option linter.unusedSimpArgs false
set_option linter.unusedVariables false
open Go.RowKit

/-- append of one edge to a row of edges, at a step of a region that draws. -/
theorem step_appE {w : World} {ops : Array Oper} {o : Oper} {a : Act} {K : Act → World → Prop} {Q : Exit → Act → World → Prop} {E' : Prop} (hgd : o.guard = none) (s x : Operand)
    (ho : o.op = .call { callee := .builtin .append, args := #[s, x], argTypes := #[37, 37] })
    (base : Nat) (v : Value) (n : Nat) (xs : List Edg) (hs : a.eval s = v) (hown : w.ownsRow base 41 3 v n (rowG xs)) (hxn : xs.length = n) (g : Nat) (u : Edg) (hx : a.eval x = .slice (some ⟨g, 0, none⟩) 1 1) (hg : Bk w g 41 #[.int .i64 u.1, .int .i64 u.2.1, .int .i64 u.2.2]) (hn : n ≤ 1000000) (hbase : base ≤ w.heap.size)
    (h : ∀ g' cap w', w'.ownsRow base 41 3 (.slice (some ⟨g', 0, none⟩) (n + 1) cap) (n + 1) (rowG (xs ++ [u])) → Below base w w' → K (a.put o.dst (.slice (some ⟨g', 0, none⟩) (n + 1) cap)) w') :
    if Region.wanted o (yielded ops a.tmps) = true then Oper.wp Try.prog o a w K Q else E' := by
  subst hxn
  obtain ⟨i0, hi, hz0, hz1, hz2⟩ := info_parts info_edge
  refine step_append_lies _ hgd s x 37 ho base 41 i0 (.agg #[.int .i64 0, .int .i64 0, .int .i64 0]) 3 24 Try.underlying37 hi hz0 hz1 hz2 rfl (by decide) v xs.length (rowG xs) hs hown ⟨g, 0, none⟩ 1 1 (cellsG u) hx rfl (fun j y hy => World.news_of_block (show w.heap[g]? = some (.cells #[.int .i64 u.1, .int .i64 u.2.1, .int .i64 u.2.2] 41 (0, 0)) from hg) j y (by simpa [cellsG] using hy)) (by intro y hy; simp [cellsG] at hy; rcases hy with rfl | rfl | rfl <;> rfl) (by decide) (by unfold maxLen; omega) (by omega) hbase _ rfl ?_
  intro g' cap w' h2 h3 h4 _
  refine h g' cap w' ?_ ((Below.refl base w).grown h3 hbase (fun k hk => (hown.lt k hk).1))
  rw [rowG_app, show rowG [u] = cellsG u by simp [rowG]]
  exact h2

theorem len14 {α : Type} {S : Nat} {R : World → Nat → Nat → α → Prop} {w : World} {ad : Option Addr} {n cap : Nat} {xs : List α} (h : SlD S R w (.slice ad n cap) xs) : xs.length = n := by
  obtain ⟨ad', cap', hv, _⟩ := h
  injection hv with _ e _
  exact e.symm
theorem out_take (g : Gr) (i j : Nat) (hj : j < sN g (i + 1) - sN g i) : (outL g i).take (j + 1) = (outL g i).take j ++ [((i : Int), g.ag.getD (sN g i + j) 0, g.to.getD (sN g i + j) 0)] := by
  rw [List.take_add_one, outL_at g i j hj]; rfl

end Go.Proofs.Ytkdpimifojjhaaa
