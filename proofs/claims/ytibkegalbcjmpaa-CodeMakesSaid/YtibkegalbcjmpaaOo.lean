/- Layer 6: what stays as it was while an expression is translated. -/
import Derived.Test.YtibkegalbcjmpaaOn
namespace Go.Proofs.Ytibkegalbcjmpaa
open Go.RowKit

/-- All but block t and the row's own block is as it was. -/
structure Fx (t : Nat) (o : Option Nat) (w w' : World) : Prop where
  os : w'.os = w.os
  tape : w'.tape = w.tape
  output : w'.output = w.output
  size : w.heap.size ≤ w'.heap.size
  block : ∀ k, k < w.heap.size → k ≠ t → some k ≠ o → w'.heap[k]? = w.heap[k]?

/-- The row's own block stays, or is new. -/
def OwnStep (n : Nat) (o o' : Option Nat) : Prop := o' = o ∨ ∃ g, o' = some g ∧ n ≤ g

theorem OwnStep.refl (n : Nat) (o : Option Nat) : OwnStep n o o := .inl rfl
theorem OwnStep.trans {n m : Nat} {o o' o'' : Option Nat} (h : OwnStep n o o') (k : OwnStep m o' o'') (hm : n ≤ m) : OwnStep n o o'' := by
  rcases k with rfl | ⟨g, rfl, hg⟩
  · exact h
  · exact .inr ⟨g, rfl, Nat.le_trans hm hg⟩

theorem OwnStep.mono {n m : Nat} {o o' : Option Nat} (h : OwnStep n o o') (hm : m ≤ n) : OwnStep m o o' := h.imp id fun ⟨g, h1, h2⟩ => ⟨g, h1, Nat.le_trans hm h2⟩

theorem codeE_len (rsv : Nd → Opn × Bool) (e : Ex) : (codeE rsv e).length = e.size := by
  induction e with
  | leaf x => rfl
  | un x a ih => simp [codeE, Ex.size, ih]
  | bin x a b iha ihb => simp [codeE, Ex.size, iha, ihb]; omega
theorem kids_sum (rsv : Nd → Opn × Bool) (e : Ex) (j : Nat) (h : j < (kidsL e).length) : (((kidsL e).take j).flatMap (codeE rsv)).length + ((kidsL e)[j]).size + 1 ≤ e.size := by
  cases e with
  | leaf x => simp [kidsL] at h
  | un x a =>
    obtain rfl : j = 0 := by simp [kidsL] at h; omega
    simp [kidsL, Ex.size]
  | bin x a b =>
    have : j = 0 ∨ j = 1 := by simp [kidsL] at h; omega
    rcases this with rfl | rfl
    · simp [kidsL, Ex.size]
    · simp [kidsL, Ex.size, codeE_len]

theorem Fx.refl (t : Nat) (o : Option Nat) (w : World) : Fx t o w w := ⟨rfl, rfl, rfl, Nat.le_refl _, fun _ _ _ _ => rfl⟩
theorem Fx.trans {t : Nat} {o o' : Option Nat} {a b c : World} (h : Fx t o a b) (hs : OwnStep a.heap.size o o') (k : Fx t o' b c) : Fx t o a c := by
  refine ⟨k.os.trans h.os, k.tape.trans h.tape, k.output.trans h.output, Nat.le_trans h.size k.size, fun i hi h1 h2 => ?_⟩
  refine (k.block i (Nat.lt_of_lt_of_le hi h.size) h1 ?_).trans (h.block i hi h1 h2)
  rcases hs with rfl | ⟨g, rfl, hg⟩
  · exact h2
  · intro he; injection he with he; omega
theorem Fx.of_below {t : Nat} {o : Option Nat} {a b c : World} (h : Fx t o a b) (k : Below b.heap.size b c) : Fx t o a c :=
  ⟨k.os.trans h.os, k.tape.trans h.tape, k.output.trans h.output, Nat.le_trans h.size k.size, fun i hi h1 h2 => (k.block i (Nat.lt_of_lt_of_le hi h.size)).trans (h.block i hi h1 h2)⟩
theorem Fx.set {t : Nat} {o : Option Nat} {a b : World} (h : Fx t o a b) (j : Nat) (u : Value) : Fx t o a (b.setCell ⟨t, j, none⟩ u) :=
  ⟨h.os, h.tape, h.output, by simp [World.setCell]; exact h.size, fun i hi h1 h2 => (Below.heap_setCell _ _ _ _ h1).trans (h.block i hi h1 h2)⟩
theorem Fx.setNew {t g : Nat} {o : Option Nat} {a b : World} (h : Fx t o a b) (hg : a.heap.size ≤ g) (j : Nat) (u : Value) : Fx t o a (b.setCell ⟨g, j, none⟩ u) :=
  ⟨h.os, h.tape, h.output, by simp [World.setCell]; exact h.size, fun i hi h1 h2 => (Below.heap_setCell _ ⟨g, j, none⟩ _ _ (by show i ≠ g; omega)).trans (h.block i hi h1 h2)⟩
theorem Fx.grown {t : Nat} {o o' : Option Nat} {a b c : World} (h : Fx t o a b) (hs : OwnStep a.heap.size o o') (hg : b.grownBy c o') : Fx t o a c := by
  refine ⟨hg.os.trans h.os, hg.tape.trans h.tape, hg.output.trans h.output, Nat.le_trans h.size hg.size, fun i hi h1 h2 => ?_⟩
  refine (hg.block i (Nat.lt_of_lt_of_le hi h.size) ?_).trans (h.block i hi h1 h2)
  rcases hs with rfl | ⟨g, rfl, hg⟩
  · exact h2
  · intro he; injection he with he; omega
theorem Fx.bk {t : Nat} {o : Option Nat} {w w' : World} (h : Fx t o w w') {b T : Nat} {cs : Array Value} (hb : Bk w b T cs) (h1 : b ≠ t) (h2 : some b ≠ o) : Bk w' b T cs := by
  have := hb.lt
  unfold Bk at *
  rw [h.block b this h1 h2]; exact hb
theorem Fx.below {t : Nat} {o : Option Nat} {w w' : World} (h : Fx t o w w') {B : Nat} (hB : B ≤ t) (ho : ∀ g, o = some g → B ≤ g) (hw : B ≤ w.heap.size) : Below B w w' :=
  ⟨h.os, h.tape, h.output, h.size, fun k hk => h.block k (by omega) (by omega) (fun he => by have := ho k he.symm; omega)⟩

theorem Bk.other {w : World} {b T : Nat} {cs : Array Value} (h : Bk w b T cs) {g : Nat} (hg : b ≠ g) (o : Nat) (u : Value) : Bk (w.setCell ⟨g, o, none⟩ u) b T cs := by
  unfold Bk at *
  rw [Below.heap_setCell _ ⟨g, o, none⟩ _ _ hg]; exact h

def rowP (l : List Opn) : List Value := l.flatMap Opn.cells

theorem info_op : (Try.prog.info? 53).map (fun i => (i.zero, i.size, i.bytes)) = some (some (.agg #[.int .i64 0, .int .i64 0, .int .i64 0]), 3, 24) := by kernel_rfl

/-- append of one step to a row of one's own, at a step of a region that draws its order. -/
theorem step_append_op {w : World} {ops : Array Oper} {o : Oper} {a : Act} {K : Act → World → Prop} {Q : Exit → Act → World → Prop} {E : Prop} (hgd : o.guard = none) (s x : Operand)
    (ho : o.op = .call { callee := .builtin .append, args := #[s, x], argTypes := #[32, 32] }) (base : Nat) (v : Value) (xs : List Opn) (y0 y1 y2 : Int) (hs : a.eval s = v) (g : Nat) (hx : a.eval x = .slice (some ⟨g, 0, none⟩) 1 1)
    (hown : w.ownsRow base 53 3 v xs.length (rowP xs)) (hc : w.heap[g]? = some (.cells #[.int .i64 y0, .int .i64 y1, .int .i64 y2] 53 (0, 0))) (hn : xs.length ≤ 1000000) (hbase : base ≤ w.heap.size)
    (h : ∀ g' cap w', w'.ownsRow base 53 3 (.slice (some ⟨g', 0, none⟩) (xs.length + 1) cap) (xs ++ [(⟨y0, y1, y2⟩ : Opn)]).length (rowP (xs ++ [(⟨y0, y1, y2⟩ : Opn)])) → w.grownBy w' v.ownBlock → (v.ownBlock = some g' ∨ w.heap.size ≤ g') → g' < w'.heap.size → K (a.put o.dst (.slice (some ⟨g', 0, none⟩) (xs.length + 1) cap)) w') :
    if Region.wanted o (yielded ops a.tmps) = true then Oper.wp Try.prog o a w K Q else E := by
  obtain ⟨i0, hi, hz0, hz1, hz2⟩ := info_parts info_op
  refine step_append_lies w hgd s x 32 ho base 53 i0 (.agg #[.int .i64 0, .int .i64 0, .int .i64 0]) 3 24 Try.underlying32 hi hz0 hz1 hz2 rfl (by decide) v xs.length (rowP xs) hs hown ⟨g, 0, none⟩ 1 1 [.int .i64 y0, .int .i64 y1, .int .i64 y2] hx rfl (World.news_of_block hc) (fun u hu => by simp at hu; rcases hu with rfl | rfl | rfl <;> rfl) (by decide) (by unfold maxLen; omega) (by omega) hbase _ rfl ?_
  intro g' cap w' h1 h2 h3 h4
  refine h g' cap w' ?_ h2 (h3.imp id fun e => Nat.le_of_eq e.symm) h4
  have e : rowP (xs ++ [(⟨y0, y1, y2⟩ : Opn)]) = rowP xs ++ [.int .i64 y0, .int .i64 y1, .int .i64 y2] := by simp [rowP, Opn.cells]
  rw [e, List.length_append]
  exact h1

end Go.Proofs.Ytibkegalbcjmpaa
