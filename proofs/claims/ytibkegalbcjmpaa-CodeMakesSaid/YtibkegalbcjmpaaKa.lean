/- The parser's block, what is kept beside it, and what token, sign, name, fail and refuse do. What fail and refuse do. What join does. What operator does. -/
import Derived.Test.YtibkegalbcjmpaaNa
import Derived.StillTailTactics
import Derived.Deep.RegionHeld3
import Derived.Deep.RegionWith
import Derived.BigRegion
import Derived.Laws.AppendOwnNone
namespace Go.Proofs.Ytibkegalbcjmpaa
open Go.RowKit

/-- All blocks but one are as they were. -/
structure Keep (b : Nat) (w w' : World) : Prop where
  os : w'.os = w.os
  tape : w'.tape = w.tape
  output : w'.output = w.output
  size : w.heap.size ≤ w'.heap.size
  block : ∀ k, k < w.heap.size → k ≠ b → w'.heap[k]? = w.heap[k]?

theorem Keep.refl (b : Nat) (w : World) : Keep b w w := ⟨rfl, rfl, rfl, Nat.le_refl _, fun _ _ _ => rfl⟩
theorem Keep.trans {b : Nat} {x y z : World} (h : Keep b x y) (k : Keep b y z) : Keep b x z :=
  ⟨k.os.trans h.os, k.tape.trans h.tape, k.output.trans h.output, Nat.le_trans h.size k.size, fun i hi hb => (k.block i (Nat.lt_of_lt_of_le hi h.size) hb).trans (h.block i hi hb)⟩
theorem Below.keep {b : Nat} {w w' : World} (h : Below w.heap.size w w') : Keep b w w' := ⟨h.os, h.tape, h.output, h.size, fun k hk _ => h.block k hk⟩
theorem Keep.below {b : Nat} {x w w' : World} (h : Keep b x w) (k : Below w.heap.size w w') : Keep b x w' := h.trans (Below.keep k)
theorem Keep.setCell {b : Nat} {x w : World} (h : Keep b x w) (o : Nat) (u : Value) : Keep b x (w.setCell ⟨b, o, none⟩ u) :=
  h.trans ⟨rfl, rfl, rfl, by simp [World.setCell], fun k _ hb => Below.heap_setCell _ _ _ _ hb⟩
/-- What lies below the block is as it was. -/
theorem Keep.under {b : Nat} {w w' : World} (h : Keep b w w') (hb : b ≤ w.heap.size) : Below b w w' :=
  ⟨h.os, h.tape, h.output, h.size, fun k hk => h.block k (by omega) (by omega)⟩
/-- And what lies above it, while the block is given back. -/
theorem Keep.cell {b : Nat} {w w' : World} (h : Keep b w w') {p : Addr} (h1 : p.block < w.heap.size) (h2 : p.block ≠ b) : w'.cell? p = w.cell? p := World.cell?_of_block (w := w) (h.block p.block h1 h2)

theorem own_keep {w w' : World} {B e size n b : Nat} {v : Value} {xs : List Value} (h : w.ownsRow B e size v n xs) (hb : Keep b w w') (hB : b < B) : w'.ownsRow B e size v n xs := by
  obtain ⟨h1, h2⟩ := h
  refine ⟨h1, ?_⟩
  rcases h2 with h2 | ⟨g, cap, cur, hv, hg, hh, r⟩
  · exact .inl h2
  · exact .inr ⟨g, cap, cur, hv, hg, by rw [hb.block g (Array.getElem?_eq_some_iff.1 hh).1 (by omega)]; exact hh, r⟩

/-- The tokens that the parser reads, in a block of their own. -/
def TokS (w : World) (b : Nat) (v : Value) (l : List Tok) : Prop :=
  ∃ ad cap, v = .slice ad l.length cap ∧ ∀ i, (hi : i < l.length) → ∃ g, ad = some ⟨g, 0, none⟩ ∧ g < w.heap.size ∧ g ≠ b ∧
    w.cell? ⟨g, i * 4, none⟩ = some (.int .i64 l[i].1) ∧ w.cell? ⟨g, i * 4 + 1, none⟩ = some (.string ⟨l[i].2.1.toArray⟩) ∧ w.cell? ⟨g, i * 4 + 2, none⟩ = some (.int .i64 l[i].2.2.1) ∧ w.cell? ⟨g, i * 4 + 3, none⟩ = some (.int .i64 l[i].2.2.2)

theorem TokS.keep {w w' : World} {b : Nat} {v : Value} {l : List Tok} (h : TokS w b v l) (hb : Keep b w w') : TokS w' b v l := by
  obtain ⟨ad, cap, hv, hc⟩ := h
  refine ⟨ad, cap, hv, fun i hi => ?_⟩
  obtain ⟨g, hg, h1, h2, k0, k1, k2, k3⟩ := hc i hi
  exact ⟨g, hg, Nat.lt_of_lt_of_le h1 hb.size, h2, (hb.cell (p := ⟨g, _, none⟩) h1 h2).trans k0, (hb.cell (p := ⟨g, _, none⟩) h1 h2).trans k1, (hb.cell (p := ⟨g, _, none⟩) h1 h2).trans k2, (hb.cell (p := ⟨g, _, none⟩) h1 h2).trans k3⟩

/-- A token as a value. -/
def tokV (l : List Tok) (i : Nat) : Value := match l[i]? with
  | none => .agg #[.int .i64 0, .string ⟨#[]⟩, .int .i64 0, .int .i64 0]
  | some t => .agg #[.int .i64 t.1, .string ⟨t.2.1.toArray⟩, .int .i64 t.2.2.1, .int .i64 t.2.2.2]

/-- A token's four parts, zero where there is none. -/
def tokO (l : List Tok) (i : Nat) : Tok := (l[i]?).getD (0, [], 0, 0)
theorem tokV_eq (l : List Tok) (i : Nat) : tokV l i = .agg #[.int .i64 (tokO l i).1, .string ⟨(tokO l i).2.1.toArray⟩, .int .i64 (tokO l i).2.2.1, .int .i64 (tokO l i).2.2.2] := by
  unfold tokV tokO
  cases l[i]? with
  | none => rfl
  | some t => rfl

/-- Whether a sign stands at a place. -/
def sgAt (l : List Tok) (i : Nat) (x : List UInt8) : Bool := decide ((tokO l i).1 = 3) && ((tokO l i).2.1 == x)
/-- Whether a name stands at a place. -/
def nmAt (l : List Tok) (i : Nat) : Bool := decide ((tokO l i).1 = 1) && nameB ⟨(tokO l i).2.1.toArray⟩

theorem below_on {B : Nat} {w w1 w2 : World} {o : Obj} (h : Below B w w1) (hB : B ≤ w1.heap.size) (k : Below (w1.alloc o).heap.size (w1.alloc o) w2) : Below B w w2 :=
  (h.alloc hB o).trans (k.mono (by simp; omega))

end Go.Proofs.Ytibkegalbcjmpaa

namespace Go.Proofs.Ytibkegalbcjmpaa
open Go.RowKit

theorem Keep.alloc {b : Nat} {x w : World} (h : Keep b x w) (o : Obj) : Keep b x (w.alloc o) := h.below ((Below.refl _ _).alloc (Nat.le_refl _) _)
theorem Keep.setNew {b : Nat} {x w : World} (h : Keep b x w) {g o : Nat} (hg : x.heap.size ≤ g) (u : Value) : Keep b x (w.setCell ⟨g, o, none⟩ u) :=
  ⟨h.os, h.tape, h.output, by have := h.size; simpa [World.setCell] using this, fun k hk hb => (Below.heap_setCell _ _ _ _ (by simp; omega)).trans (h.block k hk hb)⟩
theorem Keep.drewN {b : Nat} {x w : World} (h : Keep b x w) (n : Nat) : Keep b x (w.drewN n) := h.trans ⟨rfl, rfl, rfl, Nat.le_refl _, fun _ _ _ => rfl⟩

/-- The part without nodes. -/
def partZ : Value := .agg #[.slice none 0 0, .int .i64 0, .int .i64 0]

/-- An error that is there stays. -/
def fst0 (er k : Int) : Int := if er = 0 then k else er
theorem fst0_zero (k : Int) : fst0 0 k = k := rfl
theorem fst0_not (er k : Int) (h : er ≠ 0) : fst0 er k = er := if_neg h
def snd0 (er k pl : Int) : Int := if er = 0 then k else pl

/-- What is wrong at a token that can't stand there, or where there is none. -/
def refK (l : List Tok) (i : Nat) : Nat × Nat := if i < l.length then (5, (tokO l i).2.2.2) else (6, if l.length = 0 then 0 else (tokO l (l.length - 1)).2.2.2 + (tokO l (l.length - 1)).2.1.length)

theorem tokO_in (l : List Tok) (i : Nat) (h : i < l.length) : tokO l i = l[i] := by unfold tokO; rw [List.getElem?_eq_getElem h]; rfl

/-- No token's place or text is large. -/
def TokOK (l : List Tok) : Prop := ∀ i, (tokO l i).2.2.2 ≤ 100000 ∧ (tokO l i).2.1.length ≤ 100000 ∧ (tokO l i).2.2.1 ≤ 100000

end Go.Proofs.Ytibkegalbcjmpaa

namespace Go.Proofs.Ytibkegalbcjmpaa
open Go.RowKit

/-- A part as it lies in memory: its nodes' slice, its size, its depth, its nodes. -/
structure PtR where
  ad : Option Addr
  cap : Nat
  s : Int
  d : Int
  xs : List Nd

def PtR.nv (p : PtR) : Value := .slice p.ad p.xs.length p.cap

def szF : List PtR → Int → Int
  | [], a => a
  | p :: r, a => szF r (a + p.s)
def dpF : List PtR → Int → Int
  | [], a => a
  | p :: r, a => dpF r (max a (p.d + 1))
def xsF (x : Nd) (ps : List PtR) : List Nd := x :: ps.flatMap PtR.xs

theorem szF_at (l : List PtR) (k : Nat) (h : k < l.length) (a : Int) : szF (l.drop k) a = szF (l.drop (k + 1)) (a + l[k].s) := by
  rw [List.drop_eq_getElem_cons h, szF]
theorem dpF_at (l : List PtR) (k : Nat) (h : k < l.length) (a : Int) : dpF (l.drop k) a = dpF (l.drop (k + 1)) (max a (l[k].d + 1)) := by
  rw [List.drop_eq_getElem_cons h, dpF]
theorem drop_over {α : Type} (l : List α) (k : Nat) (h : ¬ k < l.length) : l.drop k = [] := List.drop_eq_nil_of_le (by omega)

def Blk5 (W : World) (b : Nat) (x : Nd) : Prop := W.heap[b]? = some (.cells #[.int .i64 x.op, .int .i64 x.n, .string x.nm, .string x.inn, .int .i64 x.pl] 57 (0, 0))
theorem Blk5.lt {W : World} {b : Nat} {x : Nd} (h : Blk5 W b x) : b < W.heap.size := (Array.getElem?_eq_some_iff.1 h).1
theorem Blk5.below {W W' : World} {b : Nat} {x : Nd} (h : Blk5 W b x) (hb : Below W.heap.size W W') : Blk5 W' b x := by
  have := Blk5.lt h
  unfold Blk5 at *; rw [hb.block b this]; exact h
theorem Blk5.facts {W : World} {b : Nat} {x : Nd} (h : Blk5 W b x) :
    (W.cell? ⟨b, 0, none⟩ = some (.int .i64 x.op) ∧ W.cell? ⟨b, 1, none⟩ = some (.int .i64 x.n) ∧ W.cell? ⟨b, 2, none⟩ = some (.string x.nm) ∧ W.cell? ⟨b, 3, none⟩ = some (.string x.inn) ∧ W.cell? ⟨b, 4, none⟩ = some (.int .i64 x.pl)) ∧
    W.frozen? ⟨b, 0, none⟩ = false ∧ W.frozen? ⟨b, 1, none⟩ = false ∧ W.frozen? ⟨b, 2, none⟩ = false ∧ W.frozen? ⟨b, 3, none⟩ = false ∧ W.frozen? ⟨b, 4, none⟩ = false := by
  unfold Blk5 at h
  simp [World.cell?, World.frozen?, h]

/-- The parts that are handed to join. -/
def PtsAt (w : World) (v : Value) (ps : List PtR) : Prop :=
  ∃ ad cap, v = .slice ad ps.length cap ∧ ∀ i, (hi : i < ps.length) → ∃ g, ad = some ⟨g, 0, none⟩ ∧ g < w.heap.size ∧
    w.cell? ⟨g, i * 3, none⟩ = some ps[i].nv ∧ w.cell? ⟨g, i * 3 + 1, none⟩ = some (.int .i64 ps[i].s) ∧ w.cell? ⟨g, i * 3 + 2, none⟩ = some (.int .i64 ps[i].d)

theorem PtsAt.below {w w' : World} {v : Value} {ps : List PtR} (h : PtsAt w v ps) (hb : Below w.heap.size w w') : PtsAt w' v ps := by
  obtain ⟨ad, cap, hv, hc⟩ := h
  refine ⟨ad, cap, hv, fun i hi => ?_⟩
  obtain ⟨g, hg, h1, k0, k1, k2⟩ := hc i hi
  exact ⟨g, hg, Nat.lt_of_lt_of_le h1 hb.size, (hb.cell (p := ⟨g, _, none⟩) h1).trans k0, (hb.cell (p := ⟨g, _, none⟩) h1).trans k1, (hb.cell (p := ⟨g, _, none⟩) h1).trans k2⟩

/-- A part whose nodes the call owns. -/
def PtOwn (w : World) (B : Nat) (p : PtR) : Prop := w.ownsRow B 57 5 p.nv p.xs.length (rowN p.xs) ∧ p.xs.length ≤ 200 ∧ 0 ≤ p.s ∧ p.s ≤ 1000000 ∧ 0 ≤ p.d ∧ p.d ≤ 1000000

theorem Blk5.other {w : World} {b : Nat} {x : Nd} (h : Blk5 w b x) (g o : Nat) (hg : b ≠ g) (u : Value) : Blk5 (w.setCell ⟨g, o, none⟩ u) b x := by
  unfold Blk5 at *; rw [Below.heap_setCell _ _ _ _ (by exact hg)]; exact h
theorem Blk5.alloc {w : World} {b : Nat} {x : Nd} (h : Blk5 w b x) (o : Obj) : Blk5 (w.alloc o) b x := h.below ((Below.refl _ _).alloc (Nat.le_refl _) _)
/-- A block of the call's own is written, twice; a new one is made. -/
theorem below_two {B b : Nat} {w wr : World} (h : Below B w wr) (hb : B ≤ b) (hB : B ≤ w.heap.size) (o1 o2 : Nat) (u1 u2 : Value) (o : Obj) : Below B w (((wr.setCell ⟨b, o1, none⟩ u1).setCell ⟨b, o2, none⟩ u2).alloc o) := by
  have h2 := (h.setCell (p := ⟨b, o1, none⟩) hb u1).setCell (p := ⟨b, o2, none⟩) hb u2
  exact h2.alloc (Nat.le_trans hB h2.size) o

theorem info32 : (Try.prog.info? 57).map (fun i => (i.zero, i.size, i.bytes)) = some (some (.agg #[.int .i64 0, .int .i64 0, .string ⟨#[]⟩, .string ⟨#[]⟩, .int .i64 0]), 5, 56) := by kernel_rfl

theorem rowN_length (l : List Nd) : (rowN l).length = l.length * 5 := by
  unfold rowN
  induction l with
  | nil => rfl
  | cons a l ih => simp only [List.flatMap_cons, List.length_append, ih, List.length_cons, Nd.cells, List.length_nil]; omega
theorem rowN_one (l : List Nd) : ∀ u ∈ rowN l, u.oneCell' = true := by
  intro u h
  unfold rowN at h
  rw [List.mem_flatMap] at h
  obtain ⟨t, _, h⟩ := h
  simp [Nd.cells] at h
  rcases h with rfl | rfl | rfl | rfl | rfl <;> rfl
theorem rowN_append (a b : List Nd) : rowN (a ++ b) = rowN a ++ rowN b := by simp [rowN]

theorem own_mono {w : World} {B B' e size n : Nat} {v : Value} {xs : List Value} (h : w.ownsRow B e size v n xs) (hB : B' ≤ B) : w.ownsRow B' e size v n xs := by
  obtain ⟨h1, h2⟩ := h
  refine ⟨h1, ?_⟩
  rcases h2 with h2 | ⟨g, cap, cur, hv, hg, hh, r⟩
  · exact .inl h2
  · exact .inr ⟨g, cap, cur, hv, Nat.le_trans hB hg, hh, r⟩

theorem own_shape {w : World} {B n e size : Nat} {v : Value} {xs : List Value} (h : w.ownsRow B e size v n xs) : ∃ ad cap, v = .slice ad n cap ∧ ((ad = none ∧ n = 0 ∧ cap = 0) ∨ ∃ g, ad = some ⟨g, 0, none⟩ ∧ B ≤ g ∧ g < w.heap.size) := by
  have hl := h.lt
  rcases h.2 with ⟨rfl, rfl⟩ | ⟨g, cap', cur, rfl, hb, hg, _⟩
  · exact ⟨none, 0, rfl, .inl ⟨rfl, rfl, rfl⟩⟩
  · exact ⟨_, cap', rfl, .inr ⟨g, rfl, hl g rfl⟩⟩

/-- append(x, l...), l nodes that the call owns. -/
theorem append_nds {w : World} {ops : Array Oper} {rest : List Oper} {o : Oper} {a : Act} {Q : Exit → Act → World → Prop} (hgd : o.guard = none) (s x : Operand)
    (ho : o.op = .call { callee := .builtin .append, args := #[s, x], argTypes := #[22, 22] }) (base B n m : Nat) (v u : Value) (xs : List Value) (l : List Nd) (hs : a.eval s = v) (hx : a.eval x = u)
    (hown : w.ownsRow base 57 5 v n xs) (hu : w.ownsRow B 57 5 u m (rowN l)) (hm : m = l.length) (hn : n + m ≤ 1000000) (hbase : base ≤ w.heap.size)
    (h : ∀ v' w', w'.ownsRow base 57 5 v' (n + m) (xs ++ rowN l) → Below base w w' → wpList Try.prog ops Q rest (a.put o.dst v') w') : wpList Try.prog ops Q (o :: rest) a w := by
  obtain ⟨i0, hi, hz0, hz1, hz2⟩ := info_parts info32
  have hc := @World.ownsRow.cells _ _ _ _ _ _ _ hu
  subst hm
  rcases hu.2 with ⟨rfl, h0⟩ | ⟨g, cap, cur, rfl, _⟩
  · obtain rfl := List.eq_nil_of_length_eq_zero h0
    refine wpList_append_own_none hgd s x 22 ho base 57 i0 5 Try.underlying22 hi v n xs hs hown hx ?_
    have := h v w
    rw [show rowN [] = [] from rfl, List.append_nil] at this
    exact this hown (Below.refl _ _)
  · refine wpList_append_own _ hgd s x 22 ho base 57 i0 (.agg #[.int .i64 0, .int .i64 0, .string ⟨#[]⟩, .string ⟨#[]⟩, .int .i64 0]) 5 56 Try.underlying22 hi hz0 hz1 hz2 rfl (by decide) v n xs hs hown ⟨g, 0, none⟩ l.length cap (rowN l) hx
      (by rw [rowN_length]) (hc rfl) (rowN_one l) (by unfold maxLen; omega) (by omega) hbase ?_
    intro v' w' h1 h2 _
    exact h v' w' h1 ((Below.refl base w).grown h2 hbase (fun k hk => (hown.lt k hk).1))

/-- A slice of one node in a new block. -/
theorem own_new (w : World) (x : Nd) : (w.alloc (.cells #[.int .i64 x.op, .int .i64 x.n, .string x.nm, .string x.inn, .int .i64 x.pl] 57)).ownsRow w.heap.size 57 5 (.slice (some ⟨w.heap.size, 0, none⟩) 1 1) 1 (rowN [x]) :=
  ⟨rfl, .inr ⟨w.heap.size, 1, _, rfl, Nat.le_refl _, heap_alloc_new w _, Nat.le_refl _, by unfold maxLen; decide, rfl, rfl⟩⟩

def JoinAns (x : Nd) (ps : List PtR) (B : Nat) (w : World) (e : Ending) (w' : World) : Prop :=
  ∃ nv xs, e = .returned (.agg #[nv, .int .i64 (szF ps 1), .int .i64 (dpF ps 0)]) ∧ w'.ownsRow B 57 5 nv xs.length (rowN xs) ∧ (szF ps 1 ≤ 200 ∧ dpF ps 0 ≤ 30 → xs = xsF x ps) ∧ (¬ (szF ps 1 ≤ 200 ∧ dpF ps 0 ≤ 30) → xs = []) ∧ Below w.heap.size w w'

end Go.Proofs.Ytibkegalbcjmpaa

namespace Go.Proofs.Ytibkegalbcjmpaa
open Go.RowKit

/-- The signs of the operators. -/
def sgT : List (List UInt8) := [[], [], [], [], [], [33], [43], [45], [42], [61, 61], [33, 61], [60], [60, 61], [38, 38], [124, 124]]
def sgO (op : Nat) : List UInt8 := sgT.getD op []
def sgV (op : Nat) : ByteArray := ⟨(sgO op).toArray⟩

/-- Which of the operators stands at a place; 0: none. -/
def which (l : List Tok) (i : Nat) : List Nat → Nat
  | [] => 0
  | o :: r => if sgAt l i (sgO o) then o else which l i r

/-- Numbers in a block of their own. -/
def Ints (w : World) (v : Value) (os : List Nat) : Prop :=
  ∃ g cap, v = .slice (some ⟨g, 0, none⟩) os.length cap ∧ g < w.heap.size ∧ ∀ i, (hi : i < os.length) → w.cell? ⟨g, i, none⟩ = some (.int .i64 os[i])

theorem Ints.below {w w' : World} {v : Value} {os : List Nat} (h : Ints w v os) (hb : Below w.heap.size w w') : Ints w' v os := by
  obtain ⟨g, cap, hv, hg, hc⟩ := h
  exact ⟨g, cap, hv, Nat.lt_of_lt_of_le hg hb.size, fun i hi => (hb.cell (p := ⟨g, i, none⟩) hg).trans (hc i hi)⟩

theorem which_at (l : List Tok) (i : Nat) (os : List Nat) (k : Nat) (h : k < os.length) : which l i (os.drop k) = if sgAt l i (sgO os[k]) then os[k] else which l i (os.drop (k + 1)) := by
  rw [List.drop_eq_getElem_cons h, which]

end Go.Proofs.Ytibkegalbcjmpaa
