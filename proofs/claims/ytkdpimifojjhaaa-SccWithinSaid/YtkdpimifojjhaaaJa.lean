/- Base of layer 13: rows, blocks, slices that came in. -/
import Derived.Test.YtkdpimifojjhaaaUa
import Derived.ProofKit
import Derived.OpenShut
import Derived.ShutString
import Derived.Deep.Slices
import Derived.ChangeOld
import Derived.WalkSmall
import Derived.OneCell
import Derived.Deep.DrawnRows
import Derived.Deep.RegionLaw
namespace Go.Proofs.Ytkdpimifojjhaaa
set_option linter.unusedSimpArgs false
set_option linter.unusedVariables false
open Go.ChangeShapes Go.WideShapes Go.ChangeAt Go.RowKit

/-- Blocks from a number on are as they were. -/
def Kp (B : Nat) (w w' : World) : Prop := w.heap.size ≤ w'.heap.size ∧ ∀ g, B ≤ g → g < w.heap.size → w'.heap[g]? = w.heap[g]?
theorem own_kp {w w' : World} {B e size n : Nat} {v : Value} {xs : List Value} (h : w.ownsRow B e size v n xs) (hk : Kp B w w') : w'.ownsRow B e size v n xs := by
  obtain ⟨h1, h2⟩ := h
  refine ⟨h1, ?_⟩
  rcases h2 with h2 | ⟨g, cap, cur, hv, hg, hh, r⟩
  · exact .inl h2
  · exact .inr ⟨g, cap, cur, hv, hg, by rw [hk.2 g hg (Array.getElem?_eq_some_iff.1 hh).1]; exact hh, r⟩

/-- Slices that lie in blocks of their own. -/
def Apart (a b : Value) : Prop := ∀ g, a.ownBlock = some g → b.ownBlock ≠ some g
theorem Apart.symm {a b : Value} (h : Apart a b) : Apart b a := fun g h1 h2 => h g h2 h1
set_option maxRecDepth 100000 in
/-- make of a row whose elements take one cell. -/
theorem make_one {w : World} {ops : Array Oper} {rest : List Oper} {o : Oper} {a : Act} {Q : Exit → Act → World → Prop} (hgd : o.guard = none) (l c : Operand) (T E : TypeId) (z : Value) (by' : Nat)
    (hu : Try.prog.underlying T = some (.slice E)) (hin : (Try.prog.info? E).map (fun i => (i.zero, i.size, i.bytes)) = some (some z, 1, by')) (hz : z.cells = #[z]) (hby : by' ≤ 64)
    (hop : o.op = Op.makeSlice T l c) (n : Nat) (hl : a.eval l = .int .i64 n) (hc : a.eval c = .int .i64 n) (hn : n ≤ 1000000)
    (h : ∀ w' Z, Hid (Z = List.replicate n z) → Hid (w'.heap[w.heap.size]? = some (.cells Z.toArray E (0, 0))) → Below w.heap.size w w' → wpList Try.prog ops Q rest (a.put o.dst (.slice (some ⟨w.heap.size, 0, none⟩) n n)) w') : wpList Try.prog ops Q (o :: rest) a w := by
  obtain ⟨i0, hi, hz0, hz1, hz2⟩ := info_parts hin
  refine wpList_make_full w hgd l c T hop w.heap.size E i0 z 1 hu hi hz0 hz1 .i64 .i64 n n n hl hc rfl rfl (by rw [hz2]; exact Nat.le_trans (Nat.mul_le_mul hby hn) (by decide)) (by unfold maxLen; omega) (Nat.le_refl _) ?_
  intro w' h1 h2
  refine h w' _ (Lib.hid rfl) ?_ ((Below.refl _ _).grown h2 (Nat.le_refl _) (fun k h => by cases h))
  rw [hz, toList_madeCells_one, Nat.mul_one] at h1
  rcases h1.2 with ⟨hv, _⟩ | ⟨g, cap, cur, hv, _, hg, _, _, hcs, ht⟩
  · injection hv with e1; cases e1
  · injection hv with e1 e2 e3
    injection e1 with e1
    injection e1 with e1
    subst e1; subst e3
    rw [List.take_of_length_le (by rw [Array.length_toList, hcs]; exact Nat.le_refl _)] at ht
    show _ = _
    rw [hg, ← ht]

theorem own_of_bk {w : World} {B g T S n : Nat} {cs : Array Value} {xs : List Value} (h : w.heap[g]? = some (.cells cs T (0, 0))) (hcs : cs.toList = xs) (hB : B ≤ g) (hl : xs.length = n * S) (hn : n ≤ 1000000) : w.ownsRow B T S (.slice (some ⟨g, 0, none⟩) n n) n xs :=
  ⟨hl, .inr ⟨g, n, cs, rfl, hB, h, Nat.le_refl _, by unfold maxLen; omega, by rw [← Array.length_toList, hcs, hl], by rw [hcs, ← hl, List.take_length]⟩⟩

theorem bal {a w : World} (h : Below a.heap.size a w) (o : Obj) : Below a.heap.size a (w.alloc o) := h.alloc h.size o
theorem bdr {a w : World} (h : Below a.heap.size a w) : Below a.heap.size a w.drew := h.drew
theorem bk_alloc {w : World} {g T : Nat} {cs : Array Value} (h : Bk w g T cs) (o : Obj) : Bk (w.alloc o) g T cs := by
  have := h.lt
  unfold Bk at *
  rw [show (w.alloc o).heap = w.heap.push o from rfl, Array.getElem?_push_lt this, ← h, Array.getElem?_eq_getElem this]
theorem bk_drew {w : World} {g T : Nat} {cs : Array Value} (h : Bk w g T cs) : Bk w.drew g T cs := h
theorem bk_at {w : World} {g T : Nat} {cs : Array Value} (h : g = w.heap.size) : Bk (w.alloc (.cells cs T)) g T cs := h ▸ Bk.new w T cs
theorem bk_at2 (a : World) (o : Obj) (T : Nat) (cs : Array Value) : Bk ((a.alloc o).alloc (.cells cs T)) (a.heap.size + 1) T cs := bk_at (by rw [alloc_size])
theorem setCell_size (w : World) (p : Addr) (u : Value) : (w.setCell p u).heap.size = w.heap.size := by simp
/-- A row of one type stands behind a store into a block of another. -/
theorem own_setT {w : World} {B T S n g5 T' j : Nat} {v u : Value} {xs : List Value} {cs : Array Value} (h : w.ownsRow B T S v n xs) (hb : Bk w g5 T' cs) (hT : T ≠ T') : (w.setCell ⟨g5, j, none⟩ u).ownsRow B T S v n xs := by
  obtain ⟨h1, h2⟩ := h
  refine ⟨h1, ?_⟩
  rcases h2 with h2 | ⟨g, cap, cur, hv, hg, hh, r⟩
  · exact .inl h2
  · have hne : g ≠ g5 := by
      intro e
      subst e
      have hb' : w.heap[g]? = _ := hb
      rw [hh] at hb'
      injection hb' with hb'
      injection hb' with _ e _
      exact hT e
    exact .inr ⟨g, cap, cur, hv, hg, (heap_setCell_other _ _ _ _ hne).trans hh, r⟩
theorem own_types {w : World} {B B' T T' S S' n n' : Nat} {v v' : Value} {xs xs' : List Value} (h : w.ownsRow B T S v n xs) (h' : w.ownsRow B' T' S' v' n' xs') (hT : T ≠ T') : v.ownBlock = none ∨ v.ownBlock ≠ v'.ownBlock := by
  rcases h.2 with ⟨rfl, _⟩ | ⟨g, cap, cur, rfl, _, hh, _⟩
  · exact .inl rfl
  · refine .inr fun e => ?_
    rcases h'.2 with ⟨rfl, _⟩ | ⟨g', cap', cur', rfl, _, hh', _⟩
    · cases e
    · have e' : g = g' := by simpa [Value.ownBlock] using e
      subst e'
      rw [hh] at hh'
      injection hh' with hh'
      injection hh' with _ e _
      exact hT e
/-- append of one slice to a row of slices, at a step of a region that draws. -/
theorem step_app1 {w : World} {ops : Array Oper} {o : Oper} {a : Act} {K : Act → World → Prop} {Q : Exit → Act → World → Prop} {E' : Prop} (hgd : o.guard = none) (s x : Operand) (T E : TypeId)
    (ho : o.op = .call { callee := .builtin .append, args := #[s, x], argTypes := #[T, T] }) (hu : Try.prog.underlying T = some (.slice E)) (hin : (Try.prog.info? E).map (fun i => (i.zero, i.size, i.bytes)) = some (some (.slice none 0 0), 1, 24))
    (base : Nat) (v : Value) (n : Nat) (xs : List Value) (hs : a.eval s = v) (hown : w.ownsRow base E 1 v n xs) (g : Nat) (u : Value) (hx : a.eval x = .slice (some ⟨g, 0, none⟩) 1 1) (hg : Bk w g E #[u]) (h1 : u.oneCell' = true) (hn : n ≤ 1000000) (hbase : base ≤ w.heap.size) (zs : List Value) (hz : xs ++ [u] = zs)
    (h : ∀ g' cap w', w'.ownsRow base E 1 (.slice (some ⟨g', 0, none⟩) (n + 1) cap) (n + 1) zs → Below base w w' → w.grownBy w' v.ownBlock → K (a.put o.dst (.slice (some ⟨g', 0, none⟩) (n + 1) cap)) w') :
    if Region.wanted o (yielded ops a.tmps) = true then Oper.wp Try.prog o a w K Q else E' := by
  obtain ⟨i0, hi, hz0, hz1, hz2⟩ := info_parts hin
  subst hz
  refine step_append_lies _ hgd s x T ho base E i0 (.slice none 0 0) 1 24 hu hi hz0 hz1 hz2 rfl (by decide) v n xs hs hown ⟨g, 0, none⟩ 1 1 [u] hx rfl (fun j y hy => World.news_of_block (show w.heap[g]? = some (.cells #[u] E (0, 0)) from hg) j y (by simpa using hy)) (by intro y hy; rw [List.mem_singleton.1 hy]; exact h1) (by decide) (by unfold maxLen; omega) (by omega) hbase _ rfl ?_
  intro g' cap w' h2 h3 _ _
  exact h g' cap w' h2 ((Below.refl base w).grown h3 hbase (fun k hk => (hown.lt k hk).1)) h3

theorem own_new {w : World} {B T : Nat} {n : Nat} {cs : List Value} (hB : B ≤ w.heap.size) (hl : cs.length = n) (hn : n ≤ 1000000) : (w.alloc (.cells cs.toArray T)).ownsRow B T 1 (.slice (some ⟨w.heap.size, 0, none⟩) n n) n cs :=
  own_of_bk (Bk.new w T cs.toArray) rfl hB (by rw [hl, Nat.mul_one]) hn

theorem own_frame {w w' : World} {B T S n g5 T' : Nat} {v : Value} {xs : List Value} {cs : Array Value} (h : w.ownsRow B T S v n xs) (f : ∀ g, g < w.heap.size → g ≠ g5 → w'.heap[g]? = w.heap[g]?) (hb : Bk w g5 T' cs) (hT : T ≠ T') : w'.ownsRow B T S v n xs := by
  obtain ⟨h1, h2⟩ := h
  refine ⟨h1, ?_⟩
  rcases h2 with h2 | ⟨g, cap, cur, hv, hg, hh, r⟩
  · exact .inl h2
  · have hne : g ≠ g5 := by
      intro e
      subst e
      have hb' : w.heap[g]? = _ := hb
      rw [hh] at hb'
      injection hb' with hb'
      injection hb' with _ e _
      exact hT e
    exact .inr ⟨g, cap, cur, hv, hg, (f g (Array.getElem?_eq_some_iff.1 hh).1 hne).trans hh, r⟩
def NilOK (v : Value) : Prop := v = .slice none 0 0 ∨ ∃ a n c, v = .slice (some a) n c

theorem cell_spot {w : World} {b off : Nat} {sp : Option Nat} {x : Value} (h : w.cell? ⟨b, off, sp⟩ = some x) : sp = none ∧ b < w.heap.size := by
  unfold World.cell? at h
  constructor
  · cases sp with
    | none => rfl
    | some k => split at h <;> simp at h
  · rcases Nat.lt_or_ge b w.heap.size with h' | h'
    · exact h'
    · simp [Array.getElem?_eq_none h'] at h

theorem open_gen {α H : Type} {enc : TypeId × Value → H} {W : World} {fuel T E S : Nat} {c : Value} {x : DataW H × List MemPlace} (z : α) (hT : Try.prog.underlying T = some (.slice E)) (hS : Try.prog.cellsOf E = S) (h0 : 0 < S) (R : Nat → Nat → α → Prop)
    (hR : ∀ n cs y b off, DataW.trod enc Try.prog W 0 (fun _ => true) true n E cs = some y → cs.length = S → (∀ j, j < S → W.cell? ⟨b, off + j, none⟩ = cs[j]?) → b < W.heap.size → ∃ t, R b off t)
    (h : DataW.trod enc Try.prog W 0 (fun _ => true) true fuel T [c] = some x) :
    ∃ (ts : List α) (ad : Option Addr) (cap : Nat), c = .slice ad ts.length cap ∧ NilOK c ∧ ts.length ≤ cap ∧ cap ≤ maxLen ∧ ∀ i, (hi : i < ts.length) → ∃ b off, ad = some ⟨b, off, none⟩ ∧ b < W.heap.size ∧ R b (off + i * S) ts[i] := by
  haveI : Inhabited α := ⟨z⟩
  rcases Deep.open_slice hT h with ⟨hcs, _⟩ | ⟨a, len, cap, m, n, D, Pl, hcs, _, hl, hm, hmm, _, hx⟩
  · obtain rfl : c = .slice none 0 0 := (List.cons.inj hcs).1
    exact ⟨[], none, 0, rfl, .inl rfl, Nat.zero_le _, Nat.zero_le _, fun i hi => absurd hi (Nat.not_lt_zero _)⟩
  · obtain rfl : c = .slice (some a) len cap := (List.cons.inj hcs).1
    rw [hS] at hx
    simp only [if_true] at hmm
    by_cases hz : len = 0
    · subst hz
      exact ⟨[], some a, cap, rfl, .inr ⟨_, _, _, rfl⟩, Nat.zero_le _, hm, fun i hi => absurd hi (Nat.not_lt_zero _)⟩
    · obtain ⟨b, off, sp⟩ := a
      obtain ⟨rfl, hb⟩ : sp = none ∧ b < W.heap.size := by
        obtain ⟨cs', h1, _⟩ := hx 0 (by omega)
        obtain ⟨_, hcl, hat⟩ := World.cells?_some h1
        have k := hat 0 h0
        have e0 : ((⟨b, off, sp⟩ : Addr).add (0 * S)).add 0 = ⟨b, off, sp⟩ := by simp [Addr.add]
        rw [e0, List.getElem?_eq_getElem (by omega)] at k
        exact cell_spot k
      have e : ∀ j, (⟨b, off, none⟩ : Addr).add j = ⟨b, off + j, none⟩ := by
        intro j; unfold Addr.add; split <;> simp_all
      have hc : ∀ i, i < len → ∃ t : α, R b (off + i * S) t := by
        intro i hi
        obtain ⟨cs', h1, h2⟩ := hx i (by omega)
        obtain ⟨_, hcl, hat⟩ := World.cells?_some h1
        refine hR n cs' _ b (off + i * S) h2 hcl (fun j hj => ?_) hb
        have k := hat j hj
        rw [Deep.add_add, e, ← Nat.add_assoc] at k
        exact k
      obtain ⟨V, hV⟩ := Deep.choose_lt (α := α) (p := fun i t => R b (off + i * S) t) hc
      refine ⟨(List.range len).map V, some ⟨b, off, none⟩, cap, by simp, .inr ⟨_, _, _, rfl⟩, by simpa using hl, hm, fun i hi => ?_⟩
      have hi' : i < len := by simpa using hi
      refine ⟨b, off, rfl, hb, ?_⟩
      simp only [List.getElem_map, List.getElem_range]
      exact hV i hi'

theorem nil_cap {ad : Option Addr} {n cap : Nat} (h : NilOK (.slice ad n cap)) : ad = none → cap = 0 := by
  rintro rfl
  rcases h with h | ⟨_, _, _, h⟩
  · injection h
  · injection h with h; cases h


theorem open_sl {α : Type} {H : Type} {enc : TypeId × Value → H} {W : World} {fuel T E S : Nat} {c : Value} {x : DataW H × List MemPlace} (z : α) (hT : Try.prog.underlying T = some (.slice E)) (hS : Try.prog.cellsOf E = S) (h0 : 0 < S) (R : World → Nat → Nat → α → Prop)
    (hR : ∀ n cs y b off, DataW.trod enc Try.prog W 0 (fun _ => true) true n E cs = some y → cs.length = S → (∀ j, j < S → W.cell? ⟨b, off + j, none⟩ = cs[j]?) → b < W.heap.size → ∃ t, R W b off t)
    (h : DataW.trod enc Try.prog W 0 (fun _ => true) true fuel T [c] = some x) : ∃ ts : List α, SlD S R W c ts := by
  obtain ⟨ts, ad, cap, hc, h1, h2, h3, h4⟩ := open_gen z hT hS h0 (R W) hR h
  subst hc
  exact ⟨ts, ad, cap, rfl, ⟨h2, nil_cap h1⟩, by unfold maxLen at h3; omega, h4⟩

theorem own_put {w : World} {B T n k : Nat} {v : Value} {xs : List Value} (h : w.ownsRow B T 1 v n xs) (hk : k < n) :
    ∃ g cap, v = .slice (some ⟨g, 0, none⟩) n cap ∧ B ≤ g ∧ g < w.heap.size ∧ w.cell? ⟨g, k, none⟩ = xs[k]? ∧ w.frozen? ⟨g, k, none⟩ = false ∧ ∀ u, (w.setCell ⟨g, k, none⟩ u).ownsRow B T 1 v n (xs.set k u) := by
  obtain ⟨h1, h2⟩ := h
  rcases h2 with ⟨_, h2⟩ | ⟨g, cap, cur, rfl, hB, hg, hle, hm, hcs, ht⟩
  · omega
  · have hb : Bk w g T cur := hg
    refine ⟨g, cap, rfl, hB, hb.lt, ?_, hb.fz k, fun u => ⟨by rw [List.length_set, h1], .inr ⟨g, cap, cur.setIfInBounds k u, rfl, hB, heap_setCell_same w g k cur T u hg, hle, hm, by rw [Array.size_setIfInBounds, hcs], ?_⟩⟩⟩
    · rw [hb.cell k, ← ht, List.getElem?_take_of_lt (by omega), Array.getElem?_toList]
    · rw [Array.toList_setIfInBounds, List.take_set, ht]

theorem own_else {w : World} {B T S n g k : Nat} {v x u : Value} {xs : List Value} (h : w.ownsRow B T S v n xs) (hx : x.ownBlock = some g) (ha : Apart x v) : (w.setCell ⟨g, k, none⟩ u).ownsRow B T S v n xs :=
  ownsRow_setCell_other h (a := ⟨g, k, none⟩) (ha g hx) u
theorem apart_types {w : World} {B B' T T' S S' n n' : Nat} {v v' : Value} {xs xs' : List Value} (h : w.ownsRow B T S v n xs) (h' : w.ownsRow B' T' S' v' n' xs') (hT : T ≠ T') : Apart v v' := fun g h1 h2 => by
  rcases own_types h h' hT with e | e
  · rw [e] at h1; cases h1
  · exact e (h1.trans h2.symm)

/-- append of one element that takes one cell to a row of one's own: where the new row lies. -/
theorem list_app1 {w : World} {ops : Array Oper} {rest : List Oper} {o : Oper} {a : Act} {Q : Exit → Act → World → Prop} (hgd : o.guard = none) (s x : Operand) (T E : TypeId) (z : Value) (by' : Nat)
    (ho : o.op = .call { callee := .builtin .append, args := #[s, x], argTypes := #[T, T] }) (hu : Try.prog.underlying T = some (.slice E)) (hin : (Try.prog.info? E).map (fun i => (i.zero, i.size, i.bytes)) = some (some z, 1, by')) (hz1 : z.cells.size = 1) (hby : by' ≤ 64)
    (base : Nat) (v : Value) (n : Nat) (xs : List Value) (hs : a.eval s = v) (hown : w.ownsRow base E 1 v n xs) (g : Nat) (u : Value) (hx : a.eval x = .slice (some ⟨g, 0, none⟩) 1 1) (hg : Bk w g E #[u]) (h1 : u.oneCell' = true) (hn : n ≤ 1000000) (hbase : base ≤ w.heap.size) (zs : List Value) (hz : xs ++ [u] = zs)
    (h : ∀ g' cap w', Hid (w'.ownsRow base E 1 (.slice (some ⟨g', 0, none⟩) (n + 1) cap) (n + 1) zs) → Hid (Below base w w') → Hid (w.grownBy w' v.ownBlock) → Hid (v.ownBlock = some g' ∨ g' = w.heap.size) → wpList Try.prog ops Q rest (a.put o.dst (.slice (some ⟨g', 0, none⟩) (n + 1) cap)) w') :
    wpList Try.prog ops Q (o :: rest) a w := by
  obtain ⟨i0, hi, hz0, hz2, hz3⟩ := info_parts hin
  subst hz
  refine wpList_append_lies _ hgd s x T ho base E i0 z 1 by' hu hi hz0 hz2 hz3 hz1 (by decide) v n xs hs hown ⟨g, 0, none⟩ 1 1 [u] hx rfl (fun j y hy => World.news_of_block (show w.heap[g]? = some (.cells #[u] E (0, 0)) from hg) j y (by simpa using hy)) (by intro y hy; rw [List.mem_singleton.1 hy]; exact h1) (by decide) (by unfold maxLen; omega) (Nat.le_trans (Nat.mul_le_mul (by omega : n + 1 ≤ 1000001) hby) (by decide)) hbase _ rfl ?_
  intro g' cap w' h2 h3 h4 _
  exact h g' cap w' (Lib.hid h2) (Lib.hid ((Below.refl base w).grown h3 hbase (fun k hk => (hown.lt k hk).1))) (Lib.hid h3) (Lib.hid h4)

theorem own_ne_bk {w : World} {B T S n gc T' : Nat} {v : Value} {xs : List Value} {cs : Array Value} (h : w.ownsRow B T S v n xs) (hb : Bk w gc T' cs) (hT : T ≠ T') : some gc ≠ v.ownBlock := by
  rcases h.2 with ⟨rfl, _⟩ | ⟨g, cap, cur, rfl, _, hh, _⟩
  · intro e; cases e
  · intro e
    have e' : gc = g := by simpa [Value.ownBlock] using e
    subst e'
    have hb' : w.heap[gc]? = _ := hb
    rw [hh] at hb'
    injection hb' with hb'
    injection hb' with _ e _
    exact hT e
theorem bk_grown {w w' : World} {g T : Nat} {cs : Array Value} {row : Option Nat} (h : Bk w g T cs) (hg : w.grownBy w' row) (hne : some g ≠ row) : Bk w' g T cs := (hg.block g h.lt hne).trans h

theorem str_ne {a b : ByteArray} (h : a ≠ b) : (a.toList == b.toList) = false := by
  rw [ByteArray.toList_eq, ByteArray.toList_eq]
  refine beq_eq_false_iff_ne.2 fun e => h ?_
  cases a; cases b
  exact congrArg ByteArray.mk (Array.toList_inj.1 e)

/-- The first k are done. -/
def mixL {α : Type} (f g : Nat → α) (n k : Nat) : List α := (List.range n).map fun j => if j < k then f j else g j
theorem mix_len {α : Type} (f g : Nat → α) (n k : Nat) : (mixL f g n k).length = n := by simp [mixL]
theorem mix_zero {α : Type} (f g : Nat → α) (n : Nat) : mixL f g n 0 = (List.range n).map g := by
  unfold mixL
  refine List.map_congr_left fun j _ => if_neg (by omega)
theorem mix_all {α : Type} (f g : Nat → α) (n : Nat) : mixL f g n n = (List.range n).map f := by
  unfold mixL
  refine List.map_congr_left fun j hj => if_pos (List.mem_range.1 hj)
theorem mix_set {α : Type} (f g : Nat → α) (n k : Nat) (x : α) (h : k < n) (hx : x = f k) : (mixL f g n k).set k x = mixL f g n (k + 1) := by
  subst hx
  unfold mixL
  apply List.ext_getElem
  · simp
  · intro i h1 h2
    have hi : i < n := by simpa using h2
    rw [List.getElem_set]
    simp only [List.getElem_map, List.getElem_range]
    by_cases he : k = i
    · subst he
      rw [if_pos rfl, if_pos (by omega)]
    · rw [if_neg he]
      by_cases hl : i < k
      · rw [if_pos hl, if_pos (by omega)]
      · rw [if_neg hl, if_neg (by omega)]
theorem mix_at {α : Type} (f g : Nat → α) (n k : Nat) (d : α) (h : k < n) : (mixL f g n k).getD k d = g k := by
  unfold mixL
  rw [List.getD_eq_getElem?_getD, List.getElem?_eq_getElem (by simpa using h)]
  simp
theorem range_rep {α : Type} (x : α) (n : Nat) : (List.range n).map (fun _ => x) = List.replicate n x := by
  apply List.ext_getElem
  · simp
  · intro i h1 h2; simp

end Go.Proofs.Ytkdpimifojjhaaa
