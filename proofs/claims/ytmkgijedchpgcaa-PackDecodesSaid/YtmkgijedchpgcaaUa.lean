/- Base of the later layers: worlds, blocks, slices as they are read; entries, numbers, steps of code. -/
import Derived.Test.YtmkgijedchpgcaaRows
import Derived.WalkKit
import Derived.WalkSpells
import Derived.WalkLawsBesides
import Derived.Lib.Hide
import Derived.Lib.OthersKept
import Derived.Deep.LoopGhost
import Derived.Deep.QuietTactic
import Derived.BigQuiet
import Derived.IntWalk
import Derived.Laws.StructEq
import Derived.Laws.OwnMore
import Derived.Laws.CopyOwn
import Derived.Deep.AppendLies
import Derived.Deep.AppendSrc
import Derived.Laws.AppendOwnNone
import Derived.Laws.EntriesVeiled
import Derived.Deep.RegionHeld3
namespace Go.Proofs.Ytmkgijedchpgcaa
set_option linter.unusedSimpArgs false
set_option linter.unusedVariables false
open Go.RowKit
set_option maxRecDepth 20000

theorem ret_bool {a b : Bool} (h : a = b) : Ending.returned (.bool a) = .returned (.bool b) := by rw [h]
theorem ret_int {k : IntKind} {a b : Int} (h : a = b) : Ending.returned (.int k a) = .returned (.int k b) := by rw [h]
theorem drop_over {α : Type} (l : List α) (k : Nat) (h : ¬ k < l.length) : l.drop k = [] := List.drop_eq_nil_of_le (by omega)
theorem alloc_size (w : World) (o : Obj) : (w.alloc o).heap.size = w.heap.size + 1 := Array.size_push ..

theorem own_below {w w' : World} {B e size n : Nat} {v : Value} {xs : List Value} (h : w.ownsRow B e size v n xs) (hb : Below w.heap.size w w') : w'.ownsRow B e size v n xs := by
  obtain ⟨h1, h2⟩ := h
  refine ⟨h1, ?_⟩
  rcases h2 with h2 | ⟨g, cap, cur, hv, hg, hh, r⟩
  · exact .inl h2
  · exact .inr ⟨g, cap, cur, hv, hg, by rw [hb.block g (Array.getElem?_eq_some_iff.1 hh).1]; exact hh, r⟩

/-- A block of one's own. -/
def Bk (w : World) (b T : Nat) (cs : Array Value) : Prop := w.heap[b]? = some (.cells cs T (0, 0))
section
variable {w w' : World} {b T r : Nat} {cs : Array Value}
theorem Bk.lt (h : Bk w b T cs) : b < w.heap.size := (Array.getElem?_eq_some_iff.1 h).1
theorem Bk.below (h : Bk w b T cs) (hb : Below w.heap.size w w') : Bk w' b T cs := by
  have := Bk.lt h
  unfold Bk at *; rw [hb.block b this]; exact h
theorem Bk.cell (h : Bk w b T cs) (j : Nat) : w.cell? ⟨b, j, none⟩ = cs[j]? := by
  unfold Bk at h
  simp [World.cell?, h]
theorem Bk.fz (h : Bk w b T cs) (j : Nat) : w.frozen? ⟨b, j, none⟩ = false := by
  unfold Bk at h
  simp [World.frozen?, h]
theorem Bk.new (w : World) (T : Nat) (cs : Array Value) : Bk (w.alloc (.cells cs T)) w.heap.size T cs := heap_alloc_new w _
end

theorem addr_add' (g o j : Nat) : (⟨g, o, none⟩ : Addr).add j = ⟨g, o + j, none⟩ := by unfold Addr.add; split <;> simp_all

/-- A slice, each element as R tells. -/
def SlD {α : Type} (S : Nat) (R : World → Nat → Nat → α → Prop) (w : World) (v : Value) (xs : List α) : Prop :=
  ∃ ad cap, v = .slice ad xs.length cap ∧ (xs.length ≤ cap ∧ (ad = none → cap = 0)) ∧ cap ≤ 9223372036854775807 ∧ ∀ i, (hi : i < xs.length) → ∃ b off, ad = some ⟨b, off, none⟩ ∧ b < w.heap.size ∧ R w b (off + i * S) xs[i]
theorem SlD.mono {α : Type} {S : Nat} {R : World → Nat → Nat → α → Prop} {w w' : World} {v : Value} {xs : List α} (h : SlD S R w v xs) (hb : w.heap.size ≤ w'.heap.size) (hR : ∀ b off x, b < w.heap.size → R w b off x → R w' b off x) : SlD S R w' v xs := by
  obtain ⟨ad, cap, hv, h1, h2, hc⟩ := h
  refine ⟨ad, cap, hv, h1, h2, fun i hi => ?_⟩
  obtain ⟨b, off, ha, hl, g1⟩ := hc i hi
  exact ⟨b, off, ha, Nat.lt_of_lt_of_le hl hb, hR _ _ _ hl g1⟩
theorem SlD.shape {α : Type} {S : Nat} {R : World → Nat → Nat → α → Prop} {w : World} {v : Value} {xs : List α} (h : SlD S R w v xs) : ∃ ad cap, v = .slice ad xs.length cap ∧ xs.length ≤ cap ∧ cap ≤ 9223372036854775807 := by
  obtain ⟨ad, cap, hv, h1, h2, _⟩ := h; exact ⟨ad, cap, hv, h1.1, h2⟩
theorem SlD.nil {α : Type} {S : Nat} {R : World → Nat → Nat → α → Prop} {w : World} : SlD S R w (.slice none 0 0) [] := ⟨none, 0, rfl, ⟨Nat.le_refl _, fun _ => rfl⟩, by omega, fun i hi => absurd hi (Nat.not_lt_zero _)⟩
theorem SlD.take {α : Type} {S : Nat} {R : World → Nat → Nat → α → Prop} {w : World} {ad : Option Addr} {n cap : Nat} {l : List α} (h : SlD S R w (.slice ad n cap) l) (k c : Nat) (hk : k ≤ n) (hc1 : k ≤ c) (hc2 : c ≤ cap) : SlD S R w (.slice ad k c) (l.take k) := by
  obtain ⟨ad', cap', hv, h1, h2, hc⟩ := h
  cases hv
  refine ⟨ad, c, by rw [List.length_take, Nat.min_eq_left hk], ⟨by rw [List.length_take]; omega, fun h => by have := h1.2 h; omega⟩, by omega, fun i hi => ?_⟩
  rw [List.length_take] at hi
  obtain ⟨b', off', he, hl, h⟩ := hc i (by omega)
  refine ⟨b', off', he, hl, ?_⟩
  rw [List.getElem_take]
  exact h
theorem SlD.drop {α : Type} {S : Nat} {R : World → Nat → Nat → α → Prop} {w : World} {ad : Option Addr} {n cap : Nat} {l : List α} (h : SlD S R w (.slice ad n cap) l) (k s : Nat) (hs : s = S) (hk : k ≤ n) : SlD S R w (sliced ad k n cap s) (l.drop k) := by
  subst hs
  obtain ⟨ad', cap', hv, h1, h2, hc⟩ := h
  cases hv
  unfold sliced
  refine ⟨_, _, by rw [List.length_drop], ⟨by rw [List.length_drop]; omega, fun h => ?_⟩, by omega, fun i hi => ?_⟩
  · by_cases he : cap = k
    · omega
    · rw [if_neg he] at h
      cases ad with
      | none => have := h1.2 rfl; omega
      | some a => cases h
  rw [List.length_drop] at hi
  obtain ⟨b', off', he, hl, h⟩ := hc (k + i) (by omega)
  subst he
  rw [if_neg (by omega)]
  refine ⟨b', off' + k * s, by show some ((⟨b', off', none⟩ : Addr).add (k * s)) = _; rw [addr_add'], hl, ?_⟩
  rw [List.getElem_drop, show off' + k * s + i * s = off' + (k + i) * s by rw [Nat.add_mul]; omega]
  exact h

/-- An entry: its location, its number. -/
abbrev Ent := Int × Int
def cellsE (e : Ent) : List Value := [.int .i64 e.1, .int .i64 e.2]
def rowE (l : List Ent) : List Value := l.flatMap cellsE
def EntAt (w : World) (b off : Nat) (e : Ent) : Prop := w.cell? ⟨b, off, none⟩ = some (.int .i64 e.1) ∧ w.cell? ⟨b, off + 1, none⟩ = some (.int .i64 e.2)
def IntAt (w : World) (b off : Nat) (x : Int) : Prop := w.cell? ⟨b, off, none⟩ = some (.int .i64 x)
abbrev EntsD := SlD 2 EntAt
abbrev IntsD := SlD 1 IntAt
section
variable {w w' : World} {v : Value}
theorem EntsD.below {xs : List Ent} (h : EntsD w v xs) (hb : Below w.heap.size w w') : EntsD w' v xs := h.mono hb.size fun _ _ _ hl h => ⟨(hb.cell (p := ⟨_, _, none⟩) hl).trans h.1, (hb.cell (p := ⟨_, _, none⟩) hl).trans h.2⟩
theorem IntsD.below {xs : List Int} (h : IntsD w v xs) (hb : Below w.heap.size w w') : IntsD w' v xs := h.mono hb.size fun _ _ _ hl h => (hb.cell (p := ⟨_, _, none⟩) hl).trans h
end

theorem flat_at {α : Type} (f : α → List Value) (S : Nat) (hS : ∀ x, (f x).length = S) (l : List α) : ∀ i, (h : i < l.length) → ∀ k, (hk : k < S) → (l.flatMap f)[i * S + k]? = some ((f l[i])[k]'(by rw [hS]; exact hk)) := by
  induction l with
  | nil => intro i h; exact absurd h (Nat.not_lt_zero _)
  | cons a l ih =>
    intro i h k hk
    cases i with
    | zero =>
      rw [List.flatMap_cons, Nat.zero_mul, Nat.zero_add, List.getElem?_append_left (by rw [hS]; exact hk), List.getElem?_eq_getElem (by rw [hS]; exact hk)]
      rfl
    | succ i =>
      rw [List.flatMap_cons, List.getElem?_append_right (by rw [hS, Nat.succ_mul]; omega), hS, show (i + 1) * S + k - S = i * S + k by rw [Nat.succ_mul]; omega]
      exact ih i (by simpa using h) k hk

theorem slD_of_bk {α : Type} (f : α → List Value) (S : Nat) (hS : ∀ x, (f x).length = S) {R : World → Nat → Nat → α → Prop} {w : World} {g T : Nat} {cs : Array Value} {xs : List α} (h : Bk w g T cs) (hcs : cs.toList = xs.flatMap f) (hl : xs.length ≤ 1000000)
    (hR : ∀ i, (hi : i < xs.length) → (∀ k, (hk : k < S) → w.cell? ⟨g, i * S + k, none⟩ = some ((f xs[i])[k]'(by rw [hS]; exact hk))) → R w g (i * S) xs[i]) : SlD S R w (.slice (some ⟨g, 0, none⟩) xs.length xs.length) xs := by
  refine ⟨_, _, rfl, ⟨Nat.le_refl _, fun h => by cases h⟩, by omega, fun i hi => ⟨g, 0, rfl, h.lt, ?_⟩⟩
  rw [Nat.zero_add]
  refine hR i hi fun k hk => ?_
  rw [h.cell (i * S + k), ← Array.getElem?_toList, hcs]
  exact flat_at f S hS xs i hi k hk
theorem entsD_of_bk {w : World} {g T : Nat} {cs : Array Value} {xs : List Ent} (h : Bk w g T cs) (hcs : cs.toList = rowE xs) (hl : xs.length ≤ 1000000) : EntsD w (.slice (some ⟨g, 0, none⟩) xs.length xs.length) xs :=
  slD_of_bk cellsE 2 (fun _ => rfl) h hcs hl fun i hi hk => ⟨hk 0 (by decide), hk 1 (by decide)⟩
theorem intsD_of_bk {w : World} {g T : Nat} {cs : Array Value} {xs : List Int} (h : Bk w g T cs) (hcs : cs.toList = xs.flatMap fun x => [Value.int .i64 x]) (hl : xs.length ≤ 1000000) : IntsD w (.slice (some ⟨g, 0, none⟩) xs.length xs.length) xs :=
  slD_of_bk (fun x => [Value.int .i64 x]) 1 (fun _ => rfl) h hcs hl fun i hi hk => hk 0 (by decide)
theorem slD_of_own {α : Type} (f : α → List Value) (S : Nat) (hS : ∀ x, (f x).length = S) {R : World → Nat → Nat → α → Prop} {w : World} {B T : Nat} {v : Value} {xs : List α} (h : w.ownsRow B T S v xs.length (xs.flatMap f))
    (hR : ∀ g, ∀ i, (hi : i < xs.length) → (∀ k, (hk : k < S) → w.cell? ⟨g, i * S + k, none⟩ = some ((f xs[i])[k]'(by rw [hS]; exact hk))) → R w g (i * S) xs[i]) : SlD S R w v xs := by
  have hc := @World.ownsRow.cells _ _ _ _ _ _ _ h
  have hl := h.lt
  rcases h.2 with ⟨rfl, hn⟩ | ⟨g, cap, cur, rfl, _, hh, hle, hcm, _⟩
  · obtain rfl := List.eq_nil_of_length_eq_zero hn
    exact SlD.nil
  · refine ⟨_, cap, rfl, ⟨hle, fun h => by cases h⟩, by unfold maxLen at hcm; omega, fun i hi => ?_⟩
    refine ⟨g, 0, rfl, (hl g rfl).2, ?_⟩
    rw [Nat.zero_add]
    refine hR g i hi fun k hk => ?_
    have := hc (g := g) rfl (i * S + k) _ (flat_at f S hS xs i hi k hk)
    rwa [addr_add', Nat.zero_add] at this
theorem entsD_of_own {w : World} {B T : Nat} {v : Value} {l : List Ent} (h : w.ownsRow B T 2 v l.length (rowE l)) : EntsD w v l :=
  slD_of_own cellsE 2 (fun _ => rfl) h fun g i hi hk => ⟨hk 0 (by decide), hk 1 (by decide)⟩
theorem intsD_of_own {w : World} {B T : Nat} {v : Value} {l : List Int} (h : w.ownsRow B T 1 v l.length (l.flatMap fun x => [Value.int .i64 x])) : IntsD w v l :=
  slD_of_own (fun x => [Value.int .i64 x]) 1 (fun _ => rfl) h fun g i hi hk => hk 0 (by decide)

theorem rowE_len (l : List Ent) : (rowE l).length = l.length * 2 := by
  induction l with
  | nil => rfl
  | cons a r ih => simp only [rowE, List.flatMap_cons, List.length_append, List.length_cons, cellsE] at ih ⊢; simp only [List.length_nil]; omega
theorem rowE_app (a b : List Ent) : rowE (a ++ b) = rowE a ++ rowE b := by simp [rowE]
theorem rowE_one (l : List Ent) : ∀ u ∈ rowE l, u.oneCell' = true := by
  intro u hu
  obtain ⟨o, _, ho⟩ := List.mem_flatMap.1 hu
  simp [cellsE] at ho
  rcases ho with rfl | rfl <;> rfl

theorem ents_flat {w : World} {a : Addr} {n cap : Nat} {l : List Ent} (h : EntsD w (.slice (some a) n cap) l) : ∀ j u, (rowE l)[j]? = some u → w.cell? (a.add j) = some u := by
  intro j u hu
  obtain ⟨ad, cap', hv, _, _, hc⟩ := h
  injection hv with h1 h2 h3
  have hj : j < l.length * 2 := by rw [← rowE_len]; exact (List.getElem?_eq_some_iff.1 hu).1
  have hi : j / 2 < l.length := by omega
  obtain ⟨b', off', hb', hlt, x0, x1⟩ := hc _ hi
  rw [← h1] at hb'
  injection hb' with hb'
  subst hb'
  have hf := flat_at cellsE 2 (fun _ => rfl) l (j / 2) hi (j % 2) (by omega)
  have hjj : j / 2 * 2 + j % 2 = j := by omega
  rw [hjj] at hf
  have hu2 : (rowE l)[j]? = _ := hf
  rw [hu] at hu2
  injection hu2 with hu2
  rw [addr_add', hu2]
  have hm : j % 2 = 0 ∨ j % 2 = 1 := by omega
  rcases hm with hm | hm
  · have e : off' + j = off' + j / 2 * 2 := by omega
    rw [e]; simpa [cellsE, hm] using x0
  · have e : off' + j = off' + j / 2 * 2 + 1 := by omega
    rw [e]; simpa [cellsE, hm] using x1

theorem info_ent : (Try.prog.info? 50).map (fun i => (i.zero, i.size, i.bytes)) = some (some (.agg #[.int .i64 0, .int .i64 0]), 2, 16) := by kernel_rfl

/-- append of a row of entries to a row of one's own. -/
theorem append_ents {w : World} {ops : Array Oper} {rest : List Oper} {o : Oper} {a : Act} {Q : Exit → Act → World → Prop} (hgd : o.guard = none) (s x : Operand)
    (ho : o.op = .call { callee := .builtin .append, args := #[s, x], argTypes := #[48, 48] }) (base : Nat) (v : Value) (xs ys : List Ent) (hs : a.eval s = v) (ad : Option Addr) (m cap : Nat) (hx : a.eval x = .slice ad m cap)
    (hown : w.ownsRow base 50 2 v xs.length (rowE xs)) (hys : EntsD w (.slice ad m cap) ys) (hn : xs.length + ys.length ≤ 1000000) (hbase : base ≤ w.heap.size) (zs : List Ent) (hz : xs ++ ys = zs)
    (h : ∀ v' w', Hid (w'.ownsRow base 50 2 v' zs.length (rowE zs)) → Below base w w' → wpList Try.prog ops Q rest (a.put o.dst v') w') : wpList Try.prog ops Q (o :: rest) a w := by
  subst hz
  obtain ⟨i0, hi, hz0, hz1, hz2⟩ := info_parts info_ent
  have hm : ys.length = m ∧ (ad = none → cap = 0) ∧ ys.length ≤ cap := by
    obtain ⟨ad', cap', hv, h1, h2, hc⟩ := hys
    injection hv with e1 e2 e3
    subst e1; subst e2; subst e3
    exact ⟨rfl, h1.2, h1.1⟩
  obtain ⟨rfl, h0, h1⟩ := hm
  cases ad with
  | none =>
    have hc0 := h0 rfl
    have hy0 : ys = [] := List.eq_nil_of_length_eq_zero (by omega)
    subst hy0; subst hc0
    refine wpList_append_own_none hgd s x 48 ho base 50 i0 2 Try.underlying48 hi v xs.length (rowE xs) hs hown hx ?_
    exact h v w (Lib.hid (by rw [List.append_nil]; exact hown)) (Below.refl _ _)
  | some a0 =>
    refine wpList_append_own _ hgd s x 48 ho base 50 i0 (.agg #[.int .i64 0, .int .i64 0]) 2 16 Try.underlying48 hi hz0 hz1 hz2 rfl (by decide) v xs.length (rowE xs) hs hown a0 ys.length cap (rowE ys) hx (rowE_len ys) (ents_flat hys) (rowE_one ys) (by unfold maxLen; omega) (by omega) hbase ?_
    intro v' w' h1 h2 _
    refine h v' w' ?_ ((Below.refl base w).grown h2 hbase (fun k hk => (hown.lt k hk).1))
    show World.ownsRow _ _ _ _ _ _ _
    rw [List.length_append, rowE_app]
    exact h1

/-- append of one entry to a slice without room: a new row. -/
theorem append_full {w : World} {ops : Array Oper} {rest : List Oper} {o : Oper} {a : Act} {Q : Exit → Act → World → Prop} (hgd : o.guard = none) (s x : Operand)
    (ho : o.op = .call { callee := .builtin .append, args := #[s, x], argTypes := #[48, 48] }) (base : Nat) (ad : Option Addr) (n : Nat) (xs : List Ent) (x0 : Ent) (hs : a.eval s = .slice ad n n) (g : Nat) (hx : a.eval x = .slice (some ⟨g, 0, none⟩) 1 1)
    (hxs : EntsD w (.slice ad n n) xs) (hg : Bk w g 50 #[.int .i64 x0.1, .int .i64 x0.2]) (hn : n ≤ 1000000) (hbase : base ≤ w.heap.size) (zs : List Ent) (hz : xs ++ [x0] = zs)
    (h : ∀ g' cap w', Hid (w'.ownsRow base 50 2 (.slice (some ⟨g', 0, none⟩) (n + 1) cap) zs.length (rowE zs)) → Below base w w' → wpList Try.prog ops Q rest (a.put o.dst (.slice (some ⟨g', 0, none⟩) (n + 1) cap)) w') : wpList Try.prog ops Q (o :: rest) a w := by
  subst hz
  obtain ⟨i0, hi, hz0, hz1, hz2⟩ := info_parts info_ent
  have hm : xs.length = n := by
    obtain ⟨ad', cap', hv, h1, h2, hc⟩ := hxs
    injection hv with e1 e2 e3
    exact e2.symm
  subst hm
  have hold : (Builtin.firstCells i0.size xs.length (.slice ad xs.length xs.length)).run Try.prog w.drew = .ok (rowE xs).toArray w.drew := by
    cases ad with
    | none =>
      obtain ⟨ad', cap', hv, h1, h2, hc⟩ := hxs
      injection hv with e1 e2 e3
      subst e1
      have hy0 : xs = [] := List.eq_nil_of_length_eq_zero (by have := h1.2 rfl; omega)
      subst hy0
      exact run_firstCells_none w.drew i0.size 0 0 0
    | some a0 => exact run_firstCells_some w.drew i0.size xs.length a0 xs.length xs.length (rowE xs) (by rw [rowE_len, hz1]) (by simpa using ents_flat hxs)
  have hrun := run_append_grow_src (P := Try.prog) w 48 48 o.type 50 i0 (.agg #[.int .i64 0, .int .i64 0]) Try.underlying48 hi hz0 ad xs.length xs.length (rowE xs) hold (.slice (some ⟨g, 0, none⟩) 1 1) 1 [.int .i64 x0.1, .int .i64 x0.2]
    (Src.ofSlice w Try.underlying48 ⟨g, 0, none⟩ 1 1 _ (by rw [hz1]; rfl) (World.news_of_block hg) (fun u hu => by simp at hu; rcases hu with rfl | rfl <;> rfl)) (by omega) (by omega) (growslice_fits (by omega) (by rw [hz2]; omega))
  refine wpList_plain hgd fun K hK => ?_
  unfold Oper.wp
  simp [execOp, ho, resolve, invoke, builtin, hs, hx, hrun, Result.andThen]
  have hrow : ∀ cp cur, xs.length + 1 ≤ cp → cp ≤ maxLen → cur.size = cp * 2 → cur.toList.take ((xs.length + 1) * 2) = rowE (xs ++ [x0]) → (w.drew.alloc (.cells cur 50)).ownsRow base 50 2 (.slice (some ⟨w.heap.size, 0, none⟩) (xs.length + 1) cp) (xs ++ [x0]).length (rowE (xs ++ [x0])) := by
    intro cp cur h1 h2 h3 h4
    rw [List.length_append, List.length_cons, List.length_nil, Nat.zero_add]
    exact ⟨by rw [rowE_len, List.length_append]; rfl, .inr ⟨w.heap.size, _, _, rfl, hbase, heap_alloc_new w.drew _, h1, h2, h3, h4⟩⟩
  refine hK _ _ (h _ _ _ (hrow _ _ (grownCap_ge _ _ _ _) (grownCap_le_maxLen _ _ _ _ (by unfold maxLen; omega)) ?_ ?_) ?_)
  · have hge := grownCap_ge w (xs.length + 1) xs.length 50
    simp only [Array.size_append, List.size_toArray, size_zeroCells, List.length_append, rowE_len, List.length_cons, List.length_nil]
    show xs.length * 2 + 2 + (grownCap w (xs.length + 1) xs.length 50 - (xs.length + 1)) * 2 = _
    omega
  · have e : rowE (xs ++ [x0]) = rowE xs ++ [.int .i64 x0.1, .int .i64 x0.2] := by rw [rowE_app]; rfl
    rw [e]
    simp only [Array.toList_append]
    rw [show (xs.length + 1) * 2 = (rowE xs ++ [Value.int .i64 x0.1, .int .i64 x0.2]).length by rw [List.length_append, rowE_len]; simp only [List.length_cons, List.length_nil]; omega]
    exact List.take_left
  · exact ((Below.refl base w).drew).alloc hbase _

theorem run_copy_two {P : Program} (w : World) (dT sT ty elem : TypeId) (g o dLen dCap : Nat) (a : Addr) (sLen sCap : Nat) (cur : Array Value) (t : TypeId) (cs : List Value)
    (hu : P.underlying dT = some (.slice elem)) (hs : (P.info? elem).map (·.size) = some 2)
    (hg : w.heap[g]? = some (.cells cur t (0, 0))) (hn : cs.length = Nat.min sLen dLen * 2)
    (hsrc : ∀ j v, cs[j]? = some v → w.cell? (a.add j) = some v) (hfit : o + cs.length ≤ cur.size) (h1 : ∀ v ∈ cs, v.oneCell' = true) :
    (Builtin.copy_ #[dT, sT] ty #[.slice (some ⟨g, o, none⟩) dLen dCap, .slice (some a) sLen sCap]).run P w =
      .ok (goInt (Nat.min sLen dLen)) (w.setRow g (cur.toList.take o ++ cs ++ cur.toList.drop (o + cs.length)).toArray) := by
  have hl := run_loadCells_list (P := P) w a cs hsrc
  have hst := run_storeCells_at P g o t cs 0 cur w hg (by simpa using hfit) h1
  cases hq : P.info? elem with
  | none => simp [hq] at hs
  | some i =>
    have hi : i.size = 2 := by simpa [hq] using hs
    simp [Builtin.copy_, run_underlying hu, Builtin.lenOf, Builtin.firstCells, sizeOf, typeInfo, hq, hi, ← hn, hl, hst]
theorem run_copy_zero {P : Program} (w : World) (dT sT ty elem : TypeId) (d a : Option Addr) (dLen dCap sLen sCap : Nat) (hu : P.underlying dT = some (.slice elem)) (hs : (P.info? elem).map (·.size) = some 2) (hn : Nat.min sLen dLen = 0) :
    (Builtin.copy_ #[dT, sT] ty #[.slice d dLen dCap, .slice a sLen sCap]).run P w = .ok (goInt 0) w := by
  cases hq : P.info? elem with
  | none => simp [hq] at hs
  | some i =>
    have hl : ∀ a, (loadCells a 0).run P w = .ok #[] w := fun a => run_loadCells_list (P := P) w a [] (by simp)
    cases d <;> cases a <;> simp [Builtin.copy_, run_underlying hu, Builtin.lenOf, Builtin.firstCells, sizeOf, typeInfo, hq, hn, storeCells, hl]

/-- copy of a row of entries into a row that is known whole. -/
theorem copy_ents {w : World} {ops : Array Oper} {rest : List Oper} {o : Oper} {a : Act} {Q : Exit → Act → World → Prop} (hgd : o.guard = none) (d s : Operand)
    (ho : o.op = .call { callee := .builtin .copy, args := #[d, s], argTypes := #[48, 48] })
    (dp sp : Option Addr) (dLen dCap sLen sCap : Nat) (hd : a.eval d = .slice dp dLen dCap) (hs : a.eval s = .slice sp sLen sCap)
    (g off : Nat) (cur : List Value) (t : TypeId) (hg : w.heap[g]? = some (.cells cur.toArray t (0, 0))) (xs : List Ent) (hle : sLen ≤ dLen) (hxs : EntsD w (.slice sp sLen sCap) xs)
    (hpos : 0 < xs.length → dp = some ⟨g, off, none⟩) (hfit : off + xs.length * 2 ≤ cur.length) (B : Nat) (w0 : World) (hb : Below B w0 w) (hBg : B ≤ g)
    (h : ∀ w', Hid (w'.heap[g]? = some (.cells (splice cur off (rowE xs)).toArray t (0, 0))) → Below B w0 w' → wpList Try.prog ops Q rest (a.put o.dst (goInt xs.length)) w') :
    wpList Try.prog ops Q (o :: rest) a w := by
  have hsz : (Try.prog.info? 50).map (·.size) = some 2 := by
    obtain ⟨i0, hi, hz0, hz1, hz2⟩ := info_parts info_ent
    rw [hi]; simp [hz1]
  have hm : xs.length = sLen := by
    obtain ⟨ad', cap', hv, h1, h2, hc⟩ := hxs
    injection hv with e1 e2 e3
    exact e2.symm
  subst hm
  have hmin : Nat.min xs.length dLen = xs.length := Nat.min_eq_left hle
  refine wpList_plain hgd fun K hK => ?_
  by_cases h0 : xs.length = 0
  · have hx0 := List.eq_nil_of_length_eq_zero h0
    subst hx0
    have hrun := run_copy_zero (P := Try.prog) w 48 48 o.type 50 dp sp dLen dCap 0 sCap Try.underlying48 hsz (Nat.zero_min _)
    unfold Oper.wp
    simp [execOp, ho, resolve, invoke, builtin, hd, hs, hrun, Result.andThen]
    have hh := h w (show _ = _ by simpa [splice, rowE] using hg) hb
    exact hK _ _ hh
  · have hdp := hpos (by omega)
    subst hdp
    cases sp with
    | none =>
      obtain ⟨ad', cap', hv, h1, h2, hc⟩ := hxs
      injection hv with e1 e2 e3
      subst e1
      have := h1.2 rfl
      omega
    | some a0 =>
      have hrun := run_copy_two (P := Try.prog) w 48 48 o.type 50 g off dLen dCap a0 _ sCap cur.toArray t (rowE xs) Try.underlying48 hsz hg (by rw [hmin, rowE_len]) (ents_flat hxs) (by rw [rowE_len]; simpa using hfit) (rowE_one xs)
      rw [hmin] at hrun
      unfold Oper.wp
      simp [execOp, ho, resolve, invoke, builtin, hd, hs, hrun, Result.andThen]
      exact hK _ _ (h _ (show _ = _ by simpa [splice] using setRow_heap w g _ _ t _ hg) (below_setRow hb hBg _))

theorem rowE_zero (n : Nat) : rowE (List.replicate n (0, 0)) = List.replicate (n * 2) (.int .i64 0) := by
  induction n with
  | zero => rfl
  | succ n ih =>
    rw [List.replicate_succ, show (n + 1) * 2 = n * 2 + 1 + 1 by omega, List.replicate_succ, List.replicate_succ, ← ih]
    rfl
theorem madeCells_two (z : Value) (m : Nat) : (madeCells #[z, z] m).toList = List.replicate m z := by
  apply List.ext_getElem?
  intro j
  by_cases hj : j < m
  · have h3 : j % 2 < 2 := Nat.mod_lt _ (by decide)
    have h : j % 2 = 0 ∨ j % 2 = 1 := by omega
    rcases h with h | h <;> simp [madeCells, hj, h]
  · simp [madeCells, hj]

/-- make of a row of entries. -/
theorem make_ents {w : World} {ops : Array Oper} {rest : List Oper} {o : Oper} {a : Act} {Q : Exit → Act → World → Prop} (hgd : o.guard = none) (l c : Operand)
    (hop : o.op = Op.makeSlice 48 l c) (n : Nat) (hl : a.eval l = .int .i64 n) (hc : a.eval c = .int .i64 n) (hn : n ≤ 1000000)
    (h : ∀ w', Hid (w'.heap[w.heap.size]? = some (.cells (rowE (List.replicate n (0, 0))).toArray 50 (0, 0))) → Below w.heap.size w w' → wpList Try.prog ops Q rest (a.put o.dst (.slice (some ⟨w.heap.size, 0, none⟩) n n)) w') : wpList Try.prog ops Q (o :: rest) a w := by
  obtain ⟨i0, hi, hz0, hz1, hz2⟩ := info_parts info_ent
  refine wpList_make_full w hgd l c 48 hop w.heap.size 50 i0 (.agg #[.int .i64 0, .int .i64 0]) 2 Try.underlying48 hi hz0 hz1 .i64 .i64 n n n hl hc rfl rfl (by rw [hz2]; omega) (by unfold maxLen; omega) (Nat.le_refl _) ?_
  intro w' h1 h2
  refine h w' ?_ ((Below.refl _ _).grown h2 (Nat.le_refl _) (fun k h => by cases h))
  rw [show (Value.agg #[.int .i64 0, .int .i64 0]).cells = #[Value.int .i64 0, Value.int .i64 0] from rfl, madeCells_two, ← rowE_zero] at h1
  rcases h1.2 with ⟨hv, _⟩ | ⟨g, cap, cur, hv, _, hg, _, _, hcs, ht⟩
  · injection hv with e1; cases e1
  · injection hv with e1 e2 e3
    injection e1 with e1
    injection e1 with e1
    subst e1; subst e3
    rw [List.take_of_length_le (by rw [Array.length_toList, hcs]; exact Nat.le_refl _)] at ht
    show _ = _
    rw [hg, ← ht]

/-- How many operands an operator has. -/
def ar (op : Int) : Int := if 1 ≤ op ∧ op ≤ 4 then 0 else if op = 5 then 1 else if 6 ≤ op ∧ op ≤ 14 then 2 else -1

theorem ar_cases (op : Int) : ar op = -1 ∨ ar op = 0 ∨ ar op = 1 ∨ ar op = 2 := by
  unfold ar; repeat' split
  all_goals omega

theorem drewN_plus (w : World) (a b : Nat) : w.drewN (a + b) = (w.drewN a).drewN b := by
  simp [World.drewN, Nat.add_assoc]
theorem below_end {B : Nat} {w : World} (d : Nat) : Below B w (w.drewN d) := below_drewN (Below.refl _ _) d

theorem own_base {w : World} {B B' n e size : Nat} {v : Value} {xs : List Value} (h : w.ownsRow B e size v n xs) (hb : B' ≤ B) : w.ownsRow B' e size v n xs := by
  refine ⟨h.1, ?_⟩
  rcases h.2 with hn | ⟨g, cap, cur, rfl, h1, rest⟩
  · exact .inl hn
  · exact .inr ⟨g, cap, cur, rfl, Nat.le_trans hb h1, rest⟩

theorem own_shape' {w : World} {B n e size : Nat} {v : Value} {xs : List Value} (h : w.ownsRow B e size v n xs) : ∃ ad cap, v = .slice ad n cap ∧ True := by
  rcases h.2 with ⟨rfl, rfl⟩ | ⟨g, cap', cur, rfl, hb, hg, _⟩
  · exact ⟨none, 0, rfl, trivial⟩
  · exact ⟨_, cap', rfl, trivial⟩

/-- Two rows lie apart. -/
def ApartV (u v : Value) : Prop := u.ownBlock = none ∨ u.ownBlock ≠ v.ownBlock

theorem EntsD.at2 {w : World} {ad : Option Addr} {n cap : Nat} {xs : List Ent} (h : EntsD w (.slice ad n cap) xs) (k : Nat) (hk : k < xs.length) : ∃ b off, ad = some ⟨b, off, none⟩ ∧ b < w.heap.size ∧ w.cell? ⟨b, off + k * 2, none⟩ = some (.int .i64 xs[k].1) ∧ w.cell? ⟨b, off + k * 2 + 1, none⟩ = some (.int .i64 xs[k].2) := by
  obtain ⟨ad', cap', hv, _, _, hc⟩ := h
  injection hv with e1 _ _
  obtain ⟨b, off, he, hl, h3, h4⟩ := hc _ hk
  exact ⟨b, off, e1.trans he, hl, h3, h4⟩

theorem IntsD.at2 {w : World} {ad : Option Addr} {n cap : Nat} {xs : List Int} (h : IntsD w (.slice ad n cap) xs) (k : Nat) (hk : k < xs.length) : ∃ b off, ad = some ⟨b, off, none⟩ ∧ b < w.heap.size ∧ w.cell? ⟨b, off + k, none⟩ = some (.int .i64 xs[k]) := by
  obtain ⟨ad', cap', hv, _, _, hc⟩ := h
  injection hv with e1 _ _
  obtain ⟨b, off, he, hl, h3⟩ := hc _ hk
  simp only [IntAt, Nat.mul_one] at h3
  exact ⟨b, off, e1.trans he, hl, h3⟩

theorem apart_new {w w' : World} {B B' n n' e e' s s' : Nat} {u v : Value} {xs ys : List Value} (h : w'.ownsRow B e s v n xs) (h2 : w.ownsRow B' e' s' u n' ys) (hB : w.heap.size ≤ B) : ApartV v u := by
  by_cases hv : v.ownBlock = none
  · exact .inl hv
  · refine .inr fun he => ?_
    obtain ⟨g, hg⟩ := Option.ne_none_iff_exists'.1 hv
    have h1 := (h.lt g hg).1
    have h3 := (h2.lt g (he ▸ hg)).2
    omega

theorem below_draws' (w : World) : Below w.heap.size w w.drew := (Below.refl _ _).drew
theorem below_drewN' {B : Nat} {a w : World} (h : Below B a w) (n : Nat) : Below B a (w.drewN n) := ⟨h.os, h.tape, h.output, h.size, h.block⟩

theorem getD_at (l : List Ent) (k : Nat) (h : k < l.length) : l.getD k (0, 0) = l[k] := by rw [List.getD_eq_getElem?_getD, List.getElem?_eq_getElem h]; rfl

theorem two_new (w : World) (t1 t2 : Nat) (c1 c2 : Array Value) : Below w.heap.size w ((w.alloc (.cells c1 t1)).alloc (.cells c2 t2)) ∧ Bk ((w.alloc (.cells c1 t1)).alloc (.cells c2 t2)) w.heap.size t1 c1 ∧ Bk ((w.alloc (.cells c1 t1)).alloc (.cells c2 t2)) (w.heap.size + 1) t2 c2 := by
  have a : Below w.heap.size w (w.alloc (.cells c1 t1)) := (Below.refl _ _).alloc (Nat.le_refl _) _
  have b : Below (w.alloc (.cells c1 t1)).heap.size (w.alloc (.cells c1 t1)) ((w.alloc (.cells c1 t1)).alloc (.cells c2 t2)) := (Below.refl _ _).alloc (Nat.le_refl _) _
  have c := Bk.new (w.alloc (.cells c1 t1)) t2 c2
  rw [alloc_size w] at c
  exact ⟨a.trans (b.mono a.size), (Bk.new w t1 c1).below b, c⟩

theorem SlD.shape0 {α : Type} {S : Nat} {R : World → Nat → Nat → α → Prop} {w : World} {v : Value} {xs : List α} (h : SlD S R w v xs) : ∃ ad cap, v = .slice ad xs.length cap := by
  obtain ⟨ad, cap, hv, _⟩ := h; exact ⟨ad, cap, hv⟩
/-- A step of code. -/
structure Opn where
  op : Int
  n : Int
  t : Int

def Opn.cells (o : Opn) : List Value := [.int .i64 o.op, .int .i64 o.n, .int .i64 o.t]

def OpAt (w : World) (b off : Nat) (o : Opn) : Prop := w.cell? ⟨b, off, none⟩ = some (.int .i64 o.op) ∧ w.cell? ⟨b, off + 1, none⟩ = some (.int .i64 o.n) ∧ w.cell? ⟨b, off + 2, none⟩ = some (.int .i64 o.t)
def StrAt (w : World) (b off : Nat) (x : ByteArray) : Prop := w.cell? ⟨b, off, none⟩ = some (.string x)
abbrev OpsD := SlD 3 OpAt
abbrev StrsD := SlD 1 StrAt
def RowAt (w : World) (b off : Nat) (x : List Int × Value) : Prop := w.cell? ⟨b, off, none⟩ = some x.2 ∧ IntsD w x.2 x.1
abbrev AllD := SlD 1 RowAt
section
variable {w w' : World} {v : Value}
theorem OpsD.below {xs : List Opn} (h : OpsD w v xs) (hb : Below w.heap.size w w') : OpsD w' v xs := h.mono hb.size fun _ _ _ hl h => ⟨(hb.cell (p := ⟨_, _, none⟩) hl).trans h.1, (hb.cell (p := ⟨_, _, none⟩) hl).trans h.2.1, (hb.cell (p := ⟨_, _, none⟩) hl).trans h.2.2⟩
theorem StrsD.below {xs : List ByteArray} (h : StrsD w v xs) (hb : Below w.heap.size w w') : StrsD w' v xs := h.mono hb.size fun _ _ _ hl h => (hb.cell (p := ⟨_, _, none⟩) hl).trans h
theorem AllD.below {xs : List (List Int × Value)} (h : AllD w v xs) (hb : Below w.heap.size w w') : AllD w' v xs := h.mono hb.size fun _ _ _ hl h => ⟨(hb.cell (p := ⟨_, _, none⟩) hl).trans h.1, IntsD.below h.2 hb⟩
end

/-- How many numbers lie there at most, and are left: both are -1 if a step can't be taken. -/
def htsL : List Opn → Int → Int → Int × Int
  | [], m, k => (m, k)
  | o :: r, m, k => if ar o.op < 0 ∨ k < ar o.op then (-1, -1) else htsL r (max m (k + 1 - ar o.op)) (k + 1 - ar o.op)

theorem htsL_at (l : List Opn) (i : Nat) (h : i < l.length) (m k : Int) : htsL (l.drop i) m k = if ar l[i].op < 0 ∨ k < ar l[i].op then (-1, -1) else htsL (l.drop (i + 1)) (max m (k + 1 - ar l[i].op)) (k + 1 - ar l[i].op) := by
  rw [List.drop_eq_getElem_cons h]; rfl
theorem htsL_over (l : List Opn) (i : Nat) (h : ¬ i < l.length) (m k : Int) : htsL (l.drop i) m k = (m, k) := by
  rw [List.drop_eq_nil_of_le (by omega)]; rfl

/-- Is a number one of the first n? -/
def inB (i n : Int) : Bool := decide (0 ≤ i ∧ i < n)

/-- Are a step's indexes, or is its number, right? -/
def okO (regs : List Int) (own locs : Int) (o : Opn) : Bool :=
  if o.op = 1 then inB o.n 10000 else if o.op = 2 then inB o.n own else if o.op = 3 then inB o.n locs else if o.op = 4 then inB o.t regs.length && inB o.n (regs.getD o.t.toNat 0) else true

def rightO (l : List Opn) (regs : List Int) (own locs : Int) : Bool := decide ((htsL l 0 0).2 = 1) && l.all (okO regs own locs)

def okI (m x : Int) : Bool := decide (0 ≤ x ∧ x < m)
def allB (m : Int) (l : List Int) : Bool := l.all (okI m)

end Go.Proofs.Ytmkgijedchpgcaa
