/- Base of the later layers: worlds, blocks, slices as they are read; entries, numbers, steps of code. -/
import Derived.Test.YtkdpimifojjhaaaRows
import Derived.WalkKit
import Derived.WalkSpells
import Derived.WalkLawsBesides
import Derived.Lib.Hide
import Derived.Lib.OthersKept
import Derived.Deep.LoopGhost
import Derived.Deep.QuietTactic
import Derived.BigQuiet
import Derived.IntWalk
import Derived.Laws.StructEq
import Derived.Laws.OwnMore
import Derived.Laws.CopyOwn
import Derived.Deep.AppendLies
import Derived.Deep.AppendSrc
import Derived.Laws.AppendOwnNone
import Derived.Laws.EntriesVeiled
import Derived.Deep.RegionHeld3
namespace Go.Proofs.Ytkdpimifojjhaaa
set_option linter.unusedSimpArgs false
set_option linter.unusedVariables false
open Go.RowKit
set_option maxRecDepth 20000

theorem ret_bool {a b : Bool} (h : a = b) : Ending.returned (.bool a) = .returned (.bool b) := by rw [h]
theorem ret_int {k : IntKind} {a b : Int} (h : a = b) : Ending.returned (.int k a) = .returned (.int k b) := by rw [h]
theorem drop_over {α : Type} (l : List α) (k : Nat) (h : ¬ k < l.length) : l.drop k = [] := List.drop_eq_nil_of_le (by omega)
theorem alloc_size (w : World) (o : Obj) : (w.alloc o).heap.size = w.heap.size + 1 := Array.size_push ..

theorem own_below {w w' : World} {B e size n : Nat} {v : Value} {xs : List Value} (h : w.ownsRow B e size v n xs) (hb : Below w.heap.size w w') : w'.ownsRow B e size v n xs := by
  obtain ⟨h1, h2⟩ := h
  refine ⟨h1, ?_⟩
  rcases h2 with h2 | ⟨g, cap, cur, hv, hg, hh, r⟩
  · exact .inl h2
  · exact .inr ⟨g, cap, cur, hv, hg, by rw [hb.block g (Array.getElem?_eq_some_iff.1 hh).1]; exact hh, r⟩

/-- A block of one's own. -/
def Bk (w : World) (b T : Nat) (cs : Array Value) : Prop := w.heap[b]? = some (.cells cs T (0, 0))
section
variable {w w' : World} {b T r : Nat} {cs : Array Value}
theorem Bk.lt (h : Bk w b T cs) : b < w.heap.size := (Array.getElem?_eq_some_iff.1 h).1
theorem Bk.below (h : Bk w b T cs) (hb : Below w.heap.size w w') : Bk w' b T cs := by
  have := Bk.lt h
  unfold Bk at *; rw [hb.block b this]; exact h
theorem Bk.cell (h : Bk w b T cs) (j : Nat) : w.cell? ⟨b, j, none⟩ = cs[j]? := by
  unfold Bk at h
  simp [World.cell?, h]
theorem Bk.fz (h : Bk w b T cs) (j : Nat) : w.frozen? ⟨b, j, none⟩ = false := by
  unfold Bk at h
  simp [World.frozen?, h]
theorem Bk.new (w : World) (T : Nat) (cs : Array Value) : Bk (w.alloc (.cells cs T)) w.heap.size T cs := heap_alloc_new w _
end

theorem addr_add' (g o j : Nat) : (⟨g, o, none⟩ : Addr).add j = ⟨g, o + j, none⟩ := by unfold Addr.add; split <;> simp_all

/-- A slice, each element as R tells. -/
def SlD {α : Type} (S : Nat) (R : World → Nat → Nat → α → Prop) (w : World) (v : Value) (xs : List α) : Prop :=
  ∃ ad cap, v = .slice ad xs.length cap ∧ (xs.length ≤ cap ∧ (ad = none → cap = 0)) ∧ cap ≤ 9223372036854775807 ∧ ∀ i, (hi : i < xs.length) → ∃ b off, ad = some ⟨b, off, none⟩ ∧ b < w.heap.size ∧ R w b (off + i * S) xs[i]
theorem SlD.mono {α : Type} {S : Nat} {R : World → Nat → Nat → α → Prop} {w w' : World} {v : Value} {xs : List α} (h : SlD S R w v xs) (hb : w.heap.size ≤ w'.heap.size) (hR : ∀ b off x, b < w.heap.size → R w b off x → R w' b off x) : SlD S R w' v xs := by
  obtain ⟨ad, cap, hv, h1, h2, hc⟩ := h
  refine ⟨ad, cap, hv, h1, h2, fun i hi => ?_⟩
  obtain ⟨b, off, ha, hl, g1⟩ := hc i hi
  exact ⟨b, off, ha, Nat.lt_of_lt_of_le hl hb, hR _ _ _ hl g1⟩
theorem SlD.shape {α : Type} {S : Nat} {R : World → Nat → Nat → α → Prop} {w : World} {v : Value} {xs : List α} (h : SlD S R w v xs) : ∃ ad cap, v = .slice ad xs.length cap ∧ xs.length ≤ cap ∧ cap ≤ 9223372036854775807 := by
  obtain ⟨ad, cap, hv, h1, h2, _⟩ := h; exact ⟨ad, cap, hv, h1.1, h2⟩
theorem SlD.nil {α : Type} {S : Nat} {R : World → Nat → Nat → α → Prop} {w : World} : SlD S R w (.slice none 0 0) [] := ⟨none, 0, rfl, ⟨Nat.le_refl _, fun _ => rfl⟩, by omega, fun i hi => absurd hi (Nat.not_lt_zero _)⟩
theorem SlD.take {α : Type} {S : Nat} {R : World → Nat → Nat → α → Prop} {w : World} {ad : Option Addr} {n cap : Nat} {l : List α} (h : SlD S R w (.slice ad n cap) l) (k c : Nat) (hk : k ≤ n) (hc1 : k ≤ c) (hc2 : c ≤ cap) : SlD S R w (.slice ad k c) (l.take k) := by
  obtain ⟨ad', cap', hv, h1, h2, hc⟩ := h
  cases hv
  refine ⟨ad, c, by rw [List.length_take, Nat.min_eq_left hk], ⟨by rw [List.length_take]; omega, fun h => by have := h1.2 h; omega⟩, by omega, fun i hi => ?_⟩
  rw [List.length_take] at hi
  obtain ⟨b', off', he, hl, h⟩ := hc i (by omega)
  refine ⟨b', off', he, hl, ?_⟩
  rw [List.getElem_take]
  exact h
theorem SlD.drop {α : Type} {S : Nat} {R : World → Nat → Nat → α → Prop} {w : World} {ad : Option Addr} {n cap : Nat} {l : List α} (h : SlD S R w (.slice ad n cap) l) (k s : Nat) (hs : s = S) (hk : k ≤ n) : SlD S R w (sliced ad k n cap s) (l.drop k) := by
  subst hs
  obtain ⟨ad', cap', hv, h1, h2, hc⟩ := h
  cases hv
  unfold sliced
  refine ⟨_, _, by rw [List.length_drop], ⟨by rw [List.length_drop]; omega, fun h => ?_⟩, by omega, fun i hi => ?_⟩
  · by_cases he : cap = k
    · omega
    · rw [if_neg he] at h
      cases ad with
      | none => have := h1.2 rfl; omega
      | some a => cases h
  rw [List.length_drop] at hi
  obtain ⟨b', off', he, hl, h⟩ := hc (k + i) (by omega)
  subst he
  rw [if_neg (by omega)]
  refine ⟨b', off' + k * s, by show some ((⟨b', off', none⟩ : Addr).add (k * s)) = _; rw [addr_add'], hl, ?_⟩
  rw [List.getElem_drop, show off' + k * s + i * s = off' + (k + i) * s by rw [Nat.add_mul]; omega]
  exact h

/-- An entry: its location, its number. -/
abbrev Ent := Int × Int
def cellsE (e : Ent) : List Value := [.int .i64 e.1, .int .i64 e.2]
def rowE (l : List Ent) : List Value := l.flatMap cellsE
def EntAt (w : World) (b off : Nat) (e : Ent) : Prop := w.cell? ⟨b, off, none⟩ = some (.int .i64 e.1) ∧ w.cell? ⟨b, off + 1, none⟩ = some (.int .i64 e.2)
def IntAt (w : World) (b off : Nat) (x : Int) : Prop := w.cell? ⟨b, off, none⟩ = some (.int .i64 x)
abbrev EntsD := SlD 2 EntAt
abbrev IntsD := SlD 1 IntAt
section
variable {w w' : World} {v : Value}
theorem EntsD.below {xs : List Ent} (h : EntsD w v xs) (hb : Below w.heap.size w w') : EntsD w' v xs := h.mono hb.size fun _ _ _ hl h => ⟨(hb.cell (p := ⟨_, _, none⟩) hl).trans h.1, (hb.cell (p := ⟨_, _, none⟩) hl).trans h.2⟩
theorem IntsD.below {xs : List Int} (h : IntsD w v xs) (hb : Below w.heap.size w w') : IntsD w' v xs := h.mono hb.size fun _ _ _ hl h => (hb.cell (p := ⟨_, _, none⟩) hl).trans h
end

theorem flat_at {α : Type} (f : α → List Value) (S : Nat) (hS : ∀ x, (f x).length = S) (l : List α) : ∀ i, (h : i < l.length) → ∀ k, (hk : k < S) → (l.flatMap f)[i * S + k]? = some ((f l[i])[k]'(by rw [hS]; exact hk)) := by
  induction l with
  | nil => intro i h; exact absurd h (Nat.not_lt_zero _)
  | cons a l ih =>
    intro i h k hk
    cases i with
    | zero =>
      rw [List.flatMap_cons, Nat.zero_mul, Nat.zero_add, List.getElem?_append_left (by rw [hS]; exact hk), List.getElem?_eq_getElem (by rw [hS]; exact hk)]
      rfl
    | succ i =>
      rw [List.flatMap_cons, List.getElem?_append_right (by rw [hS, Nat.succ_mul]; omega), hS, show (i + 1) * S + k - S = i * S + k by rw [Nat.succ_mul]; omega]
      exact ih i (by simpa using h) k hk

theorem slD_of_bk {α : Type} (f : α → List Value) (S : Nat) (hS : ∀ x, (f x).length = S) {R : World → Nat → Nat → α → Prop} {w : World} {g T : Nat} {cs : Array Value} {xs : List α} (h : Bk w g T cs) (hcs : cs.toList = xs.flatMap f) (hl : xs.length ≤ 1000000)
    (hR : ∀ i, (hi : i < xs.length) → (∀ k, (hk : k < S) → w.cell? ⟨g, i * S + k, none⟩ = some ((f xs[i])[k]'(by rw [hS]; exact hk))) → R w g (i * S) xs[i]) : SlD S R w (.slice (some ⟨g, 0, none⟩) xs.length xs.length) xs := by
  refine ⟨_, _, rfl, ⟨Nat.le_refl _, fun h => by cases h⟩, by omega, fun i hi => ⟨g, 0, rfl, h.lt, ?_⟩⟩
  rw [Nat.zero_add]
  refine hR i hi fun k hk => ?_
  rw [h.cell (i * S + k), ← Array.getElem?_toList, hcs]
  exact flat_at f S hS xs i hi k hk
theorem entsD_of_bk {w : World} {g T : Nat} {cs : Array Value} {xs : List Ent} (h : Bk w g T cs) (hcs : cs.toList = rowE xs) (hl : xs.length ≤ 1000000) : EntsD w (.slice (some ⟨g, 0, none⟩) xs.length xs.length) xs :=
  slD_of_bk cellsE 2 (fun _ => rfl) h hcs hl fun i hi hk => ⟨hk 0 (by decide), hk 1 (by decide)⟩
theorem intsD_of_bk {w : World} {g T : Nat} {cs : Array Value} {xs : List Int} (h : Bk w g T cs) (hcs : cs.toList = xs.flatMap fun x => [Value.int .i64 x]) (hl : xs.length ≤ 1000000) : IntsD w (.slice (some ⟨g, 0, none⟩) xs.length xs.length) xs :=
  slD_of_bk (fun x => [Value.int .i64 x]) 1 (fun _ => rfl) h hcs hl fun i hi hk => hk 0 (by decide)
theorem slD_of_own {α : Type} (f : α → List Value) (S : Nat) (hS : ∀ x, (f x).length = S) {R : World → Nat → Nat → α → Prop} {w : World} {B T : Nat} {v : Value} {xs : List α} (h : w.ownsRow B T S v xs.length (xs.flatMap f))
    (hR : ∀ g, ∀ i, (hi : i < xs.length) → (∀ k, (hk : k < S) → w.cell? ⟨g, i * S + k, none⟩ = some ((f xs[i])[k]'(by rw [hS]; exact hk))) → R w g (i * S) xs[i]) : SlD S R w v xs := by
  have hc := @World.ownsRow.cells _ _ _ _ _ _ _ h
  have hl := h.lt
  rcases h.2 with ⟨rfl, hn⟩ | ⟨g, cap, cur, rfl, _, hh, hle, hcm, _⟩
  · obtain rfl := List.eq_nil_of_length_eq_zero hn
    exact SlD.nil
  · refine ⟨_, cap, rfl, ⟨hle, fun h => by cases h⟩, by unfold maxLen at hcm; omega, fun i hi => ?_⟩
    refine ⟨g, 0, rfl, (hl g rfl).2, ?_⟩
    rw [Nat.zero_add]
    refine hR g i hi fun k hk => ?_
    have := hc (g := g) rfl (i * S + k) _ (flat_at f S hS xs i hi k hk)
    rwa [addr_add', Nat.zero_add] at this
theorem entsD_of_own {w : World} {B T : Nat} {v : Value} {l : List Ent} (h : w.ownsRow B T 2 v l.length (rowE l)) : EntsD w v l :=
  slD_of_own cellsE 2 (fun _ => rfl) h fun g i hi hk => ⟨hk 0 (by decide), hk 1 (by decide)⟩
theorem intsD_of_own {w : World} {B T : Nat} {v : Value} {l : List Int} (h : w.ownsRow B T 1 v l.length (l.flatMap fun x => [Value.int .i64 x])) : IntsD w v l :=
  slD_of_own (fun x => [Value.int .i64 x]) 1 (fun _ => rfl) h fun g i hi hk => hk 0 (by decide)

theorem rowE_len (l : List Ent) : (rowE l).length = l.length * 2 := by
  induction l with
  | nil => rfl
  | cons a r ih => simp only [rowE, List.flatMap_cons, List.length_append, List.length_cons, cellsE] at ih ⊢; simp only [List.length_nil]; omega
theorem rowE_app (a b : List Ent) : rowE (a ++ b) = rowE a ++ rowE b := by simp [rowE]
theorem rowE_one (l : List Ent) : ∀ u ∈ rowE l, u.oneCell' = true := by
  intro u hu
  obtain ⟨o, _, ho⟩ := List.mem_flatMap.1 hu
  simp [cellsE] at ho
  rcases ho with rfl | rfl <;> rfl

theorem ents_flat {w : World} {a : Addr} {n cap : Nat} {l : List Ent} (h : EntsD w (.slice (some a) n cap) l) : ∀ j u, (rowE l)[j]? = some u → w.cell? (a.add j) = some u := by
  intro j u hu
  obtain ⟨ad, cap', hv, _, _, hc⟩ := h
  injection hv with h1 h2 h3
  have hj : j < l.length * 2 := by rw [← rowE_len]; exact (List.getElem?_eq_some_iff.1 hu).1
  have hi : j / 2 < l.length := by omega
  obtain ⟨b', off', hb', hlt, x0, x1⟩ := hc _ hi
  rw [← h1] at hb'
  injection hb' with hb'
  subst hb'
  have hf := flat_at cellsE 2 (fun _ => rfl) l (j / 2) hi (j % 2) (by omega)
  have hjj : j / 2 * 2 + j % 2 = j := by omega
  rw [hjj] at hf
  have hu2 : (rowE l)[j]? = _ := hf
  rw [hu] at hu2
  injection hu2 with hu2
  rw [addr_add', hu2]
  have hm : j % 2 = 0 ∨ j % 2 = 1 := by omega
  rcases hm with hm | hm
  · have e : off' + j = off' + j / 2 * 2 := by omega
    rw [e]; simpa [cellsE, hm] using x0
  · have e : off' + j = off' + j / 2 * 2 + 1 := by omega
    rw [e]; simpa [cellsE, hm] using x1

theorem run_copy_two {P : Program} (w : World) (dT sT ty elem : TypeId) (g o dLen dCap : Nat) (a : Addr) (sLen sCap : Nat) (cur : Array Value) (t : TypeId) (cs : List Value)
    (hu : P.underlying dT = some (.slice elem)) (hs : (P.info? elem).map (·.size) = some 2)
    (hg : w.heap[g]? = some (.cells cur t (0, 0))) (hn : cs.length = Nat.min sLen dLen * 2)
    (hsrc : ∀ j v, cs[j]? = some v → w.cell? (a.add j) = some v) (hfit : o + cs.length ≤ cur.size) (h1 : ∀ v ∈ cs, v.oneCell' = true) :
    (Builtin.copy_ #[dT, sT] ty #[.slice (some ⟨g, o, none⟩) dLen dCap, .slice (some a) sLen sCap]).run P w =
      .ok (goInt (Nat.min sLen dLen)) (w.setRow g (cur.toList.take o ++ cs ++ cur.toList.drop (o + cs.length)).toArray) := by
  have hl := run_loadCells_list (P := P) w a cs hsrc
  have hst := run_storeCells_at P g o t cs 0 cur w hg (by simpa using hfit) h1
  cases hq : P.info? elem with
  | none => simp [hq] at hs
  | some i =>
    have hi : i.size = 2 := by simpa [hq] using hs
    simp [Builtin.copy_, run_underlying hu, Builtin.lenOf, Builtin.firstCells, sizeOf, typeInfo, hq, hi, ← hn, hl, hst]
theorem run_copy_zero {P : Program} (w : World) (dT sT ty elem : TypeId) (d a : Option Addr) (dLen dCap sLen sCap : Nat) (hu : P.underlying dT = some (.slice elem)) (hs : (P.info? elem).map (·.size) = some 2) (hn : Nat.min sLen dLen = 0) :
    (Builtin.copy_ #[dT, sT] ty #[.slice d dLen dCap, .slice a sLen sCap]).run P w = .ok (goInt 0) w := by
  cases hq : P.info? elem with
  | none => simp [hq] at hs
  | some i =>
    have hl : ∀ a, (loadCells a 0).run P w = .ok #[] w := fun a => run_loadCells_list (P := P) w a [] (by simp)
    cases d <;> cases a <;> simp [Builtin.copy_, run_underlying hu, Builtin.lenOf, Builtin.firstCells, sizeOf, typeInfo, hq, hn, storeCells, hl]

theorem rowE_zero (n : Nat) : rowE (List.replicate n (0, 0)) = List.replicate (n * 2) (.int .i64 0) := by
  induction n with
  | zero => rfl
  | succ n ih =>
    rw [List.replicate_succ, show (n + 1) * 2 = n * 2 + 1 + 1 by omega, List.replicate_succ, List.replicate_succ, ← ih]
    rfl
theorem madeCells_two (z : Value) (m : Nat) : (madeCells #[z, z] m).toList = List.replicate m z := by
  apply List.ext_getElem?
  intro j
  by_cases hj : j < m
  · have h3 : j % 2 < 2 := Nat.mod_lt _ (by decide)
    have h : j % 2 = 0 ∨ j % 2 = 1 := by omega
    rcases h with h | h <;> simp [madeCells, hj, h]
  · simp [madeCells, hj]

/-- How many operands an operator has. -/
def ar (op : Int) : Int := if 1 ≤ op ∧ op ≤ 4 then 0 else if op = 5 then 1 else if 6 ≤ op ∧ op ≤ 14 then 2 else -1

theorem ar_cases (op : Int) : ar op = -1 ∨ ar op = 0 ∨ ar op = 1 ∨ ar op = 2 := by
  unfold ar; repeat' split
  all_goals omega

theorem drewN_plus (w : World) (a b : Nat) : w.drewN (a + b) = (w.drewN a).drewN b := by
  simp [World.drewN, Nat.add_assoc]
theorem below_end {B : Nat} {w : World} (d : Nat) : Below B w (w.drewN d) := below_drewN (Below.refl _ _) d

theorem own_base {w : World} {B B' n e size : Nat} {v : Value} {xs : List Value} (h : w.ownsRow B e size v n xs) (hb : B' ≤ B) : w.ownsRow B' e size v n xs := by
  refine ⟨h.1, ?_⟩
  rcases h.2 with hn | ⟨g, cap, cur, rfl, h1, rest⟩
  · exact .inl hn
  · exact .inr ⟨g, cap, cur, rfl, Nat.le_trans hb h1, rest⟩

theorem own_shape' {w : World} {B n e size : Nat} {v : Value} {xs : List Value} (h : w.ownsRow B e size v n xs) : ∃ ad cap, v = .slice ad n cap ∧ True := by
  rcases h.2 with ⟨rfl, rfl⟩ | ⟨g, cap', cur, rfl, hb, hg, _⟩
  · exact ⟨none, 0, rfl, trivial⟩
  · exact ⟨_, cap', rfl, trivial⟩

/-- Two rows lie apart. -/
def ApartV (u v : Value) : Prop := u.ownBlock = none ∨ u.ownBlock ≠ v.ownBlock

theorem EntsD.at2 {w : World} {ad : Option Addr} {n cap : Nat} {xs : List Ent} (h : EntsD w (.slice ad n cap) xs) (k : Nat) (hk : k < xs.length) : ∃ b off, ad = some ⟨b, off, none⟩ ∧ b < w.heap.size ∧ w.cell? ⟨b, off + k * 2, none⟩ = some (.int .i64 xs[k].1) ∧ w.cell? ⟨b, off + k * 2 + 1, none⟩ = some (.int .i64 xs[k].2) := by
  obtain ⟨ad', cap', hv, _, _, hc⟩ := h
  injection hv with e1 _ _
  obtain ⟨b, off, he, hl, h3, h4⟩ := hc _ hk
  exact ⟨b, off, e1.trans he, hl, h3, h4⟩

theorem IntsD.at2 {w : World} {ad : Option Addr} {n cap : Nat} {xs : List Int} (h : IntsD w (.slice ad n cap) xs) (k : Nat) (hk : k < xs.length) : ∃ b off, ad = some ⟨b, off, none⟩ ∧ b < w.heap.size ∧ w.cell? ⟨b, off + k, none⟩ = some (.int .i64 xs[k]) := by
  obtain ⟨ad', cap', hv, _, _, hc⟩ := h
  injection hv with e1 _ _
  obtain ⟨b, off, he, hl, h3⟩ := hc _ hk
  simp only [IntAt, Nat.mul_one] at h3
  exact ⟨b, off, e1.trans he, hl, h3⟩

theorem apart_new {w w' : World} {B B' n n' e e' s s' : Nat} {u v : Value} {xs ys : List Value} (h : w'.ownsRow B e s v n xs) (h2 : w.ownsRow B' e' s' u n' ys) (hB : w.heap.size ≤ B) : ApartV v u := by
  by_cases hv : v.ownBlock = none
  · exact .inl hv
  · refine .inr fun he => ?_
    obtain ⟨g, hg⟩ := Option.ne_none_iff_exists'.1 hv
    have h1 := (h.lt g hg).1
    have h3 := (h2.lt g (he ▸ hg)).2
    omega

theorem below_draws' (w : World) : Below w.heap.size w w.drew := (Below.refl _ _).drew
theorem below_drewN' {B : Nat} {a w : World} (h : Below B a w) (n : Nat) : Below B a (w.drewN n) := ⟨h.os, h.tape, h.output, h.size, h.block⟩

theorem getD_at (l : List Ent) (k : Nat) (h : k < l.length) : l.getD k (0, 0) = l[k] := by rw [List.getD_eq_getElem?_getD, List.getElem?_eq_getElem h]; rfl

theorem two_new (w : World) (t1 t2 : Nat) (c1 c2 : Array Value) : Below w.heap.size w ((w.alloc (.cells c1 t1)).alloc (.cells c2 t2)) ∧ Bk ((w.alloc (.cells c1 t1)).alloc (.cells c2 t2)) w.heap.size t1 c1 ∧ Bk ((w.alloc (.cells c1 t1)).alloc (.cells c2 t2)) (w.heap.size + 1) t2 c2 := by
  have a : Below w.heap.size w (w.alloc (.cells c1 t1)) := (Below.refl _ _).alloc (Nat.le_refl _) _
  have b : Below (w.alloc (.cells c1 t1)).heap.size (w.alloc (.cells c1 t1)) ((w.alloc (.cells c1 t1)).alloc (.cells c2 t2)) := (Below.refl _ _).alloc (Nat.le_refl _) _
  have c := Bk.new (w.alloc (.cells c1 t1)) t2 c2
  rw [alloc_size w] at c
  exact ⟨a.trans (b.mono a.size), (Bk.new w t1 c1).below b, c⟩

theorem SlD.shape0 {α : Type} {S : Nat} {R : World → Nat → Nat → α → Prop} {w : World} {v : Value} {xs : List α} (h : SlD S R w v xs) : ∃ ad cap, v = .slice ad xs.length cap := by
  obtain ⟨ad, cap, hv, _⟩ := h; exact ⟨ad, cap, hv⟩
/-- A step of code. -/
structure Opn where
  op : Int
  n : Int
  t : Int

def Opn.cells (o : Opn) : List Value := [.int .i64 o.op, .int .i64 o.n, .int .i64 o.t]

def OpAt (w : World) (b off : Nat) (o : Opn) : Prop := w.cell? ⟨b, off, none⟩ = some (.int .i64 o.op) ∧ w.cell? ⟨b, off + 1, none⟩ = some (.int .i64 o.n) ∧ w.cell? ⟨b, off + 2, none⟩ = some (.int .i64 o.t)
def StrAt (w : World) (b off : Nat) (x : ByteArray) : Prop := w.cell? ⟨b, off, none⟩ = some (.string x)
abbrev OpsD := SlD 3 OpAt
abbrev StrsD := SlD 1 StrAt
def RowAt (w : World) (b off : Nat) (x : List Int × Value) : Prop := w.cell? ⟨b, off, none⟩ = some x.2 ∧ IntsD w x.2 x.1
abbrev AllD := SlD 1 RowAt
section
variable {w w' : World} {v : Value}
theorem OpsD.below {xs : List Opn} (h : OpsD w v xs) (hb : Below w.heap.size w w') : OpsD w' v xs := h.mono hb.size fun _ _ _ hl h => ⟨(hb.cell (p := ⟨_, _, none⟩) hl).trans h.1, (hb.cell (p := ⟨_, _, none⟩) hl).trans h.2.1, (hb.cell (p := ⟨_, _, none⟩) hl).trans h.2.2⟩
theorem StrsD.below {xs : List ByteArray} (h : StrsD w v xs) (hb : Below w.heap.size w w') : StrsD w' v xs := h.mono hb.size fun _ _ _ hl h => (hb.cell (p := ⟨_, _, none⟩) hl).trans h
theorem AllD.below {xs : List (List Int × Value)} (h : AllD w v xs) (hb : Below w.heap.size w w') : AllD w' v xs := h.mono hb.size fun _ _ _ hl h => ⟨(hb.cell (p := ⟨_, _, none⟩) hl).trans h.1, IntsD.below h.2 hb⟩
end

/-- How many numbers lie there at most, and are left: both are -1 if a step can't be taken. -/
def htsL : List Opn → Int → Int → Int × Int
  | [], m, k => (m, k)
  | o :: r, m, k => if ar o.op < 0 ∨ k < ar o.op then (-1, -1) else htsL r (max m (k + 1 - ar o.op)) (k + 1 - ar o.op)

theorem htsL_at (l : List Opn) (i : Nat) (h : i < l.length) (m k : Int) : htsL (l.drop i) m k = if ar l[i].op < 0 ∨ k < ar l[i].op then (-1, -1) else htsL (l.drop (i + 1)) (max m (k + 1 - ar l[i].op)) (k + 1 - ar l[i].op) := by
  rw [List.drop_eq_getElem_cons h]; rfl
theorem htsL_over (l : List Opn) (i : Nat) (h : ¬ i < l.length) (m k : Int) : htsL (l.drop i) m k = (m, k) := by
  rw [List.drop_eq_nil_of_le (by omega)]; rfl

/-- Is a number one of the first n? -/
def inB (i n : Int) : Bool := decide (0 ≤ i ∧ i < n)

/-- Are a step's indexes, or is its number, right? -/
def okO (regs : List Int) (own locs : Int) (o : Opn) : Bool :=
  if o.op = 1 then inB o.n 10000 else if o.op = 2 then inB o.n own else if o.op = 3 then inB o.n locs else if o.op = 4 then inB o.t regs.length && inB o.n (regs.getD o.t.toNat 0) else true

def rightO (l : List Opn) (regs : List Int) (own locs : Int) : Bool := decide ((htsL l 0 0).2 = 1) && l.all (okO regs own locs)

def okI (m x : Int) : Bool := decide (0 ≤ x ∧ x < m)
def allB (m : Int) (l : List Int) : Bool := l.all (okI m)

end Go.Proofs.Ytkdpimifojjhaaa
