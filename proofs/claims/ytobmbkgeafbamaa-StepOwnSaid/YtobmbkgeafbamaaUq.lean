/- Layer 9: the reference's Ended, Final. Layer 9: the reference's Final. Layer 8: Right of a buffer. Layer 8: Right of a buffer, whatever the bounds; the reference's, plainly. -/
import Derived.Test.YtobmbkgeafbamaaUo
namespace Go.Proofs.Ytobmbkgeafbamaa
set_option linter.unusedSimpArgs false
set_option linter.unusedVariables false
open Go.RowKit

def endedC (u : Un) (c : Cf) (t : Int) : Bool :=
  if 0 ≤ t ∧ t < u.code.length ∧ t < c.pc.length then
    (if 0 ≤ c.pc.getD t.toNat 0 ∧ c.pc.getD t.toNat 0 < ((u.code.getD t.toNat ([], undef)).1.length : Int) then decide ((((u.code.getD t.toNat ([], undef)).1[(c.pc.getD t.toNat 0).toNat]?).map fun i => i.x.op) = some 22) else false)
  else false

end Go.Proofs.Ytobmbkgeafbamaa

namespace Go.Proofs.Ytobmbkgeafbamaa
set_option linter.unusedSimpArgs false
set_option linter.unusedVariables false
open Go.RowKit

def finF (u : Un) (c : Cf) : Nat → Nat → Bool
  | 0, _ => true
  | f + 1, k => endedC u c k && finF u c f (k + 1)
def finalC (u : Un) (c : Cf) : Bool := finF u c u.code.length 0 && quietC c
theorem finF_at (u : Un) (c : Cf) (n k : Nat) (h : k < n) : finF u c (n - k) k = (endedC u c k && finF u c (n - (k + 1)) (k + 1)) := by
  obtain ⟨f, hf⟩ : ∃ f, n - k = f + 1 := ⟨n - k - 1, by omega⟩
  rw [hf, show n - (k + 1) = f by omega]; rfl

end Go.Proofs.Ytobmbkgeafbamaa

namespace Go.Proofs.Ytobmbkgeafbamaa
set_option linter.unusedSimpArgs false
set_option linter.unusedVariables false
open Go.RowKit

/-- Where an entry stands first. -/
def fstL (p : Ent → Bool) : List Ent → Nat → Int
  | [], _ => -1
  | e :: r, k => if p e = true then (k : Int) else fstL p r (k + 1)
theorem fstL_at (p : Ent → Bool) (l : List Ent) (k : Nat) (h : k < l.length) : fstL p (l.drop k) k = if p l[k] = true then (k : Int) else fstL p (l.drop (k + 1)) (k + 1) := by
  rw [List.drop_eq_getElem_cons h]; rfl
theorem fstL_over (p : Ent → Bool) (l : List Ent) (k : Nat) (h : ¬ k < l.length) : fstL p (l.drop k) k = -1 := by
  rw [drop_over l k h]; rfl
theorem fstL_range (p : Ent → Bool) (l : List Ent) : ∀ k, fstL p l k = -1 ∨ ((k : Int) ≤ fstL p l k ∧ fstL p l k < k + l.length) := by
  induction l with
  | nil => intro k; exact .inl rfl
  | cons a r ih =>
    intro k
    unfold fstL
    split
    · right; simp; omega
    · rcases ih (k + 1) with h | h
      · exact .inl h
      · right; simp; omega

/-- Is an entry strange? -/
def oddL (mod locs : Int) (e : Ent) : Bool := !inB e.1 locs || !inB e.2 mod
theorem bk_one (w : World) (x : Value) (t : Nat) : (w.alloc (.cells #[x] t)).cell? ⟨w.heap.size, 0, none⟩ = some x := (Bk.new w t #[x]).cell 0

/-- Does the entry at k break the order, or stand too late? -/
def badAt (l : List Ent) (r k : Nat) : Bool := decide ((0 < k ∧ (l.getD k (0, 0)).1 < (l.getD (k - 1) (0, 0)).1) ∨ (r ≤ k ∧ (l.getD k (0, 0)).1 = (l.getD (k - r) (0, 0)).1))
def ordF (l : List Ent) (r : Nat) : Nat → Nat → Bool
  | 0, _ => true
  | f + 1, k => if badAt l r k = true then false else ordF l r f (k + 1)
def ordL (l : List Ent) (r : Nat) : Bool := ordF l r l.length 0

theorem EntsD.at {w : World} {v : Value} {xs : List Ent} (h : EntsD w v xs) (k : Nat) (hk : k < xs.length) : ∃ b off cap, v = .slice (some ⟨b, off, none⟩) xs.length cap ∧ b < w.heap.size ∧ w.cell? ⟨b, off + k * 2, none⟩ = some (.int .i64 (xs.getD k (0, 0)).1) := by
  obtain ⟨ad, cap, hv, _, _, hc⟩ := h
  obtain ⟨b, off, rfl, hl, h3, _⟩ := hc _ hk
  exact ⟨b, off, cap, hv, hl, by rw [getD_at _ _ hk]; exact h3⟩

/-- Are the entries in the queues that a model has? -/
def rqL (l : List Ent) (model : Int) (r : Nat) : Bool := if model = 1 then decide (l.length = 0) else if model = 2 then decide (l.length ≤ r) else if model = 3 then ordL l r else false

theorem fstL_all (p : Ent → Bool) (l : List Ent) : ∀ k, decide (0 ≤ fstL p l k) = !(l.all fun e => !p e) := by
  induction l with
  | nil => intro k; rfl
  | cons a r ih =>
    intro k
    unfold fstL
    rw [List.all_cons]
    by_cases h : p a = true
    · rw [if_pos h, h]; simp
    · rw [if_neg h, ih]
      have h2 : p a = false := by simpa using h
      rw [h2]; simp

/-- Can a buffer be? -/
def rightL (l : List Ent) (model room mod locs : Int) : Bool :=
  if room < 1 ∨ 4 < room ∨ mod < 2 ∨ 16 < mod then false else rqL l model room.toNat && (l.all fun e => !oddL mod locs e)

end Go.Proofs.Ytobmbkgeafbamaa

namespace Go.Proofs.Ytobmbkgeafbamaa
set_option linter.unusedSimpArgs false
set_option linter.unusedVariables false
open Go.RowKit

/-- How many entries a location has. -/
def cntL : List Ent → Int → Nat
  | [], _ => 0
  | e :: r, k => (if e.1 = k then 1 else 0) + cntL r k
theorem cntL_at (l : List Ent) (k : Int) (i : Nat) (h : i < l.length) : cntL (l.drop i) k = (if l[i].1 = k then 1 else 0) + cntL (l.drop (i + 1)) k := by
  rw [List.drop_eq_getElem_cons h]; rfl
theorem cntL_app (a b : List Ent) (k : Int) : cntL (a ++ b) k = cntL a k + cntL b k := by
  induction a with
  | nil => simp [cntL]
  | cons x r ih => simp only [List.cons_append, cntL, ih]; omega
theorem cntL_none (a : List Ent) (k : Int) (h : ∀ x ∈ a, x.1 ≠ k) : cntL a k = 0 := by
  induction a with
  | nil => rfl
  | cons x r ih => simp only [cntL]; rw [if_neg (h x (List.mem_cons_self ..)), ih (fun y hy => h y (List.mem_cons_of_mem _ hy))]
theorem cntL_all (a : List Ent) (k : Int) (h : ∀ x ∈ a, x.1 = k) : cntL a k = a.length := by
  induction a with
  | nil => rfl
  | cons x r ih => simp only [cntL, List.length_cons]; rw [if_pos (h x (List.mem_cons_self ..)), ih (fun y hy => h y (List.mem_cons_of_mem _ hy))]; omega

abbrev SrtE (l : List Ent) : Prop := l.Pairwise fun a b => a.1 ≤ b.1
/-- A sorted row parts into what is less than a location, it, and what is greater. -/
theorem srt_parts (l : List Ent) (k : Int) (h : SrtE l) : ∃ a b c, l = a ++ (b ++ c) ∧ (∀ x ∈ a, x.1 < k) ∧ (∀ x ∈ b, x.1 = k) ∧ (∀ x ∈ c, k < x.1) := by
  induction l with
  | nil => exact ⟨[], [], [], rfl, fun _ h => (by cases h), fun _ h => (by cases h), fun _ h => (by cases h)⟩
  | cons e r ih =>
    obtain ⟨h1, h2⟩ := List.pairwise_cons.1 h
    obtain ⟨a, b, c, rfl, ha, hb, hc⟩ := ih h2
    by_cases g1 : e.1 < k
    · exact ⟨e :: a, b, c, rfl, fun x hx => by rcases List.mem_cons.1 hx with rfl | hx; exact g1; exact ha x hx, hb, hc⟩
    · have ha0 : a = [] := by
        cases a with
        | nil => rfl
        | cons x s => exact absurd (ha x (List.mem_cons_self ..)) (by have := h1 x (by simp); omega)
      subst ha0
      by_cases g2 : e.1 = k
      · exact ⟨[], e :: b, c, rfl, fun _ h => (by cases h), fun x hx => by rcases List.mem_cons.1 hx with rfl | hx; exact g2; exact hb x hx, hc⟩
      · have hb0 : b = [] := by
          cases b with
          | nil => rfl
          | cons x s => exact absurd (hb x (List.mem_cons_self ..)) (by have := h1 x (by simp); omega)
        subst hb0
        exact ⟨[], [], e :: c, rfl, fun _ h => (by cases h), fun _ h => (by cases h), fun x hx => by rcases List.mem_cons.1 hx with rfl | hx; omega; exact hc x hx⟩

theorem cnt_parts (l a b c : List Ent) (k : Int) (hl : l = a ++ (b ++ c)) (ha : ∀ x ∈ a, x.1 < k) (hb : ∀ x ∈ b, x.1 = k) (hc : ∀ x ∈ c, k < x.1) : cntL l k = b.length := by
  rw [hl, cntL_app, cntL_app, cntL_none a _ (fun x hx => by have := ha x hx; omega), cntL_all b _ hb, cntL_none c _ (fun x hx => by have := hc x hx; omega)]
  omega

/-- In a sorted row no location has more than r entries just if none stands r places behind another of it. -/
theorem srt_count (l : List Ent) (r : Nat) (h : SrtE l) (h1 : 1 ≤ r) : (∀ i, (hi : i < l.length) → cntL l l[i].1 ≤ r) ↔ ∀ i, (hi : i < l.length) → (hr : r ≤ i) → l[i].1 ≠ (l[i - r]'(by omega)).1 := by
  constructor
  · intro hc i hi hr he
    obtain ⟨a, b, c, hl, ha, hb, hcc⟩ := srt_parts l l[i].1 h
    have h2 := hc i hi
    have hcnt : cntL l l[i].1 = b.length := cnt_parts l a b c _ hl ha hb hcc
    have g1 : a.length ≤ i - r := by
      rcases Nat.lt_or_ge (i - r) a.length with g | g
      · have : l[i - r]? = some a[i - r] := by rw [hl, List.getElem?_append_left g, List.getElem?_eq_getElem g]
        rw [List.getElem?_eq_getElem (by omega)] at this
        have e2 := ha _ (List.getElem_mem g)
        rw [← Option.some.inj this] at e2
        omega
      · exact g
    have g2 : i < a.length + b.length := by
      rcases Nat.lt_or_ge i (a.length + b.length) with g | g
      · exact g
      · exfalso
        have hic : i - a.length - b.length < c.length := by
          have : l.length = a.length + (b.length + c.length) := by rw [hl]; simp
          omega
        have : l[i]? = some c[i - a.length - b.length] := by
          rw [hl, List.getElem?_append_right (by omega), List.getElem?_append_right (by omega), List.getElem?_eq_getElem hic]
        rw [List.getElem?_eq_getElem hi] at this
        have e2 := hcc _ (List.getElem_mem hic)
        rw [← Option.some.inj this] at e2
        omega
    omega
  · intro hn i hi
    obtain ⟨a, b, c, hl, ha, hb, hcc⟩ := srt_parts l l[i].1 h
    have hcnt : cntL l l[i].1 = b.length := cnt_parts l a b c _ hl ha hb hcc
    rw [hcnt]
    rcases Nat.lt_or_ge r b.length with g | g
    · exfalso
      have hlen : l.length = a.length + (b.length + c.length) := by rw [hl]; simp
      have hgb : ∀ j, (hj : j < b.length) → l[a.length + j]? = some b[j] := by
        intro j hj
        rw [hl, List.getElem?_append_right (by omega), List.getElem?_append_left (by omega), Nat.add_sub_cancel_left, List.getElem?_eq_getElem hj]
      have e1 := hgb r g
      have e2 := hgb 0 (by omega)
      rw [List.getElem?_eq_getElem (by omega)] at e1 e2
      refine hn (a.length + r) (by omega) (by omega) ?_
      have e3 := Option.some.inj e1
      have e4 := Option.some.inj e2
      have e5 : l[a.length + r - r]'(by omega) = b[0] := by
        rw [← e4]; congr 1; omega
      rw [e3, e5, hb _ (List.getElem_mem g), hb _ (List.getElem_mem (by omega))]
    · exact g

end Go.Proofs.Ytobmbkgeafbamaa
