/- Layer 17, the code: Groups. -/
import Derived.Test.YtkdpimifojjhaaaQk
namespace Go.Proofs.Ytkdpimifojjhaaa
set_option linter.unusedSimpArgs false
set_option linter.unusedVariables false
open Go.RowKit

/-- A row of rows, all of one's own, each in a block of its own. -/
structure GG (w : World) (B : Nat) (vg : Value) (zs : List (List Int × Value)) : Prop where
  o : w.ownsRow B 22 1 vg zs.length (zs.map (·.2))
  r : ∀ (i : Nat) (a : List Int × Value), zs[i]? = some a → w.ownsRow B 3 1 a.2 a.1.length (ints a.1)
  ap : ∀ (i j : Nat) (a b : List Int × Value), i ≠ j → zs[i]? = some a → zs[j]? = some b → ∀ x, a.2.ownBlock = some x → b.2.ownBlock ≠ some x
theorem GG.nil (w : World) (B : Nat) : GG w B (.slice none 0 0) [] := ⟨⟨rfl, .inl ⟨rfl, rfl⟩⟩, fun i a h => by simp at h, fun i j a b _ h => by simp at h⟩
theorem GG.below {w w' : World} {B : Nat} {vg : Value} {zs : List (List Int × Value)} (h : GG w B vg zs) (hb : Below w.heap.size w w') : GG w' B vg zs := ⟨own_below h.o hb, fun i a hi => own_below (h.r i a hi) hb, h.ap⟩
theorem own_grown {w w' : World} {B T S n : Nat} {v : Value} {xs : List Value} {row : Option Nat} (h : w.ownsRow B T S v n xs) (hg : w.grownBy w' row) (hne : ∀ x, v.ownBlock = some x → row ≠ some x) : w'.ownsRow B T S v n xs := by
  obtain ⟨h1, h2⟩ := h
  refine ⟨h1, ?_⟩
  rcases h2 with h2 | ⟨g, cap, cur, rfl, hB, hh, r⟩
  · exact .inl h2
  · exact .inr ⟨g, cap, cur, rfl, hB, (hg.block g (Array.getElem?_eq_some_iff.1 hh).1 (fun e => hne g rfl e.symm)).trans hh, r⟩
section
variable {w w' : World} {B : Nat} {vg : Value} {zs : List (List Int × Value)}
theorem GG.apart (h : GG w B vg zs) {i : Nat} {a : List Int × Value} (hi : zs[i]? = some a) (x : Nat) (hx : a.2.ownBlock = some x) : vg.ownBlock ≠ some x := by
  rcases own_types h.o (h.r i a hi) (by decide) with e | e
  · rw [e]; exact fun h => by cases h
  · exact fun h => e (h.trans hx.symm)
theorem GG.data (h : GG w B vg zs) : AllD w vg zs := by
  have e : zs.map (·.2) = zs.flatMap fun x => [x.2] := by
    induction zs with
    | nil => rfl
    | cons a l ih => simp [List.flatMap_cons, ← List.map_eq_flatMap]
  refine slD_of_own (T := 22) (B := B) (fun x : List Int × Value => [x.2]) 1 (fun _ => rfl) (by rw [← e]; exact h.o) fun g i hi hk => ⟨hk 0 (by decide), ?_⟩
  have := intsD_of_own (w := w) (B := B) (T := 3) (v := zs[i].2) (l := zs[i].1) (by have := h.r i zs[i] (List.getElem?_eq_getElem hi); rw [ints_flat] at this; exact this)
  exact this
/-- One row more, that is empty. -/
theorem GG.more {vg' : Value} (h : GG w B vg zs) (hg : w.grownBy w' vg.ownBlock) (ho : w'.ownsRow B 22 1 vg' (zs.length + 1) (zs.map (·.2) ++ [.slice none 0 0])) : GG w' B vg' (zs ++ [([], .slice none 0 0)]) := by
  refine ⟨by rw [List.length_append, List.map_append]; exact ho, fun i a hi => ?_, fun i j a b hij hi hj x hx => ?_⟩
  · rcases Nat.lt_trichotomy i zs.length with hl | hl | hl
    · rw [List.getElem?_append_left hl] at hi
      exact own_grown (h.r i a hi) hg fun x hx => h.apart hi x hx
    · rw [hl, List.getElem?_append_right (Nat.le_refl _), Nat.sub_self] at hi
      injection hi with hi
      subst hi
      exact ⟨rfl, .inl ⟨rfl, rfl⟩⟩
    · rw [List.getElem?_eq_none (by rw [List.length_append, List.length_singleton]; omega)] at hi; cases hi
  · by_cases h1 : i < zs.length
    · rw [List.getElem?_append_left h1] at hi
      by_cases h2 : j < zs.length
      · rw [List.getElem?_append_left h2] at hj
        exact h.ap i j a b hij hi hj x hx
      · rw [List.getElem?_append_right (by omega)] at hj
        have hm := List.mem_of_getElem? hj
        rw [List.mem_singleton] at hm
        subst hm
        intro e; cases e
    · rw [List.getElem?_append_right (by omega)] at hi
      have hm := List.mem_of_getElem? hi
      rw [List.mem_singleton] at hm
      subst hm
      cases hx
/-- A row grows. -/
theorem GG.grow {w2 : World} {j : Nat} {a : List Int × Value} {l : List Int} {v' : Value} (h : GG w B vg zs) (hj : zs[j]? = some a) (hg : w.grownBy w2 a.2.ownBlock) (ho : w2.ownsRow B 3 1 v' l.length (ints l)) (hv : ∀ x, v'.ownBlock = some x → a.2.ownBlock = some x ∨ w.heap.size ≤ x) :
    ∃ g cap, vg = .slice (some ⟨g, 0, none⟩) zs.length cap ∧ B ≤ g ∧ g < w2.heap.size ∧ w2.cell? ⟨g, j, none⟩ = some a.2 ∧ w2.frozen? ⟨g, j, none⟩ = false ∧ GG (w2.setCell ⟨g, j, none⟩ v') B vg (zs.set j (l, v')) := by
  have hjl := (List.getElem?_eq_some_iff.1 hj).1
  have h1 : w2.ownsRow B 22 1 vg zs.length (zs.map (·.2)) := own_grown h.o hg fun x hx e => h.apart hj x e hx
  obtain ⟨g, cap, e, hB, lg, xc, fz, hs⟩ := own_put h1 hjl
  have xc' : w2.cell? ⟨g, j, none⟩ = some a.2 := by rw [xc, List.getElem?_map, hj]; rfl
  refine ⟨g, cap, e, hB, lg, xc', fz, ⟨?_, fun i b hi => ?_, fun i k b c hik hi hk x hx => ?_⟩⟩
  · rw [List.length_set, List.map_set]; exact hs v'
  · have key : ∀ v l', w2.ownsRow B 3 1 v l'.length (ints l') → (w2.setCell ⟨g, j, none⟩ v').ownsRow B 3 1 v l'.length (ints l') := fun v l' hv => by
      refine own_setB hv fun e2 => ?_
      rcases own_types h1 hv (by decide) with e3 | e3
      · rw [e] at e3; cases e3
      · exact e3 (by rw [e2, e]; rfl)
    by_cases hij : i = j
    · subst hij
      rw [List.getElem?_set_self hjl] at hi
      injection hi with hi
      subst hi
      exact key _ _ ho
    · rw [List.getElem?_set_ne (Ne.symm hij)] at hi
      exact key _ _ (own_grown (h.r i b hi) hg fun x hx e2 => h.ap i j b a hij hi hj x hx e2)
  · have old : ∀ m d, m ≠ j → zs[m]? = some d → ∀ x, d.2.ownBlock = some x → v'.ownBlock ≠ some x := fun m d hm hd x hx e2 => by
      rcases hv x e2 with e3 | e3
      · exact h.ap m j d a hm hd hj x hx e3
      · have := (own_blk (h.r m d hd) x hx).2; omega
    by_cases h1 : i = j
    · subst h1
      rw [List.getElem?_set_self hjl] at hi
      injection hi with hi
      subst hi
      rw [List.getElem?_set_ne hik] at hk
      exact fun e2 => old k c (Ne.symm hik) hk x e2 hx
    · rw [List.getElem?_set_ne (Ne.symm h1)] at hi
      by_cases h2 : k = j
      · subst h2
        rw [List.getElem?_set_self hjl] at hk
        injection hk with hk
        subst hk
        exact old i b h1 hi x hx
      · rw [List.getElem?_set_ne (Ne.symm h2)] at hk
        exact h.ap i k b c hik hi hk x hx
end
/-- One node more. -/
theorem grp_new (p : Nat → Nat) (n i : Nat) (hc : Canon p n) (hi : i < n) (h : p i = nx p i) : grp p (nx p (i + 1)) (i + 1) = grp p (nx p i) i ++ [[(i : Int)]] := by
  have e : nx p (i + 1) = nx p i + 1 := by show (if p i = nx p i then _ else _) = _; rw [if_pos h]
  unfold grp tab
  rw [e, show List.range (nx p i + 1) = List.range (nx p i) ++ [nx p i] from List.range_succ, List.map_append]
  congr 1
  · refine List.map_congr_left fun v hv => ?_
    rw [List.mem_range] at hv
    rw [List.range_succ, List.filter_append]
    have : ([i] : List Nat).filter (fun k => p k == v) = [] := by simp; omega
    rw [this, List.append_nil]
  · have h1 : (List.range i).filter (fun k => p k == nx p i) = [] := List.filter_eq_nil_iff.2 fun k hk => by
      rw [List.mem_range] at hk
      have := nx_lt p n hc i (by omega) k hk
      simp; omega
    have h2 : ([i] : List Nat).filter (fun k => p k == nx p i) = [i] := by simp [h]
    rw [List.map_singleton, List.range_succ, List.filter_append, h1, h2]
    rfl
theorem grp_old (p : Nat → Nat) (n i : Nat) (hi : i < n) (h : p i ≠ nx p i) (l : List Int) (hl : (grp p (nx p i) i)[p i]? = some l) : grp p (nx p (i + 1)) (i + 1) = (grp p (nx p i) i).set (p i) (l ++ [(i : Int)]) := by
  have e : nx p (i + 1) = nx p i := by show (if p i = nx p i then _ else _) = _; rw [if_neg h]
  unfold grp at hl ⊢
  rw [e, tab_set]
  refine tab_congr fun v hv => ?_
  have hlt : p i < nx p i := by have := (List.getElem?_eq_some_iff.1 hl).1; rw [tab_len] at this; exact this
  rw [tab_at _ _ _ hlt] at hl
  injection hl with hl
  unfold upd
  rw [List.range_succ, List.filter_append]
  by_cases hvi : v = p i
  · subst hvi
    rw [if_pos rfl, ← hl]
    simp
  · rw [if_neg hvi]
    have : ([i] : List Nat).filter (fun k => p k == v) = [] := by simp; omega
    rw [this, List.append_nil]

end Go.Proofs.Ytkdpimifojjhaaa
