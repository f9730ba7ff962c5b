/- Layer 14: the graph of edges, plainly. -/
import Derived.Test.YtkdpimifojjhaaaNd
namespace Go.Proofs.Ytkdpimifojjhaaa
set_option linter.unusedSimpArgs false
set_option linter.unusedVariables false
set_option linter.unusedSectionVars false
open Go.RowKit

/-- The edges of one node, those of the nodes below, how many. -/
def ofN (l : List Edg) (i : Nat) : List Edg := l.filter fun e => e.1 == (i : Int)
def srt (i : Nat) (l : List Edg) : List Edg := (List.range i).flatMap (ofN l)
def lenS (l : List Edg) (i : Nat) : Nat := (srt i l).length
/-- The graph of edges. -/
def bld (n : Nat) (l : List Edg) : Gr := ⟨(List.range (n + 1)).map fun i => (lenS l i : Int), (srt n l).map (·.2.1), (srt n l).map (·.2.2)⟩
/-- Can an edge be? -/
def okE (n : Int) (e : Edg) : Bool := decide ((0 ≤ e.1 ∧ e.1 < n) ∧ (0 ≤ e.2.2 ∧ e.2.2 < n) ∧ 0 ≤ e.2.1)

theorem srt_succ (l : List Edg) (i : Nat) : srt (i + 1) l = srt i l ++ ofN l i := by
  unfold srt; rw [List.range_succ, List.flatMap_append]; simp
theorem lenS_zero (l : List Edg) : lenS l 0 = 0 := rfl
theorem lenS_succ (l : List Edg) (i : Nat) : lenS l (i + 1) = lenS l i + (ofN l i).length := by
  unfold lenS; rw [srt_succ, List.length_append]
theorem lenS_mono (l : List Edg) (i j : Nat) (h : i ≤ j) : lenS l i ≤ lenS l j := by
  induction j with
  | zero => obtain rfl : i = 0 := by omega
            exact Nat.le_refl _
  | succ j ih =>
    rcases Nat.lt_or_ge i (j + 1) with h1 | h1
    · rw [lenS_succ]; have := ih (by omega); omega
    · obtain rfl : i = j + 1 := by omega
      exact Nat.le_refl _
theorem lenS_cons (e : Edg) (l : List Edg) (n : Nat) : lenS (e :: l) n = lenS l n + if 0 ≤ e.1 ∧ e.1 < n then 1 else 0 := by
  induction n with
  | zero => rw [if_neg (by omega)]; rfl
  | succ n ih =>
    rw [lenS_succ, lenS_succ, ih]
    have hf : (ofN (e :: l) n).length = (ofN l n).length + if e.1 = (n : Int) then 1 else 0 := by
      unfold ofN
      rw [List.filter_cons]
      by_cases h : e.1 = (n : Int)
      · rw [if_pos h, if_pos (by simpa using h), List.length_cons]
      · rw [if_neg h, if_neg (by simpa using h)]; rfl
    rw [hf]
    by_cases h : e.1 = (n : Int)
    · rw [if_pos h, if_neg (by omega), if_pos (by omega)]; omega
    · rw [if_neg h]
      by_cases h2 : 0 ≤ e.1 ∧ e.1 < n
      · rw [if_pos h2, if_pos (by omega)]; omega
      · rw [if_neg h2, if_neg (by omega)]; omega
theorem lenS_all (n : Nat) (l : List Edg) (h : ∀ e ∈ l, 0 ≤ e.1 ∧ e.1 < (n : Int)) : lenS l n = l.length := by
  induction l with
  | nil => induction n with
    | zero => rfl
    | succ n ih => rw [lenS_succ, ih (fun e he => by cases he)]; rfl
  | cons e l ih => rw [lenS_cons, ih (fun x hx => h x (List.mem_cons_of_mem _ hx)), if_pos (h e (List.mem_cons_self ..)), List.length_cons]
theorem lenS_le (n : Nat) (l : List Edg) : lenS l n ≤ l.length := by
  induction l with
  | nil => induction n with
    | zero => exact Nat.le_refl _
    | succ n ih => rw [lenS_succ]; exact Nat.add_le_add ih (Nat.le_refl _)
  | cons e l ih => rw [lenS_cons, List.length_cons]; split <;> omega

theorem ofN_take (l : List Edg) (i k : Nat) (h : k < l.length) : ofN (l.take (k + 1)) i = ofN (l.take k) i ++ if l[k].1 = (i : Int) then [l[k]] else [] := by
  unfold ofN
  rw [List.take_add_one, List.getElem?_eq_getElem h, List.filter_append]
  congr 1
  by_cases h2 : l[k].1 = (i : Int)
  · rw [if_pos h2]; simp [h2]
  · rw [if_neg h2]; simp [h2]
theorem ofN_split (l : List Edg) (i k : Nat) (h : k < l.length) : ofN l i = ofN (l.take k) i ++ ((if l[k].1 = (i : Int) then [l[k]] else []) ++ ofN (l.drop (k + 1)) i) := by
  have e : l = l.take (k + 1) ++ l.drop (k + 1) := (List.take_append_drop _ _).symm
  rw [← List.append_assoc, ← ofN_take l i k h]
  conv => lhs; rw [e]
  unfold ofN
  rw [List.filter_append]
theorem ofN_at (l : List Edg) (i k : Nat) (h : k < l.length) (hi : l[k].1 = (i : Int)) : (ofN l i)[(ofN (l.take k) i).length]? = some l[k] := by
  rw [ofN_split l i k h, if_pos hi, List.getElem?_append_right (Nat.le_refl _), Nat.sub_self]; rfl
theorem ofN_less (l : List Edg) (i k : Nat) (h : k < l.length) (hi : l[k].1 = (i : Int)) : (ofN (l.take k) i).length < (ofN l i).length := (List.getElem?_eq_some_iff.1 (ofN_at l i k h hi)).1
theorem ofN_pre (l : List Edg) (i k : Nat) : (ofN (l.take k) i).length ≤ (ofN l i).length := by
  have e : l = l.take k ++ l.drop k := (List.take_append_drop _ _).symm
  conv => rhs; rw [e]
  unfold ofN
  rw [List.filter_append, List.length_append]; omega
theorem ofN_len (l : List Edg) (i k : Nat) (h : k < l.length) : (ofN (l.take (k + 1)) i).length = (ofN (l.take k) i).length + if l[k].1 = (i : Int) then 1 else 0 := by
  rw [ofN_take l i k h, List.length_append]; split <;> rfl
theorem ofN_mem {l : List Edg} {i : Nat} {e : Edg} (h : e ∈ ofN l i) : e ∈ l ∧ e.1 = (i : Int) := by
  unfold ofN at h
  rw [List.mem_filter] at h
  exact ⟨h.1, by simpa using h.2⟩

/-- How far the edges are laid: the first k of them stand in their places. -/
def Laid (n : Nat) (l : List Edg) (k : Nat) (A B : List Int) : Prop := A.length = l.length ∧ B.length = l.length ∧ ∀ i, i < n → ∀ j, j < (ofN (l.take k) i).length → ∀ e, (ofN l i)[j]? = some e → A[lenS l i + j]? = some e.2.1 ∧ B[lenS l i + j]? = some e.2.2
theorem laid_zero (n : Nat) (l : List Edg) (A B : List Int) (hA : A.length = l.length) (hB : B.length = l.length) : Laid n l 0 A B := by
  refine ⟨hA, hB, fun i _ j hj => ?_⟩
  rw [List.take_zero] at hj
  exact absurd hj (Nat.not_lt_zero _)
theorem place_lt (n : Nat) (l : List Edg) (k : Nat) (h : k < l.length) (i : Nat) (hin : i < n) (hi : l[k].1 = (i : Int)) : lenS l i + (ofN (l.take k) i).length < l.length := by
  have h1 := ofN_less l i k h hi
  have h2 := lenS_succ l i
  have h3 := lenS_le (i + 1) l
  omega
theorem laid_step (n : Nat) (l : List Edg) (k : Nat) (A B : List Int) (h : k < l.length) (i : Nat) (hin : i < n) (hi : l[k].1 = (i : Int)) (hL : Laid n l k A B) :
    Laid n l (k + 1) (A.set (lenS l i + (ofN (l.take k) i).length) l[k].2.1) (B.set (lenS l i + (ofN (l.take k) i).length) l[k].2.2) := by
  obtain ⟨hA, hB, hL⟩ := hL
  have hp := place_lt n l k h i hin hi
  refine ⟨by rw [List.length_set, hA], by rw [List.length_set, hB], fun i' hi' j hj e he => ?_⟩
  have hj0 : j < (ofN l i').length := (List.getElem?_eq_some_iff.1 he).1
  have hless := ofN_less l i k h hi
  rw [ofN_len l i' k h] at hj
  by_cases hii : i' = i
  · subst hii
    rw [if_pos hi] at hj
    by_cases hjj : j = (ofN (l.take k) i').length
    · subst hjj
      have := ofN_at l i' k h hi
      rw [this] at he
      injection he with he
      subst he
      rw [List.getElem?_set_self (by omega), List.getElem?_set_self (by omega)]
      exact ⟨rfl, rfl⟩
    · rw [List.getElem?_set_ne (by omega), List.getElem?_set_ne (by omega)]
      exact hL i' hi' j (by omega) e he
  · rw [if_neg (by omega)] at hj
    have hne : lenS l i + (ofN (l.take k) i).length ≠ lenS l i' + j := by
      have a1 := lenS_succ l i
      have a2 := lenS_succ l i'
      rcases Nat.lt_or_ge i i' with hlt | hge
      · have := lenS_mono l (i + 1) i' (by omega); omega
      · have := lenS_mono l (i' + 1) i (by omega); omega
    rw [List.getElem?_set_ne hne, List.getElem?_set_ne hne]
    exact hL i' hi' j (by omega) e he
theorem lenS_find (l : List Edg) (n p : Nat) (h : p < lenS l n) : ∃ i j, i < n ∧ j < (ofN l i).length ∧ p = lenS l i + j := by
  induction n with
  | zero => exact absurd h (Nat.not_lt_zero _)
  | succ n ih =>
    by_cases hp : p < lenS l n
    · obtain ⟨i, j, h1, h2, h3⟩ := ih hp
      exact ⟨i, j, by omega, h2, h3⟩
    · rw [lenS_succ] at h
      exact ⟨n, p - lenS l n, by omega, by omega, by omega⟩
theorem srt_at (l : List Edg) (n i j : Nat) (hi : i < n) (hj : j < (ofN l i).length) : (srt n l)[lenS l i + j]? = (ofN l i)[j]? := by
  induction n with
  | zero => omega
  | succ n ih =>
    rw [srt_succ]
    rcases Nat.lt_or_ge i n with h | h
    · have a1 := lenS_succ l i
      have a2 := lenS_mono l (i + 1) n (by omega)
      rw [List.getElem?_append_left (by unfold lenS at *; omega)]
      exact ih h
    · obtain rfl : i = n := by omega
      rw [List.getElem?_append_right (by unfold lenS; omega)]
      congr 1
      unfold lenS; omega
theorem laid_end (n : Nat) (l : List Edg) (A B : List Int) (hok : ∀ e ∈ l, 0 ≤ e.1 ∧ e.1 < (n : Int)) (hL : Laid n l l.length A B) : A = (srt n l).map (·.2.1) ∧ B = (srt n l).map (·.2.2) := by
  obtain ⟨hA, hB, hL⟩ := hL
  rw [List.take_length] at hL
  have hs : (srt n l).length = l.length := lenS_all n l hok
  have key : ∀ p, p < l.length → ∀ e, (srt n l)[p]? = some e → A[p]? = some e.2.1 ∧ B[p]? = some e.2.2 := by
    intro p hp e he
    obtain ⟨i, j, h1, h2, rfl⟩ := lenS_find l n p (by unfold lenS; omega)
    rw [srt_at l n i j h1 h2] at he
    exact hL i h1 j h2 e he
  constructor
  · apply List.ext_getElem?
    intro p
    rcases Nat.lt_or_ge p l.length with hp | hp
    · have he := List.getElem?_eq_getElem (l := srt n l) (by omega : p < (srt n l).length)
      rw [(key p hp _ he).1, List.getElem?_map, he]; rfl
    · rw [List.getElem?_eq_none (by omega), List.getElem?_eq_none (by rw [List.length_map]; omega)]
  · apply List.ext_getElem?
    intro p
    rcases Nat.lt_or_ge p l.length with hp | hp
    · have he := List.getElem?_eq_getElem (l := srt n l) (by omega : p < (srt n l).length)
      rw [(key p hp _ he).2, List.getElem?_map, he]; rfl
    · rw [List.getElem?_eq_none (by omega), List.getElem?_eq_none (by rw [List.length_map]; omega)]

/-- Start while edges are counted: the first k of them; then while sums are made: of the first i nodes. -/
def cntS (n : Nat) (l : List Edg) (k : Nat) : List Int := (List.range (n + 1)).map fun j => if j = 0 then 0 else ((ofN (l.take k) (j - 1)).length : Int)
def sumS (n : Nat) (l : List Edg) (i : Nat) : List Int := (List.range (n + 1)).map fun j => if j ≤ i then (lenS l j : Int) else ((ofN l (j - 1)).length : Int)
def freS (n : Nat) (l : List Edg) (k : Nat) : List Int := (List.range n).map fun j => ((lenS l j + (ofN (l.take k) j).length : Nat) : Int)
theorem cntS_len (n : Nat) (l : List Edg) (k : Nat) : (cntS n l k).length = n + 1 := by simp [cntS]
theorem sumS_len (n : Nat) (l : List Edg) (k : Nat) : (sumS n l k).length = n + 1 := by simp [sumS]
theorem freS_len (n : Nat) (l : List Edg) (k : Nat) : (freS n l k).length = n := by simp [freS]
theorem cntS_zero (n : Nat) (l : List Edg) : cntS n l 0 = List.replicate (n + 1) 0 := by
  apply List.ext_getElem
  · simp [cntS]
  · intro i h1 h2
    simp [cntS, ofN]
theorem cntS_at (n : Nat) (l : List Edg) (k i : Nat) (h : i < n) : (cntS n l k)[i + 1]? = some ((ofN (l.take k) i).length : Int) := by
  simp [cntS, List.getElem?_range (show i + 1 < n + 1 by omega)]
theorem cntS_step (n : Nat) (l : List Edg) (k i : Nat) (h : k < l.length) (hin : i < n) (hi : l[k].1 = (i : Int)) : (cntS n l k).set (i + 1) ((ofN (l.take k) i).length + 1 : Int) = cntS n l (k + 1) := by
  apply List.ext_getElem
  · simp [cntS]
  · intro j h1 h2
    have hj : j < n + 1 := by simpa [cntS] using h2
    rw [List.getElem_set]
    by_cases he : i + 1 = j
    · subst he
      rw [if_pos rfl]
      simp only [cntS, List.getElem_map, List.getElem_range, Nat.add_sub_cancel]
      rw [if_neg (by omega), ofN_len l i k h, if_pos hi]; simp
    · rw [if_neg he]
      simp only [cntS, List.getElem_map, List.getElem_range]
      by_cases h0 : j = 0
      · rw [if_pos h0, if_pos h0]
      · rw [if_neg h0, if_neg h0, ofN_len l (j - 1) k h, if_neg (by omega)]; rfl
theorem sumS_zero (n : Nat) (l : List Edg) : cntS n l l.length = sumS n l 0 := by
  unfold cntS sumS
  refine List.map_congr_left fun j _ => ?_
  rw [List.take_length]
  by_cases h : j = 0
  · subst h; simp [lenS_zero]
  · rw [if_neg h, if_neg (by omega)]
theorem sumS_at (n : Nat) (l : List Edg) (i : Nat) (h : i < n) : (sumS n l i)[i + 1]? = some ((ofN l i).length : Int) ∧ (sumS n l i)[i]? = some (lenS l i : Int) := by
  constructor
  · simp only [sumS, List.getElem?_map, List.getElem?_range (show i + 1 < n + 1 by omega), Option.map_some, Nat.add_sub_cancel]
    rw [if_neg (by omega)]
  · simp [sumS, List.getElem?_range (show i < n + 1 by omega)]
theorem sumS_step (n : Nat) (l : List Edg) (i : Nat) (hin : i < n) : (sumS n l i).set (i + 1) ((ofN l i).length + lenS l i : Int) = sumS n l (i + 1) := by
  apply List.ext_getElem
  · simp [sumS]
  · intro j h1 h2
    rw [List.getElem_set]
    simp only [sumS, List.getElem_map, List.getElem_range]
    by_cases he : i + 1 = j
    · subst he
      rw [if_pos rfl, if_pos (Nat.le_refl _), lenS_succ]; omega
    · rw [if_neg he]
      by_cases h3 : j ≤ i
      · rw [if_pos h3, if_pos (by omega)]
      · rw [if_neg h3, if_neg (by omega)]
theorem sumS_end (n : Nat) (l : List Edg) : sumS n l n = (List.range (n + 1)).map fun i => (lenS l i : Int) := by
  unfold sumS
  refine List.map_congr_left fun j hj => ?_
  rw [List.mem_range] at hj
  rw [if_pos (by omega)]
theorem freS_zero (n : Nat) (l : List Edg) : (sumS n l n).take n = freS n l 0 := by
  rw [sumS_end, ← List.map_take, List.take_range, Nat.min_eq_left (by omega)]
  unfold freS
  refine List.map_congr_left fun j hj => ?_
  rw [List.take_zero]; rfl
theorem freS_at (n : Nat) (l : List Edg) (k i : Nat) (h : i < n) : (freS n l k)[i]? = some ((lenS l i + (ofN (l.take k) i).length : Nat) : Int) := by
  simp [freS, List.getElem?_range h]
theorem freS_step (n : Nat) (l : List Edg) (k i : Nat) (h : k < l.length) (hin : i < n) (hi : l[k].1 = (i : Int)) : (freS n l k).set i ((lenS l i + (ofN (l.take k) i).length : Nat) + 1 : Int) = freS n l (k + 1) := by
  apply List.ext_getElem
  · simp [freS]
  · intro j h1 h2
    rw [List.getElem_set]
    simp only [freS, List.getElem_map, List.getElem_range]
    by_cases he : i = j
    · subst he
      rw [if_pos rfl, ofN_len l i k h, if_pos hi]; omega
    · rw [if_neg he, ofN_len l j k h, if_neg (by omega)]; rfl

end Go.Proofs.Ytkdpimifojjhaaa
