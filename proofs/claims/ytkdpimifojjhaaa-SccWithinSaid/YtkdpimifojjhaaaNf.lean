/- Layer 14: right graphs, their edges, back, kept, reached: plainly. -/
import Derived.Test.YtkdpimifojjhaaaNe
namespace Go.Proofs.Ytkdpimifojjhaaa
set_option linter.unusedSimpArgs false
set_option linter.unusedVariables false
set_option linter.unusedSectionVars false
open Go.RowKit

/-- The edges of a node of a graph, and all of them. -/
def sN (g : Gr) (i : Nat) : Nat := (g.st.getD i 0).toNat
def numN (g : Gr) : Nat := g.st.length - 1
def outL (g : Gr) (i : Nat) : List Edg := (List.range (sN g (i + 1) - sN g i)).map fun j => ((i : Int), g.ag.getD (sN g i + j) 0, g.to.getD (sN g i + j) 0)
def upL (g : Gr) (i : Nat) : List Edg := (List.range i).flatMap (outL g)
def allL (g : Gr) : List Edg := upL g (numN g)
def swp (e : Edg) : Edg := (e.2.2, e.2.1, e.1)
def isIn (l : List Bool) (x : Int) : Bool := decide (x < (l.length : Int)) && l.getD x.toNat false
def backG (g : Gr) : Gr := bld (numN g) ((allL g).map swp)
def keepL (g : Gr) (l : List Bool) : List Edg := (allL g).filter fun e => isIn l e.1 && isIn l e.2.2
def keepG (g : Gr) (l : List Bool) : Gr := bld (numN g) (keepL g l)

/-- What right means. -/
structure RG (g : Gr) : Prop where
  pos : 1 ≤ g.st.length
  zero : sN g 0 = 0
  last : sN g (numN g) = g.to.length
  alen : g.ag.length = g.to.length
  up : ∀ i, i < numN g → sN g i ≤ sN g (i + 1)
  st : ∀ i, i ≤ numN g → g.st[i]? = some (sN g i : Int)
  okt : ∀ (k : Nat) (t : Int), g.to[k]? = some t → 0 ≤ t ∧ t < (numN g : Int)
  oka : ∀ (k : Nat) (t : Int), g.ag[k]? = some t → 0 ≤ t
theorem nonDec_up : ∀ l : List Int, nonDec l = true → ∀ i x y, l[i]? = some x → l[i + 1]? = some y → x ≤ y
  | [], _, i, x, y, h, _ => by simp at h
  | [a], _, i, x, y, _, h => by simp at h
  | a :: b :: l, h, i, x, y, h1, h2 => by
    have h : (decide (a ≤ b) && nonDec (b :: l)) = true := h
    rw [Bool.and_eq_true] at h
    cases i with
    | zero =>
      simp at h1 h2
      subst h1 h2
      exact of_decide_eq_true h.1
    | succ i => exact nonDec_up (b :: l) h.2 i x y (by simpa using h1) (by simpa using h2)
theorem up_nonDec : ∀ l : List Int, (∀ i x y, l[i]? = some x → l[i + 1]? = some y → x ≤ y) → nonDec l = true
  | [], _ => rfl
  | [a], _ => rfl
  | a :: b :: l, h => by
    show (decide (a ≤ b) && nonDec (b :: l)) = true
    rw [Bool.and_eq_true]
    refine ⟨decide_eq_true (h 0 a b rfl rfl), up_nonDec (b :: l) fun i x y h1 h2 => h (i + 1) x y (by simpa using h1) (by simpa using h2)⟩
theorem okT_all (m : Int) : ∀ to ag : List Int, to.length = ag.length → okT m to ag = true → (∀ (k : Nat) (t : Int), to[k]? = some t → 0 ≤ t ∧ t < m) ∧ ∀ (k : Nat) (t : Int), ag[k]? = some t → 0 ≤ t
  | [], [], _, _ => ⟨fun k t h => by simp at h, fun k t h => by simp at h⟩
  | t :: to, a :: ag, hl, h => by
    have h : (decide ((0 ≤ t ∧ t < m) ∧ 0 ≤ a) && okT m to ag) = true := h
    rw [Bool.and_eq_true] at h
    have h1 := of_decide_eq_true h.1
    obtain ⟨i1, i2⟩ := okT_all m to ag (by simpa using hl) h.2
    constructor
    · intro k u hk
      cases k with
      | zero => simp at hk; subst hk; exact h1.1
      | succ k => exact i1 k u (by simpa using hk)
    · intro k u hk
      cases k with
      | zero => simp at hk; subst hk; exact h1.2
      | succ k => exact i2 k u (by simpa using hk)
  | [], a :: ag, hl, _ => by simp at hl
  | t :: to, [], hl, _ => by simp at hl
theorem all_okT (m : Int) : ∀ to ag : List Int, (∀ (k : Nat) (t : Int), to[k]? = some t → 0 ≤ t ∧ t < m) → (∀ (k : Nat) (t : Int), ag[k]? = some t → 0 ≤ t) → okT m to ag = true
  | [], _, _, _ => rfl
  | t :: to, [], _, _ => rfl
  | t :: to, a :: ag, h1, h2 => by
    show (decide ((0 ≤ t ∧ t < m) ∧ 0 ≤ a) && okT m to ag) = true
    rw [Bool.and_eq_true]
    exact ⟨decide_eq_true ⟨h1 0 t rfl, h2 0 a rfl⟩, all_okT m to ag (fun k u hk => h1 (k + 1) u (by simpa using hk)) (fun k u hk => h2 (k + 1) u (by simpa using hk))⟩
theorem getD_of {l : List Int} {k : Nat} {x : Int} (h : l[k]? = some x) : l.getD k 0 = x := by rw [List.getD_eq_getElem?_getD, h]; rfl
theorem getD_some (l : List Int) (k : Nat) (h : k < l.length) : l[k]? = some (l.getD k 0) := by
  rw [List.getD_eq_getElem?_getD, List.getElem?_eq_getElem h]; rfl
theorem right_RG (g : Gr) (h : rightG g = true) : RG g := by
  unfold rightG at h
  simp only [Bool.and_eq_true, decide_eq_true_eq] at h
  obtain ⟨h1, h2, h3, h4, h5, h6⟩ := h
  have hup : ∀ i, i < numN g → g.st.getD i 0 ≤ g.st.getD (i + 1) 0 := by
    intro i hi
    unfold numN at hi
    exact nonDec_up g.st h5 i _ _ (getD_some _ _ (by omega)) (getD_some _ _ (by omega))
  have hnn : ∀ i, i ≤ numN g → 0 ≤ g.st.getD i 0 := by
    intro i hi
    induction i with
    | zero => omega
    | succ i ih => have := ih (by omega); have := hup i (by omega); omega
  obtain ⟨o1, o2⟩ := okT_all _ g.to g.ag h4.symm h6
  refine ⟨h1, by unfold sN; omega, by unfold sN numN; rw [h3]; omega, h4, fun i hi => ?_, fun i hi => ?_, fun k t hk => ?_, o2⟩
  · have := hup i hi; unfold sN; omega
  · have := hnn i hi
    unfold numN at hi
    rw [getD_some _ _ (by omega)]; unfold sN; congr 1; omega
  · have := o1 k t hk; unfold numN; omega
theorem RG_right (g : Gr) (h : RG g) : rightG g = true := by
  unfold rightG
  simp only [Bool.and_eq_true, decide_eq_true_eq]
  have hp := h.pos
  have e : (g.st.length : Int) - 1 = (numN g : Int) := by unfold numN; omega
  refine ⟨h.pos, ?_, ?_, h.alen, up_nonDec _ fun i x y h1 h2 => ?_, all_okT _ _ _ (fun k t hk => ?_) h.oka⟩
  · rw [getD_of (h.st 0 (Nat.zero_le _)), h.zero]; rfl
  · have := getD_of (h.st (numN g) (Nat.le_refl _))
    rw [h.last] at this
    exact this
  · have hi : i < numN g := by have := (List.getElem?_eq_some_iff.1 h2).1; unfold numN; omega
    have a1 := h.st i (by omega)
    have a2 := h.st (i + 1) (by omega)
    have := h.up i hi
    rw [h1] at a1
    rw [h2] at a2
    injection a1 with a1
    injection a2 with a2
    omega
  · rw [e]; exact h.okt k t hk

section
variable {g : Gr} (h : RG g)
include h
theorem RG.mono (i j : Nat) (hij : i ≤ j) (hj : j ≤ numN g) : sN g i ≤ sN g j := by
  induction j with
  | zero => obtain rfl : i = 0 := by omega
            exact Nat.le_refl _
  | succ j ih =>
    rcases Nat.lt_or_ge i (j + 1) with h1 | h1
    · have := ih (by omega) (by omega); have := h.up j (by omega); omega
    · obtain rfl : i = j + 1 := by omega
      exact Nat.le_refl _
theorem RG.le (i : Nat) (hi : i ≤ numN g) : sN g i ≤ g.to.length := by rw [← h.last]; exact h.mono i _ hi (Nat.le_refl _)
theorem RG.upLen (i : Nat) (hi : i ≤ numN g) : (upL g i).length = sN g i := by
  induction i with
  | zero => rw [h.zero]; rfl
  | succ i ih =>
    unfold upL at *
    rw [List.range_succ, List.flatMap_append, List.length_append, ih (by omega)]
    have := h.up i (by omega)
    simp [outL]; omega
theorem RG.allLen : (allL g).length = g.to.length := by unfold allL; rw [h.upLen _ (Nat.le_refl _), h.last]
end
theorem upL_succ (g : Gr) (i : Nat) : upL g (i + 1) = upL g i ++ outL g i := by
  unfold upL; rw [List.range_succ, List.flatMap_append]; simp
theorem out_from {g : Gr} {i : Nat} {e : Edg} (he : e ∈ outL g i) : e.1 = (i : Int) := by
  unfold outL at he
  obtain ⟨j, _, rfl⟩ := List.mem_map.1 he
  rfl
theorem outL_len (g : Gr) (i : Nat) : (outL g i).length = sN g (i + 1) - sN g i := by simp [outL]
theorem outL_at (g : Gr) (i j : Nat) (hj : j < sN g (i + 1) - sN g i) : (outL g i)[j]? = some ((i : Int), g.ag.getD (sN g i + j) 0, g.to.getD (sN g i + j) 0) := by
  simp [outL, List.getElem?_range hj]
theorem ofN_out (g : Gr) (i j : Nat) : ofN (outL g i) j = if i = j then outL g i else [] := by
  unfold ofN
  by_cases h : i = j
  · subst h
    rw [if_pos rfl]
    exact List.filter_eq_self.2 fun e he => by simpa using out_from he
  · rw [if_neg h]
    exact List.filter_eq_nil_iff.2 fun e he => by have := out_from he; simp; omega
theorem ofN_up (g : Gr) (n i : Nat) : ofN (upL g n) i = if i < n then outL g i else [] := by
  induction n with
  | zero => rfl
  | succ n ih =>
    rw [upL_succ]
    have e : ofN (upL g n ++ outL g n) i = ofN (upL g n) i ++ ofN (outL g n) i := by unfold ofN; rw [List.filter_append]
    rw [e, ih, ofN_out]
    by_cases h1 : i < n
    · rw [if_pos h1, if_neg (by omega), if_pos (by omega), List.append_nil]
    · rw [if_neg h1]
      by_cases h2 : n = i
      · subst h2; rw [if_pos rfl, if_pos (by omega), List.nil_append]
      · rw [if_neg h2, if_neg (by omega)]; rfl
theorem srt_up (g : Gr) (n i : Nat) (hi : i ≤ n) : srt i (upL g n) = upL g i := by
  induction i with
  | zero => rfl
  | succ i ih => rw [srt_succ, upL_succ, ih (by omega), ofN_up, if_pos (by omega)]
section
variable {g : Gr} (h : RG g)
include h
theorem RG.mem {e : Edg} (he : e ∈ allL g) : okE (numN g) e = true := by
  obtain ⟨i, hi, he⟩ := List.mem_flatMap.1 he
  rw [List.mem_range] at hi
  have h1 := out_from he
  unfold outL at he
  obtain ⟨j, hj, rfl⟩ := List.mem_map.1 he
  rw [List.mem_range] at hj
  have h2 := h.le (i + 1) (by omega)
  have h3 := h.alen
  have k1 := getD_some g.to (sN g i + j) (by omega)
  have k2 := getD_some g.ag (sN g i + j) (by omega)
  have o1 := h.okt _ _ k1
  have o2 := h.oka _ _ k2
  unfold okE
  exact decide_eq_true ⟨⟨by omega, by simp only []; omega⟩, o1, o2⟩
theorem RG.upAg (i : Nat) (hi : i ≤ numN g) : (upL g i).map (·.2.1) = g.ag.take (sN g i) ∧ (upL g i).map (·.2.2) = g.to.take (sN g i) := by
  induction i with
  | zero => rw [h.zero]; exact ⟨rfl, rfl⟩
  | succ i ih =>
    obtain ⟨i1, i2⟩ := ih (by omega)
    have hu := h.up i (by omega)
    have hl := h.le (i + 1) hi
    have ha := h.alen
    rw [upL_succ, List.map_append, List.map_append, i1, i2]
    have key : ∀ l : List Int, sN g (i + 1) ≤ l.length → l.take (sN g i) ++ (List.range (sN g (i + 1) - sN g i)).map (fun j => l.getD (sN g i + j) 0) = l.take (sN g (i + 1)) := by
      intro l hl
      apply List.ext_getElem
      · simp; omega
      · intro p h1 h2
        rw [List.length_take] at h2
        rw [List.getElem_append]
        split
        · simp
        · rename_i h3
          rw [List.length_take] at h3
          simp only [List.getElem_map, List.getElem_range, List.getElem_take, List.length_take]
          rw [List.getD_eq_getElem?_getD, show sN g i + (p - min (sN g i) l.length) = p by omega, List.getElem?_eq_getElem (by omega)]; rfl
    constructor
    · rw [← key g.ag (by omega)]; congr 1; simp [outL]
    · rw [← key g.to (by omega)]; congr 1; simp [outL]
theorem RG.build : bld (numN g) (allL g) = g := by
  have hl := h.last
  have ha := h.alen
  have hp := h.pos
  obtain ⟨u1, u2⟩ := h.upAg (numN g) (Nat.le_refl _)
  unfold bld allL
  rw [srt_up g _ _ (Nat.le_refl _), u1, u2, hl, List.take_length, ← ha, List.take_length]
  have e : (List.range (numN g + 1)).map (fun i => (lenS (upL g (numN g)) i : Int)) = g.st := by
    apply List.ext_getElem?
    intro p
    rcases Nat.lt_or_ge p (numN g + 1) with h1 | h1
    · rw [List.getElem?_map, List.getElem?_range h1, h.st p (by omega)]
      show some ((lenS (upL g (numN g)) p : Nat) : Int) = _
      unfold lenS
      rw [srt_up g _ _ (by omega), h.upLen p (by omega)]
    · rw [List.getElem?_eq_none (by simpa using h1), List.getElem?_eq_none (by unfold numN at h1; omega)]
  rw [e]
end

/-- What is built is right; its edges are those of each node. -/
def AllOk (n : Nat) (l : List Edg) : Prop := ∀ e ∈ l, okE n e = true
theorem AllOk.fr {n : Nat} {l : List Edg} (h : AllOk n l) : ∀ e ∈ l, 0 ≤ e.1 ∧ e.1 < (n : Int) := fun e he => by
  have := of_decide_eq_true (h e he); exact this.1
theorem AllOk.srt {n : Nat} {l : List Edg} (h : AllOk n l) : AllOk n (srt n l) := fun e he => by
  obtain ⟨i, _, he⟩ := List.mem_flatMap.1 he
  exact h e (ofN_mem he).1
theorem bld_num (n : Nat) (l : List Edg) : numN (bld n l) = n := by simp [numN, bld]
theorem bld_sN (n : Nat) (l : List Edg) (i : Nat) (hi : i ≤ n) : sN (bld n l) i = lenS l i := by
  unfold sN bld
  simp [List.getD_eq_getElem?_getD, List.getElem?_range (show i < n + 1 by omega)]
theorem bld_RG (n : Nat) (l : List Edg) (h : AllOk n l) : RG (bld n l) := by
  have hs : (srt n l).length = l.length := lenS_all n l h.fr
  refine ⟨by simp [bld], by rw [bld_sN n l 0 (Nat.zero_le _)]; rfl, ?_, by simp [bld], fun i hi => ?_, fun i hi => ?_, fun k t hk => ?_, fun k t hk => ?_⟩
  · rw [bld_num, bld_sN n l n (Nat.le_refl _)]; simp [bld, lenS]
  · rw [bld_num] at hi
    rw [bld_sN n l i (by omega), bld_sN n l (i + 1) (by omega)]
    exact lenS_mono l _ _ (by omega)
  · rw [bld_num] at hi
    rw [bld_sN n l i hi]
    simp [bld, List.getElem?_range (show i < n + 1 by omega)]
  · rw [bld_num]
    simp only [bld, List.getElem?_map, Option.map_eq_some_iff] at hk
    obtain ⟨e, he, rfl⟩ := hk
    exact (of_decide_eq_true (h.srt e (List.mem_of_getElem? he))).2.1
  · simp only [bld, List.getElem?_map, Option.map_eq_some_iff] at hk
    obtain ⟨e, he, rfl⟩ := hk
    exact (of_decide_eq_true (h.srt e (List.mem_of_getElem? he))).2.2
theorem bld_out (n : Nat) (l : List Edg) (i : Nat) (hi : i < n) : outL (bld n l) i = ofN l i := by
  have e1 := bld_sN n l i (by omega)
  have e2 := bld_sN n l (i + 1) (by omega)
  have e3 := lenS_succ l i
  apply List.ext_getElem?
  intro j
  rcases Nat.lt_or_ge j (ofN l i).length with hj | hj
  · rw [outL_at _ _ _ (by rw [e1, e2]; omega), e1]
    have hs := srt_at l n i j hi hj
    have he := List.getElem?_eq_getElem hj
    have hm := (ofN_mem (List.mem_of_getElem? he)).2
    rw [he] at hs ⊢
    have a1 : (bld n l).ag.getD (lenS l i + j) 0 = (ofN l i)[j].2.1 := getD_of (by show ((srt n l).map _)[_]? = _; rw [List.getElem?_map, hs]; rfl)
    have a2 : (bld n l).to.getD (lenS l i + j) 0 = (ofN l i)[j].2.2 := getD_of (by show ((srt n l).map _)[_]? = _; rw [List.getElem?_map, hs]; rfl)
    rw [a1, a2, ← hm]
  · rw [List.getElem?_eq_none (by rw [outL_len, e1, e2]; omega), List.getElem?_eq_none hj]
theorem bld_all (n : Nat) (l : List Edg) : allL (bld n l) = srt n l := by
  unfold allL upL
  rw [bld_num]
  unfold srt
  rw [List.flatMap_def, List.flatMap_def]
  congr 1
  exact List.map_congr_left fun i hi => bld_out n l i (List.mem_range.1 hi)

theorem srt_count (p : Edg → Bool) (n : Nat) (l : List Edg) : (srt n l).countP p = l.countP fun e => p e && decide (0 ≤ e.1 ∧ e.1 < n) := by
  induction n with
  | zero =>
    show 0 = _
    symm
    rw [List.countP_eq_zero]
    intro e _
    simp
  | succ n ih =>
    rw [srt_succ, List.countP_append, ih]
    clear ih
    induction l with
    | nil => rfl
    | cons e l ih =>
      have hf : (ofN (e :: l) n).countP p = (ofN l n).countP p + if e.1 = (n : Int) ∧ p e = true then 1 else 0 := by
        unfold ofN
        rw [List.filter_cons]
        by_cases h : e.1 = (n : Int)
        · rw [if_pos (by simpa using h), List.countP_cons]
          by_cases h2 : p e = true
          · rw [if_pos h2, if_pos ⟨h, h2⟩]
          · rw [if_neg h2, if_neg (fun x => h2 x.2)]
        · rw [if_neg (by simpa using h), if_neg (fun x => h x.1)]; rfl
      rw [List.countP_cons, List.countP_cons, hf, ← ih]
      have d1 : (if (p e && decide (0 ≤ e.1 ∧ e.1 < ((n + 1 : Nat) : Int))) = true then 1 else 0 : Nat) = (if (p e && decide (0 ≤ e.1 ∧ e.1 < (n : Int))) = true then 1 else 0) + if e.1 = (n : Int) ∧ p e = true then 1 else 0 := by
        by_cases hp : p e = true
        · rw [hp]
          simp only [Bool.true_and, decide_eq_true_eq, and_true]
          by_cases h : e.1 = (n : Int)
          · rw [if_pos h, if_neg (show ¬ (0 ≤ e.1 ∧ e.1 < (n : Int)) by omega), if_pos (show 0 ≤ e.1 ∧ e.1 < ((n + 1 : Nat) : Int) by omega)]
          · rw [if_neg h]
            by_cases h2 : 0 ≤ e.1 ∧ e.1 < (n : Int)
            · rw [if_pos h2, if_pos (show 0 ≤ e.1 ∧ e.1 < ((n + 1 : Nat) : Int) by omega)]
            · rw [if_neg h2, if_neg (show ¬ (0 ≤ e.1 ∧ e.1 < ((n + 1 : Nat) : Int)) by omega)]
        · simp [hp]
      rw [d1]; omega
theorem srt_count' (p : Edg → Bool) (n : Nat) (l : List Edg) (h : ∀ e ∈ l, 0 ≤ e.1 ∧ e.1 < (n : Int)) : (srt n l).countP p = l.countP p := by
  rw [srt_count]
  refine List.countP_congr fun e he => ?_
  have := h e he
  simp [this]
theorem ofN_count (l : List Edg) (i : Nat) : (ofN l i).length = l.countP fun e => e.1 == (i : Int) := by
  unfold ofN; rw [List.countP_eq_length_filter]
theorem swp_ok {n : Nat} {l : List Edg} (h : AllOk n l) : AllOk n (l.map swp) := fun e he => by
  obtain ⟨x, hx, rfl⟩ := List.mem_map.1 he
  have := of_decide_eq_true (h x hx)
  exact decide_eq_true ⟨this.2.1, this.1, this.2.2⟩
section
variable {g : Gr} (h : RG g)
include h
theorem RG.allOk : AllOk (numN g) (allL g) := fun e he => h.mem he
theorem RG.back : RG (backG g) := bld_RG _ _ (swp_ok h.allOk)
theorem RG.keepOk (l : List Bool) : AllOk (numN g) (keepL g l) := fun e he => h.mem (List.mem_filter.1 he).1
theorem RG.keep (l : List Bool) : RG (keepG g l) := bld_RG _ _ (h.keepOk l)
omit h in
theorem RG.backOut (i : Nat) (hi : i < numN g) : (outL (backG g) i).length = (allL g).countP fun e => e.2.2 == (i : Int) := by
  unfold backG
  rw [bld_out _ _ i hi, ofN_count, List.countP_map]
  rfl
theorem RG.backAll : (allL (backG g)).length = (allL g).length := by
  unfold backG
  rw [bld_all]
  have := lenS_all (numN g) _ (swp_ok h.allOk).fr
  unfold lenS at this
  rw [this, List.length_map]
omit h in
theorem RG.outCount (i : Nat) (hi : i < numN g) : (outL g i).length = (allL g).countP fun e => e.1 == (i : Int) := by
  rw [← ofN_count]
  unfold allL
  rw [ofN_up, if_pos hi]
theorem RG.twice (i : Nat) (hi : i < numN g) : (outL (backG (backG g)) i).length = (outL g i).length := by
  have hn : numN (backG g) = numN g := bld_num _ _
  rw [RG.backOut i (by rw [hn]; exact hi), RG.outCount i hi]
  unfold backG
  rw [bld_all, srt_count' _ _ _ (swp_ok h.allOk).fr, List.countP_map]
  rfl
theorem RG.keepAll (l : List Bool) (hl : l = List.replicate (numN g) true) : keepG g l = g := by
  have : keepL g l = allL g := by
    unfold keepL
    refine List.filter_eq_self.2 fun e he => ?_
    have := of_decide_eq_true (h.mem he)
    subst hl
    have k : ∀ x : Int, 0 ≤ x ∧ x < (numN g : Int) → isIn (List.replicate (numN g) true) x = true := by
      intro x hx
      unfold isIn
      rw [List.length_replicate, decide_eq_true hx.2, Bool.true_and, List.getD_eq_getElem?_getD, List.getElem?_replicate_of_lt (by omega)]; rfl
    rw [k _ this.1, k _ this.2.1]; rfl
  unfold keepG
  rw [this, h.build]
end
theorem keep_none (g : Gr) : allL (keepG g []) = [] := by
  have : keepL g [] = [] := by
    unfold keepL
    refine List.filter_eq_nil_iff.2 fun e he => ?_
    simp [isIn]
  unfold keepG
  rw [bld_all, this]
  unfold srt ofN
  simp

/-- What can be reached. -/
inductive Rch (E : List Edg) (F : List Int) (n : Nat) : Int → Prop
  | base (x : Int) : x ∈ F → 0 ≤ x → x < (n : Int) → Rch E F n x
  | step (e : Edg) : e ∈ E → Rch E F n e.1 → Rch E F n e.2.2
def IsR (E : List Edg) (F : List Int) (n : Nat) (r : List Bool) : Prop := r.length = n ∧ ∀ i : Nat, i < n → (r[i]? = some true ↔ Rch E F n i)
theorem isR_one {E : List Edg} {F : List Int} {n : Nat} {r s : List Bool} (h1 : IsR E F n r) (h2 : IsR E F n s) : r = s := by
  apply List.ext_getElem
  · rw [h1.1, h2.1]
  · intro i i1 i2
    have hi : i < n := by rw [← h1.1]; exact i1
    have a := (h1.2 i hi).trans (h2.2 i hi).symm
    rw [List.getElem?_eq_getElem i1, List.getElem?_eq_getElem i2] at a
    cases hr : r[i] <;> cases hs : s[i] <;> simp_all
theorem rch_in {n : Nat} {E : List Edg} (hE : AllOk n E) {F : List Int} {x : Int} (h : Rch E F n x) : 0 ≤ x ∧ x < (n : Int) := by
  induction h with
  | base x _ h1 h2 => exact ⟨h1, h2⟩
  | step e he _ _ => exact (of_decide_eq_true (hE e he)).2.1
theorem rch_more {E : List Edg} {F F' : List Int} {n : Nat} (hF : ∀ x ∈ F, x ∈ F') {x : Int} (h : Rch E F n x) : Rch E F' n x := by
  induction h with
  | base x h0 h1 h2 => exact .base x (hF x h0) h1 h2
  | step e he _ ih => exact .step e he ih
theorem rch_nil {E : List Edg} {n : Nat} {x : Int} (h : Rch E [] n x) : False := by
  induction h with
  | base x h0 _ _ => cases h0
  | step e _ _ ih => exact ih
/-- What is closed, has all that it begins with, and nothing that can't be reached, is what can be reached. -/
theorem isR_of {E : List Edg} {F : List Int} {n : Nat} {r : List Bool} (hE : AllOk n E) (hl : r.length = n) (hs : ∀ i : Nat, r[i]? = some true → Rch E F n i) (hF : ∀ x ∈ F, 0 ≤ x → x < (n : Int) → r[x.toNat]? = some true)
    (hc : ∀ e ∈ E, r[e.1.toNat]? = some true → r[e.2.2.toNat]? = some true) : IsR E F n r := by
  refine ⟨hl, fun i hi => ⟨hs i, fun h => ?_⟩⟩
  have key : ∀ x : Int, Rch E F n x → r[x.toNat]? = some true := by
    intro x hx
    induction hx with
    | base x h0 h1 h2 => exact hF x h0 h1 h2
    | step e he _ ih => exact hc e he ih
  exact key _ h

end Go.Proofs.Ytkdpimifojjhaaa
