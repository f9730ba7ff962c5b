/- Layer 17: components are numbered by their least nodes: plainly. -/
import Derived.Test.YtkdpimifojjhaaaQa
namespace Go.Proofs.Ytkdpimifojjhaaa
set_option linter.unusedSimpArgs false
set_option linter.unusedVariables false
set_option linter.unusedSectionVars false
open Go.RowKit

/-- The edges of a graph; mutual reach. -/
def egr (g : Gr) : EE := ⟨numN g, sN g, fun k => (g.to.getD k 0).toNat⟩
def Mut (A : Nat → Nat → Prop) (i j : Nat) : Prop := Rea A i j ∧ Rea A j i
theorem Mut.refl (A : Nat → Nat → Prop) (i : Nat) : Mut A i i := ⟨Rea.refl i, Rea.refl i⟩
theorem Mut.symm {A : Nat → Nat → Prop} {i j : Nat} (h : Mut A i j) : Mut A j i := ⟨h.2, h.1⟩
theorem Mut.trans {A : Nat → Nat → Prop} {i j k : Nat} (h : Mut A i j) (h2 : Mut A j k) : Mut A i k := ⟨h.1.trans h2.1, h2.2.trans h.2⟩
theorem RG.toAt {g : Gr} (h : RG g) (k : Nat) (hk : k < g.to.length) : g.to[k]? = some ((g.to.getD k 0).toNat : Int) ∧ (g.to.getD k 0).toNat < numN g := by
  have e := getD_some g.to k hk
  have := h.okt k _ e
  exact ⟨by rw [e]; congr 1; omega, by omega⟩
theorem RG.ee {g : Gr} (h : RG g) : (egr g).Ok := by
  refine ⟨h.up, fun v k hv a1 a2 => ?_⟩
  have := h.le (v + 1) (show v + 1 ≤ numN g from hv)
  have a2' : k < sN g (v + 1) := a2
  exact (h.toAt k (by omega)).2
theorem RG.edge {g : Gr} (h : RG g) {e : Edg} (he : e ∈ allL g) : ∃ v u : Nat, e.1 = v ∧ e.2.2 = u ∧ v < numN g ∧ u < numN g ∧ (egr g).A v u := by
  obtain ⟨i, hi, he⟩ := List.mem_flatMap.1 he
  rw [List.mem_range] at hi
  unfold outL at he
  obtain ⟨j, hj, rfl⟩ := List.mem_map.1 he
  rw [List.mem_range] at hj
  have hle := h.le (i + 1) hi
  have ht := h.toAt (sN g i + j) (by omega)
  have e2 := getD_some g.to (sN g i + j) (by omega)
  rw [ht.1] at e2
  injection e2 with e2
  exact ⟨i, (g.to.getD (sN g i + j) 0).toNat, rfl, e2.symm, hi, ht.2, hi, sN g i + j, Nat.le_add_right .., by show sN g i + j < sN g (i + 1); omega, rfl⟩
theorem RG.ofA {g : Gr} (h : RG g) {v u : Nat} (hA : (egr g).A v u) : ∃ e ∈ allL g, e.1 = (v : Int) ∧ e.2.2 = (u : Int) ∧ u < numN g := by
  obtain ⟨hv, k, a1, a2, rfl⟩ := hA
  have hv' : v < numN g := hv
  have a1' : sN g v ≤ k := a1
  have a2' : k < sN g (v + 1) := a2
  have hle := h.le (v + 1) hv'
  have ht := h.toAt k (by omega)
  have e2 := getD_some g.to k (by omega)
  rw [ht.1] at e2
  injection e2 with e2
  refine ⟨((v : Int), g.ag.getD k 0, g.to.getD k 0), List.mem_flatMap.2 ⟨v, List.mem_range.2 hv', ?_⟩, rfl, e2.symm, ht.2⟩
  unfold outL
  exact List.mem_map.2 ⟨k - sN g v, List.mem_range.2 (by omega), by rw [show sN g v + (k - sN g v) = k by omega]⟩
theorem RG.rea_lt {g : Gr} (h : RG g) {i j : Nat} (hr : Rea (egr g).A i j) (hi : i < numN g) : j < numN g := by
  induction hr with
  | refl => exact hi
  | tail _ e _ => obtain ⟨_, _, _, _, hu⟩ := h.ofA e; exact hu
theorem RG.rch {g : Gr} (h : RG g) (i : Nat) (hi : i < numN g) (x : Int) : Rch (allL g) [(i : Int)] (numN g) x ↔ ∃ j : Nat, x = j ∧ Rea (egr g).A i j := by
  constructor
  · intro hr
    induction hr with
    | base x hm _ _ => rw [List.mem_singleton] at hm; exact ⟨i, hm, Rea.refl i⟩
    | step e he _ ih =>
      obtain ⟨v, u, e1, e2, _, _, hA⟩ := h.edge he
      obtain ⟨j, ej, hr⟩ := ih
      have : j = v := by omega
      exact ⟨u, e2, (this ▸ hr).tail hA⟩
  · rintro ⟨j, rfl, hr⟩
    induction hr with
    | refl => exact .base _ (List.mem_singleton.2 rfl) (by omega) (by omega)
    | tail _ hA ih =>
      obtain ⟨e, he, e1, e2, _⟩ := h.ofA hA
      rw [← e2]
      exact .step e he (by rw [e1]; exact ih)

/-- How many there are among the first i, if they are numbered by the first ones. -/
def nx (p : Nat → Nat) : Nat → Nat
  | 0 => 0
  | i + 1 => if p i = nx p i then nx p i + 1 else nx p i
def Canon (p : Nat → Nat) (n : Nat) : Prop := ∀ i, i < n → p i ≤ nx p i
theorem nx_up (p : Nat → Nat) (i : Nat) : nx p i ≤ nx p (i + 1) ∧ nx p (i + 1) ≤ nx p i + 1 := by
  show nx p i ≤ (if p i = nx p i then nx p i + 1 else nx p i) ∧ (if p i = nx p i then nx p i + 1 else nx p i) ≤ nx p i + 1
  split <;> omega
theorem nx_le (p : Nat → Nat) : ∀ i, nx p i ≤ i
  | 0 => Nat.le_refl _
  | i + 1 => by have := nx_le p i; have := (nx_up p i).2; omega
theorem nx_has (p : Nat → Nat) : ∀ i v, v < nx p i → ∃ k, k < i ∧ p k = v
  | 0, v, h => absurd h (Nat.not_lt_zero _)
  | i + 1, v, h => by
    have h : v < (if p i = nx p i then nx p i + 1 else nx p i) := h
    by_cases h1 : v < nx p i
    · obtain ⟨k, hk, e⟩ := nx_has p i v h1; exact ⟨k, by omega, e⟩
    · split at h
      · exact ⟨i, by omega, by omega⟩
      · omega
theorem nx_lt (p : Nat → Nat) (n : Nat) (hc : Canon p n) : ∀ i, i ≤ n → ∀ k, k < i → p k < nx p i
  | 0, _, k, h => absurd h (Nat.not_lt_zero _)
  | i + 1, hi, k, h => by
    show _ < (if p i = nx p i then nx p i + 1 else nx p i)
    by_cases hk : k = i
    · subst hk; have := hc k (by omega); split <;> omega
    · have := nx_lt p n hc i (by omega) k (by omega); split <;> omega
theorem canon_one {p q : Nat → Nat} {n : Nat} (hp : Canon p n) (hq : Canon q n) (h : ∀ i j, i < n → j < n → (p i = p j ↔ q i = q j)) : ∀ i, i ≤ n → (∀ k, k < i → p k = q k) ∧ nx p i = nx q i
  | 0, _ => ⟨fun k hk => absurd hk (Nat.not_lt_zero _), rfl⟩
  | i + 1, hi => by
    obtain ⟨h1, h2⟩ := canon_one hp hq h i (by omega)
    have e : p i = q i := by
      by_cases hn : p i = nx p i
      · by_cases hm : q i = nx q i
        · omega
        · obtain ⟨k, hk, ek⟩ := nx_has q i (q i) (by have := hq i (by omega); omega)
          have := (h k i (by omega) (by omega)).2 ek
          have := nx_lt p n hp i (by omega) k hk
          omega
      · obtain ⟨k, hk, ek⟩ := nx_has p i (p i) (by have := hp i (by omega); omega)
        have := (h k i (by omega) (by omega)).1 ek
        have := h1 k hk
        omega
    refine ⟨fun k hk => ?_, ?_⟩
    · by_cases hki : k = i
      · rw [hki]; exact e
      · exact h1 k (by omega)
    · show (if p i = nx p i then nx p i + 1 else nx p i) = (if q i = nx q i then nx q i + 1 else nx q i)
      rw [e, h2]

/-- The numbering by a leader of each: which leaders have a number, how many do. -/
def cst (L : Nat → Nat) : Nat → (Nat → Int) × Nat
  | 0 => (fun _ => -1, 0)
  | i + 1 => if (cst L i).1 (L i) = -1 then (upd (cst L i).1 (L i) (cst L i).2, (cst L i).2 + 1) else cst L i
def cpn (L : Nat → Nat) (i : Nat) : Nat := ((cst L (i + 1)).1 (L i)).toNat
theorem cst_inv (L : Nat → Nat) : ∀ i, (∀ k, k < i → (cst L i).1 (L k) ≠ -1) ∧ (∀ l, (cst L i).1 l ≠ -1 → 0 ≤ (cst L i).1 l ∧ (cst L i).1 l < (cst L i).2 ∧ ∃ k, k < i ∧ L k = l) ∧ (∀ l l', (cst L i).1 l ≠ -1 → (cst L i).1 l = (cst L i).1 l' → l = l')
  | 0 => ⟨fun k hk => absurd hk (Nat.not_lt_zero _), fun l h => absurd rfl h, fun l l' h => absurd rfl h⟩
  | i + 1 => by
    obtain ⟨h1, h2, h3⟩ := cst_inv L i
    by_cases hn : (cst L i).1 (L i) = -1
    · have e : cst L (i + 1) = (upd (cst L i).1 (L i) (cst L i).2, (cst L i).2 + 1) := if_pos hn
      rw [e]
      refine ⟨fun k hk => ?_, fun l hl => ?_, fun l l' hl hll => ?_⟩
      · show upd _ _ _ (L k) ≠ -1
        by_cases hk2 : L k = L i
        · rw [hk2, upd_same]; omega
        · rw [upd_ne _ _ hk2]
          exact h1 k (by have : k ≠ i := fun e => hk2 (by rw [e]); omega)
      · show 0 ≤ upd _ _ _ l ∧ upd _ _ _ l < (((cst L i).2 + 1 : Nat) : Int) ∧ _
        have hl : upd (cst L i).1 (L i) ((cst L i).2 : Int) l ≠ -1 := hl
        by_cases hk2 : l = L i
        · rw [hk2, upd_same]; exact ⟨by omega, by omega, i, by omega, rfl⟩
        · rw [upd_ne _ _ hk2] at hl ⊢
          obtain ⟨a1, a2, k, a3, a4⟩ := h2 l hl
          exact ⟨a1, by omega, k, by omega, a4⟩
      · have hl : upd (cst L i).1 (L i) ((cst L i).2 : Int) l ≠ -1 := hl
        have hll : upd (cst L i).1 (L i) ((cst L i).2 : Int) l = upd (cst L i).1 (L i) ((cst L i).2 : Int) l' := hll
        by_cases hk2 : l = L i
        · by_cases hk3 : l' = L i
          · rw [hk2, hk3]
          · rw [hk2, upd_same, upd_ne _ _ hk3] at hll
            have := (h2 l' (by omega)).2.1
            omega
        · by_cases hk3 : l' = L i
          · rw [hk3, upd_same, upd_ne _ _ hk2] at hll
            have := (h2 l (by omega)).2.1
            omega
          · rw [upd_ne _ _ hk2] at hl; rw [upd_ne _ _ hk2, upd_ne _ _ hk3] at hll
            exact h3 l l' hl hll
    · have e : cst L (i + 1) = cst L i := if_neg hn
      rw [e]
      refine ⟨fun k hk => ?_, fun l hl => ?_, h3⟩
      · by_cases hk2 : k = i
        · rw [hk2]; exact hn
        · exact h1 k (by omega)
      · obtain ⟨a1, a2, k, a3, a4⟩ := h2 l hl
        exact ⟨a1, a2, k, by omega, a4⟩
theorem cst_keep (L : Nat → Nat) (i : Nat) (l : Nat) (h : (cst L i).1 l ≠ -1) : (cst L (i + 1)).1 l = (cst L i).1 l := by
  by_cases hn : (cst L i).1 (L i) = -1
  · have e : cst L (i + 1) = (upd (cst L i).1 (L i) (cst L i).2, (cst L i).2 + 1) := if_pos hn
    rw [e]
    exact upd_ne _ _ fun e2 => h (by rw [e2]; exact hn)
  · have e : cst L (i + 1) = cst L i := if_neg hn
    rw [e]
theorem cst_later (L : Nat → Nat) (i : Nat) : ∀ j, i < j → (cst L j).1 (L i) = (cpn L i : Int)
  | 0, h => absurd h (Nat.not_lt_zero _)
  | j + 1, h => by
    by_cases hij : i = j
    · subst hij
      unfold cpn
      have h1 := (cst_inv L (i + 1)).1 i (by omega)
      have := ((cst_inv L (i + 1)).2.1 _ h1).1
      omega
    · rw [cst_keep L j _ ((cst_inv L j).1 i (by omega))]
      exact cst_later L i j (by omega)
theorem cpn_same (L : Nat → Nat) (i j : Nat) : cpn L i = cpn L j ↔ L i = L j := by
  have h1 := cst_later L i (i + j + 1) (by omega)
  have h2 := cst_later L j (i + j + 1) (by omega)
  have hI := cst_inv L (i + j + 1)
  constructor
  · intro e
    exact hI.2.2 (L i) (L j) (hI.1 i (by omega)) (by rw [h1, h2, e])
  · intro e
    rw [e] at h1
    omega
theorem cst_new (L : Nat → Nat) (i : Nat) : (cst L i).2 = nx (cpn L) i ∧ cpn L i ≤ nx (cpn L) i ∧ (cpn L i = nx (cpn L) i ↔ (cst L i).1 (L i) = -1) := by
  induction i with
  | zero =>
    have e : cst L 1 = (upd (fun _ => -1) (L 0) ((0 : Nat) : Int), 1) := if_pos rfl
    have e0 : cpn L 0 = 0 := by unfold cpn; rw [e]; simp [upd]
    exact ⟨rfl, by rw [e0]; exact Nat.le_refl _, ⟨fun _ => rfl, fun _ => e0⟩⟩
  | succ i ih =>
    obtain ⟨h1, h2, h3⟩ := ih
    have k1 : (cst L (i + 1)).2 = nx (cpn L) (i + 1) := by
      show _ = if cpn L i = nx (cpn L) i then _ else _
      by_cases hn : (cst L i).1 (L i) = -1
      · have e : cst L (i + 1) = (upd (cst L i).1 (L i) (cst L i).2, (cst L i).2 + 1) := if_pos hn
        rw [e, if_pos (h3.2 hn), ← h1]
      · have e : cst L (i + 1) = cst L i := if_neg hn
        rw [e, if_neg (fun hh => hn (h3.1 hh)), h1]
    refine ⟨k1, ?_⟩
    by_cases hn : (cst L (i + 1)).1 (L (i + 1)) = -1
    · have e : cst L (i + 2) = (upd (cst L (i + 1)).1 (L (i + 1)) (cst L (i + 1)).2, (cst L (i + 1)).2 + 1) := if_pos hn
      have e0 : cpn L (i + 1) = (cst L (i + 1)).2 := by unfold cpn; rw [e]; simp [upd]
      exact ⟨by rw [e0, k1]; exact Nat.le_refl _, ⟨fun _ => hn, fun _ => by rw [e0, k1]⟩⟩
    · have e := cst_keep L (i + 1) _ hn
      have := (cst_inv L (i + 1)).2.1 _ hn
      have e0 : (cpn L (i + 1) : Int) = (cst L (i + 1)).1 (L (i + 1)) := by unfold cpn; rw [e]; omega
      refine ⟨by omega, ⟨fun hh => ?_, fun hh => absurd hh hn⟩⟩
      omega
theorem cpn_canon (L : Nat → Nat) (n : Nat) : Canon (cpn L) n := fun i _ => (cst_new L i).2.1

open Classical in
/-- The least one that is the same as i. -/
noncomputable def lst (R : Nat → Nat → Prop) (i : Nat) : Nat := ((List.range (i + 1)).find? fun k => decide (R k i)).getD i
/-- The number of i. -/
noncomputable def pn (R : Nat → Nat → Prop) (i : Nat) : Nat := cpn (lst R) i
section
variable {A : Nat → Nat → Prop}
theorem lst_rel (i : Nat) : Mut A (lst (Mut A) i) i := by
  unfold lst
  cases h : (List.range (i + 1)).find? fun k => @decide (Mut A k i) (Classical.propDecidable _) with
  | none => exact Mut.refl A i
  | some k => have h2 := List.find?_some h; show Mut A k i; simpa using h2
theorem lst_same (i j : Nat) : lst (Mut A) i = lst (Mut A) j ↔ Mut A i j := by
  constructor
  · intro e
    exact (lst_rel i).symm.trans (e ▸ lst_rel j)
  · intro h
    have key : ∀ i j, Mut A i j → lst (Mut A) i ≤ lst (Mut A) j := by
      intro i j h
      have hj := lst_rel (A := A) j
      rcases Nat.lt_or_ge (lst (Mut A) j) (lst (Mut A) i) with hlt | hge
      · exfalso
        have hle : lst (Mut A) i ≤ i := by
          unfold lst
          cases h : (List.range (i + 1)).find? fun k => @decide (Mut A k i) (Classical.propDecidable _) with
          | none => exact Nat.le_refl _
          | some k => have := List.mem_of_find?_eq_some h; have := List.mem_range.1 this; show k ≤ i; omega
        have hm : Mut A (lst (Mut A) j) i := hj.trans h.symm
        generalize lst (Mut A) j = m at hlt hm
        revert hlt hle
        unfold lst
        cases hf : (List.range (i + 1)).find? fun k => @decide (Mut A k i) (Classical.propDecidable _) with
        | none =>
          intro hle hlt
          have := List.find?_eq_none.1 hf m (List.mem_range.2 (by have : m < i := hlt; omega))
          exact this (by simpa using hm)
        | some k =>
          intro hle hlt
          have hlt : m < k := hlt
          obtain ⟨_, l1, l2, e1, e2⟩ := List.find?_eq_some_iff_append.1 hf
          have hk : k = l1.length := by
            have e3 : (List.range (i + 1))[l1.length]? = some k := by rw [e1]; simp
            have hl : l1.length < i + 1 := by have := congrArg List.length e1; simp at this; omega
            rw [List.getElem?_range hl] at e3
            injection e3 with e3
            exact e3.symm
          have hm2 : m ∈ l1 := by
            have e3 : (List.range (i + 1))[m]? = l1[m]? := by rw [e1, List.getElem?_append_left (by omega)]
            rw [List.getElem?_range (by have : k ≤ i := hle; omega)] at e3
            exact List.mem_of_getElem? e3.symm
          have h5 := e2 m hm2
          simp at h5
          exact h5 hm
      · exact hge
    exact Nat.le_antisymm (key i j h) (key j i h.symm)
theorem pn_same (i j : Nat) : pn (Mut A) i = pn (Mut A) j ↔ Mut A i j := (cpn_same _ i j).trans (lst_same i j)
theorem pn_canon (n : Nat) : Canon (pn (Mut A)) n := cpn_canon _ n
end

/-- The parts of a graph. -/
noncomputable def pnG (g : Gr) : Nat → Nat := pn (Mut (egr g).A)
def tab {α : Type} (n : Nat) (f : Nat → α) : List α := (List.range n).map f
theorem tab_len {α : Type} (n : Nat) (f : Nat → α) : (tab n f).length = n := by simp [tab]
theorem tab_at {α : Type} (n : Nat) (f : Nat → α) (i : Nat) (h : i < n) : (tab n f)[i]? = some (f i) := by simp [tab, List.getElem?_range h]
theorem tab_set {α : Type} (n : Nat) (f : Nat → α) (i : Nat) (x : α) : (tab n f).set i x = tab n (upd f i x) := by
  apply List.ext_getElem?
  intro j
  rw [List.getElem?_set]
  by_cases hj : i = j
  · subst hj
    rw [if_pos rfl, tab_len]
    split
    · rename_i h; rw [tab_at _ _ _ h, upd_same]
    · rw [List.getElem?_eq_none (by rw [tab_len]; omega)]
  · rw [if_neg hj]
    by_cases h : j < n
    · rw [tab_at _ _ _ h, tab_at _ _ _ h, upd_ne _ _ (Ne.symm hj)]
    · rw [List.getElem?_eq_none (by rw [tab_len]; omega), List.getElem?_eq_none (by rw [tab_len]; omega)]
theorem tab_congr {α : Type} {n : Nat} {f f' : Nat → α} (h : ∀ i, i < n → f i = f' i) : tab n f = tab n f' := List.map_congr_left fun i hi => h i (List.mem_range.1 hi)
theorem tab_rep {α : Type} (n : Nat) (x : α) : tab n (fun _ => x) = List.replicate n x := range_rep x n
noncomputable def parG (g : Gr) : List Int := if rightG g = true then tab (numN g) fun i => (pnG g i : Int) else []
/-- The nodes of each part, among the first i. -/
def grp (p : Nat → Nat) (m i : Nat) : List (List Int) := tab m fun v => ((List.range i).filter fun k => p k == v).map Int.ofNat
noncomputable def grpG (g : Gr) : List (List Int) := if rightG g = true then grp (pnG g) (nx (pnG g) (numN g)) (numN g) else []

end Go.Proofs.Ytkdpimifojjhaaa
