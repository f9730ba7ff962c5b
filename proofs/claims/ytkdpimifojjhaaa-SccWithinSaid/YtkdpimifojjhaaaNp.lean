/- Layer 14: the search, plainly. -/
import Derived.Test.YtkdpimifojjhaaaNn
namespace Go.Proofs.Ytkdpimifojjhaaa
set_option linter.unusedSimpArgs false
set_option linter.unusedVariables false
set_option linter.unusedSectionVars false
open Go.RowKit

/-- How many are not reached yet. -/
def cf (R : List Bool) : Nat := R.countP fun b => !b
theorem cf_set (R : List Bool) (k : Nat) (h : R[k]? = some false) : cf (R.set k true) + 1 = cf R := by
  induction R generalizing k with
  | nil => simp at h
  | cons a R ih =>
    cases k with
    | zero =>
      have h : a = false := by simpa using h
      subst h
      simp [cf]
    | succ k =>
      have := ih k (by simpa using h)
      unfold cf at *
      rw [List.set_cons_succ, List.countP_cons, List.countP_cons]
      omega
theorem cf_le (R : List Bool) : cf R ≤ R.length := List.countP_le_length
theorem cf_rep (n : Nat) : cf (List.replicate n false) = n := by simp [cf, List.countP_replicate]

/-- What a visit of a list of numbers leaves of what is reached and what is open. -/
structure Vis (n : Nat) (l : List Int) (R : List Bool) (S : List Int) (R' : List Bool) (S' : List Int) : Prop where
  len : R'.length = R.length
  mono : ∀ i : Nat, R[i]? = some true → R'[i]? = some true
  all : ∀ x ∈ l, 0 ≤ x → x < (n : Int) → R'[x.toNat]? = some true
  new : ∀ i : Nat, R'[i]? = some true → R[i]? = some true ∨ ((i : Int) ∈ l ∧ (i : Int) ∈ S')
  sub : ∀ x ∈ S, x ∈ S'
  src : ∀ x ∈ S', x ∈ S ∨ (R'[x.toNat]? = some true ∧ 0 ≤ x ∧ x < (n : Int))
  meas : 2 * cf R' + S'.length ≤ 2 * cf R + S.length
theorem Vis.start (n : Nat) (R : List Bool) (S : List Int) : Vis n [] R S R S :=
  ⟨rfl, fun _ h => h, fun x hx => (by cases hx), fun _ h => .inl h, fun _ h => h, fun _ h => .inl h, Nat.le_refl _⟩
theorem take_mem {l : List Int} {k : Nat} {x : Int} (h : k < l.length) : x ∈ l.take (k + 1) ↔ x ∈ l.take k ∨ x = l[k] := by
  rw [List.take_add_one, List.getElem?_eq_getElem h, List.mem_append]
  simp
theorem Vis.skip {n : Nat} {l : List Int} {R R' : List Bool} {S S' : List Int} {k : Nat} (v : Vis n (l.take k) R S R' S') (hk : k < l.length) (h : 0 ≤ l[k] → l[k] < (n : Int) → R'[l[k].toNat]? = some true) : Vis n (l.take (k + 1)) R S R' S' := by
  refine ⟨v.len, v.mono, fun x hx h0 h1 => ?_, fun i hi => ?_, v.sub, v.src, v.meas⟩
  · rcases (take_mem hk).1 hx with hx | rfl
    · exact v.all x hx h0 h1
    · exact h h0 h1
  · rcases v.new i hi with h1 | h1
    · exact .inl h1
    · exact .inr ⟨(take_mem hk).2 (.inl h1.1), h1.2⟩
theorem Vis.push {n : Nat} {l : List Int} {R R' : List Bool} {S S' : List Int} {k : Nat} (v : Vis n (l.take k) R S R' S') (hk : k < l.length) (h0 : 0 ≤ l[k]) (h1 : l[k] < (n : Int)) (hf : R'[l[k].toNat]? = some false) : Vis n (l.take (k + 1)) R S (R'.set l[k].toNat true) (S' ++ [l[k]]) := by
  have hlt : l[k].toNat < R'.length := (List.getElem?_eq_some_iff.1 hf).1
  have hup : ∀ i : Nat, R'[i]? = some true → (R'.set l[k].toNat true)[i]? = some true := by
    intro i hi
    rw [List.getElem?_set]
    by_cases h : l[k].toNat = i
    · rw [if_pos h, if_pos hlt]
    · rw [if_neg h]; exact hi
  have hself : (R'.set l[k].toNat true)[l[k].toNat]? = some true := by rw [List.getElem?_set_self hlt]
  refine ⟨by rw [List.length_set]; exact v.len, fun i hi => hup i (v.mono i hi), fun x hx g0 g1 => ?_, fun i hi => ?_, fun x hx => List.mem_append_left _ (v.sub x hx), fun x hx => ?_, ?_⟩
  · rcases (take_mem hk).1 hx with hx | rfl
    · exact hup _ (v.all x hx g0 g1)
    · exact hself
  · by_cases h : l[k].toNat = i
    · have e : (i : Int) = l[k] := by omega
      rw [e]
      exact .inr ⟨(take_mem hk).2 (.inr rfl), by simp⟩
    · rw [List.getElem?_set_ne h] at hi
      rcases v.new i hi with h1 | h1
      · exact .inl h1
      · exact .inr ⟨(take_mem hk).2 (.inl h1.1), List.mem_append_left _ h1.2⟩
  · rcases List.mem_append.1 hx with hx | hx
    · rcases v.src x hx with h2 | h2
      · exact .inl h2
      · exact .inr ⟨hup _ h2.1, h2.2⟩
    · rw [List.mem_singleton] at hx
      subst hx
      exact .inr ⟨hself, h0, h1⟩
  · have := cf_set R' _ hf
    have := v.meas
    rw [List.length_append]
    simp only [List.length_cons, List.length_nil]
    omega

/-- A node's targets. -/
def toL (g : Gr) (x : Nat) : List Int := (g.to.take (sN g (x + 1))).drop (sN g x)
theorem RG.toL_mem {g : Gr} (h : RG g) (x : Nat) (hx : x < numN g) (y : Int) : y ∈ toL g x ↔ ∃ e ∈ allL g, e.1 = (x : Int) ∧ e.2.2 = y := by
  have hu := h.up x hx
  have hl := h.le (x + 1) hx
  have ha := h.alen
  constructor
  · intro hy
    unfold toL at hy
    obtain ⟨j, hj, he⟩ := List.mem_iff_getElem.1 hy
    rw [List.length_drop, List.length_take] at hj
    have hjj : j < sN g (x + 1) - sN g x := by omega
    refine ⟨((x : Int), g.ag.getD (sN g x + j) 0, g.to.getD (sN g x + j) 0), ?_, rfl, ?_⟩
    · unfold allL upL
      rw [List.mem_flatMap]
      exact ⟨x, List.mem_range.2 hx, List.mem_of_getElem? (outL_at g x j hjj)⟩
    · rw [← he, List.getElem_drop, List.getElem_take]
      simp only []
      rw [List.getD_eq_getElem?_getD, List.getElem?_eq_getElem (by omega)]; rfl
  · rintro ⟨e, he, h1, rfl⟩
    have he2 : e ∈ ofN (allL g) x := by unfold ofN; rw [List.mem_filter]; exact ⟨he, by simpa using h1⟩
    unfold allL at he2
    rw [ofN_up, if_pos hx] at he2
    unfold outL at he2
    obtain ⟨j, hj, rfl⟩ := List.mem_map.1 he2
    rw [List.mem_range] at hj
    unfold toL
    rw [List.mem_iff_getElem]
    refine ⟨j, by rw [List.length_drop, List.length_take]; omega, ?_⟩
    rw [List.getElem_drop, List.getElem_take]
    simp only []
    rw [List.getD_eq_getElem?_getD, List.getElem?_eq_getElem (by omega)]; rfl

/-- How far the search is. -/
structure Sea (g : Gr) (F : List Int) (R : List Bool) (S : List Int) : Prop where
  len : R.length = numN g
  snd : ∀ i : Nat, R[i]? = some true → Rch (allL g) F (numN g) i
  stk : ∀ x ∈ S, R[x.toNat]? = some true ∧ 0 ≤ x ∧ x < (numN g : Int)
  frm : ∀ x ∈ F, 0 ≤ x → x < (numN g : Int) → R[x.toNat]? = some true
  cls : ∀ e ∈ allL g, R[e.1.toNat]? = some true → e.1 ∈ S ∨ R[e.2.2.toNat]? = some true
theorem Sea.start {g : Gr} (h : RG g) {F : List Int} {R' : List Bool} {S' : List Int} (v : Vis (numN g) F (List.replicate (numN g) false) [] R' S') : Sea g F R' S' := by
  have hno : ∀ i : Nat, ¬ (List.replicate (numN g) false)[i]? = some true := by
    intro i hi
    rw [List.getElem?_replicate] at hi
    split at hi <;> simp at hi
  have hin : ∀ i : Nat, R'[i]? = some true → i < numN g := by
    intro i hi
    have := (List.getElem?_eq_some_iff.1 hi).1
    rw [v.len, List.length_replicate] at this
    exact this
  refine ⟨by rw [v.len, List.length_replicate], fun i hi => ?_, fun x hx => ?_, v.all, fun e he h1 => ?_⟩
  · rcases v.new i hi with h1 | h1
    · exact absurd h1 (hno i)
    · exact .base _ h1.1 (by omega) (by have := hin i hi; omega)
  · rcases v.src x hx with h1 | h1
    · cases h1
    · exact h1
  · have hok := of_decide_eq_true (h.mem he)
    rcases v.new _ h1 with h2 | h2
    · exact absurd h2 (hno _)
    · left
      have : ((e.1.toNat : Nat) : Int) = e.1 := by omega
      rw [← this]; exact h2.2
theorem Sea.step {g : Gr} (h : RG g) {F : List Int} {R R' : List Bool} {S S' : List Int} {x : Nat} (s : Sea g F R (S ++ [(x : Int)])) (v : Vis (numN g) (toL g x) R S R' S') : Sea g F R' S' := by
  have hx := s.stk (x : Int) (by simp)
  have hxn : x < numN g := by omega
  have hrx : Rch (allL g) F (numN g) (x : Int) := s.snd x (by simpa using hx.1)
  refine ⟨by rw [v.len, s.len], fun i hi => ?_, fun y hy => ?_, fun y hy h0 h1 => v.mono _ (s.frm y hy h0 h1), fun e he h1 => ?_⟩
  · rcases v.new i hi with h1 | h1
    · exact s.snd i h1
    · obtain ⟨e, he, e1, e2⟩ := (h.toL_mem x hxn i).1 h1.1
      rw [← e2]
      exact .step e he (by rw [e1]; exact hrx)
  · rcases v.src y hy with h1 | h1
    · have := s.stk y (List.mem_append_left _ h1)
      exact ⟨v.mono _ this.1, this.2⟩
    · exact h1
  · have hok := of_decide_eq_true (h.mem he)
    have ec : ((e.1.toNat : Nat) : Int) = e.1 := by omega
    rcases v.new _ h1 with h2 | h2
    · rcases s.cls e he h2 with h3 | h3
      · rcases List.mem_append.1 h3 with h3 | h3
        · exact .inl (v.sub _ h3)
        · rw [List.mem_singleton] at h3
          exact .inr (v.all e.2.2 ((h.toL_mem x hxn e.2.2).2 ⟨e, he, h3, rfl⟩) hok.2.1.1 hok.2.1.2)
      · exact .inr (v.mono _ h3)
    · rw [ec] at h2
      exact .inl h2.2
theorem Sea.fin {g : Gr} (h : RG g) {F : List Int} {R : List Bool} (s : Sea g F R []) : IsR (allL g) F (numN g) R :=
  isR_of h.allOk s.len s.snd s.frm fun e he h1 => by
    rcases s.cls e he h1 with h2 | h2
    · cases h2
    · exact h2

end Go.Proofs.Ytkdpimifojjhaaa
