/- Open addressing, plainly: slots that hold numbers, each reached from its start by full slots. -/
import Derived.Test.YthmejdnedfokcaaJb
namespace Go.Proofs.Ythmejdnedfokcaa
set_option linter.unusedSimpArgs false
set_option linter.unusedVariables false

/-- Fewer places than things: two fall together. -/
theorem pigeon : ∀ (k n : Nat) (f : Nat → Nat), (∀ i, i < n → f i < k) → (∀ i j, i < n → j < n → f i = f j → i = j) → n ≤ k
  | 0, n, f, h, _ => by
    rcases Nat.eq_zero_or_pos n with rfl | hn
    · exact Nat.le_refl _
    · exact absurd (h 0 hn) (Nat.not_lt_zero _)
  | k + 1, n, f, h, hi => by
    rcases Nat.eq_zero_or_pos n with rfl | hn
    · exact Nat.zero_le _
    · -- what lies at k goes to where the last lies
      have := pigeon k (n - 1) (fun i => if f i = k then f (n - 1) else f i) (fun i hin => by
        have h1 := h i (by omega)
        have h2 := h (n - 1) (by omega)
        split
        · rename_i e
          have : f (n - 1) ≠ k := fun e2 => by have := hi i (n - 1) (by omega) (by omega) (e.trans e2.symm); omega
          omega
        · omega) (fun i j hin hjn e => by
        split at e <;> split at e
        · rename_i e1 e2; exact hi i j (by omega) (by omega) (e1.trans e2.symm)
        · have := hi (n - 1) j (by omega) (by omega) e; omega
        · have := hi i (n - 1) (by omega) (by omega) e; omega
        · exact hi i j (by omega) (by omega) e)
      omega

/-- The slots (n of them) hold the numbers in S, each once, and each is reached from its start st j by slots that are full. -/
structure Pro (n : Nat) (val : Nat → Option Nat) (st : Nat → Nat) (S : Nat → Prop) : Prop where
  inj : ∀ a b j, a < n → b < n → val a = some j → val b = some j → a = b
  mem : ∀ a j, a < n → val a = some j → S j
  all : ∀ j, S j → ∃ d, d < n ∧ val ((st j + d) % n) = some j ∧ ∀ e, e < d → val ((st j + e) % n) ≠ none
theorem Pro.nil (n : Nat) (st : Nat → Nat) : Pro n (fun _ => none) st (fun _ => False) :=
  ⟨fun _ _ _ _ _ h _ => (nomatch h), fun _ _ _ h => (nomatch h), fun _ h => h.elim⟩
theorem Pro.congr {n : Nat} {val val' : Nat → Option Nat} {st st' : Nat → Nat} {S S' : Nat → Prop} (h : Pro n val st S) (hv : ∀ a, a < n → val' a = val a) (hs : ∀ j, S j → st' j = st j) (hS : ∀ j, S' j ↔ S j) : Pro n val' st' S' := by
  refine ⟨fun a b j ha hb h1 h2 => h.inj a b j ha hb ((hv a ha).symm.trans h1) ((hv b hb).symm.trans h2), fun a j ha h1 => (hS j).2 (h.mem a j ha ((hv a ha).symm.trans h1)), fun j hj => ?_⟩
  obtain ⟨d, hd, h1, h2⟩ := h.all j ((hS j).1 hj)
  have hn : ∀ x, x % n < n := fun x => Nat.mod_lt _ (by omega)
  rw [hs j ((hS j).1 hj)]
  exact ⟨d, hd, (hv _ (hn _)).trans h1, fun e he => by rw [hv _ (hn _)]; exact h2 e he⟩
/-- A number comes in at the first empty slot behind its start. -/
theorem Pro.put {n : Nat} {val : Nat → Option Nat} {st : Nat → Nat} {S : Nat → Prop} (h : Pro n val st S) {j d a : Nat} (hj : ¬ S j) (hd : d < n) (ha : (st j + d) % n = a) (hv : val a = none) (hf : ∀ e, e < d → val ((st j + e) % n) ≠ none) :
    Pro n (fun x => if x = a then some j else val x) st (fun x => S x ∨ x = j) := by
  refine ⟨fun x y i hx hy h1 h2 => ?_, fun x i hx h1 => ?_, fun i hi => ?_⟩
  · split at h1 <;> split at h2
    · rename_i e1 e2; exact e1.trans e2.symm
    · have e : j = i := by injection h1
      exact absurd (h.mem y i hy h2) (e ▸ hj)
    · have e : j = i := by injection h2
      exact absurd (h.mem x i hx h1) (e ▸ hj)
    · exact h.inj x y i hx hy h1 h2
  · split at h1
    · injection h1 with h1; exact .inr h1.symm
    · exact .inl (h.mem x i hx h1)
  · rcases hi with hi | rfl
    · obtain ⟨c, hc, h1, h2⟩ := h.all i hi
      refine ⟨c, hc, ?_, fun e he => ?_⟩
      · rw [if_neg (fun e => by rw [e, hv] at h1; cases h1)]
        exact h1
      · split
        · intro h; cases h
        · exact h2 e he
    · refine ⟨d, hd, ?_, fun e he => ?_⟩
      · rw [if_pos ha]
      · split
        · intro h; cases h
        · exact hf e he
/-- Behind full slots an empty one: a number with this start lies in one of them. -/
theorem Pro.miss {n : Nat} {val : Nat → Option Nat} {st : Nat → Nat} {S : Nat → Prop} (h : Pro n val st S) {b d : Nat} (hv : val ((b + d) % n) = none) {j : Nat} (hj : S j) (hb : st j = b) : ∃ e, e < d ∧ val ((b + e) % n) = some j := by
  obtain ⟨c, hc, h1, h2⟩ := h.all j hj
  rw [hb] at h1 h2
  rcases Nat.lt_or_ge c d with hcd | hcd
  · exact ⟨c, hcd, h1⟩
  · rcases Nat.lt_or_ge d c with hdc | hdc
    · exact absurd hv (h2 d hdc)
    · have : c = d := by omega
      rw [this, hv] at h1; cases h1
theorem mod_inj {n b x y : Nat} (hx : x < n) (hy : y < n) (h : (b + x) % n = (b + y) % n) : x = y := by
  have key : ∀ u v : Nat, u ≤ v → v < n → (b + u) % n = (b + v) % n → u = v := by
    intro u v huv hv e
    have h2 : (b + v) % n = ((b + u) % n + (v - u)) % n := by
      rw [Nat.mod_add_mod]
      congr 1; omega
    have hr : (b + u) % n < n := Nat.mod_lt _ (by omega)
    rw [e] at h2 hr
    generalize (b + v) % n = r at h2 hr
    rcases Nat.lt_or_ge (r + (v - u)) n with h3 | h3
    · rw [Nat.mod_eq_of_lt h3] at h2; omega
    · rw [Nat.mod_eq_sub_mod h3, Nat.mod_eq_of_lt (by omega)] at h2; omega
  rcases Nat.le_total x y with h1 | h1
  · exact key x y h1 hy h
  · exact (key y x h1 hx h.symm).symm
/-- Fewer numbers than slots: from any start there is an empty one. -/
theorem Pro.room {n k : Nat} {val : Nat → Option Nat} {st : Nat → Nat} {S : Nat → Prop} (h : Pro n val st S) (hS : ∀ j, S j → j < k) (hk : k < n) (b : Nat) : ∃ d, d < n ∧ val ((b + d) % n) = none := by
  by_cases hx : ∃ d, d < n ∧ val ((b + d) % n) = none
  · exact hx
  · exfalso
    have hn : ∀ x, x % n < n := fun x => Nat.mod_lt _ (by omega)
    have hv : ∀ d, d < n → ∃ j, val ((b + d) % n) = some j := fun d hd => by
      cases hh : val ((b + d) % n) with
      | none => exact absurd ⟨d, hd, hh⟩ hx
      | some j => exact ⟨j, rfl⟩
    have hp := pigeon k n (fun d => (val ((b + d) % n)).getD 0) (fun d hd => by
      obtain ⟨j, hj⟩ := hv d hd
      simp only [hj, Option.getD_some]
      exact hS j (h.mem _ _ (hn _) hj)) (fun x y hx hy e => by
      obtain ⟨i, hi⟩ := hv x hx
      obtain ⟨j, hj⟩ := hv y hy
      simp only [hi, hj, Option.getD_some] at e
      subst e
      exact mod_inj hx hy (h.inj _ _ _ (hn _) (hn _) hi hj))
    omega

/-- A table: texts, each once, and slots (n of them) that hold their numbers, from the start hs of each. -/
structure Slo (n : Nat) (val : Nat → Option Nat) (hs : ByteArray → Nat) (L : List ByteArray) : Prop where
  nd : ∀ i j, i < L.length → j < L.length → L.getD i emptyT = L.getD j emptyT → i = j
  p : Pro n val (fun j => hs (L.getD j emptyT)) (fun j => j < L.length)
theorem Slo.nil (n : Nat) (hs : ByteArray → Nat) : Slo n (fun _ => none) hs [] :=
  ⟨fun i j hi => absurd hi (Nat.not_lt_zero _), (Pro.nil n (fun _ => 0)).congr (fun _ _ => rfl) (fun _ h => False.elim h) fun j => ⟨fun h => absurd h (Nat.not_lt_zero _), fun h => h.elim⟩⟩
theorem Slo.congr {n : Nat} {val val' : Nat → Option Nat} {hs : ByteArray → Nat} {L : List ByteArray} (h : Slo n val hs L) (hv : ∀ a, a < n → val' a = val a) : Slo n val' hs L :=
  ⟨h.nd, h.p.congr hv (fun _ _ => rfl) fun _ => Iff.rfl⟩
theorem getD_app {L : List ByteArray} {s : ByteArray} {j : Nat} (h : j < L.length) : (L ++ [s]).getD j emptyT = L.getD j emptyT := by
  rw [List.getD_eq_getElem?_getD, List.getD_eq_getElem?_getD, List.getElem?_append_left h]
theorem getD_last (L : List ByteArray) (s : ByteArray) : (L ++ [s]).getD L.length emptyT = s := by
  rw [List.getD_eq_getElem?_getD, List.getElem?_append_right (Nat.le_refl _)]; simp
theorem Slo.hit {n : Nat} {val : Nat → Option Nat} {hs : ByteArray → Nat} {L : List ByteArray} (h : Slo n val hs L) {s : ByteArray} {j : Nat} (hj : j < L.length) (he : L.getD j emptyT = s) : hasT L s = true ∧ posT L s = j := by
  have h1 : hasT L s = true := by
    rw [has_iff, ← he, List.getD_eq_getElem?_getD, List.getElem?_eq_getElem hj]
    exact List.getElem_mem hj
  exact ⟨h1, h.nd _ _ (pos_lt h1) hj ((pos_at h1).trans he.symm)⟩
theorem Slo.miss {n : Nat} {val : Nat → Option Nat} {hs : ByteArray → Nat} {L : List ByteArray} (h : Slo n val hs L) {s : ByteArray} {d : Nat} (hv : val ((hs s + d) % n) = none) (hf : ∀ e j, e < d → val ((hs s + e) % n) = some j → L.getD j emptyT ≠ s) : hasT L s = false := by
  rw [Bool.eq_false_iff]
  intro h1
  obtain ⟨e, he, h2⟩ := h.p.miss hv (j := posT L s) (pos_lt h1) (by simp only [pos_at h1])
  exact hf e _ he h2 (pos_at h1)
theorem Slo.put {n : Nat} {val : Nat → Option Nat} {hs : ByteArray → Nat} {L : List ByteArray} (h : Slo n val hs L) {s : ByteArray} {d a : Nat} (hs1 : hasT L s = false) (hd : d < n) (ha : (hs s + d) % n = a) (hv : val a = none) (hf : ∀ e, e < d → val ((hs s + e) % n) ≠ none) :
    Slo n (fun x => if x = a then some L.length else val x) hs (L ++ [s]) := by
  have hq : ∀ i, i < L.length → L.getD i emptyT ≠ s := fun i hi e => by
    have := (h.hit hi e).1
    rw [hs1] at this; cases this
  refine ⟨fun i j hi hj e => ?_, ?_⟩
  · rw [List.length_append] at hi hj
    simp only [List.length_cons, List.length_nil] at hi hj
    rcases Nat.lt_or_ge i L.length with h1 | h1 <;> rcases Nat.lt_or_ge j L.length with h2 | h2
    · rw [getD_app h1, getD_app h2] at e; exact h.nd i j h1 h2 e
    · have : j = L.length := by omega
      subst this
      rw [getD_app h1, getD_last] at e; exact absurd e (hq i h1)
    · have : i = L.length := by omega
      subst this
      rw [getD_app h2, getD_last] at e; exact absurd e.symm (hq j h2)
    · omega
  · have h1 := h.p.congr (st' := fun j => hs ((L ++ [s]).getD j emptyT)) (fun _ _ => rfl) (fun j hj => by simp only [getD_app hj]) (fun _ => Iff.rfl)
    have h2 := h1.put (j := L.length) (d := d) (a := a) (Nat.lt_irrefl _) hd (by simp only [getD_last]; exact ha) hv (fun e he => by simp only [getD_last]; exact hf e he)
    refine h2.congr (fun _ _ => rfl) (fun _ _ => rfl) fun j => ?_
    rw [List.length_append]
    simp only [List.length_cons, List.length_nil]
    omega
theorem Slo.room {n : Nat} {val : Nat → Option Nat} {hs : ByteArray → Nat} {L : List ByteArray} (h : Slo n val hs L) (hk : L.length < n) (b : Nat) : ∃ d, d < n ∧ val ((b + d) % n) = none :=
  h.p.room (fun _ hj => hj) hk b
/-- The first so many texts of a table are no table's texts twice either: for laying the slots anew, text by text. -/
theorem has_take {n : Nat} {val : Nat → Option Nat} {hs : ByteArray → Nat} {L : List ByteArray} (h : Slo n val hs L) {k : Nat} (hk : k < L.length) : hasT (L.take k) (L.getD k emptyT) = false := by
  rw [Bool.eq_false_iff]
  intro h1
  rw [has_iff] at h1
  obtain ⟨j, hj, e⟩ := List.mem_iff_getElem.1 h1
  rw [List.length_take] at hj
  rw [List.getElem_take] at e
  have := h.nd j k (by omega) hk (by rw [← e, List.getD_eq_getElem?_getD, List.getElem?_eq_getElem (by omega)]; rfl)
  omega
theorem take_next {L : List ByteArray} {k : Nat} (hk : k < L.length) : L.take (k + 1) = L.take k ++ [L.getD k emptyT] := by
  rw [List.take_add_one, List.getElem?_eq_getElem hk, List.getD_eq_getElem?_getD, List.getElem?_eq_getElem hk]
  rfl

end Go.Proofs.Ythmejdnedfokcaa
