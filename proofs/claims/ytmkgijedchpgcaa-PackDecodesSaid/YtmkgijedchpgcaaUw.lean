/- Layer 8: the reference's Right of a buffer says what the code's does. -/
import Derived.Test.YtmkgijedchpgcaaUv
namespace Go.Proofs.Ytmkgijedchpgcaa
set_option linter.unusedSimpArgs false
set_option linter.unusedVariables false
open Go.RowKit

theorem badF_none (l : List Ent) (model room mod locs : Int) : ∀ f k, badF l model room mod locs f k = false ↔ ∀ i, k ≤ i → i < k + f → badR l model room mod locs i = false := by
  intro f
  induction f with
  | zero => intro k; exact ⟨fun _ i h1 h2 => by omega, fun _ => rfl⟩
  | succ f ih =>
    intro k
    show (badR l model room mod locs k || badF l model room mod locs f (k + 1)) = false ↔ _
    rw [Bool.or_eq_false_iff, ih (k + 1)]
    constructor
    · rintro ⟨h1, h2⟩ i h3 h4
      rcases Nat.eq_or_lt_of_le h3 with rfl | h5
      · exact h1
      · exact h2 i h5 (by omega)
    · intro h
      exact ⟨h k (Nat.le_refl _) (by omega), fun i h3 h4 => h i (by omega) (by omega)⟩
theorem ordF_iff (l : List Ent) (r : Nat) : ∀ f k, ordF l r f k = true ↔ ∀ i, k ≤ i → i < k + f → badAt l r i = false := by
  intro f
  induction f with
  | zero => intro k; exact ⟨fun _ i h1 h2 => by omega, fun _ => rfl⟩
  | succ f ih =>
    intro k
    show (if badAt l r k = true then false else ordF l r f (k + 1)) = true ↔ _
    by_cases hb : badAt l r k = true
    · rw [if_pos hb]
      exact ⟨fun h => (by cases h), fun h => by rw [h k (Nat.le_refl _) (by omega)] at hb; cases hb⟩
    · rw [if_neg hb, ih (k + 1)]
      have hb' : badAt l r k = false := by simpa using hb
      constructor
      · intro h i h3 h4
        rcases Nat.eq_or_lt_of_le h3 with rfl | h5
        · exact hb'
        · exact h i h5 (by omega)
      · intro h i h3 h4
        exact h i (by omega) (by omega)
theorem srt_iff (l : List Ent) : SrtE l ↔ ∀ i, i < l.length → ¬ (0 < i ∧ (l.getD i (0, 0)).1 < (l.getD (i - 1) (0, 0)).1) := by
  constructor
  · rintro h i hi ⟨h1, h2⟩
    rw [getD_at _ _ hi, getD_at _ _ (by omega)] at h2
    have := List.pairwise_iff_getElem.1 h (i - 1) i (by omega) hi (by omega)
    omega
  · intro h
    have hstep : ∀ i, (hi : i + 1 < l.length) → (l[i]'(by omega)).1 ≤ l[i + 1].1 := by
      intro i hi
      have := h (i + 1) hi
      rw [getD_at _ _ hi, Nat.add_sub_cancel, getD_at _ _ (by omega)] at this
      omega
    have hall : ∀ d i, (hi : i + d < l.length) → (l[i]'(by omega)).1 ≤ l[i + d].1 := by
      intro d
      induction d with
      | zero => intro i hi; exact Int.le_refl _
      | succ d ih => intro i hi; exact Int.le_trans (ih i (by omega)) (hstep (i + d) hi)
    refine List.pairwise_iff_getElem.2 fun i j hi hj hij => ?_
    have := hall (j - i) i (by omega)
    simpa [show i + (j - i) = j by omega] using this

/-- Both say the same. -/
theorem refR_eq (l : List Ent) (model room mod locs : Int) : refR l model room mod locs = rightL l model room mod locs := by
  by_cases hB : room < 1 ∨ 4 < room ∨ mod < 2 ∨ 16 < mod
  · unfold refR rightL; rw [if_pos (by omega), if_pos hB]
  · by_cases hM : model < 1 ∨ 3 < model
    · unfold refR rightL rqL; rw [if_pos (by omega), if_neg hB, if_neg (by omega), if_neg (by omega), if_neg (by omega)]; rfl
    · unfold refR rightL
      rw [if_neg (by omega), if_neg hB]
      rw [Bool.eq_iff_iff]
      have hr : ((room.toNat : Nat) : Int) = room := Int.toNat_of_nonneg (by omega)
      have hodd : (l.all fun e => !oddL mod locs e) = true ↔ ∀ i, i < l.length → ¬ ((l.getD i (0, 0)).1 < 0 ∨ locs ≤ (l.getD i (0, 0)).1 ∨ (l.getD i (0, 0)).2 < 0 ∨ mod ≤ (l.getD i (0, 0)).2) := by
        rw [List.all_eq_true]
        constructor
        · intro h i hi
          have := h _ (List.getElem_mem hi)
          rw [getD_at _ _ hi]
          unfold oddL inB at this
          simp at this
          omega
        · intro h e he
          obtain ⟨i, hi, rfl⟩ := List.getElem_of_mem he
          have := h i hi
          rw [getD_at _ _ hi] at this
          unfold oddL inB
          simp
          omega
      by_cases h3 : model = 3
      · subst h3
        have hcore : badF l 3 room mod locs l.length 0 = false ↔ (ordL l room.toNat = true ∧ (l.all fun e => !oddL mod locs e) = true) := by
          rw [badF_none, hodd]
          unfold ordL
          rw [ordF_iff]
          constructor
          · intro h
            have hs : SrtE l := (srt_iff l).2 fun i hi hbad => by
              have := h i (Nat.zero_le _) (by omega)
              unfold badR at this
              have := of_decide_eq_false this
              exact this (.inr (.inr (.inr (.inr ⟨rfl, .inl hbad⟩))))
            have hc : ∀ i, (hi : i < l.length) → cntL l l[i].1 ≤ room.toNat := fun i hi => by
              have := of_decide_eq_false (h i (Nat.zero_le _) (by omega))
              rw [getD_at _ _ hi] at this
              omega
            have hcc := (srt_count l room.toNat hs (by omega)).1 hc
            refine ⟨fun i _ h2 => ?_, fun i hi hbad => ?_⟩
            · unfold badAt
              refine decide_eq_false ?_
              rintro (hb | ⟨h4, h5⟩)
              · exact (srt_iff l).1 hs i (by omega) hb
              · rw [getD_at _ _ (by omega), getD_at _ _ (by omega)] at h5
                exact hcc i (by omega) h4 h5
            · have := of_decide_eq_false (h i (Nat.zero_le _) (by omega))
              omega
          · rintro ⟨h, ho⟩ i _ h2
            have hs : SrtE l := (srt_iff l).2 fun j hj hbad => by
              have := of_decide_eq_false (h j (Nat.zero_le _) (by omega))
              exact this (.inl hbad)
            have hcc := (srt_count l room.toNat hs (by omega)).2 fun j hj hjr he => by
              have := of_decide_eq_false (h j (Nat.zero_le _) (by omega))
              refine this (.inr ⟨hjr, ?_⟩)
              rw [getD_at _ _ hj, getD_at _ _ (by omega)]
              exact he
            unfold badR
            refine decide_eq_false ?_
            have h6 := ho i (by omega)
            have h7 := (srt_iff l).1 hs i (by omega)
            have h8 := hcc i (by omega)
            rw [← getD_at _ _ (by omega)] at h8
            rintro (h | h | h | h | ⟨_, h | h⟩)
            · exact h6 (.inl h)
            · exact h6 (.inr (.inl h))
            · exact h6 (.inr (.inr (.inl h)))
            · exact h6 (.inr (.inr (.inr h)))
            · exact h7 h
            · omega
        have hrq : rqL l 3 room.toNat = ordL l room.toNat := rfl
        rw [hrq, Bool.and_eq_true, ← hcore]
        cases badF l 3 room mod locs l.length 0 <;> simp
      · have hcore : badF l model room mod locs l.length 0 = false ↔ (l.all fun e => !oddL mod locs e) = true := by
          rw [badF_none, hodd]
          constructor
          · intro h i hi hbad
            have := of_decide_eq_false (h i (Nat.zero_le _) (by omega))
            omega
          · intro h i _ h2
            have := h i (by omega)
            unfold badR
            refine decide_eq_false ?_
            omega
        by_cases h1 : model = 1
        · subst h1
          have hrq : rqL l 1 room.toNat = decide (l.length = 0) := rfl
          rw [hrq, Bool.and_eq_true, ← hcore]
          cases badF l 1 room mod locs l.length 0 <;> simp
        · obtain rfl : model = 2 := by omega
          have hrq : rqL l 2 room.toNat = decide (l.length ≤ room.toNat) := rfl
          rw [hrq, Bool.and_eq_true, ← hcore]
          cases badF l 2 room mod locs l.length 0
          · simp
            constructor
            · rintro (h | h)
              · omega
              · rw [h]; exact Nat.zero_le _
            · intro h; left; omega
          · simp

theorem rsright_is (l : List Ent) (v : Value) (model room mod locs : Int) (w : World) (hv : EntsD w v l) (hn : l.length ≤ 100000) (z : Bool) (hz : rightL l model room mod locs = z) :
    Calls Try.prog 34 #[v, .int .i64 model, .int .i64 room, .int .i64 mod, .int .i64 locs] w fun e w' => e = .returned (.bool z) ∧ Below w.heap.size w w' :=
  rsright_any l v model room mod locs w hv hn z (by rw [refR_eq]; exact hz)

end Go.Proofs.Ytmkgijedchpgcaa
