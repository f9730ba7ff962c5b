/- A scope in which the run jumps back to either of two labels. -/
import Derived.Test.YtkdpimifojjhaaaQb
import Derived.Test.YtkdpimifojjhaaaNr
import Derived.ScopeJumps
import Derived.WalkMore
namespace Go.Proofs.Ytkdpimifojjhaaa
set_option linter.unusedSimpArgs false
set_option linter.unusedVariables false

/-- As Q; by a goto to label 0: J0; to label 1: J1. -/
def jumpTo (J0 J1 : Act → World → Prop) (Q : Exit → Act → World → Prop) : Exit → Act → World → Prop
  | .goto l, a, w => (l = 0 ∧ J0 a w) ∨ (l = 1 ∧ J1 a w)
  | e, a, w => Q e a w
section
variable {J0 J1 : Act → World → Prop} {Q : Exit → Act → World → Prop} {a : Act} {w : World}
theorem jumpTo_normal : jumpTo J0 J1 Q .normal a w = Q .normal a w := rfl
theorem jumpTo_exit (id : Nat) : jumpTo J0 J1 Q (.exit id) a w = Q (.exit id) a w := rfl
theorem jumpTo_ret : jumpTo J0 J1 Q .ret a w = Q .ret a w := rfl
theorem jumpTo_panic (ch : List PanicEntry) : jumpTo J0 J1 Q (.panic ch) a w = Q (.panic ch) a w := rfl
theorem jump0 (h : J0 a w) : jumpTo J0 J1 Q (.goto 0) a w := .inl ⟨rfl, h⟩
theorem jump1 (h : J1 a w) : jumpTo J0 J1 Q (.goto 1) a w := .inr ⟨rfl, h⟩
theorem jumpTo_mono {J0' J1' : Act → World → Prop} (h0 : ∀ a w, J0 a w → J0' a w) (h1 : ∀ a w, J1 a w → J1' a w) : ∀ e a w, jumpTo J0 J1 Q e a w → jumpTo J0' J1' Q e a w
  | .goto l, a, w, h => by
    rcases h with ⟨e, h⟩ | ⟨e, h⟩
    · exact .inl ⟨e, h0 _ _ h⟩
    · exact .inr ⟨e, h1 _ _ h⟩
  | .normal, _, _, h => h
  | .exit _, _, _, h => h
  | .ret, _, _, h => h
  | .panic _, _, _, h => h
  | .outgrown, _, _, h => h
end

theorem wp_scope_two {P : Program} {Q : Exit → Act → World → Prop} {a : Act} {w : World} {c R0 R1 : Code} (J0 J1 : Nat → Act → World → Prop) (h0 : findLabel c 0 = some (.seq .skip R0)) (h1 : findLabel c 1 = some (.seq .skip R1))
    (p1 : ∀ m a w, J1 m a w → R1.wp P (jumpTo (fun a w => ∃ k, k < m ∧ J0 k a w) (fun a w => ∃ k, k < m ∧ J1 k a w) Q) a w)
    (p0 : (∀ k m a w, k < m → J1 k a w → R1.wp P (jumpTo (fun a w => ∃ k, k < m ∧ J0 k a w) (fun a w => ∃ k, k < m ∧ J1 k a w) Q) a w) → ∀ m a w, J0 m a w → R0.wp P (jumpTo (fun a w => ∃ k, k < m ∧ J0 k a w) (fun a w => ∃ k, k < m ∧ J1 k a w) Q) a w)
    (first : (∀ m a w, J0 m a w → R0.wp P (jumpTo (fun a w => ∃ k, J0 k a w) (fun a w => ∃ k, J1 k a w) Q) a w) → c.wp P (jumpTo (fun a w => ∃ k, J0 k a w) (fun a w => ∃ k, J1 k a w) Q) a w) : (Code.scope c).wp P Q a w := by
  have p0' := p0 fun k m a w hk hJ => Go.wp_mono (p1 k a w hJ) (jumpTo_mono (fun _ _ ⟨j, hj, h⟩ => ⟨j, Nat.lt_trans hj hk, h⟩) (fun _ _ ⟨j, hj, h⟩ => ⟨j, Nat.lt_trans hj hk, h⟩))
  have fst := first fun m a w hJ => Go.wp_mono (p0' m a w hJ) (jumpTo_mono (fun _ _ ⟨j, _, h⟩ => ⟨j, h⟩) (fun _ _ ⟨j, _, h⟩ => ⟨j, h⟩))
  intro b k cs
  have g0 : gotoIn 0 (.inScope c :: k) = some (.code (.seq .skip R0) :: .inScope c :: k) := by simp [gotoIn, h0]
  have g1 : gotoIn 1 (.inScope c :: k) = some (.code (.seq .skip R1) :: .inScope c :: k) := by simp [gotoIn, h1]
  have s0 : ∀ m a w, J0 m a w → (Code.seq .skip R0).wp P (jumpTo (fun a w => ∃ k, k < m ∧ J0 k a w) (fun a w => ∃ k, k < m ∧ J1 k a w) Q) a w := fun m a w hJ => wp_seq (wp_skip (p0' m a w hJ))
  have s1 : ∀ m a w, J1 m a w → (Code.seq .skip R1).wp P (jumpTo (fun a w => ∃ k, k < m ∧ J0 k a w) (fun a w => ∃ k, k < m ∧ J1 k a w) Q) a w := fun m a w hJ => wp_seq (wp_skip (p1 m a w hJ))
  have key : ∀ n, (∀ a w, J0 n a w → ∃ e a' w', Q e a' w' ∧ Arrives P (lone (b.at a (.code (.seq .skip R0) :: .inScope c :: k)) cs w) b k cs e a' w') ∧ (∀ a w, J1 n a w → ∃ e a' w', Q e a' w' ∧ Arrives P (lone (b.at a (.code (.seq .skip R1) :: .inScope c :: k)) cs w) b k cs e a' w') := by
    intro n
    induction n using Nat.strongRecOn with
    | _ n ih =>
      have go : ∀ (R : Code) a w, R.wp P (jumpTo (fun a w => ∃ k, k < n ∧ J0 k a w) (fun a w => ∃ k, k < n ∧ J1 k a w) Q) a w → ∃ e a' w', Q e a' w' ∧ Arrives P (lone (b.at a (.code R :: .inScope c :: k)) cs w) b k cs e a' w' := by
        intro R a w hR
        obtain ⟨e, a₁, w₁, hq, harr⟩ := hR b (.inScope c :: k) cs
        cases e with
        | normal => exact ⟨.normal, a₁, w₁, hq, Steps.trans harr (.one step_inScope)⟩
        | exit id => exact ⟨.exit id, a₁, w₁, hq, fun k' hk => harr k' (by simp [exitTo, hk])⟩
        | goto l' =>
          rcases hq with ⟨rfl, j, hj, hJ⟩ | ⟨rfl, j, hj, hJ⟩
          · obtain ⟨e₂, a₂, w₂, hq₂, harr₂⟩ := (ih j hj).1 a₁ w₁ hJ
            exact ⟨e₂, a₂, w₂, hq₂, .of_steps (harr _ g0) harr₂⟩
          · obtain ⟨e₂, a₂, w₂, hq₂, harr₂⟩ := (ih j hj).2 a₁ w₁ hJ
            exact ⟨e₂, a₂, w₂, hq₂, .of_steps (harr _ g1) harr₂⟩
        | ret => exact ⟨_, a₁, w₁, hq, harr⟩
        | panic ch => exact ⟨_, a₁, w₁, hq, harr⟩
        | outgrown => exact ⟨_, a₁, w₁, hq, harr⟩
      exact ⟨fun a w hJ => go _ a w (s0 n a w hJ), fun a w hJ => go _ a w (s1 n a w hJ)⟩
  obtain ⟨e, a₁, w₁, hq, harr⟩ := fst b (.inScope c :: k) cs
  cases e with
  | normal => exact ⟨.normal, a₁, w₁, hq, .head step_scope (Steps.trans harr (.one step_inScope))⟩
  | exit id => exact ⟨.exit id, a₁, w₁, hq, fun k' hk => .head step_scope (harr k' (by simp [exitTo, hk]))⟩
  | goto l' =>
    rcases hq with ⟨rfl, j, hJ⟩ | ⟨rfl, j, hJ⟩
    · obtain ⟨e₂, a₂, w₂, hq₂, harr₂⟩ := (key j).1 a₁ w₁ hJ
      exact ⟨e₂, a₂, w₂, hq₂, .of_steps (.head step_scope (harr _ g0)) harr₂⟩
    · obtain ⟨e₂, a₂, w₂, hq₂, harr₂⟩ := (key j).2 a₁ w₁ hJ
      exact ⟨e₂, a₂, w₂, hq₂, .of_steps (.head step_scope (harr _ g1)) harr₂⟩
  | ret => exact ⟨_, a₁, w₁, hq, .of_steps (.one step_scope) harr⟩
  | panic ch => exact ⟨_, a₁, w₁, hq, .of_steps (.one step_scope) harr⟩
  | outgrown => exact ⟨_, a₁, w₁, hq, .of_steps (.one step_scope) harr⟩

end Go.Proofs.Ytkdpimifojjhaaa
