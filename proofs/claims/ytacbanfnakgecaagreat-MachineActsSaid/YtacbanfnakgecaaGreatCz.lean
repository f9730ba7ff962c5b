/- Layer 11: agents: what they are, plainly. Layer 11: agents, plainly. -/
import Derived.Test.YtacbanfnakgecaaGreatYa
import Derived.Test.YtacbanfnakgecaaGreatCy
import Derived.Test.YtacbanfnakgecaaGreatYb
import Derived.Test.YtacbanfnakgecaaGreatZd
import Derived.Test.YtacbanfnakgecaaGreatYn
import Derived.Test.YtacbanfnakgecaaGreatUq
import Derived.Test.YtacbanfnakgecaaGreatVg
import Derived.Test.YtacbanfnakgecaaGreatVb
import Derived.Test.YtacbanfnakgecaaGreatUx
namespace Go.Proofs.YtacbanfnakgecaaGreat
set_option linter.unusedSimpArgs false
set_option linter.unusedVariables false
open Go.RowKit
def enG (u : Un) (p : Pf) (model room : Int) : Ag → Bool
  | .no => false
  | .thr t => enT u p model room t
  | .fl t loc => flT p model t loc
def acG (u : Un) (p : Pf) (model room : Int) : Ag → Pf
  | .no => p
  | .thr t => actT u p model room t
  | .fl t loc => flushT p model t loc
def enA (u : Un) (p : Pf) (model room a : Int) : Bool := enG u p model room (agOf u.code.length u.init.length model a)
def acA (u : Un) (p : Pf) (model room a : Int) : Pf := acG u p model room (agOf u.code.length u.init.length model a)
end Go.Proofs.YtacbanfnakgecaaGreat

namespace Go.Proofs.YtacbanfnakgecaaGreat
set_option linter.unusedSimpArgs false
set_option linter.unusedVariables false
open Go.RowKit
theorem acG_right {u : Un} {p : Pf} {model room : Int} (h : RightP u p model room) (g : Ag) : RightP u (acG u p model room g) model room := by
  cases g with
  | no => exact h
  | thr t => exact act_right h
  | fl t loc => exact flush_right h
theorem acG_no {u : Un} {p : Pf} {model room : Int} {g : Ag} (h : enG u p model room g = false) : acG u p model room g = p := by
  cases g with
  | no => rfl
  | thr t => show actT u p model room t = p; unfold actT; rw [if_neg (by rw [show enT u p model room t = false from h]; simp)]
  | fl t loc => show flushT p model t loc = p; unfold flushT; rw [if_neg (by rw [show flT p model t loc = false from h]; simp)]
def mvA (u : Un) (p : Pf) (model room : Int) : List Int := mvG (enA u p model room) (agN u.code.length u.init.length model)
theorem agN_le {u : Un} (h : rightU u = true) (model : Int) : agN u.code.length u.init.length model ≤ 28 := by
  have h1 := rightU_lc h
  unfold agN
  have : u.code.length * u.init.length ≤ 4 * 6 := Nat.mul_le_mul (by omega) (by omega)
  split
  · omega
  · split
    · omega
    · split
      · omega
      · omega
theorem ended_op {u : Un} {c : Cf} {model room : Int} (h : RightP u c.pf model room) (k : Nat) (hk : k < u.code.length) : endedC u c k = decide ((insAt u k (c.pc.getD k 0)).op = 22) := by
  have hlc := rightU_lc h.ru
  have hkr : k < u.regs.length := by omega
  obtain ⟨pc, x, T⟩ := h.thr k hkr
  have hp : c.pc.getD k 0 = (pc : Int) := T.hp
  have hlp : c.pc.length = u.regs.length := h.lp
  unfold endedC
  rw [if_pos (by omega), show ((k : Int)).toNat = k by omega, hp, if_pos ⟨by omega, by have := T.hpl; omega⟩, show ((pc : Int)).toNat = pc by omega]
  have hi : (u.code.getD k ([], undef)).1[pc]? = some ((u.code.getD k ([], undef)).1.getD pc noII) := by
    rw [List.getD_eq_getElem?_getD (l := (u.code.getD k ([], undef)).1), List.getElem?_eq_getElem T.hpl]; rfl
  rw [hi]
  unfold insAt iiAt
  rw [show ((pc : Int)).toNat = pc by omega]
  rw [Option.map_some, decide_eq_decide]
  exact ⟨fun h => Option.some.inj h, fun h => congrArg some h⟩
theorem finF_iff (u : Un) (c : Cf) : ∀ f k, finF u c f k = true ↔ ∀ i, k ≤ i → i < k + f → endedC u c i = true
  | 0, k => ⟨fun _ i h1 h2 => by omega, fun _ => rfl⟩
  | f + 1, k => by
    show (endedC u c k && finF u c f (k + 1)) = true ↔ _
    rw [Bool.and_eq_true, finF_iff u c f (k + 1)]
    constructor
    · rintro ⟨h1, h2⟩ i hi hj
      by_cases hik : i = k
      · subst hik; exact h1
      · exact h2 i (by omega) (by omega)
    · intro h
      exact ⟨h k (by omega) (by omega), fun i h1 h2 => h i (by omega) (by omega)⟩
end Go.Proofs.YtacbanfnakgecaaGreat
