/- Layer 11: agents: what they are, plainly. Layer 11: agents, plainly. -/
import Derived.Test.YtobmbkgeafbamaaGreatYa
import Derived.Test.YtobmbkgeafbamaaGreatCy
import Derived.Test.YtobmbkgeafbamaaGreatYb
import Derived.Test.YtobmbkgeafbamaaGreatZd
import Derived.Test.YtobmbkgeafbamaaGreatUq
import Derived.Test.YtobmbkgeafbamaaGreatVb
namespace Go.Proofs.YtobmbkgeafbamaaGreat
set_option linter.unusedSimpArgs false
set_option linter.unusedVariables false
open Go.RowKit

def enG (u : Un) (p : Pf) (model room : Int) : Ag → Bool
  | .no => false
  | .thr t => enT u p model room t
  | .fl t loc => flT p model t loc
def acG (u : Un) (p : Pf) (model room : Int) : Ag → Pf
  | .no => p
  | .thr t => actT u p model room t
  | .fl t loc => flushT p model t loc
def enA (u : Un) (p : Pf) (model room a : Int) : Bool := enG u p model room (agOf u.code.length u.init.length model a)
def acA (u : Un) (p : Pf) (model room a : Int) : Pf := acG u p model room (agOf u.code.length u.init.length model a)

end Go.Proofs.YtobmbkgeafbamaaGreat

namespace Go.Proofs.YtobmbkgeafbamaaGreat
set_option linter.unusedSimpArgs false
set_option linter.unusedVariables false
open Go.RowKit

theorem acG_right {u : Un} {p : Pf} {model room : Int} (h : RightP u p model room) (g : Ag) : RightP u (acG u p model room g) model room := by
  cases g with
  | no => exact h
  | thr t => exact act_right h
  | fl t loc => exact flush_right h
theorem acG_no {u : Un} {p : Pf} {model room : Int} {g : Ag} (h : enG u p model room g = false) : acG u p model room g = p := by
  cases g with
  | no => rfl
  | thr t => show actT u p model room t = p; unfold actT; rw [if_neg (by rw [show enT u p model room t = false from h]; simp)]
  | fl t loc => show flushT p model t loc = p; unfold flushT; rw [if_neg (by rw [show flT p model t loc = false from h]; simp)]

/-- The agents that can act. -/
def mvA (u : Un) (p : Pf) (model room : Int) : List Int := mvG (enA u p model room) (agN u.code.length u.init.length model)

/-- How many agents a right unit has. -/
theorem agN_le {u : Un} (h : rightU u = true) (model : Int) : agN u.code.length u.init.length model ≤ 28 := by
  have h1 := rightU_lc h
  unfold agN
  have : u.code.length * u.init.length ≤ 4 * 6 := Nat.mul_le_mul (by omega) (by omega)
  split
  · omega
  · split
    · omega
    · split
      · omega
      · omega
theorem agN_thr (n l : Nat) (model : Int) (hm : 1 ≤ model ∧ model ≤ 3) : n ≤ agN n l model := by
  unfold agN
  split
  · omega
  · split
    · omega
    · rw [if_pos (by omega)]; omega

/-- Where no buffer lets anything go nothing waits. -/
theorem quiet_none {u : Un} {p : Pf} {model room : Int} (h : RightP u p model room) (hn : ∀ k, k < agN u.code.length u.init.length model → enA u p model room (k : Int) = false) : ∀ r ∈ p.buf, r = [] := by
  have hlc := rightU_lc h.ru
  intro r hr
  obtain ⟨k, hk, rfl⟩ := List.mem_iff_getElem.1 hr
  have hkr : k < u.regs.length := by rw [← h.lb]; exact hk
  obtain ⟨pc, x, T⟩ := h.thr k hkr
  have hbl := (rightL_iff _ _ _ _ _).1 T.bl
  have hg : p.buf.getD k [] = p.buf[k] := by rw [List.getD_eq_getElem?_getD, List.getElem?_eq_getElem hk]; rfl
  rw [hg] at hbl
  rcases hbl.2.2 with h1 | h1 | h1
  · exact h1.2
  · obtain ⟨rfl, h2⟩ := h1
    cases hb : p.buf[k] with
    | nil => rfl
    | cons e rest =>
      exfalso
      have hq := hn (u.code.length + k) (by unfold agN; rw [if_neg (by omega), if_pos rfl]; omega)
      unfold enA agOf at hq
      rw [if_pos ⟨by omega, by unfold agN; rw [if_neg (by omega), if_pos rfl]; omega⟩, if_neg (by omega), if_pos rfl] at hq
      have hq : flT p 2 (((u.code.length + k : Nat) : Int) - (u.code.length : Int)) (-1) = false := hq
      rw [show ((u.code.length + k : Nat) : Int) - (u.code.length : Int) = (k : Int) by omega] at hq
      unfold flT at hq
      rw [decide_eq_true (show (0 : Int) ≤ k ∧ (k : Int) < p.buf.length by omega), Bool.true_and, show ((k : Int)).toNat = k by omega, hg, hb] at hq
      unfold popL oldL at hq
      simp at hq
  · obtain ⟨rfl, h2, h3⟩ := h1
    cases hb : p.buf[k] with
    | nil => rfl
    | cons e rest =>
      exfalso
      have he := (hbl.2.1 e (by rw [hb]; exact List.mem_cons_self)).1
      have he := (inB_iff _ _).1 he
      obtain ⟨loc, hloc⟩ : ∃ loc : Nat, e.1 = (loc : Int) := ⟨e.1.toNat, by omega⟩
      have hll : loc < u.init.length := by omega
      have hkc : k < u.code.length := by omega
      have hlt : k * u.init.length + loc < u.code.length * u.init.length := by
        have h5 : (k + 1) * u.init.length ≤ u.code.length * u.init.length := Nat.mul_le_mul_right _ (by omega)
        rw [Nat.add_mul] at h5
        omega
      have hN : agN u.code.length u.init.length 3 = u.code.length + u.code.length * u.init.length := by unfold agN; rw [if_neg (by omega), if_neg (by omega), if_pos rfl]
      have hq := hn (u.code.length + (k * u.init.length + loc)) (by rw [hN]; omega)
      unfold enA agOf at hq
      rw [if_pos ⟨by omega, by rw [hN]; omega⟩, if_neg (by omega), if_neg (by omega)] at hq
      rw [show ((u.code.length + (k * u.init.length + loc) : Nat) : Int) - (u.code.length : Int) = ((k * u.init.length + loc : Nat) : Int) by omega] at hq
      have hd : (((k * u.init.length + loc : Nat) : Int) / (u.init.length : Int)) = (k : Int) := by
        rw [← Int.natCast_ediv, Nat.mul_comm, Nat.mul_add_div (by omega), Nat.div_eq_of_lt hll, Nat.add_zero]
      have hm : (((k * u.init.length + loc : Nat) : Int) % (u.init.length : Int)) = (loc : Int) := by
        rw [← Int.natCast_emod, Nat.mul_comm, Nat.mul_add_mod, Nat.mod_eq_of_lt hll]
      rw [hd, hm] at hq
      have hq : flT p 3 (k : Int) (loc : Int) = false := hq
      unfold flT at hq
      rw [decide_eq_true (show (0 : Int) ≤ k ∧ (k : Int) < p.buf.length by omega), Bool.true_and, show ((k : Int)).toNat = k by omega, hg, hb] at hq
      unfold popL oldL at hq
      simp [fstL, hloc] at hq

/-- Where nothing can act, each thread stands at its end, or at an Await. -/
theorem dead_ops {u : Un} {p : Pf} {model room : Int} (h : RightP u p model room) (hn : ∀ k, k < agN u.code.length u.init.length model → enA u p model room (k : Int) = false) (k : Nat) (hk : k < u.code.length) :
    (insAt u k (p.pc.getD k 0)).op = 22 ∨ (insAt u k (p.pc.getD k 0)).op = 9 := by
  have hlc := rightU_lc h.ru
  have hq0 := quiet_none h hn
  have hkr : k < u.regs.length := by omega
  obtain ⟨pc, x, T⟩ := h.thr k hkr
  have hx : insAt u k (p.pc.getD k 0) = x.x := by show (iiAt u k _).x = _; rw [T.at']
  rw [hx]
  have hm := (rightL_iff _ _ _ _ _).1 T.bl
  have hmod : 1 ≤ model ∧ model ≤ 3 := by rcases hm.2.2 with h1 | h1 | h1 <;> omega
  have hN := agN_thr u.code.length u.init.length model hmod
  have he := hn k (by omega)
  unfold enA agOf at he
  rw [if_pos ⟨by omega, by omega⟩, if_pos (by omega)] at he
  have he : enT u p model room (k : Int) = false := he
  unfold enT at he
  rw [decide_eq_true (show (0 : Int) ≤ k ∧ (k : Int) < p.pc.length by rw [h.lp]; omega), Bool.true_and, show ((k : Int)).toNat = k by omega] at he
  unfold enP at he
  rw [hx] at he
  have hkb : k < p.buf.length := by rw [h.lb]; exact hkr
  have hb0 : p.buf.getD k [] = [] := by rw [List.getD_eq_getElem?_getD, List.getElem?_eq_getElem hkb]; exact hq0 _ (List.getElem_mem hkb)
  unfold enO at he
  rw [hb0] at he
  by_cases h22 : x.x.op = 22
  · exact Or.inl h22
  rw [if_neg h22] at he
  by_cases h4 : x.x.op = 4
  · exfalso
    rw [if_pos h4] at he
    rw [Bool.or_eq_false_iff] at he
    obtain ⟨e1, e2⟩ := he
    have e1 := of_decide_eq_false e1
    unfold roomL at e2
    rcases hm.2.2 with h1 | h1 | h1
    · exact e1 h1.1
    · rw [if_pos h1.1] at e2
      have := of_decide_eq_false e2
      simp at this
      omega
    · rw [if_neg (by omega), if_pos h1.1] at e2
      have := of_decide_eq_false e2
      simp [cntL] at this
      omega
  rw [if_neg h4] at he
  by_cases h5 : x.x.op = 5 ∨ x.x.op = 6 ∨ x.x.op = 7 ∨ x.x.op = 8
  · rw [if_pos h5] at he; simp at he
  rw [if_neg h5] at he
  by_cases h9 : x.x.op = 9
  · exact Or.inr h9
  · rw [if_neg h9] at he; cases he

/-- What has ended is at its end. -/
theorem ended_op {u : Un} {c : Cf} {model room : Int} (h : RightP u c.pf model room) (k : Nat) (hk : k < u.code.length) : endedC u c k = decide ((insAt u k (c.pc.getD k 0)).op = 22) := by
  have hlc := rightU_lc h.ru
  have hkr : k < u.regs.length := by omega
  obtain ⟨pc, x, T⟩ := h.thr k hkr
  have hp : c.pc.getD k 0 = (pc : Int) := T.hp
  have hlp : c.pc.length = u.regs.length := h.lp
  unfold endedC
  rw [if_pos (by omega), show ((k : Int)).toNat = k by omega, hp, if_pos ⟨by omega, by have := T.hpl; omega⟩, show ((pc : Int)).toNat = pc by omega]
  have hi : (u.code.getD k ([], undef)).1[pc]? = some ((u.code.getD k ([], undef)).1.getD pc noII) := by
    rw [List.getD_eq_getElem?_getD (l := (u.code.getD k ([], undef)).1), List.getElem?_eq_getElem T.hpl]; rfl
  rw [hi]
  unfold insAt iiAt
  rw [show ((pc : Int)).toNat = pc by omega]
  rw [Option.map_some, decide_eq_decide]
  exact ⟨fun h => Option.some.inj h, fun h => congrArg some h⟩
theorem finF_iff (u : Un) (c : Cf) : ∀ f k, finF u c f k = true ↔ ∀ i, k ≤ i → i < k + f → endedC u c i = true
  | 0, k => ⟨fun _ i h1 h2 => by omega, fun _ => rfl⟩
  | f + 1, k => by
    show (endedC u c k && finF u c f (k + 1)) = true ↔ _
    rw [Bool.and_eq_true, finF_iff u c f (k + 1)]
    constructor
    · rintro ⟨h1, h2⟩ i hi hj
      by_cases hik : i = k
      · subst hik; exact h1
      · exact h2 i (by omega) (by omega)
    · intro h
      exact ⟨h k (by omega) (by omega), fun i h1 h2 => h i (by omega) (by omega)⟩
/-- Where all is over nothing can act. -/
theorem final_none {u : Un} {c : Cf} {model room : Int} (h : RightP u c.pf model room) (hf : finalC u c = true) : mvA u c.pf model room = [] := by
  have hlc := rightU_lc h.ru
  unfold finalC at hf
  rw [Bool.and_eq_true, finF_iff] at hf
  obtain ⟨h1, h2⟩ := hf
  have hb : ∀ r ∈ c.pf.buf, r = [] := by
    intro r hr
    obtain ⟨x, hx, rfl⟩ := List.mem_map.1 hr
    have := of_decide_eq_true (List.all_eq_true.1 h2 x hx)
    exact List.eq_nil_of_length_eq_zero this
  refine mvG_some _ _ fun k hk => ?_
  unfold enA agOf
  have hfl : ∀ t loc, flT c.pf model t loc = false := by
    intro t loc
    unfold flT
    by_cases ht : 0 ≤ t ∧ t < c.pf.buf.length
    · have hk : t.toNat < c.pf.buf.length := by omega
      rw [List.getD_eq_getElem?_getD, List.getElem?_eq_getElem hk, Option.getD_some, hb _ (List.getElem_mem hk), pop_nil, Bool.and_false]
    · rw [decide_eq_false ht, Bool.false_and]
  split
  · split
    · next hka =>
      have hkc : k < u.code.length := by omega
      have he := h1 k (by omega) (by omega)
      rw [ended_op h k hkc] at he
      have he := of_decide_eq_true he
      show enT u c.pf model room (k : Int) = false
      unfold enT enP
      rw [show ((k : Int)).toNat = k by omega]
      unfold enO
      rw [show insAt u k (c.pf.pc.getD k 0) = insAt u k (c.pc.getD k 0) from rfl, if_pos he, Bool.and_false]
    · split
      · exact hfl _ _
      · exact hfl _ _
  · rfl
/-- Where nothing can act, and not all is over, all is quiet, and some thread stands at an Await. -/
theorem dead_some {u : Un} {c : Cf} {model room : Int} (h : RightP u c.pf model room) (hn : mvA u c.pf model room = []) (hf : finalC u c = false) :
    quietC c = true ∧ (∀ k, k < u.code.length → (insAt u k (c.pc.getD k 0)).op = 22 ∨ (insAt u k (c.pc.getD k 0)).op = 9) ∧ ∃ k, k < u.code.length ∧ (insAt u k (c.pc.getD k 0)).op = 9 := by
  have hn' := mvG_nil (enA u c.pf model room) (agN u.code.length u.init.length model) (by rw [show mvG _ _ = mvA u c.pf model room from rfl, hn]; rfl)
  have hq : quietC c = true := quiet_sc (quiet_none h hn')
  have ho := fun k hk => dead_ops h hn' k hk
  refine ⟨hq, ho, ?_⟩
  unfold finalC at hf
  rw [hq, Bool.and_true] at hf
  apply Classical.byContradiction
  intro hno
  have : finF u c u.code.length 0 = true := (finF_iff u c _ _).2 fun i _ hi => by
    rw [ended_op h i (by omega)]
    rcases ho i (by omega) with h1 | h1
    · exact decide_eq_true h1
    · exact absurd ⟨i, by omega, h1⟩ hno
  rw [this] at hf
  cases hf

end Go.Proofs.YtobmbkgeafbamaaGreat
