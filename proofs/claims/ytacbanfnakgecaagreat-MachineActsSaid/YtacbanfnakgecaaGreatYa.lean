/- Layer 10: a step, plainly. -/
import Derived.Test.YtacbanfnakgecaaGreatXj
import Derived.Test.YtacbanfnakgecaaGreatXl
import Derived.Test.YtacbanfnakgecaaGreatVa
import Derived.Test.YtacbanfnakgecaaGreatUx
namespace Go.Proofs.YtacbanfnakgecaaGreat
set_option linter.unusedSimpArgs false
set_option linter.unusedVariables false
open Go.RowKit
def noII : II := ⟨⟨0, 0, 0, [], [], false, 0⟩, undef, undef⟩
def iiAt (u : Un) (k : Nat) (pc : Int) : II := (u.code.getD k ([], undef)).1.getD pc.toNat noII
def insAt (u : Un) (k : Nat) (pc : Int) : Ins := (iiAt u k pc).x
def readsP (p : Pf) (t loc : Int) : Int :=
  if 0 ≤ t ∧ t < p.buf.length ∧ 0 ≤ loc ∧ loc < p.mem.length then
    (if (lastL (p.buf.getD t.toNat []) loc).2 then (lastL (p.buf.getD t.toNat []) loc).1 else p.mem.getD loc.toNat 0)
  else 0
def valP (u : Un) (p : Pf) (k : Nat) (l : List Opn) : Int := (valO l ⟨u.mod, p.regs.getD k [], [], []⟩).1
theorem getD_map {α : Type} (l : List (List α × Value)) (k : Nat) : (l.map (·.1)).getD k [] = (l.getD k ([], undef)).1 := by
  rw [List.getD_eq_getElem?_getD, List.getD_eq_getElem?_getD, List.getElem?_map]
  cases l[k]? <;> rfl
theorem readsC_pf (c : Cf) (t loc : Int) : readsC c t loc = readsP c.pf t loc := by
  unfold readsC readsP Cf.pf
  simp only [getD_map, List.length_map]
theorem valC_pf (u : Un) (c : Cf) (k : Nat) (l : List Opn) : valC u c k l = valP u c.pf k l := by
  unfold valC valP Cf.pf
  simp only [getD_map]
def enO (u : Un) (p : Pf) (model room : Int) (k : Nat) (x : Ins) : Bool :=
  if x.op = 22 then false
  else if x.op = 4 then decide (model = 1) || roomL (p.buf.getD k []) model room x.loc
  else if x.op = 5 ∨ x.op = 6 ∨ x.op = 7 ∨ x.op = 8 then decide ((p.buf.getD k []).length = 0)
  else if x.op = 9 then (decide (readsP p k x.loc = valP u p k x.e)) != x.ne
  else true
def enP (u : Un) (p : Pf) (model room : Int) (k : Nat) : Bool := enO u p model room k (insAt u k (p.pc.getD k 0))
def enT (u : Un) (p : Pf) (model room t : Int) : Bool := decide (0 ≤ t ∧ t < p.pc.length) && enP u p model room t.toNat
def setI (l : List (List Int)) (k : Nat) (i v : Int) : List (List Int) := l.set k ((l.getD k []).set i.toNat v)
def pcO (u : Un) (p : Pf) (k : Nat) (x : Ins) : Int :=
  if x.op = 20 then x.to else if x.op = 21 then (if valP u p k x.e = 0 then x.to else p.pc.getD k 0 + 1) else p.pc.getD k 0 + 1
def regO (u : Un) (p : Pf) (k : Nat) (x : Ins) : List (List Int) :=
  if x.op = 2 then setI p.regs k x.reg (valP u p k x.e)
  else if x.op = 3 then setI p.regs k x.reg (readsP p k x.loc)
  else if x.op = 5 ∨ x.op = 6 ∨ x.op = 7 then setI p.regs k x.reg (p.mem.getD x.loc.toNat 0)
  else p.regs
def memO (u : Un) (p : Pf) (model : Int) (k : Nat) (x : Ins) : List Int :=
  if x.op = 4 then (if model = 1 then p.mem.set x.loc.toNat (valP u p k x.e) else p.mem)
  else if x.op = 5 then (if p.mem.getD x.loc.toNat 0 = valP u p k x.e then p.mem.set x.loc.toNat (valP u p k x.f) else p.mem)
  else if x.op = 6 then p.mem.set x.loc.toNat ((p.mem.getD x.loc.toNat 0 + valP u p k x.e) % u.mod)
  else if x.op = 7 then p.mem.set x.loc.toNat (valP u p k x.e)
  else p.mem
def bufO (u : Un) (p : Pf) (model : Int) (k : Nat) (x : Ins) : List (List Ent) :=
  if x.op = 4 ∧ model ≠ 1 then p.buf.set k (pushL (p.buf.getD k []) model (x.loc, valP u p k x.e)) else p.buf
def actO (u : Un) (p : Pf) (model : Int) (k : Nat) (x : Ins) : Pf := ⟨p.pc.set k (pcO u p k x), regO u p k x, memO u p model k x, bufO u p model k x⟩
def actP (u : Un) (p : Pf) (model : Int) (k : Nat) : Pf := actO u p model k (insAt u k (p.pc.getD k 0))
def actT (u : Un) (p : Pf) (model room t : Int) : Pf := if enT u p model room t then actP u p model t.toNat else p
def flT (p : Pf) (model t loc : Int) : Bool := decide (0 ≤ t ∧ t < p.buf.length) && (popL (p.buf.getD t.toNat []) model loc).2.2
def flushP (p : Pf) (model : Int) (k : Nat) (loc : Int) : Pf :=
  let r := popL (p.buf.getD k []) model loc
  ⟨p.pc, p.regs, p.mem.set r.2.1.1.toNat r.2.1.2, p.buf.set k r.1⟩
def flushT (p : Pf) (model t loc : Int) : Pf := if flT p model t loc then flushP p model t.toNat loc else p
structure RightP (u : Un) (p : Pf) (model room : Int) : Prop where
  ru : rightU u = true
  lp : p.pc.length = u.regs.length
  lr : p.regs.length = u.regs.length
  lb : p.buf.length = u.regs.length
  lm : p.mem.length = u.init.length
  m : ∀ n ∈ p.mem, inB n u.mod = true
  t : ∀ k, k < u.regs.length → thB u.mod model room u.init.length (p.pc.getD k 0) (p.regs.getD k []) (p.buf.getD k []) (u.regs.getD k 0) (u.code.getD k ([], undef)).1.length = true
  e : rightL [] model room u.mod u.init.length = true
theorem thF_iff (m model room nl : Int) : ∀ (n : Nat) (ps : List Int) (rs : List (List Int × Value)) (bs : List (List Ent × Value)) (os : List Int) (cs : List (List II × Value)), ps.length = n → rs.length = n → bs.length = n → os.length = n → cs.length = n →
    (thF m model room nl ps rs bs os cs = true ↔ ∀ k, k < n → thB m model room nl (ps.getD k 0) (rs.getD k ([], undef)).1 (bs.getD k ([], undef)).1 (os.getD k 0) (cs.getD k ([], undef)).1.length = true)
  | 0, [], [], [], [], [], _, _, _, _, _ => by simp [thF]
  | n + 1, p :: ps, r :: rs, b :: bs, o :: os, c :: cs, h1, h2, h3, h4, h5 => by
    have ih := thF_iff m model room nl n ps rs bs os cs (by simpa using h1) (by simpa using h2) (by simpa using h3) (by simpa using h4) (by simpa using h5)
    unfold thF
    rw [Bool.and_eq_true, ih]
    constructor
    · rintro ⟨h6, h7⟩ k hk
      cases k with
      | zero => exact h6
      | succ k => exact h7 k (by omega)
    · intro h
      exact ⟨h 0 (by omega), fun k hk => h (k + 1) (by omega)⟩
theorem rightU_lc {u : Un} (h : rightU u = true) : 2 ≤ u.mod ∧ u.mod ≤ 16 ∧ u.init.length ≤ 6 ∧ 1 ≤ u.regs.length ∧ u.regs.length ≤ 4 ∧ u.code.length = u.regs.length := by
  unfold rightU at h
  rw [Bool.and_eq_true] at h
  have h1 := of_decide_eq_true h.1
  omega
theorem rightC_iff (u : Un) (c : Cf) (model room : Int) : rightC u c model room = true ↔ RightP u c.pf model room := by
  unfold rightC
  simp only [Bool.and_eq_true, decide_eq_true_eq, List.all_eq_true]
  constructor
  · rintro ⟨hu, ⟨h1, h2, h3, h4⟩, h5, h6, h7⟩
    refine ⟨hu, h1, by simpa [Cf.pf] using h2, by simpa [Cf.pf] using h3, h4, h5, fun k hk => ?_, h7⟩
    have := (thF_iff u.mod model room u.init.length u.regs.length c.pc c.regs c.buf u.regs u.code h1 h2 h3 rfl (rightU_lc hu).2.2.2.2.2).1 h6 k hk
    show thB _ _ _ _ (c.pc.getD k 0) ((c.regs.map (·.1)).getD k []) ((c.buf.map (·.1)).getD k []) _ _ = true
    rw [getD_map, getD_map]
    exact this
  · intro h
    have h2 : c.regs.length = u.regs.length := by have := h.lr; simpa [Cf.pf] using this
    have h3 : c.buf.length = u.regs.length := by have := h.lb; simpa [Cf.pf] using this
    refine ⟨h.ru, ⟨h.lp, h2, h3, h.lm⟩, h.m, ?_, h.e⟩
    refine (thF_iff u.mod model room u.init.length u.regs.length c.pc c.regs c.buf u.regs u.code h.lp h2 h3 rfl (rightU_lc h.ru).2.2.2.2.2).2 fun k hk => ?_
    have := h.t k hk
    rw [show c.pf.regs = c.regs.map (·.1) from rfl, show c.pf.buf = c.buf.map (·.1) from rfl, getD_map, getD_map] at this
    exact this
end Go.Proofs.YtacbanfnakgecaaGreat
