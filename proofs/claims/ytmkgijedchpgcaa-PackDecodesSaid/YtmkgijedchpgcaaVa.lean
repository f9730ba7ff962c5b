/- Configurations of one's own: rows that a call has made; what they hold, plainly. -/
import Derived.Test.YtmkgijedchpgcaaUp
namespace Go.Proofs.Ytmkgijedchpgcaa
set_option linter.unusedSimpArgs false
set_option linter.unusedVariables false
open Go.RowKit

/-- Blocks from a number on are as they were. -/
def Kp (B : Nat) (w w' : World) : Prop := w.heap.size ≤ w'.heap.size ∧ ∀ g, B ≤ g → g < w.heap.size → w'.heap[g]? = w.heap[g]?
theorem Kp.refl (B : Nat) (w : World) : Kp B w w := ⟨Nat.le_refl _, fun _ _ _ => rfl⟩
theorem Kp.trans {B : Nat} {w w1 w2 : World} (h : Kp B w w1) (h2 : Kp B w1 w2) : Kp B w w2 :=
  ⟨Nat.le_trans h.1 h2.1, fun g h3 h4 => (h2.2 g h3 (Nat.lt_of_lt_of_le h4 h.1)).trans (h.2 g h3 h4)⟩
theorem Kp.below {B C : Nat} {w w' : World} (h : Below C w w') (hC : w.heap.size ≤ C) : Kp B w w' := ⟨h.size, fun g _ h4 => h.block g (Nat.lt_of_lt_of_le h4 hC)⟩
theorem own_kp {w w' : World} {B e size n : Nat} {v : Value} {xs : List Value} (h : w.ownsRow B e size v n xs) (hk : Kp B w w') : w'.ownsRow B e size v n xs := by
  obtain ⟨h1, h2⟩ := h
  refine ⟨h1, ?_⟩
  rcases h2 with h2 | ⟨g, cap, cur, hv, hg, hh, r⟩
  · exact .inl h2
  · exact .inr ⟨g, cap, cur, hv, hg, by rw [hk.2 g hg (Array.getElem?_eq_some_iff.1 hh).1]; exact hh, r⟩

/-- Numbers; slices. -/
def rowI (l : List Int) : List Value := l.flatMap fun x => [Value.int .i64 x]
def rowV (l : List Value) : List Value := l.flatMap fun x => [x]
theorem rowI_len (l : List Int) : (rowI l).length = l.length := by
  induction l with
  | nil => rfl
  | cons a r ih => simp only [rowI, List.flatMap_cons, List.length_append, List.length_cons] at ih ⊢; simp only [List.length_nil]; omega
theorem rowV_eq (l : List Value) : rowV l = l := by
  induction l with
  | nil => rfl
  | cons a r ih => simp only [rowV, List.flatMap_cons] at ih ⊢; rw [ih]; rfl
theorem rowI_eq (l : List Int) : rowI l = l.map fun x => Value.int .i64 x := by
  induction l with
  | nil => rfl
  | cons a r ih => simp only [rowI, List.flatMap_cons, List.map_cons] at ih ⊢; rw [ih]; rfl
theorem rowI_app (a b : List Int) : rowI (a ++ b) = rowI a ++ rowI b := by simp [rowI]

abbrev OwnI (w : World) (B : Nat) (v : Value) (l : List Int) : Prop := w.ownsRow B 3 1 v l.length (rowI l)
abbrev OwnE (w : World) (B : Nat) (v : Value) (l : List Ent) : Prop := w.ownsRow B 50 2 v l.length (rowE l)
structure OwnR (w : World) (B : Nat) (v : Value) (l : List (List Int × Value)) : Prop where
  h : w.ownsRow B 22 1 v l.length (l.map (·.2))
  r : ∀ x ∈ l, OwnI w B x.2 x.1
structure OwnB (w : World) (B : Nat) (v : Value) (l : List (List Ent × Value)) : Prop where
  h : w.ownsRow B 48 1 v l.length (l.map (·.2))
  r : ∀ x ∈ l, OwnE w B x.2 x.1
structure OwnC (w : World) (B : Nat) (vp vr vm vb : Value) (c : Cf) : Prop where
  p : OwnI w B vp c.pc
  r : OwnR w B vr c.regs
  m : OwnI w B vm c.mem
  b : OwnB w B vb c.buf
section
variable {w w' : World} {B : Nat} {v vp vr vm vb : Value}
theorem OwnR.kp {l : List (List Int × Value)} (h : OwnR w B v l) (hk : Kp B w w') : OwnR w' B v l := ⟨own_kp h.h hk, fun x hx => own_kp (h.r x hx) hk⟩
theorem OwnB.kp {l : List (List Ent × Value)} (h : OwnB w B v l) (hk : Kp B w w') : OwnB w' B v l := ⟨own_kp h.h hk, fun x hx => own_kp (h.r x hx) hk⟩
theorem OwnC.kp {c : Cf} (h : OwnC w B vp vr vm vb c) (hk : Kp B w w') : OwnC w' B vp vr vm vb c := ⟨own_kp h.p hk, h.r.kp hk, own_kp h.m hk, h.b.kp hk⟩
theorem OwnR.below {l : List (List Int × Value)} (h : OwnR w B v l) (hk : Below w.heap.size w w') : OwnR w' B v l := h.kp (Kp.below hk (Nat.le_refl _))
theorem OwnB.below {l : List (List Ent × Value)} (h : OwnB w B v l) (hk : Below w.heap.size w w') : OwnB w' B v l := h.kp (Kp.below hk (Nat.le_refl _))
theorem OwnC.below {c : Cf} (h : OwnC w B vp vr vm vb c) (hk : Below w.heap.size w w') : OwnC w' B vp vr vm vb c := h.kp (Kp.below hk (Nat.le_refl _))
theorem OwnC.base {B' : Nat} {c : Cf} (h : OwnC w B vp vr vm vb c) (hb : B' ≤ B) : OwnC w B' vp vr vm vb c :=
  ⟨own_base h.p hb, ⟨own_base h.r.h hb, fun x hx => own_base (h.r.r x hx) hb⟩, own_base h.m hb, ⟨own_base h.b.h hb, fun x hx => own_base (h.b.r x hx) hb⟩⟩
theorem intsD_own {l : List Int} (h : OwnI w B v l) : IntsD w v l := intsD_of_own (T := 3) h
theorem entsD_own {l : List Ent} (h : OwnE w B v l) : EntsD w v l := entsD_of_own (T := 50) h
theorem map_flat {α : Type} (l : List (α × Value)) : l.map (·.2) = l.flatMap fun x => [x.2] := by
  induction l with
  | nil => rfl
  | cons a r ih => simp only [List.map_cons, List.flatMap_cons]; rw [ih]; rfl
theorem OwnR.data {l : List (List Int × Value)} (h : OwnR w B v l) : AllD w v l := by
  have hh := h.h
  rw [map_flat] at hh
  exact slD_of_own (T := 22) (B := B) (fun x : List Int × Value => [x.2]) 1 (fun _ => rfl) hh fun g i hi hk => ⟨hk 0 (by decide), intsD_own (h.r _ (List.getElem_mem hi))⟩
theorem OwnB.data {l : List (List Ent × Value)} (h : OwnB w B v l) : BufsD w v l := by
  have hh := h.h
  rw [map_flat] at hh
  exact slD_of_own (T := 48) (B := B) (fun x : List Ent × Value => [x.2]) 1 (fun _ => rfl) hh fun g i hi hk => ⟨hk 0 (by decide), entsD_own (h.r _ (List.getElem_mem hi))⟩
theorem OwnC.data {c : Cf} (h : OwnC w B vp vr vm vb c) : CfD w vp vr vm vb c := ⟨intsD_own h.p, h.r.data, intsD_own h.m, h.b.data⟩
end

/-- What a configuration holds. -/
structure Pf where
  pc : List Int
  regs : List (List Int)
  mem : List Int
  buf : List (List Ent)
deriving DecidableEq
def Cf.pf (c : Cf) : Pf := ⟨c.pc, c.regs.map (·.1), c.mem, c.buf.map (·.1)⟩

theorem eqL_map {α : Type} [DecidableEq α] : ∀ a b : List (List α × Value), a.length = b.length → eqL a b = decide (a.map (·.1) = b.map (·.1))
  | [], [], _ => by simp [eqL]
  | x :: r, y :: s, h => by
    have ih := eqL_map r s (by simpa using h)
    simp only [eqL, ih, List.map_cons]
    rw [Bool.eq_iff_iff]
    simp
theorem sameC_pf (a b : Cf) : sameC a b = decide (a.pf = b.pf) := by
  unfold sameC
  by_cases h : a.regs.length = b.regs.length ∧ a.buf.length = b.buf.length
  · rw [eqL_map _ _ h.1, eqL_map _ _ h.2, decide_eq_true h, Bool.eq_iff_iff]
    simp only [Bool.and_eq_true, decide_eq_true_eq, Cf.pf, Pf.mk.injEq]
    exact ⟨fun ⟨h1, h2, _, h3, h4⟩ => ⟨h1, h3, h2, h4⟩, fun ⟨h1, h3, h2, h4⟩ => ⟨h1, h2, trivial, h3, h4⟩⟩
  · rw [decide_eq_false h, Bool.false_and, Bool.and_false, Bool.and_false]
    refine (decide_eq_false fun he => h ?_).symm
    have h1 := congrArg (fun p : Pf => p.regs.length) he
    have h2 := congrArg (fun p : Pf => p.buf.length) he
    simp [Cf.pf] at h1 h2
    exact ⟨h1, h2⟩

/-- Slices that lie in blocks of their own. -/
def Apart (a b : Value) : Prop := ∀ g, a.ownBlock = some g → b.ownBlock ≠ some g
theorem Apart.symm {a b : Value} (h : Apart a b) : Apart b a := fun g h1 h2 => h g h2 h1
theorem apart_own {w w2 : World} {B e s n B2 e2 s2 n2 : Nat} {v v2 : Value} {xs xs2 : List Value} (h : w.ownsRow B e s v n xs) (h2 : w2.ownsRow B2 e2 s2 v2 n2 xs2) (hb : w.heap.size ≤ B2) : Apart v v2 := fun g h3 h4 => by
  have h5 := (h.lt g h3).2
  have h6 := (h2.lt g h4).1
  omega
/-- No two rows of numbers of a configuration share a block. -/
structure DjC (vp vm : Value) (l : List (List Int × Value)) : Prop where
  pm : Apart vp vm
  pr : ∀ x ∈ l, Apart vp x.2
  mr : ∀ x ∈ l, Apart vm x.2
  rr : l.Pairwise fun x y => Apart x.2 y.2

end Go.Proofs.Ytmkgijedchpgcaa
