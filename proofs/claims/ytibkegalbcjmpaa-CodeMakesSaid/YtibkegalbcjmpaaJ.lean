/- What the reference's one does at a sign, and at any token. -/
import Derived.Test.YtibkegalbcjmpaaI
namespace Go.Proofs.Ytibkegalbcjmpaa
open Go.RowKit

/-- The length of the first of some signs that a list begins with, 0 without one. -/
def sgnF : List (List UInt8) → List UInt8 → Nat
  | [], _ => 0
  | x :: L, l => if (l.take x.length == x) = true then x.length else sgnF L l

theorem sgnF_len (n : Nat) (l : List UInt8) (rest : List (List UInt8)) : ∀ L : List (List UInt8), (∀ x ∈ L, x.length = n) → sgnF (L ++ rest) l = if L.contains (l.take n) then n else sgnF rest l := by
  intro L
  induction L with
  | nil => intro _; simp
  | cons x L ih =>
    intro h
    have hx := h x (by simp)
    have ih' := ih fun y hy => h y (by simp [hy])
    show (if (l.take x.length == x) = true then x.length else sgnF (L ++ rest) l) = _
    rw [hx, ih', List.contains_cons]
    rcases hq : (l.take n == x) with _ | _
    · simp
    · simp

theorem ones_all : ∀ n : Fin 256, [[59], [44], [123], [125], [40], [41], [46], [61], [43], [45], [42], [33], [60]].contains [UInt8.ofFin n] = sgn1 (((UInt8.ofFin n).toNat : Nat) : Int) := by decide +kernel

theorem sgnF_eq (l : List UInt8) : sgnF signsB l = sgnN l := by
  have h : signsB = [[61, 61], [33, 61], [60, 61], [38, 38], [124, 124]] ++ ([[59], [44], [123], [125], [40], [41], [46], [61], [43], [45], [42], [33], [60]] ++ []) := rfl
  rw [h, sgnF_len 2 l _ _ (by decide), sgnF_len 1 l _ _ (by decide)]
  unfold sgnN
  congr 1
  cases l with
  | nil => rfl
  | cons c r =>
    have := ones_all c.toFin
    simp only [UInt8.ofFin_toFin] at this
    show (if List.contains _ [c] = true then 1 else 0) = _
    rw [this]

theorem sgnF_no (s : ByteArray) (p k : Nat) (x : ByteArray) (hd : signsB.drop k = x.toList :: signsB.drop (k + 1)) (hx0 : 0 < x.size) (h : ¬ p + x.size ≤ s.size ∨ ((s.extract p (p + x.size)).toList == x.toList) = false) :
    sgnF (signsB.drop k) (s.data.toList.drop p) = sgnF (signsB.drop (k + 1)) (s.data.toList.drop p) := by
  rw [hd, sgnF]
  have hx : x.toList.length = x.size := by rw [Lib.toList_data, ← Lib.size_eq]
  rw [if_neg]
  rw [hx]
  rcases h with h | h
  · intro e
    have e' := congrArg List.length (eq_of_beq e)
    rw [hx, List.length_take, drop_len] at e'
    omega
  · rw [Lib.extract_toList, Nat.add_sub_cancel_left] at h
    rw [h]; decide

theorem sgnF_yes (s : ByteArray) (p k : Nat) (x : ByteArray) (hd : signsB.drop k = x.toList :: signsB.drop (k + 1)) (h : ((s.extract p (p + x.size)).toList == x.toList) = true) :
    sgnF (signsB.drop k) (s.data.toList.drop p) = x.size ∧ s.extract p (p + x.size) = x := by
  have hx : x.toList.length = x.size := by rw [Lib.toList_data, ← Lib.size_eq]
  constructor
  · rw [hd, sgnF, if_pos, hx]
    rw [Lib.extract_toList, Nat.add_sub_cancel_left] at h
    rw [hx]; exact h
  · have := eq_of_beq h
    rw [Lib.toList_data, Lib.toList_data, Lib.extract_data, Nat.add_sub_cancel_left] at this
    rw [Lib.extract_eq, Nat.add_sub_cancel_left, this]

theorem cellsS_get (l : List (List UInt8)) (k : Nat) (h : k < l.length) : (cellsS l)[k]? = some (.string ⟨(l[k]).toArray⟩) := by
  simp [cellsS, h]

theorem drewN_add (w : World) (a b : Nat) : w.drewN (a + b) = (w.drewN a).drewN b := by
  simp [World.drewN, Nat.add_assoc]

theorem below_set4 {w w' : World} {b : Nat} (h : Below b w w') (x0 x1 x2 x3 : Value) : Below b w ((((w'.setCell ⟨b, 0, none⟩ x0).setCell ⟨b, 1, none⟩ x1).setCell ⟨b, 2, none⟩ x2).setCell ⟨b, 3, none⟩ x3) :=
  (((h.setCell (p := ⟨b, 0, none⟩) (Nat.le_refl _) _).setCell (p := ⟨b, 1, none⟩) (Nat.le_refl _) _).setCell (p := ⟨b, 2, none⟩) (Nat.le_refl _) _).setCell (p := ⟨b, 3, none⟩) (Nat.le_refl _) _

def SgnAns (s : ByteArray) (p : Nat) (w : World) (e : Ending) (w' : World) : Prop :=
  (0 < sgnN (s.data.toList.drop p) ∧ OneGood 3 0 p (s.extract p (p + sgnN (s.data.toList.drop p))) w e w') ∨ (sgnN (s.data.toList.drop p) = 0 ∧ OneBad 3 w e w')

theorem signs_pos : ∀ k, (h : k < signsB.length) → 0 < (signsB[k]).length ∧ (signsB[k]).length ≤ 2 := by decide

end Go.Proofs.Ytibkegalbcjmpaa
