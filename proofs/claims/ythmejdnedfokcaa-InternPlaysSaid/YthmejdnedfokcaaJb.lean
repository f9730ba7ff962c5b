/- Layer 13: what stays, block by block; texts and their numbers, plainly. -/
import Derived.Test.YthmejdnedfokcaaJa
namespace Go.Proofs.Ythmejdnedfokcaa
set_option linter.unusedSimpArgs false
set_option linter.unusedVariables false
open Go.RowKit

/-- All is as it was, but for some blocks. -/
structure Oth (F : Nat → Prop) (w w' : World) : Prop where
  b : Below 0 w w'
  k : ∀ g, g < w.heap.size → ¬ F g → w'.heap[g]? = w.heap[g]?
theorem Oth.refl (F : Nat → Prop) (w : World) : Oth F w w := ⟨Below.refl _ _, fun _ _ _ => rfl⟩
theorem Oth.trans {F F' G : Nat → Prop} {w w1 w2 : World} (h : Oth F w w1) (h2 : Oth F' w1 w2) (h3 : ∀ g, F g → G g) (h4 : ∀ g, g < w.heap.size → F' g → G g) : Oth G w w2 :=
  ⟨h.b.trans h2.b, fun g hg hn => (h2.k g (Nat.lt_of_lt_of_le hg h.b.size) fun hf => hn (h4 g hg hf)).trans (h.k g hg fun hf => hn (h3 g hf))⟩
theorem Oth.below {B : Nat} {F : Nat → Prop} {w w' : World} (h : Oth F w w') (hF : ∀ g, F g → B ≤ g) (hB : B ≤ w.heap.size) : Below B w w' :=
  ⟨h.b.os, h.b.tape, h.b.output, h.b.size, fun k hk => h.k k (by omega) fun hf => by have := hF k hf; omega⟩
theorem Oth.of {F : Nat → Prop} {w w' : World} (h : Below w.heap.size w w') : Oth F w w' := ⟨h.mono (Nat.zero_le _), fun g hg _ => h.block g hg⟩
theorem Oth.bk {F : Nat → Prop} {w w' : World} {g T : Nat} {cs : Array Value} (h : Oth F w w') (hb : Bk w g T cs) (hg : ¬ F g) : Bk w' g T cs := (h.k g hb.lt hg).trans hb
theorem Oth.own {F : Nat → Prop} {w w' : World} {B T S n : Nat} {v : Value} {xs : List Value} (h : Oth F w w') (ho : w.ownsRow B T S v n xs) (hg : ∀ g, v.ownBlock = some g → ¬ F g) : w'.ownsRow B T S v n xs := by
  obtain ⟨h1, h2⟩ := ho
  refine ⟨h1, ?_⟩
  rcases h2 with h2 | ⟨g, cap, cur, rfl, hB, hh, r⟩
  · exact .inl h2
  · exact .inr ⟨g, cap, cur, rfl, hB, (h.k g (Array.getElem?_eq_some_iff.1 hh).1 (hg g rfl)).trans hh, r⟩

def eqT (x y : ByteArray) : Bool := x.toList == y.toList
theorem eqT_iff (x y : ByteArray) : eqT x y = true ↔ x = y := by
  unfold eqT
  rw [beq_iff_eq, ByteArray.toList_eq, ByteArray.toList_eq]
  constructor
  · intro h
    cases x; cases y
    exact congrArg ByteArray.mk (Array.toList_inj.1 h)
  · rintro rfl; rfl
theorem eqT_comm (x y : ByteArray) : eqT x y = eqT y x := by
  rw [Bool.eq_iff_iff, eqT_iff, eqT_iff]
  exact eq_comm
/-- Is a text there? -/
def hasT (L : List ByteArray) (s : ByteArray) : Bool := L.any fun x => eqT x s
/-- Its number. -/
def posT (L : List ByteArray) (s : ByteArray) : Nat := L.findIdx fun x => eqT x s
def getN (L : List ByteArray) (s : ByteArray) : Nat := if hasT L s = true then posT L s else 0
def putL (L : List ByteArray) (s : ByteArray) : List ByteArray := if hasT L s = true then L else L ++ [s]
def putN (L : List ByteArray) (s : ByteArray) : Nat := if hasT L s = true then posT L s else L.length
def emptyT : ByteArray := ⟨#[]⟩
def atB (L : List ByteArray) (i : Int) : Bool := decide (0 ≤ i ∧ i < (L.length : Int))
def atS (L : List ByteArray) (i : Int) : ByteArray := if atB L i = true then L.getD i.toNat emptyT else emptyT
def slF : Nat → Nat → Nat → Nat
  | 0, _, m => m
  | f + 1, n, m => if m < 2 * n then slF f n (2 * m) else m
/-- How many slots so many texts have. -/
def slotsN (n : Nat) : Nat := slF 20 n 16

theorem has_iff (L : List ByteArray) (s : ByteArray) : hasT L s = true ↔ s ∈ L := by
  unfold hasT
  rw [List.any_eq_true]
  constructor
  · rintro ⟨x, hx, h⟩
    rw [← (eqT_iff _ _).1 h]; exact hx
  · intro h
    exact ⟨s, h, (eqT_iff _ _).2 rfl⟩
theorem pos_lt {L : List ByteArray} {s : ByteArray} (h : hasT L s = true) : posT L s < L.length := by
  unfold posT
  rw [List.findIdx_lt_length]
  exact ⟨s, (has_iff L s).1 h, (eqT_iff _ _).2 rfl⟩
theorem pos_at {L : List ByteArray} {s : ByteArray} (h : hasT L s = true) : L.getD (posT L s) emptyT = s := by
  have hl := pos_lt h
  rw [List.getD_eq_getElem?_getD, List.getElem?_eq_getElem hl]
  have := List.findIdx_getElem (w := hl)
  exact (eqT_iff _ _).1 this
theorem has_put (L : List ByteArray) (s : ByteArray) : hasT (putL L s) s = true := by
  unfold putL
  by_cases h : hasT L s = true
  · rw [if_pos h]; exact h
  · rw [if_neg h, has_iff]; simp
theorem put_len_le (L : List ByteArray) (s : ByteArray) : L.length ≤ (putL L s).length ∧ (putL L s).length ≤ L.length + 1 := by
  unfold putL
  split <;> simp

end Go.Proofs.Ythmejdnedfokcaa
