/- What the reference's gap does; the plain scanner's steps, whatever their number. -/
import Derived.Test.YtibkegalbcjmpaaF
namespace Go.Proofs.Ytibkegalbcjmpaa
open Go.RowKit

theorem spanN_noNl_pos (c : UInt8) (r : List UInt8) (h : (c.toNat : Int) = 35) : 0 < spanN noNl (c :: r) := by
  have : noNl (c.toNat : Int) = true := by rw [h]; decide
  simp [spanN, this]

theorem sc_fuel : ∀ (f g : Nat) (l : List UInt8) (p : Nat) (acc : List Tok), l.length ≤ f → l.length ≤ g → sc f l p acc = sc g l p acc := by
  intro f
  induction f with
  | zero =>
    intro g l p acc h _
    obtain rfl : l = [] := List.eq_nil_of_length_eq_zero (by omega)
    rw [sc_nil, sc_nil]
  | succ f ih =>
    intro g l p acc hf hg
    cases l with
    | nil => rw [sc_nil, sc_nil]
    | cons c r =>
      obtain ⟨g, rfl⟩ : ∃ k, g = k + 1 := ⟨g - 1, by simp only [List.length_cons] at hg; omega⟩
      simp only [List.length_cons] at hf hg
      unfold sc
      by_cases hb : blank (c.toNat : Int) = true
      · rw [if_pos hb, if_pos hb]; exact ih _ _ _ _ (by omega) (by omega)
      · rw [if_neg hb, if_neg hb]
        by_cases hc : (c.toNat : Int) = 35
        · rw [if_pos hc, if_pos hc]
          have := spanN_noNl_pos c r hc
          exact ih _ _ _ _ (by rw [List.length_drop, List.length_cons]; omega) (by rw [List.length_drop, List.length_cons]; omega)
        · rw [if_neg hc, if_neg hc]
          by_cases ht : (tk (c :: r)).1 ≠ 0
          · rw [if_pos ht, if_pos ht]
          · rw [if_neg ht, if_neg ht]
            have := tk_len (c :: r) (by simpa using ht)
            exact ih _ _ _ _ (by rw [List.length_drop, List.length_cons]; omega) (by rw [List.length_drop, List.length_cons]; omega)

/-- The tokens of a text from a place on, behind those that were found. -/
def scX (s : ByteArray) (p : Nat) (acc : List Tok) : List Tok × Nat × Nat := sc (s.size - p) (s.data.toList.drop p) p acc

theorem drop_len (s : ByteArray) (p : Nat) : (s.data.toList.drop p).length = s.size - p := by rw [List.length_drop, ← Lib.size_eq]

theorem scX_of (s : ByteArray) (p f : Nat) (acc : List Tok) (h : s.size - p ≤ f) : sc f (s.data.toList.drop p) p acc = scX s p acc :=
  sc_fuel _ _ _ _ _ (by rw [drop_len]; exact h) (by rw [drop_len]; exact Nat.le_refl _)

theorem scX_end (s : ByteArray) (p : Nat) (acc : List Tok) (h : ¬ p < s.size) : scX s p acc = (acc, 0, 0) := sc_end s p p _ acc h
theorem scX_blank (s : ByteArray) (p : Nat) (acc : List Tok) (h : p < s.size) (hb : blank (s[p].toNat : Int) = true) : scX s p acc = scX s (p + 1) acc := by
  rw [← scX_of s p (s.size - (p + 1) + 1) acc (by omega), sc_blank s p _ acc h hb]; rfl
theorem scX_hash (s : ByteArray) (p : Nat) (acc : List Tok) (h : p < s.size) (hb : blank (s[p].toNat : Int) = false) (hc : (s[p].toNat : Int) = 35) :
    scX s p acc = scX s (p + spanN noNl (s.data.toList.drop p)) acc := by
  have h1 := spanN_yes noNl s p h (by rw [hc]; decide)
  rw [← scX_of s p (s.size - (p + 1) + 1) acc (by omega), sc_hash s p _ acc h hb hc, scX_of]
  omega
theorem scX_bad (s : ByteArray) (p : Nat) (acc : List Tok) (h : p < s.size) (hb : blank (s[p].toNat : Int) = false) (hc : (s[p].toNat : Int) ≠ 35) (ht : (tk (s.data.toList.drop p)).1 ≠ 0) :
    scX s p acc = ([], (tk (s.data.toList.drop p)).1, p) := by
  rw [← scX_of s p (s.size - (p + 1) + 1) acc (by omega), sc_bad s p _ acc h hb hc ht]
theorem scX_tok (s : ByteArray) (p : Nat) (acc : List Tok) (h : p < s.size) (hb : blank (s[p].toNat : Int) = false) (hc : (s[p].toNat : Int) ≠ 35) (ht : (tk (s.data.toList.drop p)).1 = 0) :
    scX s p acc = scX s (p + (tk (s.data.toList.drop p)).2.2.1) (acc ++ [((tk (s.data.toList.drop p)).2.1, (s.data.toList.drop p).take (tk (s.data.toList.drop p)).2.2.1, (tk (s.data.toList.drop p)).2.2.2, p)]) := by
  have h1 := tk_len _ ht
  rw [← scX_of s p (s.size - (p + 1) + 1) acc (by omega), sc_tok s p _ acc h hb hc ht, scX_of]
  omega

def GapTo (s : ByteArray) (p q : Nat) : Prop := p ≤ q ∧ q ≤ s.size ∧ (∀ acc, scX s p acc = scX s q acc) ∧ ∀ h : q < s.size, blank (s[q].toNat : Int) = false ∧ (s[q].toNat : Int) ≠ 35
def GapAns (s : ByteArray) (p : Nat) (w : World) (e : Ending) (w' : World) : Prop := ∃ q : Nat, e = .returned (.int .i64 q) ∧ GapTo s p q ∧ w = w'
def OnTo (s : ByteArray) (p q : Nat) : Prop := ∀ acc, scX s p acc = scX s q acc

end Go.Proofs.Ytibkegalbcjmpaa
