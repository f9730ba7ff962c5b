/- What Scan of package scan does: the tokens that a plain function of lists tells. -/
import Derived.Test.YtibkegalbcjmpaaC
import Derived.Deep.LoopGhost
namespace Go.Proofs.Ytibkegalbcjmpaa
open Go.RowKit

/-- A token: its kind, its bytes, its number, its place. -/
abbrev Tok := Nat × List UInt8 × Nat × Nat
def cellsOf (t : Tok) : List Value := [.int .i64 t.1, .string ⟨t.2.1.toArray⟩, .int .i64 t.2.2.1, .int .i64 t.2.2.2]
def rowOf (l : List Tok) : List Value := l.flatMap cellsOf

def blank (c : Int) : Bool := decide (c = 32 ∨ c = 10 ∨ c = 9 ∨ c = 13)
def noNl (c : Int) : Bool := decide (c ≠ 10)

/-- The tokens of what is left, behind those that were found: by at most so many steps. -/
def sc : Nat → List UInt8 → Nat → List Tok → List Tok × Nat × Nat
  | 0, _, _, acc => (acc, 0, 0)
  | _ + 1, [], _, acc => (acc, 0, 0)
  | f + 1, c :: r, p, acc =>
    if blank (c.toNat : Int) then sc f r (p + 1) acc
    else if (c.toNat : Int) = 35 then sc f ((c :: r).drop (spanN noNl (c :: r))) (p + spanN noNl (c :: r)) acc
    else if (tk (c :: r)).1 ≠ 0 then ([], (tk (c :: r)).1, p)
    else sc f ((c :: r).drop (tk (c :: r)).2.2.1) (p + (tk (c :: r)).2.2.1) (acc ++ [((tk (c :: r)).2.1, (c :: r).take (tk (c :: r)).2.2.1, (tk (c :: r)).2.2.2, p)])

def scanL (l : List UInt8) : List Tok × Nat × Nat := if 20000 < l.length then ([], 2, 20000) else sc l.length l 0 []

theorem sc_nil (f p : Nat) (acc : List Tok) : sc f [] p acc = (acc, 0, 0) := by cases f <;> rfl

theorem sc_end (s : ByteArray) (p q f : Nat) (acc : List Tok) (h : ¬ p < s.size) : sc f (s.data.toList.drop p) q acc = (acc, 0, 0) := by
  rw [List.drop_eq_nil_of_le (by rw [← Lib.size_eq]; omega), sc_nil]

theorem sc_blank (s : ByteArray) (p f : Nat) (acc : List Tok) (h : p < s.size) (hb : blank (s[p].toNat : Int) = true) :
    sc (f + 1) (s.data.toList.drop p) p acc = sc f (s.data.toList.drop (p + 1)) (p + 1) acc := by
  rw [drop_at s p h, sc, if_pos hb]

theorem sc_hash (s : ByteArray) (p f : Nat) (acc : List Tok) (h : p < s.size) (hb : blank (s[p].toNat : Int) = false) (hc : (s[p].toNat : Int) = 35) :
    sc (f + 1) (s.data.toList.drop p) p acc = sc f (s.data.toList.drop (p + spanN noNl (s.data.toList.drop p))) (p + spanN noNl (s.data.toList.drop p)) acc := by
  rw [← List.drop_drop]
  conv => lhs; rw [drop_at s p h, sc, if_neg (by rw [hb]; decide), if_pos hc, ← drop_at s p h]

theorem sc_bad (s : ByteArray) (p f : Nat) (acc : List Tok) (h : p < s.size) (hb : blank (s[p].toNat : Int) = false) (hc : (s[p].toNat : Int) ≠ 35) (ht : (tk (s.data.toList.drop p)).1 ≠ 0) :
    sc (f + 1) (s.data.toList.drop p) p acc = ([], (tk (s.data.toList.drop p)).1, p) := by
  rw [drop_at s p h] at ht ⊢
  rw [sc, if_neg (by rw [hb]; decide), if_neg hc, if_pos ht]

theorem sc_tok (s : ByteArray) (p f : Nat) (acc : List Tok) (h : p < s.size) (hb : blank (s[p].toNat : Int) = false) (hc : (s[p].toNat : Int) ≠ 35) (ht : (tk (s.data.toList.drop p)).1 = 0) :
    sc (f + 1) (s.data.toList.drop p) p acc = sc f (s.data.toList.drop (p + (tk (s.data.toList.drop p)).2.2.1)) (p + (tk (s.data.toList.drop p)).2.2.1) (acc ++ [((tk (s.data.toList.drop p)).2.1, (s.data.toList.drop p).take (tk (s.data.toList.drop p)).2.2.1, (tk (s.data.toList.drop p)).2.2.2, p)]) := by
  rw [← List.drop_drop]
  rw [drop_at s p h] at ht ⊢
  conv => lhs; rw [sc, if_neg (by rw [hb]; decide), if_neg hc, if_neg (by rw [ht]; decide)]

theorem tk_len (l : List UInt8) (h : (tk l).1 = 0) : 0 < (tk l).2.2.1 ∧ (tk l).2.2.1 ≤ l.length := by
  cases l with
  | nil => cases h
  | cons c r =>
    have hw := spanN_le wrd (c :: r)
    have hd := spanN_le dig (c :: r)
    have hg := sgnN_le (c :: r)
    have hw1 : ltr (c.toNat : Int) = true → 0 < spanN wrd (c :: r) := fun h => by simp [spanN, wrd, h]
    have hd1 : dig (c.toNat : Int) = true → 0 < spanN dig (c :: r) := fun h => by simp [spanN, h]
    unfold tk at *
    rcases h1 : ltr (c.toNat : Int) with _ | _
    · rcases h2 : dig (c.toNat : Int) with _ | _
      · by_cases h3 : 0 < sgnN (c :: r)
        · simp only [h1, h2, if_pos h3]; simp; exact ⟨h3, by simpa using hg⟩
        · simp [h1, h2, if_neg h3] at h
      · by_cases h3 : 9999 < numV ((c :: r).take (spanN dig (c :: r)))
        · simp [h1, h2, if_pos h3] at h
        · simp only [h1, h2, if_neg h3]; simp; exact ⟨hd1 h2, by simpa using hd⟩
    · by_cases h3 : 16 < spanN wrd (c :: r)
      · simp [h1, if_pos h3] at h
      · simp only [h1, if_neg h3]; simp; exact ⟨hw1 h1, by simpa using hw⟩

theorem own_below {w w' : World} {B e size n : Nat} {v : Value} {xs : List Value} (h : w.ownsRow B e size v n xs) (hb : Below w.heap.size w w') : w'.ownsRow B e size v n xs := by
  obtain ⟨h1, h2⟩ := h
  refine ⟨h1, ?_⟩
  rcases h2 with h2 | ⟨g, cap, cur, hv, hg, hh, r⟩
  · exact .inl h2
  · exact .inr ⟨g, cap, cur, hv, hg, by rw [hb.block g (Array.getElem?_eq_some_iff.1 hh).1]; exact hh, r⟩

theorem cell_four_new (w : World) (a b c d : Value) (t n : Nat) (hn : n = w.heap.size) : ∀ j u, [a, b, c, d][j]? = some u → (w.alloc (.cells #[a, b, c, d] t)).cell? ((⟨n, 0, none⟩ : Addr).add j) = some u := by
  subst hn
  intro j u h
  match j, h with
  | 0, h => simp at h; subst h; simp [Addr.add]
  | 1, h => simp at h; subst h; simp [Addr.add]
  | 2, h => simp at h; subst h; simp [Addr.add]
  | 3, h => simp at h; subst h; simp [Addr.add]

theorem four_oneCell (k v p : Int) (s : ByteArray) : ∀ u ∈ [Value.int .i64 k, .string s, .int .i64 v, .int .i64 p], u.oneCell' = true := by
  intro u h; simp at h; rcases h with rfl | rfl | rfl | rfl <;> rfl

end Go.Proofs.Ytibkegalbcjmpaa
