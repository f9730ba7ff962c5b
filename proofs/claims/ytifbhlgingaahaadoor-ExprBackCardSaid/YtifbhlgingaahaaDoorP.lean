/- Plain facts of the plain scanner: what is shown has the same tokens; two texts, one behind the other's line; names. -/
import Derived.Test.YtifbhlgingaahaaDoorH
namespace Go.Proofs.YtifbhlgingaahaaDoor

theorem spanN_app (p : Int → Bool) (c : UInt8) (b : List UInt8) (h : p (c.toNat : Int) = false) : ∀ x : List UInt8, spanN p (x ++ c :: b) = spanN p x
  | [] => by simp [spanN, h]
  | d :: x => by
    have ih := spanN_app p c b h x
    unfold spanN at *
    rcases hd : p (d.toNat : Int) with _ | _
    · simp [hd]
    · simp only [List.cons_append, List.takeWhile_cons, hd, if_true, List.length_cons, ih]

/-- A byte that ends every token. -/
def Sep (c : UInt8) : Prop := wrd (c.toNat : Int) = false ∧ c ≠ 61 ∧ c ≠ 38 ∧ c ≠ 124

theorem sgnN_app (d c : UInt8) (r b : List UInt8) (h : Sep c) : sgnN ((d :: r) ++ c :: b) = sgnN (d :: r) := by
  obtain ⟨_, h1, h2, h3⟩ := h
  cases r with
  | nil =>
    unfold sgnN
    have e1 : [[61, 61], [33, 61], [60, 61], [38, 38], [124, 124]].contains (([d] ++ c :: b).take 2) = false := by
      simp [h1, h2, h3]
    have e2 : [[61, 61], [33, 61], [60, 61], [38, 38], [124, 124]].contains (([d] : List UInt8).take 2) = false := by simp
    rw [e1, e2]
    rfl
  | cons e r => rfl

theorem wrd_dig (c : Int) (h : wrd c = false) : dig c = false := by
  unfold wrd at h; rw [Bool.or_eq_false_iff] at h; exact h.2

theorem tk_app (d c : UInt8) (r b : List UInt8) (h : Sep c) : tk ((d :: r) ++ c :: b) = tk (d :: r) := by
  have e1 := spanN_app wrd c b h.1 (d :: r)
  have e2 := spanN_app dig c b (wrd_dig _ h.1) (d :: r)
  have e3 := sgnN_app d c r b h
  have e4 : ((d :: r) ++ c :: b).take (spanN dig (d :: r)) = (d :: r).take (spanN dig (d :: r)) := List.take_append_of_le_length (spanN_le _ _)
  show tk (d :: (r ++ c :: b)) = _
  rw [tk, tk]
  have e0 : d :: (r ++ c :: b) = (d :: r) ++ c :: b := rfl
  rw [e0, e1, e2, e3, e4]

theorem spanN_take (p : Int → Bool) : ∀ l : List UInt8, spanN p (l.take (spanN p l)) = spanN p l
  | [] => rfl
  | c :: l => by
    have ih := spanN_take p l
    unfold spanN at *
    rcases h : p (c.toNat : Int) with _ | _
    · simp [h]
    · simp only [List.takeWhile_cons, h, if_true, List.length_cons, List.take_succ_cons, ih]

theorem sgnN_take (c : UInt8) (r : List UInt8) : sgnN ((c :: r).take (sgnN (c :: r))) = sgnN (c :: r) := by
  have e : sgnN (c :: r) = if [[61, 61], [33, 61], [60, 61], [38, 38], [124, 124]].contains ((c :: r).take 2) then 2 else if sgn1 (c.toNat : Int) then 1 else 0 := rfl
  by_cases h : [[61, 61], [33, 61], [60, 61], [38, 38], [124, 124]].contains ((c :: r).take 2) = true
  · rw [if_pos h] at e
    rw [e]
    unfold sgnN
    rw [List.take_take, Nat.min_self, if_pos h]
  · rw [if_neg h] at e
    rcases h1 : sgn1 (c.toNat : Int) with _ | _
    · rw [h1] at e
      rw [e]; rfl
    · rw [h1] at e
      rw [e]
      show sgnN [c] = 1
      have e2 : [[61, 61], [33, 61], [60, 61], [38, 38], [124, 124]].contains (([c] : List UInt8).take 2) = false := by simp
      unfold sgnN
      rw [e2]
      show (if sgn1 (c.toNat : Int) = true then 1 else 0) = 1
      rw [h1]; rfl

theorem tk_take (l : List UInt8) (h : (tk l).1 = 0) : tk (l.take (tk l).2.2.1) = (0, (tk l).2.1, (l.take (tk l).2.2.1).length, (tk l).2.2.2) := by
  cases l with
  | nil => cases h
  | cons c r =>
    have hl := tk_len (c :: r) h
    have hlen : ((c :: r).take (tk (c :: r)).2.2.1).length = (tk (c :: r)).2.2.1 := by rw [List.length_take]; omega
    rw [hlen]
    have hw1 : ltr (c.toNat : Int) = true → 0 < spanN wrd (c :: r) := fun h => by simp [spanN, wrd, h]
    have hd1 : dig (c.toNat : Int) = true → 0 < spanN dig (c :: r) := fun h => by simp [spanN, h]
    have e : tk (c :: r) = if ltr (c.toNat : Int) then (if 16 < spanN wrd (c :: r) then (2, 0, 0, 0) else (0, 1, spanN wrd (c :: r), 0))
      else if dig (c.toNat : Int) then (if 9999 < numV ((c :: r).take (spanN dig (c :: r))) then (4, 0, 0, 0) else (0, 2, spanN dig (c :: r), numV ((c :: r).take (spanN dig (c :: r)))))
      else if 0 < sgnN (c :: r) then (0, 3, sgnN (c :: r), 0) else (3, 0, 0, 0) := rfl
    have key : ∀ n, 0 < n → tk ((c :: r).take n) = if ltr (c.toNat : Int) then (if 16 < spanN wrd ((c :: r).take n) then (2, 0, 0, 0) else (0, 1, spanN wrd ((c :: r).take n), 0))
      else if dig (c.toNat : Int) then (if 9999 < numV (((c :: r).take n).take (spanN dig ((c :: r).take n))) then (4, 0, 0, 0) else (0, 2, spanN dig ((c :: r).take n), numV (((c :: r).take n).take (spanN dig ((c :: r).take n)))))
      else if 0 < sgnN ((c :: r).take n) then (0, 3, sgnN ((c :: r).take n), 0) else (3, 0, 0, 0) := by
      intro n hn
      obtain ⟨m, rfl⟩ : ∃ m, n = m + 1 := ⟨n - 1, by omega⟩
      rw [List.take_succ_cons]; rfl
    rcases h1 : ltr (c.toNat : Int) with _ | _
    · rcases h2 : dig (c.toNat : Int) with _ | _
      · by_cases h3 : 0 < sgnN (c :: r)
        · rw [h1, h2, if_pos h3] at e
          simp only [Bool.false_eq_true, if_false] at e
          rw [e]
          show tk ((c :: r).take (sgnN (c :: r))) = _
          rw [key _ h3, sgnN_take, h1, h2, if_pos h3]; rfl
        · rw [h1, h2, if_neg h3] at e
          rw [e] at h; cases h
      · by_cases h3 : 9999 < numV ((c :: r).take (spanN dig (c :: r)))
        · rw [h1, h2, if_pos h3] at e
          rw [e] at h; cases h
        · rw [h1, h2, if_neg h3] at e
          simp only [Bool.false_eq_true, if_false, if_true] at e
          rw [e]
          show tk ((c :: r).take (spanN dig (c :: r))) = _
          rw [key _ (hd1 h2), spanN_take, List.take_take, Nat.min_self, h1, h2, if_neg h3]; rfl
    · by_cases h3 : 16 < spanN wrd (c :: r)
      · rw [h1, if_pos h3] at e
        rw [e] at h; cases h
      · rw [h1, if_neg h3] at e
        simp only [if_true] at e
        rw [e]
        show tk ((c :: r).take (spanN wrd (c :: r))) = _
        rw [key _ (hw1 h1), spanN_take, h1, if_neg h3]; rfl

theorem sc_cons (f : Nat) (c : UInt8) (r : List UInt8) (p : Nat) (acc : List Tok) : sc (f + 1) (c :: r) p acc =
    if blank (c.toNat : Int) then sc f r (p + 1) acc
    else if (c.toNat : Int) = 35 then sc f ((c :: r).drop (spanN noNl (c :: r))) (p + spanN noNl (c :: r)) acc
    else if (tk (c :: r)).1 ≠ 0 then ([], (tk (c :: r)).1, p)
    else sc f ((c :: r).drop (tk (c :: r)).2.2.1) (p + (tk (c :: r)).2.2.1) (acc ++ [((tk (c :: r)).2.1, (c :: r).take (tk (c :: r)).2.2.1, (tk (c :: r)).2.2.2, p)]) := rfl

/-- A token's text alone is that token. -/
def Good (t : Tok) : Prop := tk t.2.1 = (0, t.1, t.2.1.length, t.2.2.1)

theorem sc_good : ∀ (f : Nat) (l : List UInt8) (p : Nat) (acc : List Tok), ∀ t ∈ (sc f l p acc).1, t ∈ acc ∨ Good t := by
  intro f
  induction f with
  | zero => intro l p acc t ht; exact .inl ht
  | succ f ih =>
    intro l p acc t ht
    cases l with
    | nil => exact .inl ht
    | cons c r =>
      unfold sc at ht
      by_cases hb : blank (c.toNat : Int) = true
      · rw [if_pos hb] at ht; exact ih _ _ _ t ht
      · rw [if_neg hb] at ht
        by_cases hc : (c.toNat : Int) = 35
        · rw [if_pos hc] at ht; exact ih _ _ _ t ht
        · rw [if_neg hc] at ht
          by_cases he : (tk (c :: r)).1 ≠ 0
          · rw [if_pos he] at ht; simp at ht
          · rw [if_neg he] at ht
            rcases ih _ _ _ t ht with h | h
            · rw [List.mem_append, List.mem_singleton] at h
              rcases h with h | rfl
              · exact .inl h
              · exact .inr (tk_take (c :: r) (by simpa using he))
            · exact .inr h

theorem scanL_good (l : List UInt8) : ∀ t ∈ (scanL l).1, Good t := by
  intro t ht
  unfold scanL at ht
  split at ht
  · simp at ht
  · rcases sc_good _ _ _ _ t ht with h | h
    · simp at h
    · exact h

/-- A token but for its place. -/
def strip (t : Tok) : Nat × List UInt8 × Nat := (t.1, t.2.1, t.2.2.1)

theorem sc_alike : ∀ (f : Nat) (l : List UInt8) (p q : Nat) (acc acc' : List Tok), (sc f l p acc).2.1 = (sc f l q acc').2.1 ∧
    ((sc f l p acc).2.1 = 0 → ∃ m m', (sc f l p acc).1 = acc ++ m ∧ (sc f l q acc').1 = acc' ++ m' ∧ m.map strip = m'.map strip) := by
  intro f
  induction f with
  | zero => intro l p q acc acc'; exact ⟨rfl, fun _ => ⟨[], [], (List.append_nil _).symm, (List.append_nil _).symm, rfl⟩⟩
  | succ f ih =>
    intro l p q acc acc'
    cases l with
    | nil => exact ⟨rfl, fun _ => ⟨[], [], (List.append_nil _).symm, (List.append_nil _).symm, rfl⟩⟩
    | cons c r =>
      rw [sc_cons f c r p acc, sc_cons f c r q acc']
      by_cases hb : blank (c.toNat : Int) = true
      · rw [if_pos hb, if_pos hb]; exact ih _ _ _ _ _
      · rw [if_neg hb, if_neg hb]
        by_cases hc : (c.toNat : Int) = 35
        · rw [if_pos hc, if_pos hc]; exact ih _ _ _ _ _
        · rw [if_neg hc, if_neg hc]
          by_cases he : (tk (c :: r)).1 ≠ 0
          · rw [if_pos he, if_pos he]; exact ⟨rfl, fun h => absurd h he⟩
          · rw [if_neg he, if_neg he]
            obtain ⟨h1, h2⟩ := ih ((c :: r).drop (tk (c :: r)).2.2.1) (p + (tk (c :: r)).2.2.1) (q + (tk (c :: r)).2.2.1)
              (acc ++ [((tk (c :: r)).2.1, (c :: r).take (tk (c :: r)).2.2.1, (tk (c :: r)).2.2.2, p)]) (acc' ++ [((tk (c :: r)).2.1, (c :: r).take (tk (c :: r)).2.2.1, (tk (c :: r)).2.2.2, q)])
            refine ⟨h1, fun h => ?_⟩
            obtain ⟨m, m', e1, e2, e3⟩ := h2 h
            exact ⟨_ :: m, _ :: m', by rw [e1, List.append_assoc]; rfl, by rw [e2, List.append_assoc]; rfl, by rw [List.map_cons, List.map_cons, e3]; rfl⟩

theorem sep10 : Sep 10 := ⟨by decide, by decide, by decide, by decide⟩
theorem sep32 : Sep 32 := ⟨by decide, by decide, by decide, by decide⟩

theorem sc_app (b : List UInt8) : ∀ (f : Nat) (x : List UInt8) (p : Nat) (acc : List Tok) (g : Nat), x.length ≤ f → (x ++ 10 :: b).length ≤ g → (sc f x p acc).2.1 = 0 →
    sc g (x ++ 10 :: b) p acc = sc b.length b (p + x.length + 1) (sc f x p acc).1 := by
  have base : ∀ (p : Nat) (acc : List Tok) (g : Nat), (10 :: b).length ≤ g → sc g (10 :: b) p acc = sc b.length b (p + 1) acc := by
    intro p acc g hg
    simp only [List.length_cons] at hg
    obtain ⟨g, rfl⟩ : ∃ k, g = k + 1 := ⟨g - 1, by omega⟩
    conv => lhs; unfold sc
    rw [if_pos (by decide)]
    exact sc_fuel _ _ _ _ _ (by omega) (Nat.le_refl _)
  intro f
  induction f with
  | zero =>
    intro x p acc g hx hg _
    obtain rfl := List.eq_nil_of_length_eq_zero (Nat.le_zero.1 hx)
    exact base p acc g hg
  | succ f ih =>
    intro x p acc g hx hg h0
    cases x with
    | nil => exact base p acc g hg
    | cons c r =>
      have hg' := hg
      simp only [List.length_append, List.length_cons] at hx hg'
      obtain ⟨g, rfl⟩ : ∃ k, g = k + 1 := ⟨g - 1, by omega⟩
      have e0 : (c :: r) ++ 10 :: b = c :: (r ++ 10 :: b) := rfl
      rw [sc_cons f c r p acc] at h0 ⊢
      rw [e0, sc_cons g c (r ++ 10 :: b) p acc]
      by_cases hb : blank (c.toNat : Int) = true
      · rw [if_pos hb] at h0 ⊢
        rw [if_pos hb, ih r (p + 1) acc g (by omega) (by simp only [List.length_append, List.length_cons]; omega) h0]
        congr 1; simp only [List.length_cons]; omega
      · rw [if_neg hb] at h0 ⊢
        rw [if_neg hb]
        by_cases hc : (c.toNat : Int) = 35
        · rw [if_pos hc] at h0 ⊢
          have hk := spanN_noNl_pos c r hc
          have hl := spanN_le noNl (c :: r)
          have e1 : spanN noNl (c :: (r ++ 10 :: b)) = spanN noNl (c :: r) := spanN_app noNl 10 b (by decide) (c :: r)
          have e2 : (c :: (r ++ 10 :: b)).drop (spanN noNl (c :: r)) = (c :: r).drop (spanN noNl (c :: r)) ++ 10 :: b := List.drop_append_of_le_length (l₁ := c :: r) hl
          have hl' := hl
          simp only [List.length_cons] at hl'
          rw [if_pos hc, e1, e2, ih _ _ _ g (by rw [List.length_drop, List.length_cons]; omega) (by rw [List.length_append, List.length_drop, List.length_cons, List.length_cons]; omega) h0]
          congr 1; rw [List.length_drop]; omega
        · rw [if_neg hc] at h0 ⊢
          rw [if_neg hc]
          have e1 : tk (c :: (r ++ 10 :: b)) = tk (c :: r) := tk_app c 10 r b sep10
          by_cases he : (tk (c :: r)).1 ≠ 0
          · rw [if_pos he] at h0; exact absurd h0 he
          · rw [if_neg he] at h0
            obtain ⟨hp, hl⟩ := tk_len (c :: r) (by simpa using he)
            have e2 : (c :: (r ++ 10 :: b)).drop (tk (c :: r)).2.2.1 = (c :: r).drop (tk (c :: r)).2.2.1 ++ 10 :: b := List.drop_append_of_le_length (l₁ := c :: r) hl
            have e3 : (c :: (r ++ 10 :: b)).take (tk (c :: r)).2.2.1 = (c :: r).take (tk (c :: r)).2.2.1 := List.take_append_of_le_length (l₁ := c :: r) hl
            have hl' := hl
            simp only [List.length_cons] at hl'
            rw [e1, if_neg he, e2, e3, if_neg he, ih _ _ _ g (by rw [List.length_drop, List.length_cons]; omega) (by rw [List.length_append, List.length_drop, List.length_cons, List.length_cons]; omega) h0]
            congr 1; rw [List.length_drop]; omega

theorem tk_cons (c : UInt8) (r : List UInt8) : tk (c :: r) = if ltr (c.toNat : Int) then (if 16 < spanN wrd (c :: r) then (2, 0, 0, 0) else (0, 1, spanN wrd (c :: r), 0))
    else if dig (c.toNat : Int) then (if 9999 < numV ((c :: r).take (spanN dig (c :: r))) then (4, 0, 0, 0) else (0, 2, spanN dig (c :: r), numV ((c :: r).take (spanN dig (c :: r)))))
    else if 0 < sgnN (c :: r) then (0, 3, sgnN (c :: r), 0) else (3, 0, 0, 0) := rfl

theorem sgnN_head (c : UInt8) (r : List UInt8) (h : 0 < sgnN (c :: r)) : sgn1 (c.toNat : Int) = true ∨ c = 38 ∨ c = 124 := by
  have e : sgnN (c :: r) = if [[61, 61], [33, 61], [60, 61], [38, 38], [124, 124]].contains ((c :: r).take 2) then 2 else if sgn1 (c.toNat : Int) then 1 else 0 := rfl
  by_cases h2 : [[61, 61], [33, 61], [60, 61], [38, 38], [124, 124]].contains ((c :: r).take 2) = true
  · have h3 : c = 61 ∨ c = 33 ∨ c = 60 ∨ c = 38 ∨ c = 124 := by
      cases r with
      | nil => simp at h2
      | cons d r =>
        simp at h2
        rcases h2 with h | h | h | h | h <;> simp [h.1]
    rcases h3 with rfl | rfl | rfl | rfl | rfl
    · exact .inl (by decide)
    · exact .inl (by decide)
    · exact .inl (by decide)
    · exact .inr (.inl rfl)
    · exact .inr (.inr rfl)
  · rw [if_neg h2] at e
    rcases h1 : sgn1 (c.toNat : Int) with _ | _
    · rw [h1] at e; rw [e] at h; exact absurd h (by decide)
    · exact .inl rfl

theorem tk_head (c : UInt8) (r : List UInt8) (h : (tk (c :: r)).1 = 0) : blank (c.toNat : Int) = false ∧ (c.toNat : Int) ≠ 35 := by
  have key : ltr (c.toNat : Int) = true ∨ dig (c.toNat : Int) = true ∨ 0 < sgnN (c :: r) := by
    rcases h1 : ltr (c.toNat : Int) with _ | _
    · rcases h2 : dig (c.toNat : Int) with _ | _
      · by_cases h3 : 0 < sgnN (c :: r)
        · exact .inr (.inr h3)
        · simp [tk, h1, h2, h3] at h
      · exact .inr (.inl rfl)
    · exact .inl rfl
  rcases key with h1 | h1 | h1
  · simp [ltr] at h1; simp [blank]; omega
  · simp [dig] at h1; simp [blank]; omega
  · rcases sgnN_head c r h1 with h1 | rfl | rfl
    · simp [sgn1] at h1; simp [blank]; omega
    · decide
    · decide

/-- The texts of tokens, a blank between each two. -/
def showL : List Tok → List UInt8
  | [] => []
  | t :: r => t.2.1 ++ r.flatMap fun u => 32 :: u.2.1

theorem good_cons {t : Tok} (h : Good t) : ∃ c r, t.2.1 = c :: r := by
  unfold Good at h
  cases hx : t.2.1 with
  | nil => rw [hx] at h; cases h
  | cons c r => exact ⟨c, r, rfl⟩

theorem sc_tok_app (t : Tok) (ht : Good t) (rest : List UInt8) (hr : rest = [] ∨ ∃ b, rest = 32 :: b) (f p : Nat) (acc : List Tok) :
    sc (f + 1) (t.2.1 ++ rest) p acc = sc f rest (p + t.2.1.length) (acc ++ [(t.1, t.2.1, t.2.2.1, p)]) := by
  obtain ⟨c, r, hx⟩ := good_cons ht
  have e : tk (c :: (r ++ rest)) = tk (c :: r) := by
    rcases hr with rfl | ⟨b, rfl⟩
    · rw [List.append_nil]
    · exact tk_app c 32 r b sep32
  unfold Good at ht
  rw [hx] at ht ⊢
  obtain ⟨h1, h2⟩ := tk_head c r (by rw [ht])
  show sc (f + 1) (c :: (r ++ rest)) p acc = _
  rw [sc_cons, if_neg (by rw [h1]; decide), if_neg h2, e, ht, if_neg (by simp)]
  have d1 : (c :: (r ++ rest)).drop (c :: r).length = rest := List.drop_left (l₁ := c :: r)
  have d2 : (c :: (r ++ rest)).take (c :: r).length = c :: r := List.take_left (l₁ := c :: r)
  simp only [d1, d2]

theorem sc_tail : ∀ (ts : List Tok), (∀ t ∈ ts, Good t) → ∀ (f p : Nat) (acc : List Tok), (ts.flatMap fun u => (32 : UInt8) :: u.2.1).length ≤ f →
    ∃ m, sc f (ts.flatMap fun u => (32 : UInt8) :: u.2.1) p acc = (acc ++ m, 0, 0) ∧ m.map strip = ts.map strip := by
  intro ts
  induction ts with
  | nil => intro _ f p acc _; exact ⟨[], by rw [List.append_nil]; exact sc_nil _ _ _, rfl⟩
  | cons t r ih =>
    intro hg f p acc hf
    obtain ⟨c, x, hx⟩ := good_cons (hg t (by simp))
    have e : ((t :: r).flatMap fun u => (32 : UInt8) :: u.2.1) = 32 :: (t.2.1 ++ r.flatMap fun u => (32 : UInt8) :: u.2.1) := by simp
    rw [e] at hf ⊢
    simp only [List.length_cons, List.length_append] at hf
    have hx' : 0 < t.2.1.length := by rw [hx]; simp
    obtain ⟨f, rfl⟩ : ∃ k, f = k + 1 + 1 := ⟨f - 2, by omega⟩
    rw [sc_cons, if_pos (by decide), sc_tok_app t (hg t (by simp)) _ ?_]
    · obtain ⟨m, e1, e2⟩ := ih (fun u hu => hg u (by simp [hu])) f (p + 1 + t.2.1.length) (acc ++ [(t.1, t.2.1, t.2.2.1, p + 1)]) (by omega)
      refine ⟨(t.1, t.2.1, t.2.2.1, p + 1) :: m, by rw [e1, List.append_assoc]; rfl, ?_⟩
      rw [List.map_cons, List.map_cons, e2]; rfl
    · cases r with
      | nil => exact .inl rfl
      | cons u r => exact .inr ⟨_, by rw [List.flatMap_cons]; rfl⟩

theorem sc_show (ts : List Tok) (hg : ∀ t ∈ ts, Good t) (f p : Nat) (acc : List Tok) (hf : (showL ts).length ≤ f) :
    ∃ m, sc f (showL ts) p acc = (acc ++ m, 0, 0) ∧ m.map strip = ts.map strip := by
  cases ts with
  | nil => exact ⟨[], by rw [List.append_nil]; exact sc_nil _ _ _, rfl⟩
  | cons t r =>
    obtain ⟨c, x, hx⟩ := good_cons (hg t (by simp))
    have hx' : 0 < t.2.1.length := by rw [hx]; simp
    have e : showL (t :: r) = t.2.1 ++ r.flatMap fun u => (32 : UInt8) :: u.2.1 := rfl
    rw [e] at hf ⊢
    rw [List.length_append] at hf
    obtain ⟨f, rfl⟩ : ∃ k, f = k + 1 := ⟨f - 1, by omega⟩
    rw [sc_tok_app t (hg t (by simp)) _ ?_]
    · obtain ⟨m, e1, e2⟩ := sc_tail r (fun u hu => hg u (by simp [hu])) f (p + t.2.1.length) (acc ++ [(t.1, t.2.1, t.2.2.1, p)]) (by omega)
      refine ⟨(t.1, t.2.1, t.2.2.1, p) :: m, by rw [e1, List.append_assoc]; rfl, ?_⟩
      rw [List.map_cons, List.map_cons, e2]; rfl
    · cases r with
      | nil => exact .inl rfl
      | cons u r => exact .inr ⟨_, by rw [List.flatMap_cons]; rfl⟩

def lenS (ts : List Tok) : Nat := (ts.map fun t => t.2.1.length + 1).sum

theorem lenS_app (a b : List Tok) : lenS (a ++ b) = lenS a + lenS b := by simp [lenS]

theorem length_le_lenS (ts : List Tok) : ts.length ≤ lenS ts := by
  induction ts with
  | nil => simp
  | cons t r ih => simp only [lenS, List.map_cons, List.sum_cons, List.length_cons] at *; omega

theorem showL_le (ts : List Tok) : (showL ts).length ≤ lenS ts := by
  have key : ∀ r : List Tok, (r.flatMap fun u => (32 : UInt8) :: u.2.1).length ≤ lenS r := by
    intro r
    induction r with
    | nil => simp
    | cons t r ih => simp only [lenS, List.map_cons, List.sum_cons, List.flatMap_cons, List.length_append, List.length_cons] at *; omega
  cases ts with
  | nil => simp [showL]
  | cons t r =>
    have := key r
    simp only [showL, lenS, List.map_cons, List.sum_cons, List.length_append] at *; omega

theorem sc_lenS : ∀ (f : Nat) (l : List UInt8) (p : Nat) (acc : List Tok), lenS (sc f l p acc).1 ≤ lenS acc + 2 * l.length := by
  intro f
  induction f with
  | zero => intro l p acc; simp [sc]
  | succ f ih =>
    intro l p acc
    cases l with
    | nil => simp [sc]
    | cons c r =>
      rw [sc_cons]
      by_cases hb : blank (c.toNat : Int) = true
      · rw [if_pos hb]; have := ih r (p + 1) acc; simp only [List.length_cons]; omega
      · rw [if_neg hb]
        by_cases hc : (c.toNat : Int) = 35
        · rw [if_pos hc]
          have := ih ((c :: r).drop (spanN noNl (c :: r))) (p + spanN noNl (c :: r)) acc
          rw [List.length_drop] at this; omega
        · rw [if_neg hc]
          by_cases he : (tk (c :: r)).1 ≠ 0
          · rw [if_pos he]; simp [lenS]
          · rw [if_neg he]
            have h1 := ih ((c :: r).drop (tk (c :: r)).2.2.1) (p + (tk (c :: r)).2.2.1) (acc ++ [((tk (c :: r)).2.1, (c :: r).take (tk (c :: r)).2.2.1, (tk (c :: r)).2.2.2, p)])
            obtain ⟨h2, h3⟩ := tk_len (c :: r) (by simpa using he)
            rw [lenS_app, List.length_drop] at h1
            have e : lenS [((tk (c :: r)).2.1, (c :: r).take (tk (c :: r)).2.2.1, (tk (c :: r)).2.2.2, p)] = (tk (c :: r)).2.2.1 + 1 := by
              simp only [lenS, List.map_cons, List.map_nil, List.sum_cons, List.sum_nil, List.length_take]; omega
            rw [e] at h1; omega

theorem scanL_lenS (l : List UInt8) : lenS (scanL l).1 ≤ 2 * l.length := by
  unfold scanL
  split
  · simp [lenS]
  · have := sc_lenS l.length l 0 []
    simp only [lenS, List.map_nil, List.sum_nil] at this ⊢; omega

/-- Where a token stands. -/
def Pl (L : List UInt8) (t : Tok) : Prop := t.2.2.2 + t.2.1.length ≤ L.length ∧ (L.drop t.2.2.2).take t.2.1.length = t.2.1

theorem sc_place (L : List UInt8) : ∀ (f p : Nat) (acc : List Tok), p ≤ L.length → (∀ t ∈ acc, Pl L t ∧ t.2.2.2 < p) → acc.Pairwise (fun a b => a.2.2.2 < b.2.2.2) →
    (∀ t ∈ (sc f (L.drop p) p acc).1, Pl L t) ∧ (sc f (L.drop p) p acc).1.Pairwise (fun a b => a.2.2.2 < b.2.2.2) ∧ (sc f (L.drop p) p acc).2.2 ≤ L.length ∧ ((sc f (L.drop p) p acc).2.1 ≠ 0 → (sc f (L.drop p) p acc).1 = []) := by
  intro f
  induction f with
  | zero => intro p acc _ h1 h2; exact ⟨fun t ht => (h1 t ht).1, h2, Nat.zero_le _, fun h => absurd rfl h⟩
  | succ f ih =>
    intro p acc hp h1 h2
    have hl : (L.drop p).length = L.length - p := List.length_drop
    cases hd : L.drop p with
    | nil => exact ⟨fun t ht => (h1 t ht).1, h2, Nat.zero_le _, fun h => absurd rfl h⟩
    | cons c r =>
      have hlt : p < L.length := by rw [hd, List.length_cons] at hl; omega
      have hr : r = L.drop (p + 1) := by rw [← List.drop_drop, hd]; rfl
      have hk : ∀ k, (c :: r).drop k = L.drop (p + k) := by intro k; rw [← hd, List.drop_drop]
      rw [sc_cons]
      by_cases hb : blank (c.toNat : Int) = true
      · rw [if_pos hb, hr]
        exact ih (p + 1) acc (by omega) (fun t ht => ⟨(h1 t ht).1, by have := (h1 t ht).2; omega⟩) h2
      · rw [if_neg hb]
        by_cases hc : (c.toNat : Int) = 35
        · rw [if_pos hc, hk]
          have hs := spanN_le noNl (c :: r)
          rw [← hd, hl] at hs
          rw [← hd]
          exact ih _ acc (by omega) (fun t ht => ⟨(h1 t ht).1, by have := (h1 t ht).2; omega⟩) h2
        · rw [if_neg hc]
          by_cases he : (tk (c :: r)).1 ≠ 0
          · rw [if_pos he]; exact ⟨fun t ht => by simp at ht, List.Pairwise.nil, hp, fun _ => rfl⟩
          · rw [if_neg he, hk]
            obtain ⟨h3, h4⟩ := tk_len (c :: r) (by simpa using he)
            rw [← hd] at h3 h4 ⊢
            rw [hl] at h4
            have hlen : ((L.drop p).take (tk (L.drop p)).2.2.1).length = (tk (L.drop p)).2.2.1 := by rw [List.length_take]; omega
            refine ih _ _ (by omega) ?_ ?_
            · intro t ht
              rw [List.mem_append, List.mem_singleton] at ht
              rcases ht with ht | rfl
              · exact ⟨(h1 t ht).1, by have := (h1 t ht).2; omega⟩
              · refine ⟨⟨?_, ?_⟩, by simp; omega⟩
                · show p + _ ≤ _
                  rw [hlen]; omega
                · show (L.drop p).take _ = _
                  rw [hlen]
            · rw [List.pairwise_append]
              refine ⟨h2, by simp, fun a ha b hb => ?_⟩
              rw [List.mem_singleton] at hb
              subst hb
              exact (h1 a ha).2

theorem scanL_place (L : List UInt8) (h : L.length ≤ 20000) : (∀ t ∈ (scanL L).1, Pl L t) ∧ (scanL L).1.Pairwise (fun a b => a.2.2.2 < b.2.2.2) ∧ (scanL L).2.2 ≤ L.length ∧ ((scanL L).2.1 ≠ 0 → (scanL L).1 = []) := by
  unfold scanL
  rw [if_neg (by omega)]
  have := sc_place L L.length 0 [] (Nat.zero_le _) (fun t ht => by simp at ht) List.Pairwise.nil
  rw [List.drop_zero] at this
  exact this

theorem scanL_small (l : List UInt8) (h : l.length ≤ 20000) : scanL l = sc l.length l 0 [] := by
  unfold scanL; rw [if_neg (by omega)]

theorem scanL_show (l : List UInt8) (h : l.length ≤ 3000) : ∃ m, scanL (showL (scanL l).1) = (m, 0, 0) ∧ m.map strip = (scanL l).1.map strip := by
  have h1 := scanL_lenS l
  have h2 := showL_le (scanL l).1
  obtain ⟨m, e1, e2⟩ := sc_show (scanL l).1 (scanL_good l) _ 0 [] (Nat.le_refl _)
  refine ⟨m, ?_, e2⟩
  rw [scanL_small _ (by omega), e1, List.nil_append]

theorem scanL_join (a b : List UInt8) (ha : a.length ≤ 1500) (hb : b.length ≤ 1500) (h0 : (scanL a).2.1 = 0) (h1 : (scanL b).2.1 = 0) :
    (scanL (a ++ 10 :: b)).2.1 = 0 ∧ (scanL (a ++ 10 :: b)).1.map strip = ((scanL a).1 ++ (scanL b).1).map strip := by
  have ea : scanL a = sc a.length a 0 [] := by unfold scanL; rw [if_neg (by omega)]
  have eb : scanL b = sc b.length b 0 [] := by unfold scanL; rw [if_neg (by omega)]
  have ec : scanL (a ++ 10 :: b) = sc (a ++ 10 :: b).length (a ++ 10 :: b) 0 [] := by unfold scanL; rw [if_neg (by rw [List.length_append, List.length_cons]; omega)]
  rw [ea] at h0
  rw [eb] at h1
  rw [ec, sc_app b a.length a 0 [] _ (Nat.le_refl _) (Nat.le_refl _) h0, ea, eb]
  obtain ⟨h2, h3⟩ := sc_alike b.length b 0 (0 + a.length + 1) [] (sc a.length a 0 []).1
  refine ⟨h2 ▸ h1, ?_⟩
  obtain ⟨m, m', e1, e2, e3⟩ := h3 h1
  rw [e1, e2, List.nil_append, List.map_append, List.map_append, e3]

/-- What is one word, of at most 16 bytes. -/
def namy (l : List UInt8) : Bool := headL l && (allW l && decide (l.length ≤ 16))

theorem spanN_full (l : List UInt8) : allW l = true ↔ spanN wrd l = l.length := by
  rw [← spanN_all, decide_eq_true_eq]
  constructor <;> intro h <;> omega

theorem scanL_namy (l : List UInt8) (h : namy l = true) : scanL l = ([(1, l, 0, 0)], 0, 0) := by
  unfold namy at h
  simp only [Bool.and_eq_true, decide_eq_true_eq] at h
  obtain ⟨h1, h2, h3⟩ := h
  rw [spanN_full] at h2
  cases l with
  | nil => cases h1
  | cons c r =>
    have h1' : ltr (c.toNat : Int) = true := h1
    have e : tk (c :: r) = (0, 1, (c :: r).length, 0) := by
      rw [tk_cons, if_pos h1', h2, if_neg (by omega)]
    obtain ⟨k1, k2⟩ := tk_head c r (by rw [e])
    unfold scanL
    rw [if_neg (by omega)]
    show sc (r.length + 1) (c :: r) 0 [] = _
    rw [sc_cons, if_neg (by rw [k1]; decide), if_neg k2, e, if_neg (by simp)]
    simp only [List.drop_length, List.take_length]
    exact sc_nil _ _ _

theorem namy_of (l : List UInt8) (n : Nat) (h : tk l = (0, 1, l.length, n)) : namy l = true := by
  cases l with
  | nil => cases h
  | cons c r =>
    rw [tk_cons] at h
    rcases h1 : ltr (c.toNat : Int) with _ | _
    · rw [h1] at h
      rcases h2 : dig (c.toNat : Int) with _ | _
      · rw [h2] at h
        by_cases h3 : 0 < sgnN (c :: r)
        · simp [if_pos h3] at h
        · simp [if_neg h3] at h
      · rw [h2] at h
        by_cases h3 : 9999 < numV ((c :: r).take (spanN dig (c :: r)))
        · simp [if_pos h3] at h
        · simp [if_neg h3] at h
    · rw [h1] at h
      by_cases h3 : 16 < spanN wrd (c :: r)
      · simp [if_pos h3] at h
      · rw [if_neg h3] at h
        simp only [if_true, Prod.mk.injEq, true_and] at h
        unfold namy
        rw [Bool.and_eq_true, Bool.and_eq_true, spanN_full]
        exact ⟨h1, h.1, by rw [decide_eq_true_eq]; omega⟩

theorem nameB_namy (s : ByteArray) : nameB s = (!kw s && namy s.data.toList) := by
  unfold nameB namy
  rw [Lib.size_eq]
  rcases h : headL s.data.toList with _ | _
  · simp
  · have : 0 < s.data.toList.length := by
      cases hs : s.data.toList with
      | nil => rw [hs] at h; cases h
      | cons c r => simp
    rcases kw s with _ | _
    · rcases allW s.data.toList with _ | _
      · simp
      · simp only [Bool.not_false, Bool.true_and, Bool.and_true, this, true_and]
    · simp

theorem kw_namy (s : ByteArray) (h : kw s = true) : namy s.data.toList = true := by
  rw [kw_mem] at h
  have : ∀ l ∈ wordsB, namy l = true := by decide +kernel
  exact this _ (by simpa using h)

theorem name_or (s : ByteArray) : (nameB s || kw s) = namy s.data.toList := by
  rw [nameB_namy]
  rcases h : kw s with _ | _
  · simp
  · rw [kw_namy s h]; rfl

end Go.Proofs.YtifbhlgingaahaaDoor
