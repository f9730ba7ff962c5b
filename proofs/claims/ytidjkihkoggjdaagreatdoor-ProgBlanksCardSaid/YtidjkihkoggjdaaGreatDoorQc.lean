/- Remarks and blanks ahead of a text and behind it change no token but its place. The readers depend on their tokens' places in nothing but places. Statements' readers depend on their tokens' places in nothing but places. The program's reader depends on its tokens' places in nothing but places. -/
import Derived.Test.YtidjkihkoggjdaaGreatDoorRa
import Derived.Test.YtidjkihkoggjdaaGreatDoorWb
import Derived.Test.YtidjkihkoggjdaaGreatDoorPs
namespace Go.Proofs.YtidjkihkoggjdaaGreatDoor
theorem sc_app_err (b : List UInt8) : ∀ (f : Nat) (x : List UInt8) (p : Nat) (acc : List Tok) (g : Nat), x.length ≤ f → (x ++ 10 :: b).length ≤ g → (sc f x p acc).2.1 ≠ 0 →
    sc g (x ++ 10 :: b) p acc = sc f x p acc := by
  intro f
  induction f with
  | zero => intro x p acc g hx hg h0; exact absurd rfl h0
  | succ f ih =>
    intro x p acc g hx hg h0
    cases x with
    | nil => exact absurd rfl h0
    | cons c r =>
      have hg' := hg
      simp only [List.length_append, List.length_cons] at hx hg'
      obtain ⟨g, rfl⟩ : ∃ k, g = k + 1 := ⟨g - 1, by omega⟩
      have e0 : (c :: r) ++ 10 :: b = c :: (r ++ 10 :: b) := rfl
      rw [sc_cons f c r p acc] at h0 ⊢
      rw [e0, sc_cons g c (r ++ 10 :: b) p acc]
      by_cases hb : blank (c.toNat : Int) = true
      · rw [if_pos hb] at h0 ⊢
        rw [if_pos hb]
        exact ih r (p + 1) acc g (by omega) (by simp only [List.length_append, List.length_cons]; omega) h0
      · rw [if_neg hb] at h0 ⊢
        rw [if_neg hb]
        by_cases hc : (c.toNat : Int) = 35
        · rw [if_pos hc] at h0 ⊢
          have hk := spanN_noNl_pos c r hc
          have hl := spanN_le noNl (c :: r)
          have e1 : spanN noNl (c :: (r ++ 10 :: b)) = spanN noNl (c :: r) := spanN_app noNl 10 b (by decide) (c :: r)
          have e2 : (c :: (r ++ 10 :: b)).drop (spanN noNl (c :: r)) = (c :: r).drop (spanN noNl (c :: r)) ++ 10 :: b := List.drop_append_of_le_length (l₁ := c :: r) hl
          have hl' := hl
          simp only [List.length_cons] at hl'
          rw [if_pos hc, e1, e2]
          exact ih _ _ _ g (by rw [List.length_drop, List.length_cons]; omega) (by rw [List.length_append, List.length_drop, List.length_cons, List.length_cons]; omega) h0
        · rw [if_neg hc] at h0 ⊢
          rw [if_neg hc]
          have e1 : tk (c :: (r ++ 10 :: b)) = tk (c :: r) := tk_app c 10 r b sep10
          by_cases he : (tk (c :: r)).1 ≠ 0
          · rw [e1, if_pos he, if_pos he]
          · rw [if_neg he] at h0
            obtain ⟨hp, hl⟩ := tk_len (c :: r) (by simpa using he)
            have e2 : (c :: (r ++ 10 :: b)).drop (tk (c :: r)).2.2.1 = (c :: r).drop (tk (c :: r)).2.2.1 ++ 10 :: b := List.drop_append_of_le_length (l₁ := c :: r) hl
            have e3 : (c :: (r ++ 10 :: b)).take (tk (c :: r)).2.2.1 = (c :: r).take (tk (c :: r)).2.2.1 := List.take_append_of_le_length (l₁ := c :: r) hl
            have hl' := hl
            simp only [List.length_cons] at hl'
            rw [e1, if_neg he, e2, e3, if_neg he]
            exact ih _ _ _ g (by rw [List.length_drop, List.length_cons]; omega) (by rw [List.length_append, List.length_drop, List.length_cons, List.length_cons]; omega) h0
theorem sc_err_nil : ∀ (f : Nat) (l : List UInt8) (p : Nat) (acc : List Tok), (sc f l p acc).2.1 ≠ 0 → (sc f l p acc).1 = [] := by
  intro f
  induction f with
  | zero => intro l p acc h; exact absurd rfl h
  | succ f ih =>
    intro l p acc h
    cases l with
    | nil => exact absurd rfl h
    | cons c r =>
      rw [sc_cons f c r p acc] at h ⊢
      by_cases hb : blank (c.toNat : Int) = true
      · rw [if_pos hb] at h ⊢; exact ih _ _ _ h
      · rw [if_neg hb] at h ⊢
        by_cases hc : (c.toNat : Int) = 35
        · rw [if_pos hc] at h ⊢; exact ih _ _ _ h
        · rw [if_neg hc] at h ⊢
          by_cases he : (tk (c :: r)).1 ≠ 0
          · rw [if_pos he]
          · rw [if_neg he] at h ⊢; exact ih _ _ _ h
def preL : List UInt8 := [32, 35, 32, 114, 101, 109, 97, 114, 107, 59, 32, 36, 10, 9]
def postL : List UInt8 := [35, 32, 101, 110, 100]
theorem sc_pre (x : List UInt8) (f : Nat) (acc : List Tok) : sc (f + 4) (preL ++ x) 0 acc = sc f x 14 acc := by
  show sc (f + 3 + 1) (32 :: (35 :: 32 :: 114 :: 101 :: 109 :: 97 :: 114 :: 107 :: 59 :: 32 :: 36 :: 10 :: 9 :: x)) 0 acc = _
  rw [sc_cons, if_pos (by decide)]
  show sc (f + 2 + 1) (35 :: (32 :: 114 :: 101 :: 109 :: 97 :: 114 :: 107 :: 59 :: 32 :: 36 :: 10 :: 9 :: x)) (0 + 1) acc = _
  have e : spanN noNl (35 :: (32 :: 114 :: 101 :: 109 :: 97 :: 114 :: 107 :: 59 :: 32 :: 36 :: 10 :: 9 :: x)) = 11 := rfl
  rw [sc_cons, if_neg (by decide), if_pos (by decide), e]
  show sc (f + 1 + 1) (10 :: (9 :: x)) (0 + 1 + 11) acc = _
  rw [sc_cons, if_pos (by decide)]
  rw [sc_cons, if_pos (by decide)]
theorem sc_post (p : Nat) (acc : List Tok) : sc postL.length postL p acc = (acc, 0, 0) := rfl
theorem scanL_blanks (l : List UInt8) (h : l.length ≤ 3000) : (scanL (preL ++ (l ++ 10 :: postL))).2.1 = (scanL l).2.1 ∧
    (scanL (preL ++ (l ++ 10 :: postL))).1.map strip = (scanL l).1.map strip := by
  have hlen : (preL ++ (l ++ 10 :: postL)).length = l.length + 16 + 4 := by
    simp only [List.length_append, List.length_cons, preL, postL, List.length_nil]; omega
  rw [scanL_small l (by omega), scanL_small _ (by omega), hlen, sc_pre]
  have hg : (l ++ 10 :: postL).length ≤ l.length + 16 := by
    simp only [List.length_append, List.length_cons, postL, List.length_nil]; omega
  obtain ⟨h1, h2⟩ := sc_alike l.length l 14 0 [] []
  by_cases h0 : (sc l.length l 14 []).2.1 = 0
  · rw [sc_app postL l.length l 14 [] _ (Nat.le_refl _) hg h0, sc_post]
    obtain ⟨m, m', e1, e2, e3⟩ := h2 h0
    refine ⟨h1 ▸ h0.symm, ?_⟩
    rw [e2]
    show (sc l.length l 14 []).1.map strip = _
    rw [e1, List.nil_append, List.nil_append, e3]
  · rw [sc_app_err postL l.length l 14 [] _ (Nat.le_refl _) hg h0]
    refine ⟨h1, ?_⟩
    rw [sc_err_nil _ _ _ _ h0, sc_err_nil _ _ _ _ (h1 ▸ h0)]
end Go.Proofs.YtidjkihkoggjdaaGreatDoor

namespace Go.Proofs.YtidjkihkoggjdaaGreatDoor
section
variable {l l' : List Tok} (hl : l.map strip = l'.map strip)
include hl
theorem st_len : l.length = l'.length := by
  have := congrArg List.length hl
  simpa using this
theorem st_tok (i : Nat) : strip (tokO l i) = strip (tokO l' i) := by
  have h1 : (l.map strip)[i]? = (l'.map strip)[i]? := by rw [hl]
  rw [List.getElem?_map, List.getElem?_map] at h1
  unfold tokO
  cases h2 : l[i]? with
  | none =>
    rw [h2] at h1
    cases h3 : l'[i]? with
    | none => rfl
    | some y => rw [h3] at h1; cases h1
  | some x =>
    rw [h2] at h1
    cases h3 : l'[i]? with
    | none => rw [h3] at h1; cases h1
    | some y => rw [h3] at h1; exact Option.some.inj h1
theorem st_kind (i : Nat) : (tokO l i).1 = (tokO l' i).1 := congrArg (·.1) (st_tok hl i)
theorem st_text (i : Nat) : (tokO l i).2.1 = (tokO l' i).2.1 := congrArg (·.2.1) (st_tok hl i)
theorem st_val (i : Nat) : (tokO l i).2.2.1 = (tokO l' i).2.2.1 := congrArg (·.2.2) (st_tok hl i)
theorem st_sg (i : Nat) (x : List UInt8) : sgAt l i x = sgAt l' i x := by unfold sgAt; rw [st_kind hl, st_text hl]
theorem st_nm (i : Nat) : nmAt l i = nmAt l' i := by unfold nmAt; rw [st_kind hl, st_text hl]
theorem st_nu (i : Nat) : nuAt l i = nuAt l' i := by unfold nuAt; rw [st_kind hl, st_val hl]
theorem st_txt (i : Nat) : txt l i = txt l' i := by unfold txt; rw [st_text hl]
theorem st_ref (i : Nat) : (refK l i).1 = (refK l' i).1 := by
  unfold refK
  rw [st_len hl]
  by_cases h : i < l'.length
  · rw [if_pos h, if_pos h]
  · rw [if_neg h, if_neg h]
theorem st_which (i : Nat) : ∀ ops : List Nat, which l i ops = which l' i ops := by
  intro ops
  induction ops with
  | nil => rfl
  | cons o ops ih => unfold which; rw [st_sg hl, ih]
end
inductive RA : Option Res → Option Res → Prop
  | n : RA none none
  | e (k a a' : Nat) : RA (some (.err k a)) (some (.err k a'))
  | o (e e' : Ex) (j : Nat) (h : e.er = e'.er) : RA (some (.ok e j)) (some (.ok e' j))
inductive CA : Cmd → Cmd → Prop
  | lv (n : Nat) : CA (.lv n) (.lv n)
  | more (n : Nat) (e e' : Ex) (h : e.er = e'.er) : CA (.more n e) (.more n e')
theorem run_alike {l l' : List Tok} (hl : l.map strip = l'.map strip) : ∀ (f : Nat) (c c' : Cmd) (d i : Nat), CA c c' → RA (run l f c d i) (run l' f c' d i) := by
  have href : ∀ i, RA (some (refR l i)) (some (refR l' i)) := fun i => by unfold refR; rw [st_ref hl]; exact .e _ _ _
  intro f
  induction f with
  | zero => intro c c' d i _; simp only [run]; exact .n
  | succ f ih =>
    intro c c' d i hc
    cases hc with
    | lv n =>
      simp only [run]
      by_cases h5 : n = 5
      · rw [if_pos h5, if_pos h5, st_sg hl, st_sg hl]
        by_cases h1 : sgAt l' i [33] = true
        · rw [if_pos h1, if_pos h1]
          by_cases hd : d = 30
          · rw [if_pos hd, if_pos hd]; exact .e _ _ _
          · rw [if_neg hd, if_neg hd]
            have hh := ih _ _ (d + 1) (i + 1) (.lv 5)
            generalize run l f (.lv 5) (d + 1) (i + 1) = A at hh ⊢
            generalize run l' f (.lv 5) (d + 1) (i + 1) = A' at hh ⊢
            cases hh with
            | n => exact .n
            | e k a a' => exact .e _ _ _
            | o e e' j h => exact .o _ _ _ (by simp only [Ex.er, h]; rfl)
        · rw [if_neg h1, if_neg h1]
          by_cases h2 : sgAt l' i [40] = true
          · rw [if_pos h2, if_pos h2]
            by_cases hd : d = 30
            · rw [if_pos hd, if_pos hd]; exact .e _ _ _
            · rw [if_neg hd, if_neg hd]
              have hh := ih _ _ (d + 1) (i + 1) (.lv 0)
              generalize run l f (.lv 0) (d + 1) (i + 1) = A at hh ⊢
              generalize run l' f (.lv 0) (d + 1) (i + 1) = A' at hh ⊢
              cases hh with
              | n => exact .n
              | e k a a' => exact .e _ _ _
              | o e e' j h =>
                simp only []
                rw [st_sg hl]
                by_cases h3 : sgAt l' j [41] = true
                · rw [if_pos h3, if_pos h3]; exact .o _ _ _ h
                · rw [if_neg h3, if_neg h3]; exact href j
          · rw [if_neg h2, if_neg h2, st_nm hl, st_nu hl]
            by_cases h3 : nmAt l' i = true
            · rw [if_pos h3, if_pos h3]
              unfold namedR
              rw [st_sg hl, st_nm hl]
              by_cases h4 : sgAt l' (i + 1) [46] = true
              · rw [if_pos h4, if_pos h4]
                by_cases h6 : nmAt l' (i + 2) = true
                · rw [if_pos h6, if_pos h6]
                  exact .o _ _ _ (by simp only [Ex.er, Nd.er, st_txt hl])
                · rw [if_neg h6, if_neg h6]; exact href _
              · rw [if_neg h4, if_neg h4]
                exact .o _ _ _ (by simp only [Ex.er, Nd.er, st_txt hl])
            · rw [if_neg h3, if_neg h3]
              by_cases h4 : nuAt l' i = true
              · rw [if_pos h4, if_pos h4]
                exact .o _ _ _ (by simp only [Ex.er, Nd.er, st_val hl])
              · rw [if_neg h4, if_neg h4]; exact href _
      · rw [if_neg h5, if_neg h5]
        have hh := ih _ _ d i (.lv (n + 1))
        generalize run l f (.lv (n + 1)) d i = A at hh ⊢
        generalize run l' f (.lv (n + 1)) d i = A' at hh ⊢
        cases hh with
        | n => exact .n
        | e k a a' => exact .e _ _ _
        | o e e' j h => exact ih _ _ d j (.more n e e' h)
    | more n e e' h =>
      simp only [run]
      rw [st_which hl]
      by_cases h0 : which l' i (opsOf n) = 0
      · rw [if_pos h0, if_pos h0]; exact .o _ _ _ h
      · rw [if_neg h0, if_neg h0]
        have hh := ih _ _ d (i + 1) (.lv (n + 1))
        generalize run l f (.lv (n + 1)) d (i + 1) = A at hh ⊢
        generalize run l' f (.lv (n + 1)) d (i + 1) = A' at hh ⊢
        cases hh with
        | n => exact .n
        | e k a a' => exact .e _ _ _
        | o y y' j h2 =>
          simp only []
          by_cases hn : n = 2
          · rw [if_pos hn, if_pos hn]; exact .o _ _ _ (by simp only [Ex.er, Nd.er, opN, h, h2])
          · rw [if_neg hn, if_neg hn]; exact ih _ _ d j (.more n _ _ (by simp only [Ex.er, Nd.er, opN, h, h2]))
end Go.Proofs.YtidjkihkoggjdaaGreatDoor

namespace Go.Proofs.YtidjkihkoggjdaaGreatDoor
inductive RB : Res → Res → Prop
  | e (k a a' : Nat) : RB (.err k a) (.err k a')
  | o (e e' : Ex) (j : Nat) (h : e.er = e'.er) : RB (.ok e j) (.ok e' j)
theorem er_size {e e' : Ex} (h : e.er = e'.er) : e.size = e'.size := by rw [← Ex.er_size e, ← Ex.er_size e', h]
theorem er_depth {e e' : Ex} (h : e.er = e'.er) : e.depth = e'.depth := by rw [← Ex.er_depth e, ← Ex.er_depth e', h]
theorem er_flat {e e' : Ex} (h : e.er = e'.er) : e.flat.map Nd.er = e'.flat.map Nd.er := by rw [← Ex.er_flat e, ← Ex.er_flat e', h]
theorem parse_alike {l l' : List Tok} (hl : l.map strip = l'.map strip) (i : Nat) : RB (parseR l i) (parseR l' i) := by
  unfold parseR
  rw [st_len hl]
  have hh := run_alike hl (7 * l'.length + 6) _ _ 0 i (.lv 0)
  generalize run l (7 * l'.length + 6) (.lv 0) 0 i = A at hh ⊢
  generalize run l' (7 * l'.length + 6) (.lv 0) 0 i = A' at hh ⊢
  cases hh with
  | n => exact .e _ _ _
  | e k a a' => exact .e _ _ _
  | o e e' j h =>
    show RB (finR l i (.ok e j)) (finR l' i (.ok e' j))
    rw [finR_ok, finR_ok, er_depth h, er_size h]
    by_cases h1 : 30 < e'.depth
    · rw [if_pos h1, if_pos h1]; exact .e _ _ _
    · rw [if_neg h1, if_neg h1]
      by_cases h2 : 200 < e'.size
      · rw [if_pos h2, if_pos h2]; exact .e _ _ _
      · rw [if_neg h2, if_neg h2]; exact .o _ _ _ h
theorem st_kindL {l l' : List Tok} (hl : l.map strip = l'.map strip) (i : Nat) : kindL l i = kindL l' i := by
  unfold kindL; rw [st_len hl, st_kind hl, st_text hl]
theorem st_else {l l' : List Tok} (hl : l.map strip = l'.map strip) (i : Nat) : elseAt l i = elseAt l' i := by
  unfold elseAt; rw [st_kind hl, st_text hl]
inductive FA : FRes → FRes → Prop
  | e (k a a' : Nat) : FA (.err k a) (.err k a')
  | o (x x' : St) (j : Nat) (h : x.er = x'.er) : FA (.ok x j) (.ok x' j)
theorem St.ext' {x y : St} (h : x.er = y.er) : x.kind = y.kind ∧ x.reg = y.reg ∧ x.loc = y.loc ∧ x.e.map Nd.er = y.e.map Nd.er ∧ x.f.map Nd.er = y.f.map Nd.er ∧ x.ne = y.ne ∧ x.body = y.body ∧ x.els = y.els := by
  obtain ⟨a1, a2, a3, a4, a5, a6, a7, a8, a9⟩ := x
  obtain ⟨b1, b2, b3, b4, b5, b6, b7, b8, b9⟩ := y
  simp only [St.er, St.mk.injEq] at h
  obtain ⟨h1, h2, h3, h4, h5, h6, h7, h8, _⟩ := h
  exact ⟨h1, h2, h3, h4, h5, h6, h7, h8⟩
theorem fld_alike {l l' : List Tok} (hl : l.map strip = l'.map strip) (hP : ∀ i, RB (plainR l i) (plainR l' i)) : ∀ (cs : List UInt8) (i : Nat) (x x' : St), x.er = x'.er → FA (fld l cs i x) (fld l' cs i x') := by
  have href : ∀ i, FA (.err (refK l i).1 (refK l i).2) (.err (refK l' i).1 (refK l' i).2) := fun i => by rw [st_ref hl]; exact .e _ _ _
  intro cs
  induction cs with
  | nil => intro i x x' h; simp only [fld]; exact .o _ _ _ h
  | cons c cs ih =>
    intro i x x' h
    obtain ⟨g1, g2, g3, g4, g5, g6, g7, g8⟩ := St.ext' h
    simp only [fld]
    by_cases h1 : c = 114
    · rw [if_pos h1, if_pos h1, st_nm hl]
      by_cases h2 : nmAt l' i = true
      · rw [if_pos h2, if_pos h2]
        exact ih _ _ _ (by simp only [St.er, g1, g3, g4, g5, g6, g7, g8, st_txt hl])
      · rw [if_neg h2, if_neg h2]; exact href _
    rw [if_neg h1, if_neg h1]
    by_cases h1 : c = 108
    · rw [if_pos h1, if_pos h1, st_nm hl]
      by_cases h2 : nmAt l' i = true
      · rw [if_pos h2, if_pos h2]
        exact ih _ _ _ (by simp only [St.er, g1, g2, g4, g5, g6, g7, g8, st_txt hl])
      · rw [if_neg h2, if_neg h2]; exact href _
    rw [if_neg h1, if_neg h1]
    by_cases h1 : c = 101
    · rw [if_pos h1, if_pos h1]
      have hh := hP i
      generalize plainR l i = A at hh ⊢
      generalize plainR l' i = A' at hh ⊢
      cases hh with
      | e k a a' => exact .e _ _ _
      | o e e' j hE => exact ih _ _ _ (by simp only [St.er, g1, g2, g3, g5, g6, g7, g8, er_flat hE])
    rw [if_neg h1, if_neg h1]
    by_cases h1 : c = 102
    · rw [if_pos h1, if_pos h1]
      have hh := hP i
      generalize plainR l i = A at hh ⊢
      generalize plainR l' i = A' at hh ⊢
      cases hh with
      | e k a a' => exact .e _ _ _
      | o e e' j hE => exact ih _ _ _ (by simp only [St.er, g1, g2, g3, g4, g6, g7, g8, er_flat hE])
    rw [if_neg h1, if_neg h1]
    by_cases h1 : c = 113
    · rw [if_pos h1, if_pos h1, st_sg hl, st_sg hl]
      by_cases h2 : sgAt l' i [33, 61] = true
      · rw [if_pos h2, if_pos h2]
        exact ih _ _ _ (by simp only [St.er, g1, g2, g3, g4, g5, g7, g8])
      · rw [if_neg h2, if_neg h2]
        by_cases h3 : sgAt l' i [61, 61] = true
        · rw [if_pos h3, if_pos h3]
          exact ih _ _ _ (by simp only [St.er, g1, g2, g3, g4, g5, g7, g8])
        · rw [if_neg h3, if_neg h3]; exact href _
    rw [if_neg h1, if_neg h1, st_sg hl]
    by_cases h2 : sgAt l' i [c] = true
    · rw [if_pos h2, if_pos h2]; exact ih _ _ _ h
    · rw [if_neg h2, if_neg h2]; exact href _
inductive SB : Option SRes → Option SRes → Prop
  | n : SB none none
  | e (k a a' : Nat) : SB (some (.err k a)) (some (.err k a'))
  | o (x x' : List St) (j : Nat) (h : x.map St.er = x'.map St.er) : SB (some (.ok x j)) (some (.ok x' j))
theorem brc_alike {l l' : List Tok} (hl : l.map strip = l'.map strip) {L L' : Nat → Nat → Option SRes} (hL : ∀ a b, SB (L a b) (L' a b)) (inn i : Nat) : SB (brc L l inn i) (brc L' l' inn i) := by
  have href : ∀ i, SB (some (.err (refK l i).1 (refK l i).2)) (some (.err (refK l' i).1 (refK l' i).2)) := fun i => by rw [st_ref hl]; exact .e _ _ _
  unfold brc
  rw [st_sg hl]
  by_cases h1 : sgAt l' i [123] = true
  · rw [if_pos h1, if_pos h1]
    by_cases h2 : 30 ≤ inn
    · rw [if_pos h2, if_pos h2]; exact .e _ _ _
    · rw [if_neg h2, if_neg h2]
      have hh := hL (inn + 1) (i + 1)
      generalize L (inn + 1) (i + 1) = A at hh ⊢
      generalize L' (inn + 1) (i + 1) = A' at hh ⊢
      cases hh with
      | n => exact .n
      | e k a a' => exact .e _ _ _
      | o x x' j h =>
        simp only []
        rw [st_sg hl]
        by_cases h3 : sgAt l' j [125] = true
        · rw [if_pos h3, if_pos h3]; exact .o _ _ _ h
        · rw [if_neg h3, if_neg h3]; exact href _
  · rw [if_neg h1, if_neg h1]; exact href _
theorem lst_alike {l l' : List Tok} (hl : l.map strip = l'.map strip) (hP : ∀ i, RB (plainR l i) (plainR l' i)) : ∀ (f inn i : Nat), SB (lst l f inn i) (lst l' f inn i) := by
  intro f
  induction f with
  | zero => intro inn i; simp only [lst]; exact .n
  | succ f ih =>
    intro inn i
    simp only [lst]
    rw [st_len hl, st_sg hl, st_kindL hl]
    by_cases h0 : i < l'.length ∧ sgAt l' i [125] = false
    · rw [if_pos h0, if_pos h0]
      by_cases h1 : kindL l' i = 0
      · rw [if_pos h1, if_pos h1]; exact .e _ _ _
      · rw [if_neg h1, if_neg h1]
        have hf := fld_alike hl hP (formL (kindL l' i)) (i + 1) (st0 (kindL l' i : Nat) (plc l i : Nat)) (st0 (kindL l' i : Nat) (plc l' i : Nat)) (by simp only [St.er, st0])
        generalize fld l (formL (kindL l' i)) (i + 1) (st0 (kindL l' i : Nat) (plc l i : Nat)) = A at hf ⊢
        generalize fld l' (formL (kindL l' i)) (i + 1) (st0 (kindL l' i : Nat) (plc l' i : Nat)) = A' at hf ⊢
        cases hf with
        | e k a a' => exact .e _ _ _
        | o x x' j hx =>
          simp only []
          have hb : SB (if blkB (kindL l' i) = true then brc (lst l f) l inn j else some (.ok [] j)) (if blkB (kindL l' i) = true then brc (lst l' f) l' inn j else some (.ok [] j)) := by
            by_cases h2 : blkB (kindL l' i) = true
            · rw [if_pos h2, if_pos h2]; exact brc_alike hl ih _ _
            · rw [if_neg h2, if_neg h2]; exact .o _ _ _ rfl
          generalize (if blkB (kindL l' i) = true then brc (lst l f) l inn j else some (.ok [] j)) = B at hb ⊢
          generalize (if blkB (kindL l' i) = true then brc (lst l' f) l' inn j else some (.ok [] j)) = B' at hb ⊢
          cases hb with
          | n => exact .n
          | e k a a' => exact .e _ _ _
          | o b b' j2 hb =>
            simp only []
            rw [st_else hl]
            have hc : SB (if kindL l' i = 10 ∧ elseAt l' j2 = true then brc (lst l f) l inn (j2 + 1) else some (.ok [] j2)) (if kindL l' i = 10 ∧ elseAt l' j2 = true then brc (lst l' f) l' inn (j2 + 1) else some (.ok [] j2)) := by
              by_cases h2 : kindL l' i = 10 ∧ elseAt l' j2 = true
              · rw [if_pos h2, if_pos h2]; exact brc_alike hl ih _ _
              · rw [if_neg h2, if_neg h2]; exact .o _ _ _ rfl
            generalize (if kindL l' i = 10 ∧ elseAt l' j2 = true then brc (lst l f) l inn (j2 + 1) else some (.ok [] j2)) = C at hc ⊢
            generalize (if kindL l' i = 10 ∧ elseAt l' j2 = true then brc (lst l' f) l' inn (j2 + 1) else some (.ok [] j2)) = C' at hc ⊢
            cases hc with
            | n => exact .n
            | e k a a' => exact .e _ _ _
            | o o o' j3 hc =>
              simp only []
              have hd := ih inn j3
              generalize lst l f inn j3 = D at hd ⊢
              generalize lst l' f inn j3 = D' at hd ⊢
              cases hd with
              | n => exact .n
              | e k a a' => exact .e _ _ _
              | o r r' j4 hd =>
                refine .o _ _ _ ?_
                have l1 : b.length = b'.length := by simpa using congrArg List.length hb
                have l2 : o.length = o'.length := by simpa using congrArg List.length hc
                obtain ⟨g1, g2, g3, g4, g5, g6, g7, g8⟩ := St.ext' hx
                simp only [List.map_cons, List.map_append, hb, hc, hd, l1, l2]
                congr 1
                simp only [St.er, g1, g2, g3, g4, g5, g6]
    · rw [if_neg h0, if_neg h0]; exact .o _ _ _ rfl
inductive SC : SRes → SRes → Prop
  | e (k a a' : Nat) : SC (.err k a) (.err k a')
  | o (x x' : List St) (j : Nat) (h : x.map St.er = x'.map St.er) : SC (.ok x j) (.ok x' j)
theorem stmt_alike {l l' : List Tok} (hl : l.map strip = l'.map strip) (hP : ∀ i, RB (plainR l i) (plainR l' i)) (i : Int) : SC (stmtR l i) (stmtR l' i) := by
  unfold stmtR
  rw [st_len hl]
  by_cases h0 : i < 0 ∨ (l'.length : Int) < i
  · rw [if_pos h0, if_pos h0]; exact .e _ _ _
  · rw [if_neg h0, if_neg h0]
    have hh := lst_alike hl hP (l'.length + 1) 0 i.toNat
    generalize lst l (l'.length + 1) 0 i.toNat = A at hh ⊢
    generalize lst l' (l'.length + 1) 0 i.toNat = A' at hh ⊢
    cases hh with
    | n => exact .e _ _ _
    | e k a a' => exact .e _ _ _
    | o x x' j h =>
      have e1 : x.length = x'.length := by simpa using congrArg List.length h
      show SC (finS l i.toNat (.ok x j)) (finS l' i.toNat (.ok x' j))
      simp only [finS]
      rw [e1]
      by_cases h1 : 200 < x'.length
      · rw [if_pos h1, if_pos h1]; exact .e _ _ _
      · rw [if_neg h1, if_neg h1]; exact .o _ _ _ h
end Go.Proofs.YtidjkihkoggjdaaGreatDoor

namespace Go.Proofs.YtidjkihkoggjdaaGreatDoor
theorem names_er (xs ys : List Nd) (h : xs.map Nd.er = ys.map Nd.er) (g : Nd → Bool) (hg : ∀ x, g x = g x.er) : xs.all g = ys.all g := by
  have e : ∀ zs : List Nd, zs.all g = (zs.map Nd.er).all g := by
    intro zs
    induction zs with
    | nil => rfl
    | cons z zs ih => simp only [List.map_cons, List.all_cons, ih, ← hg]
  rw [e xs, e ys, h]
def Vr.er (x : Vr) : Vr := { x with pl := 0 }
def Th.er (x : Th) : Th := { x with body := x.body.map St.er, pl := 0 }
def Cl.er (x : Cl) : Cl := { x with e := x.e.map Nd.er, pl := 0 }
def Pg.er (g : Pg) : Pg := ⟨g.mod, g.locs.map Vr.er, g.ths.map Th.er, g.cls.map Cl.er⟩
def QA (q q' : Pq) : Prop := q.n = q'.n ∧ q.k = q'.k
theorem fail_alike {q q' : Pq} (h : QA q q') (L k a a' : Nat) : QA (failP L q k a) (failP L q' k a') := by
  unfold failP
  rw [h.2]
  by_cases h0 : q'.k = 0
  · rw [if_pos h0, if_pos h0]; exact ⟨rfl, rfl⟩
  · rw [if_neg h0, if_neg h0]; exact ⟨rfl, rfl⟩
theorem clm_er (x y : Nd) (h : x.er = y.er) : (clm x).er = (clm y).er := by
  obtain ⟨a1, a2, a3, a4, a5⟩ := x
  obtain ⟨b1, b2, b3, b4, b5⟩ := y
  simp only [Nd.er, Nd.mk.injEq] at h
  obtain ⟨rfl, rfl, rfl, rfl, _⟩ := h
  unfold clm
  by_cases h2 : a1 = 2
  · rw [if_pos h2, if_pos h2]; rfl
  · rw [if_neg h2, if_neg h2]; rfl
theorem clm_map : ∀ xs ys : List Nd, xs.map Nd.er = ys.map Nd.er → (xs.map clm).map Nd.er = (ys.map clm).map Nd.er := by
  intro xs
  induction xs with
  | nil => intro ys h; cases ys with
    | nil => rfl
    | cons y ys => cases h
  | cons x xs ih =>
    intro ys h
    cases ys with
    | nil => cases h
    | cons y ys =>
      simp only [List.map_cons, List.cons.injEq] at h ⊢
      exact ⟨clm_er x y h.1, ih ys h.2⟩
theorem regs_er (e e' : Ex) (h : e.er = e'.er) : regsB e.flat = regsB e'.flat := by
  unfold regsB namesL
  rw [List.all_filter, List.all_filter]
  exact names_er _ _ (er_flat h) _ (fun x => rfl)
section
variable {l l' : List Tok} (hl : l.map strip = l'.map strip)
include hl
theorem ref_alike {q q' : Pq} (h : QA q q') : QA (refP l q) (refP l' q') := by
  unfold refP
  rw [st_len hl, h.1, st_ref hl]
  exact fail_alike h _ _ _ _
theorem st_tx (n : Nat) (s : List UInt8) : txB l n s = txB l' n s := by unfold txB; rw [st_text hl]
theorem gex_alike {q q' : Pq} (h : QA q q') (s : List UInt8) : QA (gexP l q s) (gexP l' q' s) := by
  unfold gexP
  rw [h.1, st_tx hl]
  by_cases h0 : txB l' q'.n s = true
  · rw [if_pos h0, if_pos h0]; exact ⟨rfl, h.2⟩
  · rw [if_neg h0, if_neg h0]; exact ref_alike hl h
theorem gnm_alike {q q' : Pq} (h : QA q q') : (gnmP l q).1 = (gnmP l' q').1 ∧ QA (gnmP l q).2 (gnmP l' q').2 := by
  unfold gnmP
  rw [h.1, st_txt hl]
  by_cases h0 : nameB (txt l' q'.n) = true
  · rw [if_pos h0, if_pos h0]; exact ⟨rfl, rfl, h.2⟩
  · rw [if_neg h0, if_neg h0]; exact ⟨rfl, ref_alike hl h⟩
theorem gnu_alike {q q' : Pq} (h : QA q q') : (gnuP l q).1 = (gnuP l' q').1 ∧ QA (gnuP l q).2 (gnuP l' q').2 := by
  unfold gnuP
  rw [h.1, st_kind hl, st_val hl]
  by_cases h0 : (tokO l' q'.n).1 = 2
  · rw [if_pos h0, if_pos h0]; exact ⟨rfl, rfl, h.2⟩
  · rw [if_neg h0, if_neg h0]; exact ⟨rfl, ref_alike hl h⟩
theorem gres_alike {q q' : Pq} (h : QA q q') (j k a a' : Nat) : QA (gresP l q j k a) (gresP l' q' j k a') := by
  unfold gresP
  by_cases h0 : k = 0
  · rw [if_pos h0, if_pos h0]; exact ⟨rfl, h.2⟩
  · rw [if_neg h0, if_neg h0, st_len hl]; exact fail_alike h _ _ _ _
theorem gexr_alike {q q' : Pq} (h : QA q q') : (gexrP l q).1.map Nd.er = (gexrP l' q').1.map Nd.er ∧ QA (gexrP l q).2 (gexrP l' q').2 := by
  unfold gexrP
  rw [h.1]
  have hh := parse_alike hl q'.n
  generalize parseR l q'.n = A at hh ⊢
  generalize parseR l' q'.n = A' at hh ⊢
  cases hh with
  | e k a a' => exact ⟨rfl, gres_alike hl h _ _ _ _⟩
  | o e e' j hE => exact ⟨clm_map _ _ (er_flat hE), gres_alike hl h j 0 0 0⟩
theorem plain_alike (i : Nat) : RB (plainR l i) (plainR l' i) := by
  unfold plainR
  have hh := parse_alike hl i
  generalize parseR l i = A at hh ⊢
  generalize parseR l' i = A' at hh ⊢
  cases hh with
  | e k a a' => exact .e _ _ _
  | o e e' j hE =>
    simp only []
    rw [regs_er e e' hE]
    by_cases h0 : regsB e'.flat = true
    · rw [if_pos h0, if_pos h0]; exact .o _ _ _ hE
    · rw [if_neg h0, if_neg h0]; exact .e _ _ _
theorem gst_alike {q q' : Pq} (h : QA q q') : (gstP l q).1.map St.er = (gstP l' q').1.map St.er ∧ QA (gstP l q).2 (gstP l' q').2 := by
  unfold gstP
  rw [h.1]
  have hh := stmt_alike hl (plain_alike hl) q'.n
  generalize stmtR l q'.n = A at hh ⊢
  generalize stmtR l' q'.n = A' at hh ⊢
  cases hh with
  | e k a a' => exact ⟨rfl, gres_alike hl h _ _ _ _⟩
  | o x x' j hE => exact ⟨hE, gres_alike hl h j 0 0 0⟩
theorem seq_alike {α : Type} (R : α → α → Prop) (bg : List UInt8 → Bool) (s s' : Nat → Pq → α → Pq × α)
    (hs : ∀ i q q' a a', QA q q' → R a a' → QA (s i q a).1 (s' i q' a').1 ∧ R (s i q a).2 (s' i q' a').2) : ∀ (f : Nat) (q q' : Pq) (a a' : α), QA q q' → R a a' →
    QA (seqP l bg s f q a).1 (seqP l' bg s' f q' a').1 ∧ R (seqP l bg s f q a).2 (seqP l' bg s' f q' a').2 := by
  intro f
  induction f with
  | zero => intro q q' a a' h1 h2; exact ⟨h1, h2⟩
  | succ f ih =>
    intro q q' a a' h1 h2
    simp only [seqP]
    rw [h1.1, st_text hl]
    by_cases h0 : bg (tokO l' q'.n).2.1 = true
    · rw [if_pos h0, if_pos h0]
      obtain ⟨g1, g2⟩ := hs q'.n ⟨q'.n + 1, q.k, q.a⟩ ⟨q'.n + 1, q'.k, q'.a⟩ a a' ⟨rfl, h1.2⟩ h2
      exact ih _ _ _ _ g1 g2
    · rw [if_neg h0, if_neg h0]; exact ⟨h1, h2⟩
theorem gloc_alike {q q' : Pq} (h : QA q q') (pl pl' : Int) : (glocP l q pl).1.er = (glocP l' q' pl').1.er ∧ QA (glocP l q pl).2 (glocP l' q' pl').2 := by
  obtain ⟨a1, a2⟩ := gnm_alike hl h
  have b2 := gex_alike hl a2 [61]
  obtain ⟨c1, c2⟩ := gnu_alike hl b2
  have d2 := gex_alike hl c2 [59]
  unfold glocP
  exact ⟨by simp only [Vr.er, a1, c1], d2⟩
theorem greg_alike {q q' : Pq} (h : QA q q') : (gregP l q).1 = (gregP l' q').1 ∧ QA (gregP l q).2 (gregP l' q').2 := by
  unfold gregP
  rw [h.1, st_tx hl]
  by_cases h0 : txB l' q'.n [114, 101, 103] = true
  · rw [if_pos h0, if_pos h0]
    obtain ⟨a1, a2⟩ := gnm_alike hl (q := ⟨q'.n + 1, q.k, q.a⟩) (q' := ⟨q'.n + 1, q'.k, q'.a⟩) ⟨rfl, h.2⟩
    obtain ⟨b1, b2⟩ := seq_alike hl (· = ·) comB (gregS l) (gregS l') (fun i q q' a a' hq ha => by
      obtain ⟨c1, c2⟩ := gnm_alike hl hq
      exact ⟨c2, by simp only [gregS, c1, ha]⟩) (l.length + 1) _ _ [(gnmP l ⟨q'.n + 1, q.k, q.a⟩).1] [(gnmP l' ⟨q'.n + 1, q'.k, q'.a⟩).1] a2 (by rw [a1])
    rw [st_len hl] at b1 b2 ⊢
    exact ⟨b2, gex_alike hl b1 _⟩
  · rw [if_neg h0, if_neg h0]; exact ⟨rfl, h⟩
theorem gcl_alike {q q' : Pq} (h : QA q q') (kd pl pl' : Int) : (gclP l q kd pl).1.er = (gclP l' q' kd pl').1.er ∧ QA (gclP l q kd pl).2 (gclP l' q' kd pl').2 := by
  obtain ⟨a1, a2⟩ := gexr_alike hl h
  unfold gclP
  exact ⟨by simp only [Cl.er, a1], gex_alike hl a2 _⟩
theorem gth_alike {q q' : Pq} (h : QA q q') (pl pl' : Int) : (gthP l q pl).1.er = (gthP l' q' pl').1.er ∧ QA (gthP l q pl).2 (gthP l' q' pl').2 := by
  obtain ⟨a1, a2⟩ := gnm_alike hl h
  have b2 := gex_alike hl a2 [123]
  obtain ⟨c1, c2⟩ := greg_alike hl b2
  obtain ⟨d1, d2⟩ := gst_alike hl c2
  unfold gthP
  exact ⟨by simp only [Th.er, a1, c1, d1], gex_alike hl d2 _⟩
theorem gpr_alike {q q' : Pq} (h : QA q q') : (gprP l q).1.er = (gprP l' q').1.er ∧ QA (gprP l q).2 (gprP l' q').2 := by
  have a2 := gex_alike hl h [109, 111, 100]
  obtain ⟨m1, m2⟩ := gnu_alike hl a2
  have m3 := gex_alike hl m2 [59]
  obtain ⟨A1, A2⟩ := seq_alike hl (fun g g' => g.er = g'.er) locB (gLocS l) (gLocS l') (fun i q q' a a' hq ha => by
    obtain ⟨c1, c2⟩ := gloc_alike hl hq (tokO l i).2.2.2 (tokO l' i).2.2.2
    refine ⟨c2, ?_⟩
    simp only [Pg.er, Pg.mk.injEq] at ha
    simp only [gLocS, Pg.er, List.map_append, List.map_cons, List.map_nil, c1, ha.1, ha.2.1, ha.2.2.1, ha.2.2.2]) (l.length + 1) _ _ ⟨(gnuP l (gexP l q [109, 111, 100])).1, [], [], []⟩ ⟨(gnuP l' (gexP l' q' [109, 111, 100])).1, [], [], []⟩ m3 (by rw [m1])
  obtain ⟨B1, B2⟩ := seq_alike hl (fun g g' => g.er = g'.er) thrB (gThS l) (gThS l') (fun i q q' a a' hq ha => by
    obtain ⟨c1, c2⟩ := gth_alike hl hq (tokO l i).2.2.2 (tokO l' i).2.2.2
    refine ⟨c2, ?_⟩
    simp only [Pg.er, Pg.mk.injEq] at ha
    simp only [gThS, Pg.er, List.map_append, List.map_cons, List.map_nil, c1, ha.1, ha.2.1, ha.2.2.1, ha.2.2.2]) (l.length + 1) _ _ _ _ A1 A2
  obtain ⟨C1, C2⟩ := seq_alike hl (fun g g' => g.er = g'.er) clB (gClS l) (gClS l') (fun i q q' a a' hq ha => by
    have hk : (kdW (tokO l i).2.1 : Int) = kdW (tokO l' i).2.1 := by rw [st_text hl]
    obtain ⟨c1, c2⟩ := gcl_alike hl hq (kdW (tokO l i).2.1) (tokO l i).2.2.2 (tokO l' i).2.2.2
    rw [hk] at c1 c2
    refine ⟨by simp only [gClS, hk]; exact c2, ?_⟩
    simp only [Pg.er, Pg.mk.injEq] at ha
    simp only [gClS, hk, Pg.er, List.map_append, List.map_cons, List.map_nil, c1, ha.1, ha.2.1, ha.2.2.1, ha.2.2.2]) (l.length + 1) _ _ _ _ B1 B2
  unfold gprP
  rw [st_len hl] at C1 C2 ⊢
  refine ⟨C2, ?_⟩
  simp only []
  rw [C1.1]
  split
  · exact ref_alike hl C1
  · exact C1
end
theorem parse_blanks (s : List UInt8) (h : s.length ≤ 3000) : (parseG s).2.1 = (parseG (preL ++ (s ++ 10 :: postL))).2.1 ∧ (parseG s).1.er = (parseG (preL ++ (s ++ 10 :: postL))).1.er := by
  obtain ⟨h1, h2⟩ := scanL_blanks s h
  obtain ⟨g1, g2⟩ := gpr_alike h2.symm (q := ⟨0, 0, 0⟩) (q' := ⟨0, 0, 0⟩) ⟨rfl, rfl⟩
  unfold parseG
  rw [h1, g2.2]
  by_cases h3 : (scanL s).2.1 ≠ 0
  · rw [if_pos h3, if_pos h3]; exact ⟨rfl, rfl⟩
  · rw [if_neg h3, if_neg h3]
    by_cases h4 : (gprP (scanL (preL ++ (s ++ 10 :: postL))).1 ⟨0, 0, 0⟩).2.k ≠ 0
    · rw [if_pos h4, if_pos h4]; exact ⟨rfl, rfl⟩
    · rw [if_neg h4, if_neg h4]; exact ⟨rfl, g1⟩
end Go.Proofs.YtidjkihkoggjdaaGreatDoor
