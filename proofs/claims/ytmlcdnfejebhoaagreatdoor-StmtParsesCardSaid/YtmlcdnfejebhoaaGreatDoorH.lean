/- What the reference's gap does; the plain scanner's steps, whatever their number. What the reference's one does: the token at a place. What the reference's one does at a sign, and at any token. What the reference's Scan does: the same tokens. Nodes as they lie in memory; what operands, kids, number and both End do. What both End do. What Light tells of nodes, and Same of nodes that are alike. -/
import Derived.Test.YtmlcdnfejebhoaaGreatDoorA
import Derived.Deep.QuietTactic
import Derived.BigQuiet
import Derived.IntWalk
namespace Go.Proofs.YtmlcdnfejebhoaaGreatDoor
open Go.RowKit
theorem spanN_noNl_pos (c : UInt8) (r : List UInt8) (h : (c.toNat : Int) = 35) : 0 < spanN noNl (c :: r) := by
  have : noNl (c.toNat : Int) = true := by rw [h]; decide
  simp [spanN, this]
theorem sc_fuel : ∀ (f g : Nat) (l : List UInt8) (p : Nat) (acc : List Tok), l.length ≤ f → l.length ≤ g → sc f l p acc = sc g l p acc := by
  intro f
  induction f with
  | zero =>
    intro g l p acc h _
    obtain rfl : l = [] := List.eq_nil_of_length_eq_zero (by omega)
    rw [sc_nil, sc_nil]
  | succ f ih =>
    intro g l p acc hf hg
    cases l with
    | nil => rw [sc_nil, sc_nil]
    | cons c r =>
      obtain ⟨g, rfl⟩ : ∃ k, g = k + 1 := ⟨g - 1, by simp only [List.length_cons] at hg; omega⟩
      simp only [List.length_cons] at hf hg
      unfold sc
      by_cases hb : blank (c.toNat : Int) = true
      · rw [if_pos hb, if_pos hb]; exact ih _ _ _ _ (by omega) (by omega)
      · rw [if_neg hb, if_neg hb]
        by_cases hc : (c.toNat : Int) = 35
        · rw [if_pos hc, if_pos hc]
          have := spanN_noNl_pos c r hc
          exact ih _ _ _ _ (by rw [List.length_drop, List.length_cons]; omega) (by rw [List.length_drop, List.length_cons]; omega)
        · rw [if_neg hc, if_neg hc]
          by_cases ht : (tk (c :: r)).1 ≠ 0
          · rw [if_pos ht, if_pos ht]
          · rw [if_neg ht, if_neg ht]
            have := tk_len (c :: r) (by simpa using ht)
            exact ih _ _ _ _ (by rw [List.length_drop, List.length_cons]; omega) (by rw [List.length_drop, List.length_cons]; omega)
def scX (s : ByteArray) (p : Nat) (acc : List Tok) : List Tok × Nat × Nat := sc (s.size - p) (s.data.toList.drop p) p acc
theorem drop_len (s : ByteArray) (p : Nat) : (s.data.toList.drop p).length = s.size - p := by rw [List.length_drop, ← Lib.size_eq]
theorem scX_of (s : ByteArray) (p f : Nat) (acc : List Tok) (h : s.size - p ≤ f) : sc f (s.data.toList.drop p) p acc = scX s p acc :=
  sc_fuel _ _ _ _ _ (by rw [drop_len]; exact h) (by rw [drop_len]; exact Nat.le_refl _)
theorem scX_end (s : ByteArray) (p : Nat) (acc : List Tok) (h : ¬ p < s.size) : scX s p acc = (acc, 0, 0) := sc_end s p p _ acc h
theorem scX_blank (s : ByteArray) (p : Nat) (acc : List Tok) (h : p < s.size) (hb : blank (s[p].toNat : Int) = true) : scX s p acc = scX s (p + 1) acc := by
  rw [← scX_of s p (s.size - (p + 1) + 1) acc (by omega), sc_blank s p _ acc h hb]; rfl
theorem scX_hash (s : ByteArray) (p : Nat) (acc : List Tok) (h : p < s.size) (hb : blank (s[p].toNat : Int) = false) (hc : (s[p].toNat : Int) = 35) :
    scX s p acc = scX s (p + spanN noNl (s.data.toList.drop p)) acc := by
  have h1 := spanN_yes noNl s p h (by rw [hc]; decide)
  rw [← scX_of s p (s.size - (p + 1) + 1) acc (by omega), sc_hash s p _ acc h hb hc, scX_of]
  omega
theorem scX_bad (s : ByteArray) (p : Nat) (acc : List Tok) (h : p < s.size) (hb : blank (s[p].toNat : Int) = false) (hc : (s[p].toNat : Int) ≠ 35) (ht : (tk (s.data.toList.drop p)).1 ≠ 0) :
    scX s p acc = ([], (tk (s.data.toList.drop p)).1, p) := by
  rw [← scX_of s p (s.size - (p + 1) + 1) acc (by omega), sc_bad s p _ acc h hb hc ht]
theorem scX_tok (s : ByteArray) (p : Nat) (acc : List Tok) (h : p < s.size) (hb : blank (s[p].toNat : Int) = false) (hc : (s[p].toNat : Int) ≠ 35) (ht : (tk (s.data.toList.drop p)).1 = 0) :
    scX s p acc = scX s (p + (tk (s.data.toList.drop p)).2.2.1) (acc ++ [((tk (s.data.toList.drop p)).2.1, (s.data.toList.drop p).take (tk (s.data.toList.drop p)).2.2.1, (tk (s.data.toList.drop p)).2.2.2, p)]) := by
  have h1 := tk_len _ ht
  rw [← scX_of s p (s.size - (p + 1) + 1) acc (by omega), sc_tok s p _ acc h hb hc ht, scX_of]
  omega
def GapTo (s : ByteArray) (p q : Nat) : Prop := p ≤ q ∧ q ≤ s.size ∧ (∀ acc, scX s p acc = scX s q acc) ∧ ∀ h : q < s.size, blank (s[q].toNat : Int) = false ∧ (s[q].toNat : Int) ≠ 35
def GapAns (s : ByteArray) (p : Nat) (w : World) (e : Ending) (w' : World) : Prop := ∃ q : Nat, e = .returned (.int .i64 q) ∧ GapTo s p q ∧ w = w'
def OnTo (s : ByteArray) (p q : Nat) : Prop := ∀ acc, scX s p acc = scX s q acc
set_option maxRecDepth 100000 in
set_option maxHeartbeats 2000000 in
theorem gap_any (s : ByteArray) (p : Nat) (w : World) (hp : p ≤ s.size) (hs : s.size ≤ 20000) :
    Calls Tryz.prog 83 #[.string s, .int .i64 p] w (GapAns s p w) := by
  go_enter Tryz.func83, Tryz.ntmps83
  go_wp2
  go_loopg [1] (s.size - p) (fun fuel at' wr => ∃ q : Nat, p ≤ q ∧ q ≤ s.size ∧ at' = .int .i64 q ∧ s.size - q ≤ fuel ∧ OnTo s p q ∧ w = wr)
  case atStart => exact ⟨p, Nat.le_refl _, hp, rfl, Nat.le_refl _, fun _ => rfl, rfl⟩
  case round =>
    obtain ⟨q, hpq, hqs, rfl, hf, hon, rfl⟩ := hrel
    by_cases hlt : q < s.size
    · rcases hb : blank (s[q].toNat : Int) with _ | _
      · have hb' := hb
        simp only [blank, decide_eq_false_iff_not, not_or] at hb'
        obtain ⟨b0, b1, b2, b3⟩ := hb'
        have q0 : ((s[q].toNat : Int) == 32) = false := (by simpa using b0)
        have q1 : ((s[q].toNat : Int) == 9) = false := (by simpa using b2)
        have q2 : ((s[q].toNat : Int) == 10) = false := (by simpa using b1)
        have q3 : ((s[q].toNat : Int) == 13) = false := (by simpa using b3)
        clear b0 b1 b2 b3
        by_cases h35 : (s[q].toNat : Int) = 35
        · have HS := Lib.hid (fun acc => scX_hash s q acc hlt hb h35)
          have H1 := Lib.hid (spanN_yes noNl s q hlt (by rw [h35]; decide))
          have q4 : ((s[q].toNat : Int) == 35) = true := (by simp [h35])
          clear hb h35
          obtain ⟨go, rfl⟩ : ∃ go : Nat, go = gk := ⟨_, rfl⟩
          go_wp2
          go_loopg [1] (s.size - q) (fun m at' w2 => ∃ r : Nat, q ≤ r ∧ r ≤ s.size ∧ at' = .int .i64 r ∧ s.size - r ≤ m ∧ spanN noNl (s.data.toList.drop q) = (r - q) + spanN noNl (s.data.toList.drop r) ∧ w = w2)
          case atStart => exact ⟨q, Nat.le_refl _, by omega, rfl, Nat.le_refl _, by omega, rfl⟩
          case round =>
            obtain ⟨r, hqr, hrs, rfl, hm, hsp, rfl⟩ := hrel
            have HSP := Lib.hid hsp; clear hsp
            by_cases hlr : r < s.size
            · by_cases h10 : (s[r].toNat : Int) = 10
              · have HN := Lib.hid (spanN_no noNl s r hlr (by rw [h10]; decide))
                have q5 : ((s[r].toNat : Int) != 10) = false := (by simp [h10])
                clear h10
                go_wp2
                go_roundg (s.size - r)
                case measure => have e := HSP.out; have e1 := HN.out; have e2 := H1.out; omega
                case rel =>
                  have e := HSP.out
                  have e1 := HN.out
                  have e3 : q + spanN noNl (s.data.toList.drop q) = r := by omega
                  exact ⟨r, by omega, by omega, rfl, by omega, fun acc => by rw [hon acc, HS.out acc, e3], rfl⟩
              · have HN := Lib.hid (spanN_yes noNl s r hlr (by simpa [noNl] using h10))
                have q5 : ((s[r].toNat : Int) != 10) = true := (by simpa using h10)
                clear h10
                go_wp2
                go_roundg (gk - 1)
                case measure => omega
                case rel =>
                  have e := HSP.out
                  have e1 := HN.out
                  exact ⟨r + 1, by omega, by omega, by go_num, by omega, by omega, rfl⟩
            · have HN := Lib.hid (spanN_end noNl s r hlr)
              go_wp2
              go_roundg (s.size - r)
              case measure => have e := HSP.out; have e1 := HN.out; have e2 := H1.out; omega
              case rel =>
                have e := HSP.out
                have e1 := HN.out
                have e3 : q + spanN noNl (s.data.toList.drop q) = r := by omega
                exact ⟨r, by omega, by omega, rfl, by omega, fun acc => by rw [hon acc, HS.out acc, e3], rfl⟩
        · have q4 : ((s[q].toNat : Int) == 35) = false := (by simpa using h35)
          have HG : Hid (GapTo s p q) := ⟨hpq, hqs, hon, fun _ => ⟨hb, h35⟩⟩
          clear hb h35 hon
          go_wp2
          try rw [Exit.noGoto_ret]
          go_ret
          exact ⟨q, rfl, HG.out, rfl⟩
      · have HS := Lib.hid (fun acc => scX_blank s q acc hlt hb)
        have hb' := hb
        simp only [blank, decide_eq_true_eq] at hb'
        clear hb
        have hb2 : (s[q].toNat : Int) = 32 ∨ (s[q].toNat : Int) = 9 ∨ (s[q].toNat : Int) = 10 ∨ (s[q].toNat : Int) = 13 := by omega
        clear hb'
        rcases hb2 with hq | hq | hq | hq
        · have q0 : ((s[q].toNat : Int) == 32) = true := (by simp [hq])
          clear hq
          go_wp2
          go_roundg (gk - 1)
          case measure => omega
          case rel => exact ⟨q + 1, by omega, by omega, by go_num, by omega, fun acc => by rw [hon acc, HS.out acc], rfl⟩
        · have q0 : ((s[q].toNat : Int) == 32) = false := (by simp [hq])
          have q1 : ((s[q].toNat : Int) == 9) = true := (by simp [hq])
          clear hq
          go_wp2
          go_roundg (gk - 1)
          case measure => omega
          case rel => exact ⟨q + 1, by omega, by omega, by go_num, by omega, fun acc => by rw [hon acc, HS.out acc], rfl⟩
        · have q0 : ((s[q].toNat : Int) == 32) = false := (by simp [hq])
          have q1 : ((s[q].toNat : Int) == 9) = false := (by simp [hq])
          have q2 : ((s[q].toNat : Int) == 10) = true := (by simp [hq])
          clear hq
          go_wp2
          go_roundg (gk - 1)
          case measure => omega
          case rel => exact ⟨q + 1, by omega, by omega, by go_num, by omega, fun acc => by rw [hon acc, HS.out acc], rfl⟩
        · have q0 : ((s[q].toNat : Int) == 32) = false := (by simp [hq])
          have q1 : ((s[q].toNat : Int) == 9) = false := (by simp [hq])
          have q2 : ((s[q].toNat : Int) == 10) = false := (by simp [hq])
          have q3 : ((s[q].toNat : Int) == 13) = true := (by simp [hq])
          clear hq
          go_wp2
          go_roundg (gk - 1)
          case measure => omega
          case rel => exact ⟨q + 1, by omega, by omega, by go_num, by omega, fun acc => by rw [hon acc, HS.out acc], rfl⟩
    · have HG : Hid (GapTo s p q) := ⟨hpq, hqs, hon, fun h => absurd h hlt⟩
      clear hon
      go_wp2
      try rw [Exit.noGoto_ret]
      go_ret
      exact ⟨q, rfl, HG.out, rfl⟩
end Go.Proofs.YtmlcdnfejebhoaaGreatDoor

namespace Go.Proofs.YtmlcdnfejebhoaaGreatDoor
open Go.RowKit
def OneBad (k : Nat) (w : World) (e : Ending) (w' : World) : Prop := e = .returned (.tuple #[.agg #[.int .i64 0, .string ⟨#[]⟩, .int .i64 0, .int .i64 0], .int .i64 k]) ∧ Below w.heap.size w w'
def OneGood (kind v p : Nat) (t : ByteArray) (w : World) (e : Ending) (w' : World) : Prop := e = .returned (.tuple #[.agg #[.int .i64 kind, .string t, .int .i64 v, .int .i64 p], .int .i64 0]) ∧ Below w.heap.size w w'
set_option maxRecDepth 100000 in
set_option maxHeartbeats 1000000 in
theorem one_word_big (s : ByteArray) (p : Nat) (w : World) (hp : p < s.size) (hs : s.size ≤ 20000) (h1 : ltr (s[p].toNat : Int) = true) (h2 : 16 < spanN wrd (s.data.toList.drop p)) :
    Calls Tryz.prog 84 #[.string s, .int .i64 p] w (OneBad 2 w) := by
  have hpos := spanN_yes wrd s p hp (by simp [wrd, h1])
  obtain ⟨n, hn⟩ : ∃ n, n = spanN wrd (s.data.toList.drop p) := ⟨_, rfl⟩
  have hn1 : 0 < n := by omega
  clear hpos
  rw [← hn] at h2 
  have HN := Lib.hid hn; clear hn
  have H1 := Lib.hid h1; clear h1
  go_enter Tryz.func84, Tryz.ntmps84
  go_wp2
  go_loopg [6] (s.size - p) (fun fuel to' wr => ∃ q : Nat, p ≤ q ∧ q ≤ s.size ∧ to' = .int .i64 q ∧ s.size - q ≤ fuel ∧ spanN wrd (s.data.toList.drop p) = (q - p) + spanN wrd (s.data.toList.drop q) ∧ w.alloc (.cells #[.int .i64 0, .string ⟨#[]⟩, .int .i64 0, .int .i64 0] 35) = wr)
  case atStart => exact ⟨p, Nat.le_refl _, by omega, rfl, Nat.le_refl _, by omega, rfl⟩
  case round =>
    obtain ⟨q, hpq, hqs, rfl, hf, hsp, rfl⟩ := hrel
    have HSP := Lib.hid hsp; clear hsp
    by_cases hlt : q < s.size
    · have hc := s[q].toNat_lt
      have hw : wrd (s[q].toNat : Int) = (ltr (s[q].toNat : Int) || dig (s[q].toNat : Int)) := rfl
      rcases h3 : ltr (s[q].toNat : Int) with _ | _
      · have hpq' : p < q := by
          rcases Nat.lt_or_eq_of_le hpq with h | rfl
          · exact h
          · rw [H1.out] at h3; cases h3
        rcases h4 : dig (s[q].toNat : Int) with _ | _
        · have HE := Lib.hid (spanN_no wrd s q hlt (by rw [hw, h3, h4]; rfl))
          clear hw
          have hn2 : n = q - p := by have := HSP.out; have := HE.out; have := HN.out; omega
          have HQ : Hid (p + n = q) := by show _ = _; omega
          have h3' : p + 16 < q := by omega
          clear hn2
          go_wp2_with (first
            | (go_at_call 149; refine (rletter_any _ _).mono ?_; rintro e w2 ⟨rfl, rfl⟩)
            | (go_at_call 151; refine (rdigit_any _ _).mono ?_; rintro e w2 ⟨rfl, rfl⟩))
          exact bodyPost_ret (v := .tuple #[.agg #[.int .i64 0, .string ⟨#[]⟩, .int .i64 0, .int .i64 0], .int .i64 2]) (by simp [results, Tryz.results84, go_sem]) rfl ⟨rfl, (Below.refl _ _).alloc (Nat.le_refl _) _⟩
        · have HE := Lib.hid (spanN_yes wrd s q hlt (by rw [hw, h3, h4]; rfl))
          clear hw
          go_wp2_with (first
            | (go_at_call 149; refine (rletter_any _ _).mono ?_; rintro e w2 ⟨rfl, rfl⟩)
            | (go_at_call 151; refine (rdigit_any _ _).mono ?_; rintro e w2 ⟨rfl, rfl⟩))
          go_roundg (gk - 1)
          case measure => omega
          case rel => exact ⟨q + 1, by omega, by omega, by go_num, by omega, by have := HSP.out; have := HE.out; omega, rfl⟩
      · have HE := Lib.hid (spanN_yes wrd s q hlt (by rw [hw, h3]; rfl))
        clear hw
        go_wp2_with (first
          | (go_at_call 149; refine (rletter_any _ _).mono ?_; rintro e w2 ⟨rfl, rfl⟩)
          | (go_at_call 151; refine (rdigit_any _ _).mono ?_; rintro e w2 ⟨rfl, rfl⟩))
        go_roundg (gk - 1)
        case measure => omega
        case rel => exact ⟨q + 1, by omega, by omega, by go_num, by omega, by have := HSP.out; have := HE.out; omega, rfl⟩
    · have HE := Lib.hid (spanN_end wrd s q hlt)
      have hn2 : n = q - p := by have := HSP.out; have := HE.out; have := HN.out; omega
      have HQ : Hid (p + n = q) := by show _ = _; omega
      have h3' : p + 16 < q := by omega
      clear hn2
      go_wp2_with (first
        | (go_at_call 149; refine (rletter_any _ _).mono ?_; rintro e w2 ⟨rfl, rfl⟩)
        | (go_at_call 151; refine (rdigit_any _ _).mono ?_; rintro e w2 ⟨rfl, rfl⟩))
      exact bodyPost_ret (v := .tuple #[.agg #[.int .i64 0, .string ⟨#[]⟩, .int .i64 0, .int .i64 0], .int .i64 2]) (by simp [results, Tryz.results84, go_sem]) rfl ⟨rfl, (Below.refl _ _).alloc (Nat.le_refl _) _⟩
set_option maxRecDepth 100000 in
set_option maxHeartbeats 1000000 in
theorem one_word_ok (s : ByteArray) (p : Nat) (w : World) (hp : p < s.size) (hs : s.size ≤ 20000) (h1 : ltr (s[p].toNat : Int) = true) (h2 : spanN wrd (s.data.toList.drop p) ≤ 16) :
    Calls Tryz.prog 84 #[.string s, .int .i64 p] w (OneGood 1 0 p (s.extract p (p + spanN wrd (s.data.toList.drop p))) w) := by
  have hpos := spanN_yes wrd s p hp (by simp [wrd, h1])
  obtain ⟨n, hn⟩ : ∃ n, n = spanN wrd (s.data.toList.drop p) := ⟨_, rfl⟩
  have hn1 : 0 < n := by omega
  clear hpos
  rw [← hn] at h2 ⊢
  have HN := Lib.hid hn; clear hn
  have H1 := Lib.hid h1; clear h1
  go_enter Tryz.func84, Tryz.ntmps84
  go_wp2
  go_loopg [6] (s.size - p) (fun fuel to' wr => ∃ q : Nat, p ≤ q ∧ q ≤ s.size ∧ to' = .int .i64 q ∧ s.size - q ≤ fuel ∧ spanN wrd (s.data.toList.drop p) = (q - p) + spanN wrd (s.data.toList.drop q) ∧ w.alloc (.cells #[.int .i64 0, .string ⟨#[]⟩, .int .i64 0, .int .i64 0] 35) = wr)
  case atStart => exact ⟨p, Nat.le_refl _, by omega, rfl, Nat.le_refl _, by omega, rfl⟩
  case round =>
    obtain ⟨q, hpq, hqs, rfl, hf, hsp, rfl⟩ := hrel
    have HSP := Lib.hid hsp; clear hsp
    by_cases hlt : q < s.size
    · have hc := s[q].toNat_lt
      have hw : wrd (s[q].toNat : Int) = (ltr (s[q].toNat : Int) || dig (s[q].toNat : Int)) := rfl
      rcases h3 : ltr (s[q].toNat : Int) with _ | _
      · have hpq' : p < q := by
          rcases Nat.lt_or_eq_of_le hpq with h | rfl
          · exact h
          · rw [H1.out] at h3; cases h3
        rcases h4 : dig (s[q].toNat : Int) with _ | _
        · have HE := Lib.hid (spanN_no wrd s q hlt (by rw [hw, h3, h4]; rfl))
          clear hw
          have hn2 : n = q - p := by have := HSP.out; have := HE.out; have := HN.out; omega
          have HQ : Hid (p + n = q) := by show _ = _; omega
          have h3' : q ≤ p + 16 := by omega
          clear hn2
          go_wp2_with (first
            | (go_at_call 149; refine (rletter_any _ _).mono ?_; rintro e w2 ⟨rfl, rfl⟩)
            | (go_at_call 151; refine (rdigit_any _ _).mono ?_; rintro e w2 ⟨rfl, rfl⟩))
          exact bodyPost_ret (v := .tuple #[.agg #[.int .i64 1, .string (s.extract p q), .int .i64 0, .int .i64 p], .int .i64 0]) (by simp [results, Tryz.results84, go_sem]) rfl ⟨by rw [HQ.out]; rfl, (Below.refl _ _).alloc (Nat.le_refl _) _⟩
        · have HE := Lib.hid (spanN_yes wrd s q hlt (by rw [hw, h3, h4]; rfl))
          clear hw
          go_wp2_with (first
            | (go_at_call 149; refine (rletter_any _ _).mono ?_; rintro e w2 ⟨rfl, rfl⟩)
            | (go_at_call 151; refine (rdigit_any _ _).mono ?_; rintro e w2 ⟨rfl, rfl⟩))
          go_roundg (gk - 1)
          case measure => omega
          case rel => exact ⟨q + 1, by omega, by omega, by go_num, by omega, by have := HSP.out; have := HE.out; omega, rfl⟩
      · have HE := Lib.hid (spanN_yes wrd s q hlt (by rw [hw, h3]; rfl))
        clear hw
        go_wp2_with (first
          | (go_at_call 149; refine (rletter_any _ _).mono ?_; rintro e w2 ⟨rfl, rfl⟩)
          | (go_at_call 151; refine (rdigit_any _ _).mono ?_; rintro e w2 ⟨rfl, rfl⟩))
        go_roundg (gk - 1)
        case measure => omega
        case rel => exact ⟨q + 1, by omega, by omega, by go_num, by omega, by have := HSP.out; have := HE.out; omega, rfl⟩
    · have HE := Lib.hid (spanN_end wrd s q hlt)
      have hn2 : n = q - p := by have := HSP.out; have := HE.out; have := HN.out; omega
      have HQ : Hid (p + n = q) := by show _ = _; omega
      have h3' : q ≤ p + 16 := by omega
      clear hn2
      go_wp2_with (first
        | (go_at_call 149; refine (rletter_any _ _).mono ?_; rintro e w2 ⟨rfl, rfl⟩)
        | (go_at_call 151; refine (rdigit_any _ _).mono ?_; rintro e w2 ⟨rfl, rfl⟩))
      exact bodyPost_ret (v := .tuple #[.agg #[.int .i64 1, .string (s.extract p q), .int .i64 0, .int .i64 p], .int .i64 0]) (by simp [results, Tryz.results84, go_sem]) rfl ⟨by rw [HQ.out]; rfl, (Below.refl _ _).alloc (Nat.le_refl _) _⟩
theorem numV_at (s : ByteArray) (p q : Nat) (hpq : p ≤ q) (h : q < s.size) : numV ((s.data.toList.drop p).take (q + 1 - p)) = 10 * numV ((s.data.toList.drop p).take (q - p)) + (s[q].toNat - 48) := by
  have hl : q - p < (s.data.toList.drop p).length := by rw [drop_len]; omega
  have e : q + 1 - p = q - p + 1 := by omega
  rw [e, List.take_succ_eq_append_getElem hl]
  unfold numV
  rw [List.foldl_append]
  have : (s.data.toList.drop p)[q - p] = s[q] := by
    rw [List.getElem_drop]
    have e2 : p + (q - p) = q := by omega
    simp only [e2]; rfl
  rw [this]; rfl
set_option maxRecDepth 100000 in
set_option maxHeartbeats 1000000 in
theorem one_digit_big (s : ByteArray) (p : Nat) (w : World) (hp : p < s.size) (hs : s.size ≤ 20000) (h0 : ltr (s[p].toNat : Int) = false) (h1 : dig (s[p].toNat : Int) = true) (h2 : 9999 < numV ((s.data.toList.drop p).take (spanN dig (s.data.toList.drop p)))) :
    Calls Tryz.prog 84 #[.string s, .int .i64 p] w (OneBad 4 w) := by
  have HP : Hid (0 < spanN dig (s.data.toList.drop p)) := by
    have := spanN_yes dig s p hp h1
    show 0 < _; omega
  have hc := s[p].toNat_lt
  have H2 := Lib.hid h2; clear h2
  go_enter Tryz.func84, Tryz.ntmps84
  go_wp2
  go_loopg [6] 0 (fun fuel to' wr => to' = .int .i64 p ∧ w.alloc (.cells #[.int .i64 0, .string ⟨#[]⟩, .int .i64 0, .int .i64 0] 35) = wr)
  case atStart => exact ⟨rfl, rfl⟩
  case round =>
    obtain ⟨rfl, rfl⟩ := hrel
    go_wp2_with (first
      | (go_at_call 149; refine (rletter_any _ _).mono ?_; rintro e w2 ⟨rfl, rfl⟩)
      | (go_at_call 151; refine (rdigit_any _ _).mono ?_; rintro e w2 ⟨rfl, rfl⟩))
    go_loopg [6, 7] (s.size - p) (fun fuel to' n' wr => ∃ q m : Nat, p ≤ q ∧ q ≤ s.size ∧ to' = .int .i64 q ∧ n' = .int .i64 m ∧ m = min (numV ((s.data.toList.drop p).take (q - p))) 10000 ∧ s.size - q ≤ fuel ∧ spanN dig (s.data.toList.drop p) = (q - p) + spanN dig (s.data.toList.drop q) ∧ w.alloc (.cells #[.int .i64 0, .string ⟨#[]⟩, .int .i64 0, .int .i64 0] 35) = wr)
    case atStart => exact ⟨p, 0, Nat.le_refl _, by omega, rfl, rfl, by simp [numV], Nat.le_refl _, by omega, rfl⟩
    case round =>
      obtain ⟨q, m, hpq, hqs, rfl, rfl, hm, hf, hsp, rfl⟩ := hrel
      have HSP := Lib.hid hsp; clear hsp
      by_cases hlt : q < s.size
      · have hc2 := s[q].toNat_lt
        rcases h4 : dig (s[q].toNat : Int) with _ | _
        · have HE := Lib.hid (spanN_no dig s q hlt h4)
          have h2 := H2.out; clear H2
          have hn2 : spanN dig (s.data.toList.drop p) = q - p := by have := HSP.out; have := HE.out; omega
          have HQ : Hid (p + spanN dig (s.data.toList.drop p) = q) := by show _ = _; omega
          have hpq2 : p < q := by have := HP.out; omega
          rw [← hn2] at hm
          have HM : Hid (m = min (numV ((s.data.toList.drop p).take (spanN dig (s.data.toList.drop p)))) 10000) := hm
          have hm4 : 9999 < m := by omega
          have HV : Hid (m ≤ 9999 → m = numV ((s.data.toList.drop p).take (spanN dig (s.data.toList.drop p)))) := fun h => by have := HM.out; omega
          clear hn2 hm h2
          go_wp2_with (first
            | (go_at_call 149; refine (rletter_any _ _).mono ?_; rintro e w2 ⟨rfl, rfl⟩)
            | (go_at_call 151; refine (rdigit_any _ _).mono ?_; rintro e w2 ⟨rfl, rfl⟩))
          exact bodyPost_ret (v := .tuple #[.agg #[.int .i64 0, .string ⟨#[]⟩, .int .i64 0, .int .i64 0], .int .i64 4]) (by simp [results, Tryz.results84, go_sem]) rfl ⟨rfl, (Below.refl _ _).alloc (Nat.le_refl _) _⟩
        · have HE := Lib.hid (spanN_yes dig s q hlt h4)
          have hd : 48 ≤ s[q].toNat ∧ s[q].toNat ≤ 57 := by simp [dig] at h4; omega
          have HM : Hid (min (10 * m + (s[q].toNat - 48)) 10000 = min (numV ((s.data.toList.drop p).take (q + 1 - p))) 10000) := by
            show _ = _
            rw [numV_at s p q hpq hlt, hm]; omega
          have hm3 : m ≤ 10000 := by omega
          clear hm
          go_wp2_with (first
            | (go_at_call 149; refine (rletter_any _ _).mono ?_; rintro e w2 ⟨rfl, rfl⟩)
            | (go_at_call 151; refine (rdigit_any _ _).mono ?_; rintro e w2 ⟨rfl, rfl⟩))
          all_goals
            go_roundg (gk - 1)
            case measure => omega
            case rel =>
              refine ⟨q + 1, min (10 * m + (s[q].toNat - 48)) 10000, by omega, by omega, by go_num, ?_, HM.out, by omega, by have := HSP.out; have := HE.out; omega, rfl⟩
              congr 1; omega
      · have HE := Lib.hid (spanN_end dig s q hlt)
        have h2 := H2.out; clear H2
        have hn2 : spanN dig (s.data.toList.drop p) = q - p := by have := HSP.out; have := HE.out; omega
        have HQ : Hid (p + spanN dig (s.data.toList.drop p) = q) := by show _ = _; omega
        have hpq2 : p < q := by have := HP.out; omega
        rw [← hn2] at hm
        have HM : Hid (m = min (numV ((s.data.toList.drop p).take (spanN dig (s.data.toList.drop p)))) 10000) := hm
        have hm4 : 9999 < m := by omega
        have HV : Hid (m ≤ 9999 → m = numV ((s.data.toList.drop p).take (spanN dig (s.data.toList.drop p)))) := fun h => by have := HM.out; omega
        clear hn2 hm h2
        go_wp2_with (first
          | (go_at_call 149; refine (rletter_any _ _).mono ?_; rintro e w2 ⟨rfl, rfl⟩)
          | (go_at_call 151; refine (rdigit_any _ _).mono ?_; rintro e w2 ⟨rfl, rfl⟩))
        exact bodyPost_ret (v := .tuple #[.agg #[.int .i64 0, .string ⟨#[]⟩, .int .i64 0, .int .i64 0], .int .i64 4]) (by simp [results, Tryz.results84, go_sem]) rfl ⟨rfl, (Below.refl _ _).alloc (Nat.le_refl _) _⟩
set_option maxRecDepth 100000 in
set_option maxHeartbeats 1000000 in
theorem one_digit_ok (s : ByteArray) (p : Nat) (w : World) (hp : p < s.size) (hs : s.size ≤ 20000) (h0 : ltr (s[p].toNat : Int) = false) (h1 : dig (s[p].toNat : Int) = true) (h2 : numV ((s.data.toList.drop p).take (spanN dig (s.data.toList.drop p))) ≤ 9999) :
    Calls Tryz.prog 84 #[.string s, .int .i64 p] w (OneGood 2 (numV ((s.data.toList.drop p).take (spanN dig (s.data.toList.drop p)))) p (s.extract p (p + spanN dig (s.data.toList.drop p))) w) := by
  have HP : Hid (0 < spanN dig (s.data.toList.drop p)) := by
    have := spanN_yes dig s p hp h1
    show 0 < _; omega
  have hc := s[p].toNat_lt
  have H2 := Lib.hid h2; clear h2
  go_enter Tryz.func84, Tryz.ntmps84
  go_wp2
  go_loopg [6] 0 (fun fuel to' wr => to' = .int .i64 p ∧ w.alloc (.cells #[.int .i64 0, .string ⟨#[]⟩, .int .i64 0, .int .i64 0] 35) = wr)
  case atStart => exact ⟨rfl, rfl⟩
  case round =>
    obtain ⟨rfl, rfl⟩ := hrel
    go_wp2_with (first
      | (go_at_call 149; refine (rletter_any _ _).mono ?_; rintro e w2 ⟨rfl, rfl⟩)
      | (go_at_call 151; refine (rdigit_any _ _).mono ?_; rintro e w2 ⟨rfl, rfl⟩))
    go_loopg [6, 7] (s.size - p) (fun fuel to' n' wr => ∃ q m : Nat, p ≤ q ∧ q ≤ s.size ∧ to' = .int .i64 q ∧ n' = .int .i64 m ∧ m = min (numV ((s.data.toList.drop p).take (q - p))) 10000 ∧ s.size - q ≤ fuel ∧ spanN dig (s.data.toList.drop p) = (q - p) + spanN dig (s.data.toList.drop q) ∧ w.alloc (.cells #[.int .i64 0, .string ⟨#[]⟩, .int .i64 0, .int .i64 0] 35) = wr)
    case atStart => exact ⟨p, 0, Nat.le_refl _, by omega, rfl, rfl, by simp [numV], Nat.le_refl _, by omega, rfl⟩
    case round =>
      obtain ⟨q, m, hpq, hqs, rfl, rfl, hm, hf, hsp, rfl⟩ := hrel
      have HSP := Lib.hid hsp; clear hsp
      by_cases hlt : q < s.size
      · have hc2 := s[q].toNat_lt
        rcases h4 : dig (s[q].toNat : Int) with _ | _
        · have HE := Lib.hid (spanN_no dig s q hlt h4)
          have h2 := H2.out; clear H2
          have hn2 : spanN dig (s.data.toList.drop p) = q - p := by have := HSP.out; have := HE.out; omega
          have HQ : Hid (p + spanN dig (s.data.toList.drop p) = q) := by show _ = _; omega
          have hpq2 : p < q := by have := HP.out; omega
          rw [← hn2] at hm
          have HM : Hid (m = min (numV ((s.data.toList.drop p).take (spanN dig (s.data.toList.drop p)))) 10000) := hm
          have hm4 : m ≤ 9999 := by omega
          have HV : Hid (m ≤ 9999 → m = numV ((s.data.toList.drop p).take (spanN dig (s.data.toList.drop p)))) := fun h => by have := HM.out; omega
          clear hn2 hm h2
          go_wp2_with (first
            | (go_at_call 149; refine (rletter_any _ _).mono ?_; rintro e w2 ⟨rfl, rfl⟩)
            | (go_at_call 151; refine (rdigit_any _ _).mono ?_; rintro e w2 ⟨rfl, rfl⟩))
          exact bodyPost_ret (v := .tuple #[.agg #[.int .i64 2, .string (s.extract p q), .int .i64 m, .int .i64 p], .int .i64 0]) (by simp [results, Tryz.results84, go_sem]) rfl ⟨by rw [HQ.out, ← HV.out hm4]; rfl, (Below.refl _ _).alloc (Nat.le_refl _) _⟩
        · have HE := Lib.hid (spanN_yes dig s q hlt h4)
          have hd : 48 ≤ s[q].toNat ∧ s[q].toNat ≤ 57 := by simp [dig] at h4; omega
          have HM : Hid (min (10 * m + (s[q].toNat - 48)) 10000 = min (numV ((s.data.toList.drop p).take (q + 1 - p))) 10000) := by
            show _ = _
            rw [numV_at s p q hpq hlt, hm]; omega
          have hm3 : m ≤ 10000 := by omega
          clear hm
          go_wp2_with (first
            | (go_at_call 149; refine (rletter_any _ _).mono ?_; rintro e w2 ⟨rfl, rfl⟩)
            | (go_at_call 151; refine (rdigit_any _ _).mono ?_; rintro e w2 ⟨rfl, rfl⟩))
          all_goals
            go_roundg (gk - 1)
            case measure => omega
            case rel =>
              refine ⟨q + 1, min (10 * m + (s[q].toNat - 48)) 10000, by omega, by omega, by go_num, ?_, HM.out, by omega, by have := HSP.out; have := HE.out; omega, rfl⟩
              congr 1; omega
      · have HE := Lib.hid (spanN_end dig s q hlt)
        have h2 := H2.out; clear H2
        have hn2 : spanN dig (s.data.toList.drop p) = q - p := by have := HSP.out; have := HE.out; omega
        have HQ : Hid (p + spanN dig (s.data.toList.drop p) = q) := by show _ = _; omega
        have hpq2 : p < q := by have := HP.out; omega
        rw [← hn2] at hm
        have HM : Hid (m = min (numV ((s.data.toList.drop p).take (spanN dig (s.data.toList.drop p)))) 10000) := hm
        have hm4 : m ≤ 9999 := by omega
        have HV : Hid (m ≤ 9999 → m = numV ((s.data.toList.drop p).take (spanN dig (s.data.toList.drop p)))) := fun h => by have := HM.out; omega
        clear hn2 hm h2
        go_wp2_with (first
          | (go_at_call 149; refine (rletter_any _ _).mono ?_; rintro e w2 ⟨rfl, rfl⟩)
          | (go_at_call 151; refine (rdigit_any _ _).mono ?_; rintro e w2 ⟨rfl, rfl⟩))
        exact bodyPost_ret (v := .tuple #[.agg #[.int .i64 2, .string (s.extract p q), .int .i64 m, .int .i64 p], .int .i64 0]) (by simp [results, Tryz.results84, go_sem]) rfl ⟨by rw [HQ.out, ← HV.out hm4]; rfl, (Below.refl _ _).alloc (Nat.le_refl _) _⟩
end Go.Proofs.YtmlcdnfejebhoaaGreatDoor

namespace Go.Proofs.YtmlcdnfejebhoaaGreatDoor
open Go.RowKit
def sgnF : List (List UInt8) → List UInt8 → Nat
  | [], _ => 0
  | x :: L, l => if (l.take x.length == x) = true then x.length else sgnF L l
theorem sgnF_len (n : Nat) (l : List UInt8) (rest : List (List UInt8)) : ∀ L : List (List UInt8), (∀ x ∈ L, x.length = n) → sgnF (L ++ rest) l = if L.contains (l.take n) then n else sgnF rest l := by
  intro L
  induction L with
  | nil => intro _; simp
  | cons x L ih =>
    intro h
    have hx := h x (by simp)
    have ih' := ih fun y hy => h y (by simp [hy])
    show (if (l.take x.length == x) = true then x.length else sgnF (L ++ rest) l) = _
    rw [hx, ih', List.contains_cons]
    rcases hq : (l.take n == x) with _ | _
    · simp
    · simp
theorem ones_all : ∀ n : Fin 256, [[59], [44], [123], [125], [40], [41], [46], [61], [43], [45], [42], [33], [60]].contains [UInt8.ofFin n] = sgn1 (((UInt8.ofFin n).toNat : Nat) : Int) := by decide +kernel
theorem sgnF_eq (l : List UInt8) : sgnF signsB l = sgnN l := by
  have h : signsB = [[61, 61], [33, 61], [60, 61], [38, 38], [124, 124]] ++ ([[59], [44], [123], [125], [40], [41], [46], [61], [43], [45], [42], [33], [60]] ++ []) := rfl
  rw [h, sgnF_len 2 l _ _ (by decide), sgnF_len 1 l _ _ (by decide)]
  unfold sgnN
  congr 1
  cases l with
  | nil => rfl
  | cons c r =>
    have := ones_all c.toFin
    simp only [UInt8.ofFin_toFin] at this
    show (if List.contains _ [c] = true then 1 else 0) = _
    rw [this]
theorem sgnF_no (s : ByteArray) (p k : Nat) (x : ByteArray) (hd : signsB.drop k = x.toList :: signsB.drop (k + 1)) (hx0 : 0 < x.size) (h : ¬ p + x.size ≤ s.size ∨ ((s.extract p (p + x.size)).toList == x.toList) = false) :
    sgnF (signsB.drop k) (s.data.toList.drop p) = sgnF (signsB.drop (k + 1)) (s.data.toList.drop p) := by
  rw [hd, sgnF]
  have hx : x.toList.length = x.size := by rw [Lib.toList_data, ← Lib.size_eq]
  rw [if_neg]
  rw [hx]
  rcases h with h | h
  · intro e
    have e' := congrArg List.length (eq_of_beq e)
    rw [hx, List.length_take, drop_len] at e'
    omega
  · rw [Lib.extract_toList, Nat.add_sub_cancel_left] at h
    rw [h]; decide
theorem sgnF_yes (s : ByteArray) (p k : Nat) (x : ByteArray) (hd : signsB.drop k = x.toList :: signsB.drop (k + 1)) (h : ((s.extract p (p + x.size)).toList == x.toList) = true) :
    sgnF (signsB.drop k) (s.data.toList.drop p) = x.size ∧ s.extract p (p + x.size) = x := by
  have hx : x.toList.length = x.size := by rw [Lib.toList_data, ← Lib.size_eq]
  constructor
  · rw [hd, sgnF, if_pos, hx]
    rw [Lib.extract_toList, Nat.add_sub_cancel_left] at h
    rw [hx]; exact h
  · have := eq_of_beq h
    rw [Lib.toList_data, Lib.toList_data, Lib.extract_data, Nat.add_sub_cancel_left] at this
    rw [Lib.extract_eq, Nat.add_sub_cancel_left, this]
theorem cellsS_get (l : List (List UInt8)) (k : Nat) (h : k < l.length) : (cellsS l)[k]? = some (.string ⟨(l[k]).toArray⟩) := by
  simp [cellsS, h]
theorem drewN_add (w : World) (a b : Nat) : w.drewN (a + b) = (w.drewN a).drewN b := by
  simp [World.drewN, Nat.add_assoc]
theorem below_set4 {w w' : World} {b : Nat} (h : Below b w w') (x0 x1 x2 x3 : Value) : Below b w ((((w'.setCell ⟨b, 0, none⟩ x0).setCell ⟨b, 1, none⟩ x1).setCell ⟨b, 2, none⟩ x2).setCell ⟨b, 3, none⟩ x3) :=
  (((h.setCell (p := ⟨b, 0, none⟩) (Nat.le_refl _) _).setCell (p := ⟨b, 1, none⟩) (Nat.le_refl _) _).setCell (p := ⟨b, 2, none⟩) (Nat.le_refl _) _).setCell (p := ⟨b, 3, none⟩) (Nat.le_refl _) _
def SgnAns (s : ByteArray) (p : Nat) (w : World) (e : Ending) (w' : World) : Prop :=
  (0 < sgnN (s.data.toList.drop p) ∧ OneGood 3 0 p (s.extract p (p + sgnN (s.data.toList.drop p))) w e w') ∨ (sgnN (s.data.toList.drop p) = 0 ∧ OneBad 3 w e w')
theorem signs_pos : ∀ k, (h : k < signsB.length) → 0 < (signsB[k]).length ∧ (signsB[k]).length ≤ 2 := by decide
set_option maxRecDepth 100000 in
set_option maxHeartbeats 2000000 in
theorem one_sign (s : ByteArray) (p : Nat) (w : World) (hp : p < s.size) (hs : s.size ≤ 20000) (h0 : ltr (s[p].toNat : Int) = false) (h1 : dig (s[p].toNat : Int) = false) :
    Calls Tryz.prog 84 #[.string s, .int .i64 p] w (SgnAns s p w) := by
  have hc := s[p].toNat_lt
  have HF := Lib.hid (sgnF_eq (s.data.toList.drop p))
  go_enter Tryz.func84, Tryz.ntmps84
  go_wp2
  go_loopg [6] 0 (fun fuel to' wr => to' = .int .i64 p ∧ (w.alloc (.cells #[.int .i64 0, .string ⟨#[]⟩, .int .i64 0, .int .i64 0] 35)) = wr)
  case atStart => exact ⟨rfl, rfl⟩
  case round =>
    obtain ⟨rfl, rfl⟩ := hrel
    go_wp2_with (first
      | (go_at_call 149; refine (rletter_any _ _).mono ?_; rintro e w2 ⟨rfl, rfl⟩)
      | (go_at_call 151; refine (rdigit_any _ _).mono ?_; rintro e w2 ⟨rfl, rfl⟩))
    go_loopg [6, 7] 0 (fun fuel to' n' wr => to' = .int .i64 p ∧ (w.alloc (.cells #[.int .i64 0, .string ⟨#[]⟩, .int .i64 0, .int .i64 0] 35)) = wr)
    case atStart => exact ⟨rfl, rfl⟩
    case round =>
      obtain ⟨rfl, rfl⟩ := hrel
      go_wp2_with (first
        | (go_at_call 149; refine (rletter_any _ _).mono ?_; rintro e w2 ⟨rfl, rfl⟩)
        | (go_at_call 151; refine (rdigit_any _ _).mono ?_; rintro e w2 ⟨rfl, rfl⟩)
        | (go_at_call 163; refine (signs_any _).mono ?_; rintro e w2 ⟨rfl, rfl⟩))
      go_loopg [9] 18 (fun fuel i wr => ∃ k : Nat, k ≤ 18 ∧ i = .int .i64 k ∧ 18 - k ≤ fuel ∧ sgnF signsB (s.data.toList.drop p) = sgnF (signsB.drop k) (s.data.toList.drop p) ∧ ∃ d : Nat, ((w.alloc (.cells #[.int .i64 0, .string ⟨#[]⟩, .int .i64 0, .int .i64 0] 35)).alloc (.cells (cellsS signsB) 9)).drewN d = wr)
      case atStart => exact ⟨0, by omega, rfl, by omega, rfl, 0, rfl⟩
      case round =>
        obtain ⟨k, hk, rfl, hf, hsg, d, rfl⟩ := hrel
        have HS := Lib.hid hsg; clear hsg
        by_cases hlt : k < 18
        · have hlt' : k < signsB.length := hlt
          have hcell := cellsS_get signsB k hlt'
          have hdr := List.drop_eq_getElem_cons hlt'
          obtain ⟨x, hx⟩ : ∃ x : ByteArray, x = ⟨(signsB[k]).toArray⟩ := ⟨_, rfl⟩
          rw [← hx] at hcell
          have hxl : x.toList = signsB[k] := by rw [Lib.toList_data, hx]
          rw [← hxl] at hdr
          have hx2 : 0 < x.size ∧ x.size ≤ 2 := by
            have := signs_pos k hlt'
            rw [← hxl, Lib.toList_data, ← Lib.size_eq] at this; exact this
          obtain ⟨hx2, hx3⟩ := hx2
          have HD := Lib.hid hdr
          clear hdr hx hxl hlt'
          by_cases hle : p + x.size ≤ s.size
          · have hld : decide ((p : Int) + (x.size : Int) ≤ (s.size : Int)) = true := by simp; omega
            rcases hq : ((s.extract p (p + x.size)).toList == x.toList) with _ | _
            · have HN := Lib.hid (sgnF_no s p k x HD.out hx2 (Or.inr hq))
              go_wp2
              go_quiet (fail)
              go_wp2
              go_roundg (gk - 1)
              case measure => omega
              case rel => exact ⟨k + 1, by omega, by go_num, by omega, by rw [HS.out, HN.out], d + nq, by rw [drewN_add]⟩
            · have HN := Lib.hid (sgnF_yes s p k x HD.out hq)
              go_wp2
              go_quiet (fail)
              go_wp2
              refine bodyPost_ret (v := .tuple #[.agg #[.int .i64 3, .string x, .int .i64 0, .int .i64 p], .int .i64 0]) (by simp [results, Tryz.results84, go_sem]) rfl ?_
              have e : sgnN (s.data.toList.drop p) = x.size := by rw [← HF.out, HS.out, HN.out.1]
              refine Or.inl ⟨by omega, ?_, ?_⟩
              · rw [e, HN.out.2]; rfl
              · exact below_set4 (below_drewN (((Below.refl _ _).alloc (Nat.le_refl _) _).alloc (by simp) _) _) _ _ _ _
          · have HN := Lib.hid (sgnF_no s p k x HD.out hx2 (Or.inl hle))
            have hld : decide ((p : Int) + (x.size : Int) ≤ (s.size : Int)) = false := by simp; omega
            go_wp2
            go_quiet (fail)
            go_wp2
            go_roundg (gk - 1)
            case measure => omega
            case rel => exact ⟨k + 1, by omega, by go_num, by omega, by rw [HS.out, HN.out], d + nq, by rw [drewN_add]⟩
        · obtain rfl : k = 18 := by omega
          go_wp2
          refine bodyPost_ret (v := .tuple #[.agg #[.int .i64 0, .string ⟨#[]⟩, .int .i64 0, .int .i64 0], .int .i64 3]) (by simp [results, Tryz.results84, go_sem]) rfl ?_
          have e : sgnN (s.data.toList.drop p) = 0 := by rw [← HF.out, HS.out]; rfl
          refine Or.inr ⟨e, rfl, ?_⟩
          exact below_set4 (below_drewN (((Below.refl _ _).alloc (Nat.le_refl _) _).alloc (by simp) _) _) _ _ _ _
theorem one_at (s : ByteArray) (p : Nat) (hlt : p < s.size) (hs : s.size ≤ 20000) :
    ∃ (er k n v : Nat) (t : ByteArray), Hid (tk (s.data.toList.drop p) = (er, k, n, v)) ∧ Hid (t = ⟨((s.data.toList.drop p).take n).toArray⟩) ∧ (er = 0 → t.size = n ∧ 0 < n ∧ n ≤ s.size - p) ∧
      (er ≠ 0 → ∀ w, Calls Tryz.prog 84 #[.string s, .int .i64 p] w (OneBad er w)) ∧
      (er = 0 → ∀ w, Calls Tryz.prog 84 #[.string s, .int .i64 p] w (OneGood k v p t w)) := by
  obtain ⟨⟨er, k, n, v⟩, hT⟩ : ∃ T, tk (s.data.toList.drop p) = T := ⟨_, rfl⟩
  have hl := tk_len (s.data.toList.drop p)
  rw [hT] at hl
  simp only [drop_len] at hl
  have hx : ∀ m, s.extract p (p + m) = ⟨((s.data.toList.drop p).take m).toArray⟩ := by
    intro m; rw [Lib.extract_eq, Nat.add_sub_cancel_left]
  have e := hT
  rw [drop_at s p hlt, tk, ← drop_at s p hlt] at e
  refine ⟨er, k, n, v, s.extract p (p + n), hT, hx n, ?_, ?_⟩
  · intro h
    have := hl h
    refine ⟨?_, this⟩
    simp; omega
  rcases h1 : ltr (s[p].toNat : Int) with _ | _
  · rcases h2 : dig (s[p].toNat : Int) with _ | _
    · have H := fun w => one_sign s p w hlt hs h1 h2
      by_cases h3 : 0 < sgnN (s.data.toList.drop p)
      · rw [h1, h2, if_pos h3] at e
        simp only [Bool.false_eq_true, if_false, Prod.mk.injEq] at e
        obtain ⟨rfl, rfl, rfl, rfl⟩ := e
        refine ⟨fun h => absurd rfl h, fun _ w => (H w).mono fun e w' h => ?_⟩
        rcases h with ⟨_, h⟩ | ⟨h, _⟩
        · exact h
        · omega
      · rw [h1, h2, if_neg h3] at e
        simp only [Bool.false_eq_true, if_false, Prod.mk.injEq] at e
        obtain ⟨rfl, rfl, rfl, rfl⟩ := e
        refine ⟨fun _ w => (H w).mono fun e w' h => ?_, fun h => by cases h⟩
        rcases h with ⟨h, _⟩ | ⟨_, h⟩
        · omega
        · exact h
    · by_cases h3 : 9999 < numV ((s.data.toList.drop p).take (spanN dig (s.data.toList.drop p)))
      · rw [h1, h2, if_pos h3] at e
        simp only [Bool.false_eq_true, if_false, if_true, Prod.mk.injEq] at e
        obtain ⟨rfl, rfl, rfl, rfl⟩ := e
        exact ⟨fun _ w => one_digit_big s p w hlt hs h1 h2 h3, fun h => by cases h⟩
      · rw [h1, h2, if_neg h3] at e
        simp only [Bool.false_eq_true, if_false, if_true, Prod.mk.injEq] at e
        obtain ⟨rfl, rfl, rfl, rfl⟩ := e
        exact ⟨fun h => absurd rfl h, fun _ w => one_digit_ok s p w hlt hs h1 h2 (by omega)⟩
  · by_cases h3 : 16 < spanN wrd (s.data.toList.drop p)
    · rw [h1, if_pos h3] at e
      simp only [if_true, Prod.mk.injEq] at e
      obtain ⟨rfl, rfl, rfl, rfl⟩ := e
      exact ⟨fun _ w => one_word_big s p w hlt hs h1 h3, fun h => by cases h⟩
    · rw [h1, if_neg h3] at e
      simp only [if_true, Prod.mk.injEq] at e
      obtain ⟨rfl, rfl, rfl, rfl⟩ := e
      exact ⟨fun h => absurd rfl h, fun _ w => one_word_ok s p w hlt hs h1 (by omega)⟩
end Go.Proofs.YtmlcdnfejebhoaaGreatDoor

namespace Go.Proofs.YtmlcdnfejebhoaaGreatDoor
open Go.RowKit
theorem scanL_scX (s : ByteArray) (h : ¬ 20000 < s.size) : scanL s.data.toList = scX s 0 [] := by
  unfold scanL scX
  rw [if_neg (by rw [← Lib.size_eq]; exact h), ← Lib.size_eq]; rfl
set_option maxRecDepth 100000 in
set_option maxHeartbeats 400000 in
theorem rscan_big (s : ByteArray) (w : World) (h : 20000 < s.size) (hs : s.size ≤ maxLen) :
    Calls Tryz.prog 33 #[.string s] w (ScanAns w.heap.size (scanL s.data.toList) w) := by
  have hR : scanL s.data.toList = ([], 2, 20000) := by unfold scanL; rw [if_pos (by rw [← Lib.size_eq]; exact h)]
  rw [hR]; clear hR
  unfold maxLen at hs
  go_enter Tryz.func33, Tryz.ntmps33
  go_wp2
  go_ret3
  exact ⟨_, rfl, World.ownsRow_nil _ _ _ _, Below.refl _ _⟩
set_option maxRecDepth 100000 in
set_option maxHeartbeats 2000000 in
theorem rscan_small (s : ByteArray) (w : World) (h : s.size ≤ 20000) :
    Calls Tryz.prog 33 #[.string s] w (ScanAns w.heap.size (scanL s.data.toList) w) := by
  rw [scanL_scX s (by omega)]
  obtain ⟨R, hR⟩ : ∃ R, scX s 0 [] = R := ⟨_, rfl⟩
  rw [hR]
  have HR := Lib.hid hR; clear hR
  go_enter Tryz.func33, Tryz.ntmps33
  go_wp2_with (go_at_call 83; refine (gap_any s 0 _ (Nat.zero_le _) h).mono ?_; rintro e w1 ⟨q0, rfl, hg0, rfl⟩)
  have HG0 := Lib.hid hg0; clear hg0
  go_loopg [5, 6] s.size (fun fuel v at' wr => ∃ (p : Nat) (acc : List Tok), p ≤ s.size ∧ at' = .int .i64 p ∧ s.size - p ≤ fuel ∧ scX s p acc = R ∧ (∀ h : p < s.size, blank (s[p].toNat : Int) = false ∧ (s[p].toNat : Int) ≠ 35) ∧ wr.ownsRow w.heap.size 35 4 v acc.length (rowOf acc) ∧ Below w.heap.size w wr ∧ acc.length ≤ p)
  case atStart =>
    obtain ⟨g1, g2, g3, g4⟩ := HG0.out
    exact ⟨q0, [], g2, rfl, by omega, by rw [← g3, HR.out], g4, World.ownsRow_nil _ _ _ _, Below.refl _ _, Nat.zero_le _⟩
  case round =>
    obtain ⟨p, acc, hp, rfl, hf, hsc, hcl, hown, hbw, hal⟩ := hrel
    by_cases hlt : p < s.size
    · obtain ⟨hb, h35⟩ := hcl hlt
      obtain ⟨er, k, n, v, tx, HT, HX, hnn, hbad, hgood⟩ := one_at s p hlt h
      by_cases her : er = 0
      · subst her
        obtain ⟨hn0, hn1, hn2⟩ := hnn rfl
        have hsc2 := scX_tok s p acc hlt hb h35 (by rw [HT.out])
        rw [HT.out, hsc] at hsc2
        have HR' := Lib.hid hsc2
        have HC := hgood rfl
        obtain ⟨i0, hi, hz0, hz1, hz2⟩ := info_parts info29
        have HGap : ∀ w, Calls Tryz.prog 83 #[.string s, .int .i64 ((p : Int) + (n : Int))] w (GapAns s (p + n) w) := fun w => by
          have := gap_any s (p + n) w (by omega) h
          rw [Int.natCast_add] at this; exact this
        clear hb h35 hsc hsc2 hnn hbad hgood HT hcl
        go_wp2_with (first
          | (go_at_call 84; refine (HC _).mono ?_; rintro e w1 ⟨rfl, hb1⟩; have hown1 := own_below hown hb1; have hbw1 := hbw.trans (hb1.mono hbw.size); have hz := hbw1.size; clear hown hbw hb1)
          | (at_builtin; refine wpList_append_own _ rfl (.tmp 28) (.tmp 30) 23 rfl w.heap.size 35 i0 (.agg #[.int .i64 0, .string ⟨#[]⟩, .int .i64 0, .int .i64 0]) 4 40 Tryz.underlying23 hi hz0 hz1 hz2 rfl (by decide) _ _ _ rfl ((hown1.alloc _).alloc _) ⟨w1.heap.size + 1, 0, none⟩ 1 1 [.int .i64 k, .string tx, .int .i64 v, .int .i64 p] ?hx rfl ?c1 ?c2 ?c3 ?c4 ?c5 ?_))
        case hx => rfl
        case c1 => exact cell_four_new _ _ _ _ _ _ _ (by simp)
        case c2 => exact four_oneCell _ _ _ _
        case c3 => unfold maxLen; omega
        case c4 => omega
        case c5 => simp; omega
        intro v' w2 hown2 hgrow _
        have hbk : w2.heap[w1.heap.size]? = some (.cells #[.int .i64 k, .string tx, .int .i64 v, .int .i64 p] 35 (0, 0)) := by
          rw [hgrow.block w1.heap.size (by simp; omega) (fun e => by have := (hown1.lt _ e.symm).2; omega)]
          rw [Below.heap_alloc _ _ _ (by simp)]
          exact heap_alloc_new w1 _
        have hcell : w2.cell? ⟨w1.heap.size, 1, none⟩ = some (.string tx) := by simp [World.cell?, hbk]
        have hbw2 : Below w.heap.size w w2 := ((hbw1.alloc hz _).alloc (by simp; omega) _).grown hgrow (by simp; omega) (fun k hk => (hown1.lt k hk).1)
        clear hown1 hbw1 hgrow hbk
        go_wp2_with (go_at_call 83; refine (HGap _).mono ?_; rintro e w3 ⟨q, rfl, hg, rfl⟩)
        obtain ⟨g1, g2, g3, g4⟩ := hg
        have HG3 := Lib.hid (g3 (acc ++ [(k, List.take n (List.drop p s.data.toList), v, p)]))
        clear g3
        go_roundg (gk - 1)
        case measure => omega
        case rel =>
          have hr : rowOf (acc ++ [(k, List.take n (List.drop p s.data.toList), v, p)]) = rowOf acc ++ [.int .i64 k, .string tx, .int .i64 v, .int .i64 p] := by
            rw [HX.out]; simp [rowOf, cellsOf]
          refine ⟨q, acc ++ [(k, List.take n (List.drop p s.data.toList), v, p)], g2, rfl, by omega, by rw [HR'.out, HG3.out], g4, ?_, hbw2, by simp; omega⟩
          rw [hr, List.length_append]; exact hown2
      · have HC := hbad her
        have hsc2 := scX_bad s p acc hlt hb h35 (by rw [HT.out]; exact her)
        rw [HT.out, hsc] at hsc2
        have HR' := Lib.hid hsc2
        have hne : ((er : Int) == 0) = false := (by simp [her])
        clear hb h35 hsc hsc2 hnn hbad hgood her HT HX hcl
        go_wp2_with (go_at_call 84; refine (HC _).mono ?_; rintro e w1 ⟨rfl, hb1⟩)
        go_ret3
        rw [HR'.out]
        have hb2 := hbw.trans (hb1.mono hbw.size)
        exact ⟨_, rfl, World.ownsRow_nil _ _ _ _, hb2.alloc hb2.size _⟩
    · have HE := Lib.hid (scX_end s p acc hlt)
      have HS := Lib.hid hsc
      clear hsc hcl
      go_wp2
      go_ret3
      have hR : R = (acc, 0, 0) := by rw [← HS.out, HE.out]
      rw [hR]
      exact ⟨_, rfl, hown, hbw⟩
theorem rscan_any (s : ByteArray) (w : World) (hs : s.size ≤ maxLen) :
    Calls Tryz.prog 33 #[.string s] w (ScanAns w.heap.size (scanL s.data.toList) w) := by
  by_cases h : 20000 < s.size
  · exact rscan_big s w h hs
  · exact rscan_small s w (by omega)
end Go.Proofs.YtmlcdnfejebhoaaGreatDoor

namespace Go.Proofs.YtmlcdnfejebhoaaGreatDoor
open Go.RowKit
structure Nd where
  op : Int
  n : Int
  nm : ByteArray
  inn : ByteArray
  pl : Int
def Nd.cells (x : Nd) : List Value := [.int .i64 x.op, .int .i64 x.n, .string x.nm, .string x.inn, .int .i64 x.pl]
def rowN (l : List Nd) : List Value := l.flatMap Nd.cells
def NdAt (w : World) (b o : Nat) (x : Nd) : Prop :=
  w.cell? ⟨b, o, none⟩ = some (.int .i64 x.op) ∧ w.cell? ⟨b, o + 1, none⟩ = some (.int .i64 x.n) ∧ w.cell? ⟨b, o + 2, none⟩ = some (.string x.nm) ∧ w.cell? ⟨b, o + 3, none⟩ = some (.string x.inn) ∧ w.cell? ⟨b, o + 4, none⟩ = some (.int .i64 x.pl)
def Nds (w : World) (v : Value) (l : List Nd) : Prop :=
  (l = [] ∧ ∃ ad cap, v = .slice ad 0 cap) ∨
  ∃ b off cap, v = .slice (some ⟨b, off, none⟩) l.length cap ∧ b < w.heap.size ∧ ∀ i, (h : i < l.length) → NdAt w b (off + i * 5) l[i]
theorem NdAt.below {w w' : World} {B b o : Nat} {x : Nd} (h : NdAt w b o x) (hb : Below B w w') (hlt : b < B) : NdAt w' b o x := by
  obtain ⟨k0, k1, k2, k3, k4⟩ := h
  exact ⟨(hb.cell (p := ⟨b, _, none⟩) hlt).trans k0, (hb.cell (p := ⟨b, _, none⟩) hlt).trans k1, (hb.cell (p := ⟨b, _, none⟩) hlt).trans k2, (hb.cell (p := ⟨b, _, none⟩) hlt).trans k3, (hb.cell (p := ⟨b, _, none⟩) hlt).trans k4⟩
theorem Nds.below {w w' : World} {v : Value} {l : List Nd} (h : Nds w v l) (hb : Below w.heap.size w w') : Nds w' v l := by
  rcases h with h | ⟨b, off, cap, hv, hlt, hc⟩
  · exact .inl h
  · exact .inr ⟨b, off, cap, hv, Nat.lt_of_lt_of_le hlt hb.size, fun i hi => (hc i hi).below hb hlt⟩
theorem Nds.cases {w : World} {v : Value} {l : List Nd} (h : Nds w v l) : ∃ ad cap, v = .slice ad l.length cap ∧ ∀ i, (hi : i < l.length) → ∃ b off, ad = some ⟨b, off, none⟩ ∧ b < w.heap.size ∧ NdAt w b (off + i * 5) l[i] := by
  rcases h with ⟨rfl, ad, cap, rfl⟩ | ⟨b, off, cap, hv, hlt, hc⟩
  · exact ⟨ad, cap, rfl, fun i hi => absurd hi (Nat.not_lt_zero _)⟩
  · exact ⟨_, cap, hv, fun i hi => ⟨b, off, rfl, hlt, hc i hi⟩⟩
def ar (op : Int) : Int := if 1 ≤ op ∧ op ≤ 4 then 0 else if op = 5 then 1 else if 6 ≤ op ∧ op ≤ 14 then 2 else -1
theorem ar_cases (op : Int) : ar op = -1 ∨ ar op = 0 ∨ ar op = 1 ∨ ar op = 2 := by
  unfold ar; repeat' split
  all_goals omega
set_option maxRecDepth 100000 in
set_option maxHeartbeats 400000 in
theorem operands_any (op : Int) (w : World) :
    Calls Tryz.prog 227 #[.int .i64 op] w fun e w' => e = .returned (.int .i64 (ar op)) ∧ w = w' := by
  go_enter Tryz.func227, Tryz.ntmps227
  go_wp2
  all_goals
    go_ret
    exact ⟨ret_int (by simp_all [ar]; try omega), rfl⟩
set_option maxRecDepth 100000 in
set_option maxHeartbeats 400000 in
theorem kids_any (op : Int) (w : World) :
    Calls Tryz.prog 226 #[.int .i64 op] w fun e w' => e = .returned (.int .i64 (ar op)) ∧ w = w' := by
  go_enter Tryz.func226, Tryz.ntmps226
  go_wp2
  all_goals
    go_ret
    exact ⟨ret_int (by unfold ar; repeat' split
                       all_goals first | omega | (simp_all; try omega)), rfl⟩
def numB (n : Int) : Bool := decide (0 ≤ n ∧ n ≤ 9999)
set_option maxRecDepth 100000 in
set_option maxHeartbeats 400000 in
theorem number_any (n : Int) (w : World) :
    Calls Tryz.prog 228 #[.int .i64 n] w fun e w' => e = .returned (.bool (numB n)) ∧ w = w' := by
  go_enter Tryz.func228, Tryz.ntmps228
  go_wp2
  all_goals
    go_ret
    exact ⟨ret_bool (by rw [Bool.eq_iff_iff]; simp [numB]; try omega), rfl⟩
end Go.Proofs.YtmlcdnfejebhoaaGreatDoor
namespace Go.Proofs.YtmlcdnfejebhoaaGreatDoor
open Go.RowKit
def endF : List Nd → Int → Nat → Option Nat
  | [], _, _ => none
  | x :: r, m, k => if ar x.op < 0 then none else if m + (ar x.op - 1) = 0 then some (k + 1) else endF r (m + (ar x.op - 1)) (k + 1)
def endI (o : Option Nat) : Int := match o with | none => -1 | some j => j
def endL (l : List Nd) (i : Int) : Int := if i < 0 then -1 else endI (endF (l.drop i.toNat) 1 i.toNat)
theorem endF_at (l : List Nd) (k : Nat) (h : k < l.length) (m : Int) : endF (l.drop k) m k = if ar l[k].op < 0 then none else if m + (ar l[k].op - 1) = 0 then some (k + 1) else endF (l.drop (k + 1)) (m + (ar l[k].op - 1)) (k + 1) := by
  rw [List.drop_eq_getElem_cons h, endF]
theorem endF_over (l : List Nd) (k : Nat) (h : ¬ k < l.length) (m : Int) : endF (l.drop k) m k = none := by
  rw [List.drop_eq_nil_of_le (by omega), endF]
theorem endL_neg (l : List Nd) (i : Int) (h : i < 0) : endL l i = -1 := by unfold endL; rw [if_pos h]
theorem endL_nat (l : List Nd) (k : Nat) : endL l (k : Int) = endI (endF (l.drop k) 1 k) := by
  unfold endL; rw [if_neg (by omega)]; rfl
set_option maxRecDepth 100000 in
set_option maxHeartbeats 1000000 in
theorem end_nat (l : List Nd) (v : Value) (i : Nat) (w : World) (hv : Nds w v l) (hn : l.length ≤ 100000) :
    Calls Tryz.prog 196 #[v, .int .i64 i] w fun e w' => e = .returned (.int .i64 (endL l i)) ∧ w = w' := by
  rw [endL_nat]

  obtain ⟨ad, cap, rfl, hc⟩ := hv.cases
  obtain ⟨n, hN⟩ : ∃ n, n = l.length := ⟨_, rfl⟩
  rw [← hN] at hn ⊢
  have HC := Lib.hid hc
  have HN := Lib.hid hN
  clear hc hN hv
  obtain ⟨R, hR⟩ : ∃ R, endF (l.drop i) 1 i = R := ⟨_, rfl⟩
  rw [hR]
  have HR := Lib.hid hR; clear hR
  go_enter Tryz.func196, Tryz.ntmps196
  go_wp2
  go_loopg [1, 5] (n - i) (fun fuel i' m' wr => ∃ (k : Nat) (m : Int), i' = .int .i64 k ∧ m' = .int .i64 m ∧ n - k ≤ fuel ∧ 0 < m ∧ m ≤ 1 + k ∧ endF (l.drop k) m k = R ∧ w = wr)
  case atStart => exact ⟨i, 1, rfl, rfl, Nat.le_refl _, by omega, by omega, HR.out, rfl⟩
  case round =>
    obtain ⟨k, m, rfl, rfl, hf, hm0, hm1, hr, rfl⟩ := hrel
    have HR2 := Lib.hid hr; clear hr
    by_cases hlt : k < n
    · have hk' : k < l.length := by have := HN.out; omega
      have HE := Lib.hid (endF_at l k hk' m)
      obtain ⟨b, off, rfl, _, c0, _⟩ := HC.out k hk'
      obtain ⟨o, ho⟩ : ∃ o, o = l[k].op := ⟨_, rfl⟩
      have HO := Lib.hid ho
      rw [← ho] at c0
      clear ho
      obtain ⟨a, ha⟩ : ∃ a, a = ar o := ⟨_, rfl⟩
      have hab : -1 ≤ a ∧ a ≤ 2 := by have := ar_cases o; omega
      obtain ⟨hab1, hab2⟩ := hab
      have HA : ∀ w, Calls Tryz.prog 227 #[.int .i64 o] w fun e w' => e = .returned (.int .i64 a) ∧ w = w' := fun w => ha ▸ operands_any o w
      have HAA := Lib.hid ha
      clear ha
      have HL := Lib.hid hlt
      have hm2 : m ≤ 1000000000000000 := by omega
      have hm3 : -1 ≤ m + (a - 1) := by omega
      have hm4 : m + (a - 1) ≤ 1000000000000000 := by omega
      by_cases h1 : a < 0
      · go_wp2_with (go_at_call 227; refine (HA _).mono ?_; rintro e w2 ⟨rfl, rfl⟩)
        go_ret
        refine ⟨ret_int ?_, rfl⟩
        have := HR2.out
        rw [HE.out, ← HO.out, ← HAA.out, if_pos h1] at this
        subst this; rfl
      · by_cases h2 : m + (a - 1) = 0
        · have q2 : ((m + (a - 1)) == 0) = true := by simpa using h2
          have H2 := Lib.hid h2; clear h2
          go_wp2_with (go_at_call 227; refine (HA _).mono ?_; rintro e w2 ⟨rfl, rfl⟩)
          go_ret
          refine ⟨ret_int ?_, rfl⟩
          have := HR2.out
          rw [HE.out, ← HO.out, ← HAA.out, if_neg (by omega), if_pos H2.out] at this
          subst this; simp [endI]
        · have q2 : ((m + (a - 1)) == 0) = false := by simpa using h2
          have H2 := Lib.hid h2; clear h2
          go_wp2_with (go_at_call 227; refine (HA _).mono ?_; rintro e w2 ⟨rfl, rfl⟩)
          go_roundg (gk - 1)
          case measure => have := HL.out; omega
          case rel =>
            have h2 := H2.out
            refine ⟨k + 1, m + (a - 1), by go_num, rfl, by omega, by omega, by omega, ?_, rfl⟩
            have := HR2.out
            rw [HE.out, ← HO.out, ← HAA.out, if_neg (by omega), if_neg h2] at this
            exact this
    · have HE := Lib.hid (endF_over l k (by have := HN.out; omega) m)
      go_wp2
      go_ret
      exact ⟨ret_int (by rw [← HR2.out, HE.out]; rfl), rfl⟩
set_option maxRecDepth 100000 in
set_option maxHeartbeats 400000 in
theorem end_neg (v : Value) (i : Int) (w : World) (h : i < 0) :
    Calls Tryz.prog 196 #[v, .int .i64 i] w fun e w' => e = .returned (.int .i64 (-1)) ∧ w = w' := by
  go_enter Tryz.func196, Tryz.ntmps196
  go_wp2
  go_ret
  exact ⟨rfl, rfl⟩
theorem end_any (l : List Nd) (v : Value) (i : Int) (w : World) (hv : Nds w v l) (hn : l.length ≤ 100000) :
    Calls Tryz.prog 196 #[v, .int .i64 i] w fun e w' => e = .returned (.int .i64 (endL l i)) ∧ w = w' := by
  by_cases h : i < 0
  · rw [endL_neg l i h]; exact end_neg v i w h
  · obtain ⟨k, rfl⟩ : ∃ k : Nat, i = k := ⟨i.toNat, by omega⟩
    exact end_nat l v k w hv hn
set_option maxRecDepth 100000 in
set_option maxHeartbeats 1000000 in
theorem rend_nat (l : List Nd) (v : Value) (i : Nat) (w : World) (hv : Nds w v l) (hn : l.length ≤ 100000) :
    Calls Tryz.prog 205 #[v, .int .i64 i] w fun e w' => e = .returned (.int .i64 (endL l i)) ∧ w = w' := by
  rw [endL_nat]

  obtain ⟨ad, cap, rfl, hc⟩ := hv.cases
  obtain ⟨n, hN⟩ : ∃ n, n = l.length := ⟨_, rfl⟩
  rw [← hN] at hn ⊢
  have HC := Lib.hid hc
  have HN := Lib.hid hN
  clear hc hN hv
  obtain ⟨R, hR⟩ : ∃ R, endF (l.drop i) 1 i = R := ⟨_, rfl⟩
  rw [hR]
  have HR := Lib.hid hR; clear hR
  go_enter Tryz.func205, Tryz.ntmps205
  go_wp2
  go_loopg [5, 6] (n - i) (fun fuel m' i' wr => ∃ (k : Nat) (m : Int), i' = .int .i64 k ∧ m' = .int .i64 m ∧ n - k ≤ fuel ∧ 0 < m ∧ m ≤ 1 + k ∧ endF (l.drop k) m k = R ∧ w = wr)
  case atStart => exact ⟨i, 1, rfl, rfl, Nat.le_refl _, by omega, by omega, HR.out, rfl⟩
  case round =>
    obtain ⟨k, m, rfl, rfl, hf, hm0, hm1, hr, rfl⟩ := hrel
    have HR2 := Lib.hid hr; clear hr
    by_cases hlt : k < n
    · have hk' : k < l.length := by have := HN.out; omega
      have HE := Lib.hid (endF_at l k hk' m)
      obtain ⟨b, off, rfl, _, c0, _⟩ := HC.out k hk'
      obtain ⟨o, ho⟩ : ∃ o, o = l[k].op := ⟨_, rfl⟩
      have HO := Lib.hid ho
      rw [← ho] at c0
      clear ho
      obtain ⟨a, ha⟩ : ∃ a, a = ar o := ⟨_, rfl⟩
      have hab : -1 ≤ a ∧ a ≤ 2 := by have := ar_cases o; omega
      obtain ⟨hab1, hab2⟩ := hab
      have HA : ∀ w, Calls Tryz.prog 226 #[.int .i64 o] w fun e w' => e = .returned (.int .i64 a) ∧ w = w' := fun w => ha ▸ kids_any o w
      have HAA := Lib.hid ha
      clear ha
      have HL := Lib.hid hlt
      have hm2 : m ≤ 1000000000000000 := by omega
      have hm3 : -1 ≤ m - 1 + a := by omega
      have hm4 : m - 1 + a ≤ 1000000000000000 := by omega
      by_cases h1 : a < 0
      · go_wp2_with (go_at_call 226; refine (HA _).mono ?_; rintro e w2 ⟨rfl, rfl⟩)
        go_ret
        refine ⟨ret_int ?_, rfl⟩
        have := HR2.out
        rw [HE.out, ← HO.out, ← HAA.out, if_pos h1] at this
        subst this; rfl
      · by_cases h2 : m + (a - 1) = 0
        · have q2 : ((m - 1 + a) == 0) = true := by simp; omega
          have H2 := Lib.hid h2; clear h2
          go_wp2_with (go_at_call 226; refine (HA _).mono ?_; rintro e w2 ⟨rfl, rfl⟩)
          go_ret
          refine ⟨ret_int ?_, rfl⟩
          have := HR2.out
          rw [HE.out, ← HO.out, ← HAA.out, if_neg (by omega), if_pos H2.out] at this
          subst this; simp [endI]
        · have q2 : ((m - 1 + a) == 0) = false := by simp; omega
          have H2 := Lib.hid h2; clear h2
          go_wp2_with (go_at_call 226; refine (HA _).mono ?_; rintro e w2 ⟨rfl, rfl⟩)
          go_roundg (gk - 1)
          case measure => have := HL.out; omega
          case rel =>
            have h2 := H2.out
            refine ⟨k + 1, m + (a - 1), by go_num, by rw [show m + (a - 1) = m - 1 + a by omega], by omega, by omega, by omega, ?_, rfl⟩
            have := HR2.out
            rw [HE.out, ← HO.out, ← HAA.out, if_neg (by omega), if_neg h2] at this
            exact this
    · have HE := Lib.hid (endF_over l k (by have := HN.out; omega) m)
      go_wp2
      go_ret
      exact ⟨ret_int (by rw [← HR2.out, HE.out]; rfl), rfl⟩
set_option maxRecDepth 100000 in
set_option maxHeartbeats 400000 in
theorem rend_neg (v : Value) (i : Int) (w : World) (h : i < 0) :
    Calls Tryz.prog 205 #[v, .int .i64 i] w fun e w' => e = .returned (.int .i64 (-1)) ∧ w = w' := by
  go_enter Tryz.func205, Tryz.ntmps205
  go_wp2
  go_ret
  exact ⟨rfl, rfl⟩
theorem rend_any (l : List Nd) (v : Value) (i : Int) (w : World) (hv : Nds w v l) (hn : l.length ≤ 100000) :
    Calls Tryz.prog 205 #[v, .int .i64 i] w fun e w' => e = .returned (.int .i64 (endL l i)) ∧ w = w' := by
  by_cases h : i < 0
  · rw [endL_neg l i h]; exact rend_neg v i w h
  · obtain ⟨k, rfl⟩ : ∃ k : Nat, i = k := ⟨i.toNat, by omega⟩
    exact rend_nat l v k w hv hn
end Go.Proofs.YtmlcdnfejebhoaaGreatDoor
namespace Go.Proofs.YtmlcdnfejebhoaaGreatDoor
open Go.RowKit
def lightN (x : Nd) : Bool := decide (x.nm.size ≤ 100 ∧ x.inn.size ≤ 100)
def lightB (l : List Nd) : Bool := decide (l.length ≤ 250) && l.all lightN
theorem all_at (p : Nd → Bool) (l : List Nd) (k : Nat) (h : k < l.length) : (l.drop k).all p = (p l[k] && (l.drop (k + 1)).all p) := by
  rw [List.drop_eq_getElem_cons h, List.all_cons]
theorem all_over (p : Nd → Bool) (l : List Nd) (k : Nat) (h : ¬ k < l.length) : (l.drop k).all p = true := by
  rw [List.drop_eq_nil_of_le (by omega)]; rfl
set_option maxRecDepth 100000 in
set_option maxHeartbeats 400000 in
theorem light_big (l : List Nd) (v : Value) (w : World) (hv : Nds w v l) (hn : l.length ≤ maxLen) (h : 250 < l.length) :
    Calls Tryz.prog 39 #[v] w fun e w' => e = .returned (.bool (lightB l)) ∧ w = w' := by
  have hb : lightB l = false := by simp [lightB]; omega
  rw [hb]
  obtain ⟨ad, cap, rfl, _⟩ := hv.cases
  unfold maxLen at hn
  clear hv hb
  go_enter Tryz.func39, Tryz.ntmps39
  go_wp2
  go_ret
  exact ⟨rfl, rfl⟩
set_option maxRecDepth 100000 in
set_option maxHeartbeats 1000000 in
theorem light_small (l : List Nd) (v : Value) (w : World) (hv : Nds w v l) (h : l.length ≤ 250) :
    Calls Tryz.prog 39 #[v] w fun e w' => e = .returned (.bool (lightB l)) ∧ w = w' := by
  have hb : lightB l = (l.drop 0).all lightN := by simp [lightB, h]
  rw [hb]
  obtain ⟨R, hR⟩ : ∃ R, (l.drop 0).all lightN = R := ⟨_, rfl⟩
  rw [hR]
  have HR := Lib.hid hR
  clear hR
  obtain ⟨ad, cap, rfl, hc⟩ := hv.cases
  obtain ⟨n, hN⟩ : ∃ n, n = l.length := ⟨_, rfl⟩
  rw [← hN] at h ⊢
  have HC := Lib.hid hc
  have HN := Lib.hid hN
  clear hc hN hv hb
  go_enter Tryz.func39, Tryz.ntmps39
  go_wp2
  go_loopg [3] n (fun fuel i' wr => ∃ k : Nat, i' = .int .i64 k ∧ k ≤ n ∧ n - k ≤ fuel ∧ R = (l.drop k).all lightN ∧ w = wr)
  case atStart => exact ⟨0, rfl, Nat.zero_le _, Nat.le_refl _, HR.out.symm, rfl⟩
  case round =>
    obtain ⟨k, rfl, hk, hf, ha, rfl⟩ := hrel
    have HA := Lib.hid ha; clear ha
    by_cases hlt : k < n
    · have hk' : k < l.length := by have := HN.out; omega
      have HE := Lib.hid (all_at lightN l k hk')
      obtain ⟨b, off, rfl, _, _, _, c2, c3, _⟩ := HC.out k hk'
      obtain ⟨x, hx⟩ : ∃ x, x = l[k] := ⟨_, rfl⟩
      have HX := Lib.hid hx
      rw [← hx] at c2 c3
      clear hx
      obtain ⟨xo, xn, xnm, xin, xp⟩ := x
      simp only [] at c2 c3
      by_cases h1 : 100 < xnm.size
      · go_wp2
        go_ret
        exact ⟨ret_bool (by rw [HA.out, HE.out, ← HX.out]; simp [lightN]; omega), rfl⟩
      · by_cases h2 : 100 < xin.size
        · go_wp2
          go_ret
          exact ⟨ret_bool (by rw [HA.out, HE.out, ← HX.out]; simp [lightN]; omega), rfl⟩
        · go_wp2
          go_roundg (gk - 1)
          case measure => omega
          case rel => exact ⟨k + 1, by go_num, by omega, by omega, by rw [HA.out, HE.out, ← HX.out]; simp [lightN]; omega, rfl⟩
    · have HE := Lib.hid (all_over lightN l k (by have := HN.out; omega))
      go_wp2
      go_ret
      exact ⟨ret_bool (by rw [HA.out, HE.out]), rfl⟩
theorem light_any (l : List Nd) (v : Value) (w : World) (hv : Nds w v l) (hn : l.length ≤ maxLen) (b : Bool) (hb : lightB l = b) :
    Calls Tryz.prog 39 #[v] w fun e w' => e = .returned (.bool b) ∧ w = w' := by
  subst hb
  by_cases h : 250 < l.length
  · exact light_big l v w hv hn h
  · exact light_small l v w hv (by omega)
def alikeN (p : Bool) (a b : Nd) : Prop := a.op = b.op ∧ a.n = b.n ∧ a.nm = b.nm ∧ a.inn = b.inn ∧ (p = true → a.pl = b.pl)
theorem drewN_plus (w : World) (a b : Nat) : w.drewN (a + b) = (w.drewN a).drewN b := by
  simp [World.drewN, Nat.add_assoc]
theorem below_end {B : Nat} {w : World} (d : Nat) : Below B w (w.drewN d) := below_drewN (Below.refl _ _) d
end Go.Proofs.YtmlcdnfejebhoaaGreatDoor
