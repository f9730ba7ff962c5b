/- What the reference's gap does; the plain scanner's steps, whatever their number. -/
import Derived.Test.YtifbhlgingaahaaDoorF
namespace Go.Proofs.YtifbhlgingaahaaDoor
open Go.RowKit

theorem spanN_noNl_pos (c : UInt8) (r : List UInt8) (h : (c.toNat : Int) = 35) : 0 < spanN noNl (c :: r) := by
  have : noNl (c.toNat : Int) = true := by rw [h]; decide
  simp [spanN, this]

theorem sc_fuel : ∀ (f g : Nat) (l : List UInt8) (p : Nat) (acc : List Tok), l.length ≤ f → l.length ≤ g → sc f l p acc = sc g l p acc := by
  intro f
  induction f with
  | zero =>
    intro g l p acc h _
    obtain rfl : l = [] := List.eq_nil_of_length_eq_zero (by omega)
    rw [sc_nil, sc_nil]
  | succ f ih =>
    intro g l p acc hf hg
    cases l with
    | nil => rw [sc_nil, sc_nil]
    | cons c r =>
      obtain ⟨g, rfl⟩ : ∃ k, g = k + 1 := ⟨g - 1, by simp only [List.length_cons] at hg; omega⟩
      simp only [List.length_cons] at hf hg
      unfold sc
      by_cases hb : blank (c.toNat : Int) = true
      · rw [if_pos hb, if_pos hb]; exact ih _ _ _ _ (by omega) (by omega)
      · rw [if_neg hb, if_neg hb]
        by_cases hc : (c.toNat : Int) = 35
        · rw [if_pos hc, if_pos hc]
          have := spanN_noNl_pos c r hc
          exact ih _ _ _ _ (by rw [List.length_drop, List.length_cons]; omega) (by rw [List.length_drop, List.length_cons]; omega)
        · rw [if_neg hc, if_neg hc]
          by_cases ht : (tk (c :: r)).1 ≠ 0
          · rw [if_pos ht, if_pos ht]
          · rw [if_neg ht, if_neg ht]
            have := tk_len (c :: r) (by simpa using ht)
            exact ih _ _ _ _ (by rw [List.length_drop, List.length_cons]; omega) (by rw [List.length_drop, List.length_cons]; omega)

/-- The tokens of a text from a place on, behind those that were found. -/
def scX (s : ByteArray) (p : Nat) (acc : List Tok) : List Tok × Nat × Nat := sc (s.size - p) (s.data.toList.drop p) p acc

theorem drop_len (s : ByteArray) (p : Nat) : (s.data.toList.drop p).length = s.size - p := by rw [List.length_drop, ← Lib.size_eq]

theorem scX_of (s : ByteArray) (p f : Nat) (acc : List Tok) (h : s.size - p ≤ f) : sc f (s.data.toList.drop p) p acc = scX s p acc :=
  sc_fuel _ _ _ _ _ (by rw [drop_len]; exact h) (by rw [drop_len]; exact Nat.le_refl _)

theorem scX_end (s : ByteArray) (p : Nat) (acc : List Tok) (h : ¬ p < s.size) : scX s p acc = (acc, 0, 0) := sc_end s p p _ acc h
theorem scX_blank (s : ByteArray) (p : Nat) (acc : List Tok) (h : p < s.size) (hb : blank (s[p].toNat : Int) = true) : scX s p acc = scX s (p + 1) acc := by
  rw [← scX_of s p (s.size - (p + 1) + 1) acc (by omega), sc_blank s p _ acc h hb]; rfl
theorem scX_hash (s : ByteArray) (p : Nat) (acc : List Tok) (h : p < s.size) (hb : blank (s[p].toNat : Int) = false) (hc : (s[p].toNat : Int) = 35) :
    scX s p acc = scX s (p + spanN noNl (s.data.toList.drop p)) acc := by
  have h1 := spanN_yes noNl s p h (by rw [hc]; decide)
  rw [← scX_of s p (s.size - (p + 1) + 1) acc (by omega), sc_hash s p _ acc h hb hc, scX_of]
  omega
theorem scX_bad (s : ByteArray) (p : Nat) (acc : List Tok) (h : p < s.size) (hb : blank (s[p].toNat : Int) = false) (hc : (s[p].toNat : Int) ≠ 35) (ht : (tk (s.data.toList.drop p)).1 ≠ 0) :
    scX s p acc = ([], (tk (s.data.toList.drop p)).1, p) := by
  rw [← scX_of s p (s.size - (p + 1) + 1) acc (by omega), sc_bad s p _ acc h hb hc ht]
theorem scX_tok (s : ByteArray) (p : Nat) (acc : List Tok) (h : p < s.size) (hb : blank (s[p].toNat : Int) = false) (hc : (s[p].toNat : Int) ≠ 35) (ht : (tk (s.data.toList.drop p)).1 = 0) :
    scX s p acc = scX s (p + (tk (s.data.toList.drop p)).2.2.1) (acc ++ [((tk (s.data.toList.drop p)).2.1, (s.data.toList.drop p).take (tk (s.data.toList.drop p)).2.2.1, (tk (s.data.toList.drop p)).2.2.2, p)]) := by
  have h1 := tk_len _ ht
  rw [← scX_of s p (s.size - (p + 1) + 1) acc (by omega), sc_tok s p _ acc h hb hc ht, scX_of]
  omega

def GapTo (s : ByteArray) (p q : Nat) : Prop := p ≤ q ∧ q ≤ s.size ∧ (∀ acc, scX s p acc = scX s q acc) ∧ ∀ h : q < s.size, blank (s[q].toNat : Int) = false ∧ (s[q].toNat : Int) ≠ 35
def GapAns (s : ByteArray) (p : Nat) (w : World) (e : Ending) (w' : World) : Prop := ∃ q : Nat, e = .returned (.int .i64 q) ∧ GapTo s p q ∧ w = w'
def OnTo (s : ByteArray) (p q : Nat) : Prop := ∀ acc, scX s p acc = scX s q acc

set_option maxHeartbeats 2000000 in
theorem gap_any (s : ByteArray) (p : Nat) (w : World) (hp : p ≤ s.size) (hs : s.size ≤ 20000) :
    Calls Tryd.prog 41 #[.string s, .int .i64 p] w (GapAns s p w) := by
  go_enter Tryd.func41, Tryd.ntmps41
  go_wp2
  go_loopg [1] (s.size - p) (fun fuel at' wr => ∃ q : Nat, p ≤ q ∧ q ≤ s.size ∧ at' = .int .i64 q ∧ s.size - q ≤ fuel ∧ OnTo s p q ∧ w = wr)
  case atStart => exact ⟨p, Nat.le_refl _, hp, rfl, Nat.le_refl _, fun _ => rfl, rfl⟩
  case round =>
    obtain ⟨q, hpq, hqs, rfl, hf, hon, rfl⟩ := hrel
    by_cases hlt : q < s.size
    · rcases hb : blank (s[q].toNat : Int) with _ | _
      · have hb' := hb
        simp only [blank, decide_eq_false_iff_not, not_or] at hb'
        obtain ⟨b0, b1, b2, b3⟩ := hb'
        have q0 : ((s[q].toNat : Int) == 32) = false := (by simpa using b0)
        have q1 : ((s[q].toNat : Int) == 9) = false := (by simpa using b2)
        have q2 : ((s[q].toNat : Int) == 10) = false := (by simpa using b1)
        have q3 : ((s[q].toNat : Int) == 13) = false := (by simpa using b3)
        clear b0 b1 b2 b3
        by_cases h35 : (s[q].toNat : Int) = 35
        · have HS := Lib.hid (fun acc => scX_hash s q acc hlt hb h35)
          have H1 := Lib.hid (spanN_yes noNl s q hlt (by rw [h35]; decide))
          have q4 : ((s[q].toNat : Int) == 35) = true := (by simp [h35])
          clear hb h35
          obtain ⟨go, rfl⟩ : ∃ go : Nat, go = gk := ⟨_, rfl⟩
          go_wp2
          go_loopg [1] (s.size - q) (fun m at' w2 => ∃ r : Nat, q ≤ r ∧ r ≤ s.size ∧ at' = .int .i64 r ∧ s.size - r ≤ m ∧ spanN noNl (s.data.toList.drop q) = (r - q) + spanN noNl (s.data.toList.drop r) ∧ w = w2)
          case atStart => exact ⟨q, Nat.le_refl _, by omega, rfl, Nat.le_refl _, by omega, rfl⟩
          case round =>
            obtain ⟨r, hqr, hrs, rfl, hm, hsp, rfl⟩ := hrel
            have HSP := Lib.hid hsp; clear hsp
            by_cases hlr : r < s.size
            · by_cases h10 : (s[r].toNat : Int) = 10
              · have HN := Lib.hid (spanN_no noNl s r hlr (by rw [h10]; decide))
                have q5 : ((s[r].toNat : Int) != 10) = false := (by simp [h10])
                clear h10
                go_wp2
                go_roundg (s.size - r)
                case measure => have e := HSP.out; have e1 := HN.out; have e2 := H1.out; omega
                case rel =>
                  have e := HSP.out
                  have e1 := HN.out
                  have e3 : q + spanN noNl (s.data.toList.drop q) = r := by omega
                  exact ⟨r, by omega, by omega, rfl, by omega, fun acc => by rw [hon acc, HS.out acc, e3], rfl⟩
              · have HN := Lib.hid (spanN_yes noNl s r hlr (by simpa [noNl] using h10))
                have q5 : ((s[r].toNat : Int) != 10) = true := (by simpa using h10)
                clear h10
                go_wp2
                go_roundg (gk - 1)
                case measure => omega
                case rel =>
                  have e := HSP.out
                  have e1 := HN.out
                  exact ⟨r + 1, by omega, by omega, by go_num, by omega, by omega, rfl⟩
            · have HN := Lib.hid (spanN_end noNl s r hlr)
              go_wp2
              go_roundg (s.size - r)
              case measure => have e := HSP.out; have e1 := HN.out; have e2 := H1.out; omega
              case rel =>
                have e := HSP.out
                have e1 := HN.out
                have e3 : q + spanN noNl (s.data.toList.drop q) = r := by omega
                exact ⟨r, by omega, by omega, rfl, by omega, fun acc => by rw [hon acc, HS.out acc, e3], rfl⟩
        · have q4 : ((s[q].toNat : Int) == 35) = false := (by simpa using h35)
          have HG : Hid (GapTo s p q) := ⟨hpq, hqs, hon, fun _ => ⟨hb, h35⟩⟩
          clear hb h35 hon
          go_wp2
          try rw [Exit.noGoto_ret]
          go_ret
          exact ⟨q, rfl, HG.out, rfl⟩
      · have HS := Lib.hid (fun acc => scX_blank s q acc hlt hb)
        have hb' := hb
        simp only [blank, decide_eq_true_eq] at hb'
        clear hb
        have hb2 : (s[q].toNat : Int) = 32 ∨ (s[q].toNat : Int) = 9 ∨ (s[q].toNat : Int) = 10 ∨ (s[q].toNat : Int) = 13 := by omega
        clear hb'
        rcases hb2 with hq | hq | hq | hq
        · have q0 : ((s[q].toNat : Int) == 32) = true := (by simp [hq])
          clear hq
          go_wp2
          go_roundg (gk - 1)
          case measure => omega
          case rel => exact ⟨q + 1, by omega, by omega, by go_num, by omega, fun acc => by rw [hon acc, HS.out acc], rfl⟩
        · have q0 : ((s[q].toNat : Int) == 32) = false := (by simp [hq])
          have q1 : ((s[q].toNat : Int) == 9) = true := (by simp [hq])
          clear hq
          go_wp2
          go_roundg (gk - 1)
          case measure => omega
          case rel => exact ⟨q + 1, by omega, by omega, by go_num, by omega, fun acc => by rw [hon acc, HS.out acc], rfl⟩
        · have q0 : ((s[q].toNat : Int) == 32) = false := (by simp [hq])
          have q1 : ((s[q].toNat : Int) == 9) = false := (by simp [hq])
          have q2 : ((s[q].toNat : Int) == 10) = true := (by simp [hq])
          clear hq
          go_wp2
          go_roundg (gk - 1)
          case measure => omega
          case rel => exact ⟨q + 1, by omega, by omega, by go_num, by omega, fun acc => by rw [hon acc, HS.out acc], rfl⟩
        · have q0 : ((s[q].toNat : Int) == 32) = false := (by simp [hq])
          have q1 : ((s[q].toNat : Int) == 9) = false := (by simp [hq])
          have q2 : ((s[q].toNat : Int) == 10) = false := (by simp [hq])
          have q3 : ((s[q].toNat : Int) == 13) = true := (by simp [hq])
          clear hq
          go_wp2
          go_roundg (gk - 1)
          case measure => omega
          case rel => exact ⟨q + 1, by omega, by omega, by go_num, by omega, fun acc => by rw [hon acc, HS.out acc], rfl⟩
    · have HG : Hid (GapTo s p q) := ⟨hpq, hqs, hon, fun h => absurd h hlt⟩
      clear hon
      go_wp2
      try rw [Exit.noGoto_ret]
      go_ret
      exact ⟨q, rfl, HG.out, rfl⟩

end Go.Proofs.YtifbhlgingaahaaDoor
