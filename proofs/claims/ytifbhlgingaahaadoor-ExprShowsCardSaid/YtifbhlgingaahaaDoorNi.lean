/- What Right and Depth do, the program's and the reference's. -/
import Derived.Test.YtifbhlgingaahaaDoorNh
namespace Go.Proofs.YtifbhlgingaahaaDoor
open Go.RowKit

/-- Whether nodes are a right expression. -/
def rightP (l : List Nd) : Prop := ∃ e : Ex, e.wf ∧ e.flat = l ∧ l.length ≤ 200 ∧ l.all okN = true ∧ e.depth ≤ 30

/-- No name is long. -/
def NmOK (l : List Nd) : Prop := ∀ i, (h : i < l.length) → l[i].nm.size ≤ 100000 ∧ l[i].inn.size ≤ 100000

def IdxAns (b : Bool) (w : World) (e : Ending) (w' : World) : Prop := ∃ z : Int, e = .returned (.int .i64 z) ∧ decide (0 ≤ z) = b ∧ Below w.heap.size w w'

set_option maxHeartbeats 2000000 in
theorem idx_any (l : List Nd) (v : Value) (w : World) (hv : Nds w v l) (hn : l.length ≤ 100000) (hz : NmOK l) :
    Calls Tryd.prog 32 #[v, .func (.func 22) #[] #[]] w (IdxAns (!l.all okN) w) := by
  obtain ⟨B, hB⟩ : ∃ B, (l.drop 0).all okN = B := ⟨_, rfl⟩
  rw [show l.all okN = B from hB]
  have HB0 := Lib.hid hB
  obtain ⟨ad, cap, rfl, hc⟩ := hv.cases
  obtain ⟨n, hN⟩ : ∃ n, n = l.length := ⟨_, rfl⟩
  rw [← hN] at hn ⊢
  have HC := Lib.hid hc
  have HN := Lib.hid hN
  have HZ := Lib.hid hz
  clear hc hN hv hz hB
  go_enter Tryd.func32, Tryd.ntmps32
  go_wp2_with fail
  go_loopg [8] n (fun fuel i' wr => ∃ k : Nat, i' = .int .i64 k ∧ k ≤ n ∧ n - k ≤ fuel ∧ (l.drop k).all okN = B ∧ Below w.heap.size w wr)
  case atStart => exact ⟨0, rfl, Nat.zero_le _, Nat.le_refl _, HB0.out, Below.refl _ _⟩
  case round =>
    obtain ⟨k, rfl, hk, hf, ha, hb⟩ := hrel
    have HA := Lib.hid ha
    have HB := Lib.hid hb
    have hww := hb.size
    clear ha hb
    by_cases hlt : k < n
    · have hk' : k < l.length := by have := HN.out; omega
      have HE := Lib.hid (List.all_cons (f := okN) (a := l[k]) (l := l.drop (k + 1)))
      have HD := Lib.hid (List.drop_eq_getElem_cons hk')
      obtain ⟨b, off, rfl, hbl, x0, x1, x2, x3, x4⟩ := HC.out k hk'
      have hnm := HZ.out k hk'
      obtain ⟨⟨xo, xn, xm, xi, xp⟩, hx⟩ : ∃ x, x = l[k] := ⟨_, rfl⟩
      have HX := Lib.hid hx
      rw [← hx] at x0 x1 x2 x3 x4 hnm
      simp only [] at x0 x1 x2 x3 x4 hnm
      clear hx
      have c0 : wr.cell? ⟨b, off + k * 5, none⟩ = some (.int .i64 xo) := (HB.out.cell (p := ⟨b, _, none⟩) hbl).trans x0
      have c1 : wr.cell? ⟨b, off + k * 5 + 1, none⟩ = some (.int .i64 xn) := (HB.out.cell (p := ⟨b, _, none⟩) hbl).trans x1
      have c2 : wr.cell? ⟨b, off + k * 5 + 2, none⟩ = some (.string xm) := (HB.out.cell (p := ⟨b, _, none⟩) hbl).trans x2
      have c3 : wr.cell? ⟨b, off + k * 5 + 3, none⟩ = some (.string xi) := (HB.out.cell (p := ⟨b, _, none⟩) hbl).trans x3
      have c4 : wr.cell? ⟨b, off + k * 5 + 4, none⟩ = some (.int .i64 xp) := (HB.out.cell (p := ⟨b, _, none⟩) hbl).trans x4
      obtain ⟨q, hq⟩ : ∃ q, okN ⟨xo, xn, xm, xi, xp⟩ = q := ⟨_, rfl⟩
      have HFL : ∀ w, Calls Tryd.prog 22 #[.agg #[.int .i64 xo, .int .i64 xn, .string xm, .string xi, .int .i64 xp]] w fun e w' => e = .returned (.bool (!q)) ∧ Below w.heap.size w w' := fun w => by
        rw [← hq]; exact flawed_any ⟨xo, xn, xm, xi, xp⟩ w hnm
      have HQ := Lib.hid hq
      clear x0 x1 x2 x3 x4 hq
      go_wp2_with fail
      refine (HFL _).mono ?_
      rintro e w2 ⟨rfl, hb2⟩
      have HB2 := Lib.hid (HB.out.trans (hb2.mono hww))
      clear hb2 c0 c1 c2 c3 c4
      cases q with
      | true =>
        go_wp2
        go_roundg (gk - 1)
        case measure => omega
        case rel =>
          refine ⟨k + 1, by go_num, by omega, by omega, ?_, HB2.out⟩
          have := HA.out
          rw [HD.out, HE.out, ← HX.out, HQ.out] at this
          simpa using this
      | false =>
        go_wp2
        go_ret
        refine ⟨k, rfl, ?_, HB2.out⟩
        have := HA.out
        rw [HD.out, HE.out, ← HX.out, HQ.out] at this
        rw [← this]; simp
    · have HE := Lib.hid (drop_over l k (by have := HN.out; omega))
      go_wp2
      go_ret
      refine ⟨-1, rfl, ?_, HB.out⟩
      have := HA.out
      rw [HE.out] at this
      rw [← this]; rfl

set_option maxHeartbeats 400000 in
theorem contains_any (l : List Nd) (v : Value) (w : World) (hv : Nds w v l) (hn : l.length ≤ 100000) (hz : NmOK l) (b : Bool) (hb : l.all okN = b) :
    Calls Tryd.prog 21 #[v, .func (.func 22) #[] #[]] w fun e w' => e = .returned (.bool (!b)) ∧ Below w.heap.size w w' := by
  have H := idx_any l v w hv hn hz
  rw [hb] at H
  clear hv hn hz hb
  go_enter Tryd.func21, Tryd.ntmps21
  go_wp2_with fail
  refine H.mono ?_
  rintro e w2 ⟨z, rfl, hz, hb2⟩
  have HZ := Lib.hid hz
  clear hz
  go_wp2
  go_ret
  exact ⟨ret_bool HZ.out, hb2⟩

open Classical in
/-- Whether nodes are a right expression, as a Bool. -/
noncomputable def rightB (l : List Nd) : Bool := decide (rightP l)

open Classical in
theorem right_no (l : List Nd) (h : ¬ rightP l) : rightB l = false := by unfold rightB; exact decide_eq_false h
open Classical in
theorem right_yes (l : List Nd) (h : rightP l) : rightB l = true := by unfold rightB; exact decide_eq_true h

/-- What there is to know of nodes that are not too many. -/
theorem right_cases (l : List Nd) : (¬ rightP l ∧ (200 < l.length ∨ endL l 0 ≠ l.length)) ∨ ∃ e : Ex, e.wf ∧ e.flat = l ∧ l.length ≤ 200 ∧ endL l 0 = l.length ∧ rightB l = (l.all okN && decide (e.depth ≤ 30)) := by
  by_cases h : 200 < l.length
  · exact .inl ⟨fun ⟨e, _, _, h3, _⟩ => by omega, .inl h⟩
  · by_cases h2 : endL l 0 = l.length
    · right
      obtain ⟨e, h3, h4⟩ := tree_of_end l h2 (fun h0 => by rw [h0] at h2; simp [endL, endF, endI] at h2)
      refine ⟨e, h3, h4, by omega, h2, ?_⟩
      by_cases h5 : l.all okN = true ∧ e.depth ≤ 30
      · rw [right_yes l ⟨e, h3, h4, by omega, h5.1, h5.2⟩, h5.1, decide_eq_true h5.2]; rfl
      · rw [right_no l]
        · cases h6 : l.all okN with
          | false => rfl
          | true => rw [decide_eq_false (fun h7 => h5 ⟨h6, h7⟩)]; rfl
        · rintro ⟨e', g1, g2, g3, g4, g5⟩
          refine h5 ⟨g4, ?_⟩
          have := Ex.flat_inj e e' h3 g1 (h4.trans g2.symm)
          rw [this]; exact g5
    · exact .inl ⟨fun ⟨e, g1, g2, _⟩ => h2 (by rw [← g2]; exact end_of_tree e g1), .inr h2⟩

set_option maxHeartbeats 2000000 in
theorem right_any (l : List Nd) (v : Value) (w : World) (hv : Nds w v l) (hn : l.length ≤ 100000) (hz : NmOK l) (b : Bool) (hb : rightB l = b) :
    Calls Tryd.prog 8 #[v] w fun e w' => e = .returned (.bool b) ∧ Below w.heap.size w w' := by
  have HEND := fun w hv => end_any l v 0 w hv hn
  obtain ⟨ad, cap, hv0, _⟩ := hv.cases
  rcases right_cases l with ⟨h1, h2⟩ | ⟨e, h1, h2, h3, h4, h5⟩
  · rw [right_no l h1] at hb
    subst hb
    by_cases hl : 200 < l.length
    · subst hv0
      have HL := Lib.hid hl
      obtain ⟨n, hN⟩ : ∃ n, n = l.length := ⟨_, rfl⟩
      rw [← hN] at hl hn ⊢
      clear h2 h1 hN hv HEND hz HL
      go_enter Tryd.func8, Tryd.ntmps8
      go_wp2_with fail
      go_ret
      exact ⟨rfl, Below.refl _ _⟩
    · have h2' : endL l 0 ≠ l.length := by rcases h2 with h | h; exact absurd h hl; exact h
      have HE := HEND w hv
      obtain ⟨z, hz2⟩ : ∃ z, z = endL l 0 := ⟨_, rfl⟩
      rw [← hz2] at HE h2'
      subst hv0
      obtain ⟨n, hN⟩ : ∃ n, n = l.length := ⟨_, rfl⟩
      rw [← hN] at hl hn h2' HE ⊢
      have q : (z != (n : Int)) = true := by simpa using h2'
      clear h2 h1 hN hv HEND hz hz2 h2'
      go_enter Tryd.func8, Tryd.ntmps8
      go_wp2_with fail
      refine HE.mono ?_
      rintro e w1 ⟨rfl, rfl⟩
      go_wp2
      go_ret
      exact ⟨rfl, Below.refl _ _⟩
  · rw [h5] at hb
    have HE := HEND w hv
    rw [h4] at HE
    obtain ⟨a, ha⟩ : ∃ a, l.all okN = a := ⟨_, rfl⟩
    have HCO := Lib.hid (contains_any l v w hv hn hz a ha)
    rw [ha] at hb
    have HHE : Hid (∀ w', Below w.heap.size w w' → Calls Tryd.prog 23 #[v] w' fun e' w'' => e' = .returned (.int .i64 e.depth) ∧ Below w'.heap.size w' w'') := fun w' h => height_any e v w' (by rw [h2]; exact hv.below h) h1 (by rw [h2]; omega) (by have := e.depth_le; rw [← e.flat_length, h2] at this; omega)
    obtain ⟨dp, hdp⟩ : ∃ dp, dp = e.depth := ⟨_, rfl⟩
    rw [← hdp] at HHE hb
    have hdl : dp ≤ 200 := by have := e.depth_le; rw [← e.flat_length, h2] at this; omega
    subst hv0
    obtain ⟨n, hN⟩ : ∃ n, n = l.length := ⟨_, rfl⟩
    rw [← hN] at h3 hn HE HCO HHE ⊢
    have q : (((n : Int)) != (n : Int)) = false := by simp
    have HBB := Lib.hid hb
    clear h5 h4 HEND hz hv hN hdp ha hb h2 h1
    go_enter Tryd.func8, Tryd.ntmps8
    go_wp2_with fail
    refine HE.mono ?_
    rintro e w1 ⟨rfl, rfl⟩
    go_wp2_with fail
    refine HCO.out.mono ?_
    rintro e w1 ⟨rfl, hb1⟩
    cases a with
    | false =>
      have : b = false := by rw [← HBB.out]; rfl
      subst this
      go_wp2
      go_ret
      exact ⟨rfl, hb1⟩
    | true =>
      go_wp2_with fail
      refine (HHE.out _ hb1).mono ?_
      rintro e w2 ⟨rfl, hb2⟩
      go_wp2
      go_ret
      exact ⟨ret_bool (by rw [← HBB.out, Bool.eq_iff_iff]; simp; try omega), hb1.trans (hb2.mono hb1.size)⟩

end Go.Proofs.YtifbhlgingaahaaDoor
