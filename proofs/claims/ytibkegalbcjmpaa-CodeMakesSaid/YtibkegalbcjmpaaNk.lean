/- What the reference's Right and Depth do. -/
import Derived.Test.YtibkegalbcjmpaaNh
namespace Go.Proofs.Ytibkegalbcjmpaa
open Go.RowKit

set_option maxRecDepth 100000 in
set_option maxHeartbeats 4000000 in
theorem rright_any (l : List Nd) (v : Value) (w : World) (hv : Nds w v l) (hn : l.length ≤ 100000) (hz : NmOK l) (b : Bool) (hb : rightB l = b) :
    Calls Try.prog 29 #[v] w fun e w' => e = .returned (.bool b) ∧ Below w.heap.size w w' := by
  have HEND := fun w hv => rend_any l v 0 w hv hn
  obtain ⟨ad, cap, hv0, hc⟩ := hv.cases
  rcases right_cases l with ⟨h1, h2⟩ | ⟨e, h1, h2, h3, h4, h5⟩
  · rw [right_no l h1] at hb
    subst hb
    by_cases hl : 200 < l.length
    · subst hv0
      have HL := Lib.hid hl
      obtain ⟨n, hN⟩ : ∃ n, n = l.length := ⟨_, rfl⟩
      rw [← hN] at hl hn ⊢
      clear h2 h1 hN hv HEND hz HL hc
      go_enter Try.func29, Try.ntmps29
      go_wp2_with fail
      go_ret
      exact ⟨rfl, Below.refl _ _⟩
    · have h2' : endL l 0 ≠ l.length := by rcases h2 with h | h; exact absurd h hl; exact h
      have HE := HEND w hv
      obtain ⟨z, hz2⟩ : ∃ z, z = endL l 0 := ⟨_, rfl⟩
      rw [← hz2] at HE h2'
      subst hv0
      obtain ⟨n, hN⟩ : ∃ n, n = l.length := ⟨_, rfl⟩
      rw [← hN] at hl hn h2' HE ⊢
      have q : (z != (n : Int)) = true := by simpa using h2'
      clear h2 h1 hN hv HEND hz hz2 h2' hc
      by_cases h0 : n = 0
      · subst h0
        go_enter Try.func29, Try.ntmps29
        go_wp2_with fail
        go_ret
        exact ⟨rfl, Below.refl _ _⟩
      · have q1 : ((n : Int) == 0) = false := by simp; omega
        go_enter Try.func29, Try.ntmps29
        go_wp2_with fail
        refine HE.mono ?_
        rintro e w1 ⟨rfl, rfl⟩
        go_wp2
        go_ret
        exact ⟨rfl, Below.refl _ _⟩
  · rw [h5] at hb
    have HE := HEND w hv
    rw [h4] at HE
    have HDEEP : Hid (∀ w', Below w.heap.size w w' → Calls Try.prog 54 #[v, .int .i64 0] w' fun e' w'' => e' = .returned (.int .i64 e.depth) ∧ w' = w'') := fun w' h => by
      have := deep_any l (by omega) e.size e 0 [] v w' (Nat.le_refl _) h1 (by rw [← h2]; simp) (hv.below h)
      exact this
    obtain ⟨dp, hdp⟩ : ∃ dp, dp = e.depth := ⟨_, rfl⟩
    rw [← hdp] at HDEEP hb
    have hdl : dp ≤ 200 := by have := e.depth_le; rw [← e.flat_length, h2] at this; omega
    have hpos : 0 < l.length := by rw [← h2, e.flat_length]; exact e.size_pos'
    subst hv0
    obtain ⟨n, hN⟩ : ∃ n, n = l.length := ⟨_, rfl⟩
    obtain ⟨A, hA⟩ : ∃ A, (l.drop 0).all okN = A := ⟨_, rfl⟩
    rw [show l.all okN = A from hA] at hb
    have HA0 := Lib.hid hA
    rw [← hN] at h3 hn HE HDEEP hpos ⊢
    have q : (((n : Int)) != (n : Int)) = false := by simp
    have q1 : ((n : Int) == 0) = false := by simp; omega
    have HBB := Lib.hid hb
    have HC := Lib.hid hc
    have HN := Lib.hid hN
    have HZ := Lib.hid hz
    clear h5 h4 HEND hz hv hN hdp hb h2 h1 hA hc
    go_enter Try.func29, Try.ntmps29
    go_wp2_with fail
    refine HE.mono ?_
    rintro e w1 ⟨rfl, rfl⟩
    go_wp2_with fail
    go_loopg [3] n (fun fuel i' wr => ∃ k : Nat, i' = .int .i64 k ∧ k ≤ n ∧ n - k ≤ fuel ∧ (l.drop k).all okN = A ∧ Below w.heap.size w wr)
    case atStart => exact ⟨0, rfl, Nat.zero_le _, Nat.le_refl _, HA0.out, Below.refl _ _⟩
    case round =>
      obtain ⟨k, rfl, hk, hf, ha, hb⟩ := hrel
      have HA := Lib.hid ha
      have HB := Lib.hid hb
      have hww := hb.size
      clear ha hb
      by_cases hlt : k < n
      · have hk' : k < l.length := by have := HN.out; omega
        have HE2 := Lib.hid (List.all_cons (f := okN) (a := l[k]) (l := l.drop (k + 1)))
        have HD := Lib.hid (List.drop_eq_getElem_cons hk')
        obtain ⟨b, off, rfl, hbl, x0, x1, x2, x3, x4⟩ := HC.out k hk'
        have hnm := HZ.out k hk'
        obtain ⟨⟨xo, xn, xm, xi, xp⟩, hx⟩ : ∃ x, x = l[k] := ⟨_, rfl⟩
        have HX := Lib.hid hx
        rw [← hx] at x0 x1 x2 x3 x4 hnm
        simp only [] at x0 x1 x2 x3 x4 hnm
        clear hx
        have c0 : wr.cell? ⟨b, off + k * 5, none⟩ = some (.int .i64 xo) := (HB.out.cell (p := ⟨b, _, none⟩) hbl).trans x0
        have c1 : wr.cell? ⟨b, off + k * 5 + 1, none⟩ = some (.int .i64 xn) := (HB.out.cell (p := ⟨b, _, none⟩) hbl).trans x1
        have c2 : wr.cell? ⟨b, off + k * 5 + 2, none⟩ = some (.string xm) := (HB.out.cell (p := ⟨b, _, none⟩) hbl).trans x2
        have c3 : wr.cell? ⟨b, off + k * 5 + 3, none⟩ = some (.string xi) := (HB.out.cell (p := ⟨b, _, none⟩) hbl).trans x3
        have c4 : wr.cell? ⟨b, off + k * 5 + 4, none⟩ = some (.int .i64 xp) := (HB.out.cell (p := ⟨b, _, none⟩) hbl).trans x4
        obtain ⟨q, hq⟩ : ∃ q, okN ⟨xo, xn, xm, xi, xp⟩ = q := ⟨_, rfl⟩
        have HFL : ∀ w, Calls Try.prog 53 #[.agg #[.int .i64 xo, .int .i64 xn, .string xm, .string xi, .int .i64 xp]] w fun e w' => e = .returned (.bool q) ∧ Below w.heap.size w w' := fun w => rnode_any ⟨xo, xn, xm, xi, xp⟩ w hnm q hq
        have HQ := Lib.hid hq
        clear x0 x1 x2 x3 x4 hq
        go_wp2_with fail
        refine (HFL _).mono ?_
        rintro e w2 ⟨rfl, hb2⟩
        have HB2 := Lib.hid (HB.out.trans (hb2.mono hww))
        clear hb2 c0 c1 c2 c3 c4
        cases q with
        | true =>
          go_wp2
          go_roundg (gk - 1)
          case measure => omega
          case rel =>
            refine ⟨k + 1, by go_num, by omega, by omega, ?_, HB2.out⟩
            have := HA.out
            rw [HD.out, HE2.out, ← HX.out, HQ.out] at this
            simpa using this
        | false =>
          go_wp2
          go_ret
          refine ⟨ret_bool ?_, HB2.out⟩
          have := HA.out
          rw [HD.out, HE2.out, ← HX.out, HQ.out] at this
          rw [← HBB.out, ← this]; rfl
      · have HE2 := Lib.hid (drop_over l k (by have := HN.out; omega))
        have HDD := Lib.hid (HDEEP.out _ HB.out)
        go_wp2_with fail
        refine HDD.out.mono ?_
        rintro e w2 ⟨rfl, rfl⟩
        go_wp2
        go_ret
        refine ⟨ret_bool ?_, HB.out⟩
        have := HA.out
        rw [HE2.out] at this
        rw [← HBB.out, ← this, Bool.eq_iff_iff]
        simp
        try omega

end Go.Proofs.Ytibkegalbcjmpaa
