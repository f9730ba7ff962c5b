/- Layer 8: Right of a buffer. -/
import Derived.Test.YtmkgijedchpgcaaUr
namespace Go.Proofs.Ytmkgijedchpgcaa
set_option linter.unusedSimpArgs false
set_option linter.unusedVariables false
open Go.RowKit

/-- Where an entry stands first. -/
def fstL (p : Ent → Bool) : List Ent → Nat → Int
  | [], _ => -1
  | e :: r, k => if p e = true then (k : Int) else fstL p r (k + 1)
theorem fstL_at (p : Ent → Bool) (l : List Ent) (k : Nat) (h : k < l.length) : fstL p (l.drop k) k = if p l[k] = true then (k : Int) else fstL p (l.drop (k + 1)) (k + 1) := by
  rw [List.drop_eq_getElem_cons h]; rfl
theorem fstL_over (p : Ent → Bool) (l : List Ent) (k : Nat) (h : ¬ k < l.length) : fstL p (l.drop k) k = -1 := by
  rw [drop_over l k h]; rfl
theorem fstL_range (p : Ent → Bool) (l : List Ent) : ∀ k, fstL p l k = -1 ∨ ((k : Int) ≤ fstL p l k ∧ fstL p l k < k + l.length) := by
  induction l with
  | nil => intro k; exact .inl rfl
  | cons a r ih =>
    intro k
    unfold fstL
    split
    · right; simp; omega
    · rcases ih (k + 1) with h | h
      · exact .inl h
      · right; simp; omega

theorem sbelow_any (i n : Int) (w : World) : Calls Try.prog 50 #[.int .i64 i, .int .i64 n] w fun e w' => e = .returned (.bool (inB i n)) ∧ w = w' := by
  go_enter Try.func50, Try.ntmps50
  go_wp2
  all_goals
    go_ret
    exact ⟨ret_bool (by simp_all [inB] <;> omega), rfl⟩
theorem sbelow_is (i n : Int) (b : Bool) (h : inB i n = b) (w : World) : Calls Try.prog 50 #[.int .i64 i, .int .i64 n] w fun e w' => e = .returned (.bool b) ∧ w = w' := h ▸ sbelow_any i n w

/-- Is an entry strange? -/
def oddL (mod locs : Int) (e : Ent) : Bool := !inB e.1 locs || !inB e.2 mod
set_option maxRecDepth 100000 in
set_option maxHeartbeats 2000000 in
theorem right1_any (x y mod locs : Int) (p1 p2 : Nat) (w : World) (h1 : w.cell? ⟨p1, 0, none⟩ = some (.int .i64 locs)) (h2 : w.cell? ⟨p2, 0, none⟩ = some (.int .i64 mod)) :
    Calls Try.prog 49 #[.agg #[.int .i64 x, .int .i64 y], .pointer (some ⟨p1, 0, none⟩), .pointer (some ⟨p2, 0, none⟩)] w fun e w' => e = .returned (.bool (oddL mod locs (x, y))) ∧ Below w.heap.size w w' := by
  have l1 := World.block_lt_of_cell? w ⟨p1, 0, none⟩ h1
  have l2 := World.block_lt_of_cell? w ⟨p2, 0, none⟩ h2
  simp only [] at l1 l2
  obtain ⟨q1, hq1⟩ : ∃ q, inB x locs = q := ⟨_, rfl⟩
  obtain ⟨q2, hq2⟩ : ∃ q, inB y mod = q := ⟨_, rfl⟩
  have H1 := Lib.hid (sbelow_is x locs q1 hq1)
  have H2 := Lib.hid (sbelow_is y mod q2 hq2)
  have HR : Hid (oddL mod locs (x, y) = (!q1 || !q2)) := Lib.hid (by unfold oddL; rw [hq1, hq2])
  clear hq1 hq2
  cases q1
  · go_enter Try.func49, Try.ntmps49
    go_wp2_with (go_at_call 50; refine (H1.out _).mono ?_; rintro e w2 ⟨rfl, rfl⟩)
    go_ret
    exact ⟨ret_bool HR.out.symm, (Below.refl _ _).alloc (Nat.le_refl _) _⟩
  · go_enter Try.func49, Try.ntmps49
    go_wp2_with fail
    refine (H1.out _).mono ?_
    rintro e w2 ⟨rfl, rfl⟩
    go_wp2_with fail
    refine (H2.out _).mono ?_
    rintro e w2 ⟨rfl, rfl⟩
    go_wp2
    go_ret
    exact ⟨ret_bool (by rw [HR.out]; cases q2 <;> rfl), (Below.refl _ _).alloc (Nat.le_refl _) _⟩

set_option maxRecDepth 100000 in
set_option maxHeartbeats 2000000 in
theorem rgt_idx (l : List Ent) (v : Value) (w : World) (hv : EntsD w v l) (hn : l.length ≤ 100000) (FL : Ent → Bool) (p1 p2 : Nat)
    (hF : ∀ w' x y, Below w.heap.size w w' → Calls Try.prog 49 #[.agg #[.int .i64 x, .int .i64 y], .pointer (some ⟨p1, 0, none⟩), .pointer (some ⟨p2, 0, none⟩)] w' fun e w'' => e = .returned (.bool (FL (x, y))) ∧ Below w'.heap.size w' w'') (z : Int) (hz : fstL FL l 0 = z) :
    Calls Try.prog 60 #[v, .func (.func 49) #[] #[.pointer (some ⟨p1, 0, none⟩), .pointer (some ⟨p2, 0, none⟩)]] w fun e w' => e = .returned (.int .i64 z) ∧ Below w.heap.size w w' := by
  have HZ : Hid (fstL FL (l.drop 0) 0 = z) := Lib.hid hz
  obtain ⟨ad, cap, rfl, hcap1, hcap2, hc⟩ := hv
  have HC := Lib.hid hc
  have HF := Lib.hid hF
  obtain ⟨n, hN⟩ : ∃ n, n = l.length := ⟨_, rfl⟩
  rw [← hN] at hn ⊢
  have HN := Lib.hid hN
  clear hN hc hcap1 hcap2 hz hF
  go_enter Try.func60, Try.ntmps60
  go_wp2_with fail
  go_loopg [8] n (fun fuel i' wr => ∃ k : Nat, i' = .int .i64 k ∧ k ≤ n ∧ n - k ≤ fuel ∧ fstL FL (l.drop k) k = z ∧ Below w.heap.size w wr)
  case atStart => exact ⟨0, rfl, Nat.zero_le _, Nat.le_refl _, HZ.out, Below.refl _ _⟩
  case round =>
    obtain ⟨k, rfl, hk, hf, ha, hb⟩ := hrel
    have HA := Lib.hid ha
    have HB := Lib.hid hb
    have hww := hb.size
    clear ha hb
    by_cases hlt : k < n
    · have hk' : k < l.length := by have := HN.out; omega
      have HE := Lib.hid (fstL_at FL l k hk')
      obtain ⟨b, off, rfl, hbl, x0, x1⟩ := HC.out k hk'
      obtain ⟨⟨xl, xn⟩, hx⟩ : ∃ x, x = l[k] := ⟨_, rfl⟩
      rw [← hx] at x0 x1 HE
      simp only [] at x0 x1
      have HFL := Lib.hid (HF.out wr xl xn HB.out)
      obtain ⟨q, hq⟩ : ∃ q, FL (xl, xn) = q := ⟨_, rfl⟩
      rw [hq] at HFL HE
      have c0 : wr.cell? ⟨b, off + k * 2, none⟩ = some (.int .i64 xl) := (HB.out.cell (p := ⟨b, _, none⟩) hbl).trans x0
      have c1 : wr.cell? ⟨b, off + k * 2 + 1, none⟩ = some (.int .i64 xn) := (HB.out.cell (p := ⟨b, _, none⟩) hbl).trans x1
      clear x0 x1 hx hq
      go_wp2_with fail
      refine HFL.out.mono ?_
      rintro e w2 ⟨rfl, hb2⟩
      have HB2 := Lib.hid (HB.out.trans (hb2.mono hww))
      clear hb2 c0 c1
      cases q with
      | false =>
        go_wp2
        go_roundg (gk - 1)
        case measure => omega
        case rel =>
          have h2 := HA.out
          rw [HE.out] at h2; first | rw [if_neg not_false] at h2 | rw [if_neg (by decide)] at h2
          exact ⟨k + 1, by go_num, by omega, by omega, h2, HB2.out⟩
      | true =>
        go_wp2
        go_ret
        have h2 := HA.out
        rw [HE.out, if_pos trivial] at h2
        exact ⟨ret_int h2, HB2.out⟩
    · have HE := Lib.hid (fstL_over FL l k (by have := HN.out; omega))
      go_wp2
      go_ret
      have h2 := HA.out
      rw [HE.out] at h2
      exact ⟨ret_int h2, HB.out⟩

theorem bk_one (w : World) (x : Value) (t : Nat) : (w.alloc (.cells #[x] t)).cell? ⟨w.heap.size, 0, none⟩ = some x := (Bk.new w t #[x]).cell 0

/-- Does the entry at k break the order, or stand too late? -/
def badAt (l : List Ent) (r k : Nat) : Bool := decide ((0 < k ∧ (l.getD k (0, 0)).1 < (l.getD (k - 1) (0, 0)).1) ∨ (r ≤ k ∧ (l.getD k (0, 0)).1 = (l.getD (k - r) (0, 0)).1))
def ordF (l : List Ent) (r : Nat) : Nat → Nat → Bool
  | 0, _ => true
  | f + 1, k => if badAt l r k = true then false else ordF l r f (k + 1)
def ordL (l : List Ent) (r : Nat) : Bool := ordF l r l.length 0

theorem EntsD.at {w : World} {v : Value} {xs : List Ent} (h : EntsD w v xs) (k : Nat) (hk : k < xs.length) : ∃ b off cap, v = .slice (some ⟨b, off, none⟩) xs.length cap ∧ b < w.heap.size ∧ w.cell? ⟨b, off + k * 2, none⟩ = some (.int .i64 (xs.getD k (0, 0)).1) := by
  obtain ⟨ad, cap, hv, _, _, hc⟩ := h
  obtain ⟨b, off, rfl, hl, h3, _⟩ := hc _ hk
  exact ⟨b, off, cap, hv, hl, by rw [getD_at _ _ hk]; exact h3⟩

set_option maxRecDepth 100000 in
set_option maxHeartbeats 4000000 in
theorem order_any (l : List Ent) (v : Value) (r : Nat) (w : World) (hv : EntsD w v l) (hn : l.length ≤ 100000) (hr : 1 ≤ r ∧ r ≤ 4) (z : Bool) (hz : ordL l r = z) :
    Calls Try.prog 59 #[v, .int .i64 r] w fun e w' => e = .returned (.bool z) ∧ Below w.heap.size w w' := by
  obtain ⟨hr1, hr4⟩ := hr
  have HZ : Hid (ordF l r (l.length - 0) 0 = z) := Lib.hid hz
  have HV := Lib.hid hv
  obtain ⟨ad, cap, rfl, hcap1, hcap2, hc⟩ := hv
  have HC := Lib.hid hc
  obtain ⟨n, hN⟩ : ∃ n, n = l.length := ⟨_, rfl⟩
  rw [← hN] at hn HZ ⊢
  have HN := Lib.hid hN
  clear hN hc hcap1 hcap2 hz
  go_enter Try.func59, Try.ntmps59
  go_wp2_with fail
  go_loopg [9] n (fun fuel i' wr => ∃ k : Nat, i' = .int .i64 k ∧ k ≤ n ∧ n - k ≤ fuel ∧ ordF l r (n - k) k = z ∧ Below w.heap.size w wr)
  case atStart => exact ⟨0, rfl, Nat.zero_le _, Nat.le_refl _, HZ.out, Below.refl _ _⟩
  case round =>
    obtain ⟨k, rfl, hk, hf, ha, hb⟩ := hrel
    have HA := Lib.hid ha
    have HB := Lib.hid hb
    have hww := hb.size
    clear ha hb
    by_cases hlt : k < n
    · have hk' : k < l.length := by have := HN.out; omega
      have HE : Hid (ordF l r (n - k) k = if badAt l r k = true then false else ordF l r (n - (k + 1)) (k + 1)) := Lib.hid (by rw [show n - k = (n - (k + 1)) + 1 by omega]; rfl)
      obtain ⟨b, off, rfl, hbl, x0, x1⟩ := HC.out k hk'
      have hgk : (l.getD k (0, 0)).1 = l[k].1 := by rw [getD_at _ _ hk']
      obtain ⟨⟨xl, xn⟩, hx⟩ : ∃ x, x = l[k] := ⟨_, rfl⟩
      rw [← hx] at x0 x1 hgk
      simp only [] at x0 x1 hgk
      have c0 : wr.cell? ⟨b, off + k * 2, none⟩ = some (.int .i64 xl) := (HB.out.cell (p := ⟨b, _, none⟩) hbl).trans x0
      have c1 : wr.cell? ⟨b, off + k * 2 + 1, none⟩ = some (.int .i64 xn) := (HB.out.cell (p := ⟨b, _, none⟩) hbl).trans x1
      have K1 := Lib.hid (Bk.new wr 50 #[.int .i64 xl, .int .i64 xn])
      have L1 : Hid (Below wr.heap.size wr (wr.alloc (.cells #[.int .i64 xl, .int .i64 xn] 50))) := (Below.refl _ _).alloc (Nat.le_refl _) _
      have hbr : b < wr.heap.size := Nat.lt_of_lt_of_le hbl hww
      clear x0 x1 hx
      by_cases h0 : k = 0
      · have q0 : decide ((0 : Int) < (k : Int)) = false := decide_eq_false (by omega)
        have q0' : decide (0 < k) = false := decide_eq_false (by omega)
        have q3 : decide ((r : Int) ≤ (k : Int)) = false := decide_eq_false (by omega)
        have q3' : decide (r ≤ k) = false := decide_eq_false (by omega)
        have HBAD : Hid (badAt l r k = false) := Lib.hid (by unfold badAt; exact decide_eq_false (by omega))
        clear hgk h0
        go_wp2_with fail
        generalize wr.alloc _ = w1 at K1 L1 ⊢
        have BQ := Lib.hid (fun q => below_drewN' (HB.out.trans (L1.out.mono hww)) q)
        have c3 : w1.cell? ⟨wr.heap.size, 0, none⟩ = some (.int .i64 xl) := K1.out.cell 0
        have hlt3 := K1.out.lt
        clear c0 c1 K1 L1
        go_quiet (fail)
        go_wp2
        go_roundg (gk - 1)
        case measure => omega
        case rel =>
          refine ⟨k + 1, by go_num, by omega, by omega, ?_, BQ.out _⟩
          have h2 := HA.out
          rw [HE.out, HBAD.out] at h2
          simpa using h2
      · obtain ⟨j, hj⟩ : ∃ j, k = j + 1 := ⟨k - 1, by omega⟩
        have hj' : j < l.length := by omega
        obtain ⟨b2, off2, cap2, hb2, _, y0⟩ := EntsD.at HV.out j hj'
        obtain ⟨rfl, rfl⟩ : b2 = b ∧ off2 = off := by injection hb2 with e1; injection e1 with e1; injection e1 with e2 e3; exact ⟨e2.symm, e3.symm⟩
        obtain ⟨pl, hpl⟩ : ∃ p, (l.getD j (0, 0)).1 = p := ⟨_, rfl⟩
        rw [hpl] at y0
        have c5 : wr.cell? ⟨b2, off2 + j * 2, none⟩ = some (.int .i64 pl) := (HB.out.cell (p := ⟨b2, _, none⟩) hbl).trans y0
        have ew : IntKind.i64.wrap ((k : Int) - 1) = (j : Int) := by rw [IntKind.wrap_i64]; omega
        have g0 : (0 : Int) ≤ (j : Int) := Int.natCast_nonneg _
        have g1 : (j : Int) < (n : Int) := by omega
        have g2 : j < n := by omega
        have q0 : decide ((0 : Int) < (k : Int)) = true := decide_eq_true (by omega)
        have q0' : decide (0 < k) = true := decide_eq_true (by omega)
        have hkj : k - 1 = j := by omega
        clear hb2 y0
        by_cases h1 : xl < pl
        · have q1 : decide (xl < pl) = true := decide_eq_true h1
          have HBAD : Hid (badAt l r k = true) := Lib.hid (by unfold badAt; rw [hkj, hgk, hpl]; exact decide_eq_true (.inl ⟨by omega, h1⟩))
          clear hgk h0 hj hj' hpl hkj h1
          go_wp2_with fail
          generalize wr.alloc _ = w1 at K1 L1 ⊢
          have BQ := Lib.hid (fun q => below_drewN' (HB.out.trans (L1.out.mono hww)) q)
          have c3 : w1.cell? ⟨wr.heap.size, 0, none⟩ = some (.int .i64 xl) := K1.out.cell 0
          have c6 : w1.cell? ⟨b2, off2 + j * 2, none⟩ = some (.int .i64 pl) := (L1.out.cell (p := ⟨b2, _, none⟩) hbr).trans c5
          have hlt3 := K1.out.lt
          clear c0 c1 K1 L1
          go_quiet (fail)
          go_wp2
          go_ret
          have h2 := HA.out
          rw [HE.out, HBAD.out] at h2
          exact ⟨ret_bool (by simpa using h2), BQ.out _⟩
        · have q1 : decide (xl < pl) = false := decide_eq_false h1
          by_cases h3 : r ≤ k
          · have q3 : decide ((r : Int) ≤ (k : Int)) = true := decide_eq_true (by omega)
            have q3' : decide (r ≤ k) = true := decide_eq_true h3
            obtain ⟨m, hm⟩ : ∃ m, k - r = m := ⟨_, rfl⟩
            have hm' : m < l.length := by omega
            obtain ⟨b3, off3, cap3, hb3, _, y3⟩ := EntsD.at HV.out m hm'
            obtain ⟨rfl, rfl⟩ : b3 = b2 ∧ off3 = off2 := by injection hb3 with e1; injection e1 with e1; injection e1 with e2 e3; exact ⟨e2.symm, e3.symm⟩
            obtain ⟨ql, hql⟩ : ∃ p, (l.getD m (0, 0)).1 = p := ⟨_, rfl⟩
            rw [hql] at y3
            have c7 : wr.cell? ⟨b3, off3 + m * 2, none⟩ = some (.int .i64 ql) := (HB.out.cell (p := ⟨b3, _, none⟩) hbl).trans y3
            have ew3 : IntKind.i64.wrap ((k : Int) - (r : Int)) = (m : Int) := by rw [IntKind.wrap_i64]; omega
            have g3 : (0 : Int) ≤ (m : Int) := Int.natCast_nonneg _
            have g4 : (m : Int) < (n : Int) := by omega
            have g5 : m < n := by omega
            by_cases h5 : xl = ql
            · have q5 : (xl == ql) = true := by simpa using h5
              have HBAD : Hid (badAt l r k = true) := Lib.hid (by unfold badAt; rw [hkj, hm, hgk, hpl, hql]; exact decide_eq_true (.inr ⟨by omega, h5⟩))
              clear hgk h0 hj hj' hpl hkj h1 h3 hm hm' hb3 y3 hql h5
              go_wp2_with fail
              generalize wr.alloc _ = w1 at K1 L1 ⊢
              have BQ := Lib.hid (fun q => below_drewN' (HB.out.trans (L1.out.mono hww)) q)
              have c3 : w1.cell? ⟨wr.heap.size, 0, none⟩ = some (.int .i64 xl) := K1.out.cell 0
              have c6 : w1.cell? ⟨b3, off3 + j * 2, none⟩ = some (.int .i64 pl) := (L1.out.cell (p := ⟨b3, _, none⟩) hbr).trans c5
              have c8 : w1.cell? ⟨b3, off3 + m * 2, none⟩ = some (.int .i64 ql) := (L1.out.cell (p := ⟨b3, _, none⟩) hbr).trans c7
              have hlt3 := K1.out.lt
              clear c0 c1 K1 L1
              go_quiet (fail)
              go_wp2
              go_ret
              have h2 := HA.out
              rw [HE.out, HBAD.out] at h2
              exact ⟨ret_bool (by simpa using h2), BQ.out _⟩
            · have q5 : (xl == ql) = false := by simpa using h5
              have HBAD : Hid (badAt l r k = false) := Lib.hid (by unfold badAt; rw [hkj, hm, hgk, hpl, hql]; exact decide_eq_false (by omega))
              clear hgk h0 hj hj' hpl hkj h1 h3 hm hm' hb3 y3 hql h5
              go_wp2_with fail
              generalize wr.alloc _ = w1 at K1 L1 ⊢
              have BQ := Lib.hid (fun q => below_drewN' (HB.out.trans (L1.out.mono hww)) q)
              have c3 : w1.cell? ⟨wr.heap.size, 0, none⟩ = some (.int .i64 xl) := K1.out.cell 0
              have c6 : w1.cell? ⟨b3, off3 + j * 2, none⟩ = some (.int .i64 pl) := (L1.out.cell (p := ⟨b3, _, none⟩) hbr).trans c5
              have c8 : w1.cell? ⟨b3, off3 + m * 2, none⟩ = some (.int .i64 ql) := (L1.out.cell (p := ⟨b3, _, none⟩) hbr).trans c7
              have hlt3 := K1.out.lt
              clear c0 c1 K1 L1
              go_quiet (fail)
              go_wp2
              go_roundg (gk - 1)
              case measure => omega
              case rel =>
                refine ⟨k + 1, by go_num, by omega, by omega, ?_, BQ.out _⟩
                have h2 := HA.out
                rw [HE.out, HBAD.out] at h2
                simpa using h2
          · have q3 : decide ((r : Int) ≤ (k : Int)) = false := decide_eq_false (by omega)
            have q3' : decide (r ≤ k) = false := decide_eq_false h3
            have HBAD : Hid (badAt l r k = false) := Lib.hid (by unfold badAt; rw [hkj, hgk, hpl]; exact decide_eq_false (by omega))
            clear hgk h0 hj hj' hpl hkj h1 h3
            go_wp2_with fail
            generalize wr.alloc _ = w1 at K1 L1 ⊢
            have BQ := Lib.hid (fun q => below_drewN' (HB.out.trans (L1.out.mono hww)) q)
            have c3 : w1.cell? ⟨wr.heap.size, 0, none⟩ = some (.int .i64 xl) := K1.out.cell 0
            have c6 : w1.cell? ⟨b2, off2 + j * 2, none⟩ = some (.int .i64 pl) := (L1.out.cell (p := ⟨b2, _, none⟩) hbr).trans c5
            have hlt3 := K1.out.lt
            clear c0 c1 K1 L1
            go_quiet (fail)
            go_wp2
            go_roundg (gk - 1)
            case measure => omega
            case rel =>
              refine ⟨k + 1, by go_num, by omega, by omega, ?_, BQ.out _⟩
              have h2 := HA.out
              rw [HE.out, HBAD.out] at h2
              simpa using h2
    · have h2 : z = true := by rw [← HA.out, show n - k = 0 by omega]; rfl
      subst h2
      go_wp2
      go_ret
      exact ⟨rfl, HB.out⟩

/-- Are the entries in the queues that a model has? -/
def rqL (l : List Ent) (model : Int) (r : Nat) : Bool := if model = 1 then decide (l.length = 0) else if model = 2 then decide (l.length ≤ r) else if model = 3 then ordL l r else false

set_option maxRecDepth 100000 in
set_option maxHeartbeats 2000000 in
theorem rightQueues_any (l : List Ent) (v : Value) (model : Int) (r : Nat) (w : World) (hv : EntsD w v l) (hn : l.length ≤ 100000) (hr : 1 ≤ r ∧ r ≤ 4) (z : Bool) (hz : rqL l model r = z) :
    Calls Try.prog 51 #[v, .int .i64 model, .int .i64 r] w fun e w' => e = .returned (.bool z) ∧ Below w.heap.size w w' := by
  have H := Lib.hid (order_any l v r w hv hn hr _ rfl)
  have HZ := Lib.hid hz
  unfold rqL at HZ
  obtain ⟨ad, cap, rfl, _⟩ := hv.shape
  generalize l.length = n at HZ H hn
  generalize ordL l r = q at HZ H
  clear hv hz
  by_cases h1 : model = 1
  · subst h1
    go_enter Try.func51, Try.ntmps51
    go_wp2
    go_ret
    exact ⟨ret_bool (by rw [← HZ.out, Bool.eq_iff_iff]; simp), Below.refl _ _⟩
  · have q1 : (model == 1) = false := by simpa using h1
    rw [if_neg h1] at HZ
    by_cases h2 : model = 2
    · subst h2
      go_enter Try.func51, Try.ntmps51
      go_wp2
      go_ret
      exact ⟨ret_bool (by rw [← HZ.out]; simp), Below.refl _ _⟩
    · have q2 : (model == 2) = false := by simpa using h2
      rw [if_neg h2] at HZ
      by_cases h3 : model = 3
      · subst h3
        go_enter Try.func51, Try.ntmps51
        go_wp2_with fail
        refine H.out.mono ?_
        rintro e w2 ⟨rfl, b2⟩
        go_wp2
        go_ret
        exact ⟨ret_bool (by rw [← HZ.out]; simp), b2⟩
      · have q3 : (model == 3) = false := by simpa using h3
        rw [if_neg h3] at HZ
        go_enter Try.func51, Try.ntmps51
        go_wp2
        go_ret
        exact ⟨ret_bool HZ.out, Below.refl _ _⟩

theorem fstL_all (p : Ent → Bool) (l : List Ent) : ∀ k, decide (0 ≤ fstL p l k) = !(l.all fun e => !p e) := by
  induction l with
  | nil => intro k; rfl
  | cons a r ih =>
    intro k
    unfold fstL
    rw [List.all_cons]
    by_cases h : p a = true
    · rw [if_pos h, h]; simp
    · rw [if_neg h, ih]
      have h2 : p a = false := by simpa using h
      rw [h2]; simp

set_option maxRecDepth 100000 in
set_option maxHeartbeats 2000000 in
theorem scontains_any (l : List Ent) (v : Value) (mod locs : Int) (p1 p2 : Nat) (w : World) (hv : EntsD w v l) (hn : l.length ≤ 100000)
    (h1 : w.cell? ⟨p1, 0, none⟩ = some (.int .i64 locs)) (h2 : w.cell? ⟨p2, 0, none⟩ = some (.int .i64 mod)) (z : Bool) (hz : (l.all fun e => !oddL mod locs e) = z) :
    Calls Try.prog 52 #[v, .func (.func 49) #[] #[.pointer (some ⟨p1, 0, none⟩), .pointer (some ⟨p2, 0, none⟩)]] w fun e w' => e = .returned (.bool (!z)) ∧ Below w.heap.size w w' := by
  have l1 := World.block_lt_of_cell? w ⟨p1, 0, none⟩ h1
  have l2 := World.block_lt_of_cell? w ⟨p2, 0, none⟩ h2
  obtain ⟨q, hq⟩ : ∃ q, fstL (oddL mod locs) l 0 = q := ⟨_, rfl⟩
  have H := Lib.hid (rgt_idx l v w hv hn (oddL mod locs) p1 p2 (fun w' x y hb => right1_any x y mod locs p1 p2 w' ((hb.cell (p := ⟨p1, 0, none⟩) l1).trans h1) ((hb.cell (p := ⟨p2, 0, none⟩) l2).trans h2)) q hq)
  have HZ : Hid (decide (0 ≤ q) = !z) := Lib.hid (by rw [← hq, fstL_all, hz])
  obtain ⟨ad, cap, rfl, _⟩ := hv.shape
  generalize l.length = n at H hn
  clear hv hz hq h1 h2 l1 l2
  go_enter Try.func52, Try.ntmps52
  go_wp2_with fail
  refine H.out.mono ?_
  rintro e w2 ⟨rfl, b2⟩
  go_wp2
  go_ret
  exact ⟨ret_bool HZ.out, b2⟩

/-- Can a buffer be? -/
def rightL (l : List Ent) (model room mod locs : Int) : Bool :=
  if room < 1 ∨ 4 < room ∨ mod < 2 ∨ 16 < mod then false else rqL l model room.toNat && (l.all fun e => !oddL mod locs e)

set_option maxRecDepth 100000 in
set_option maxHeartbeats 2000000 in
theorem sright_any (l : List Ent) (v : Value) (model room mod locs : Int) (w : World) (hv : EntsD w v l) (hn : l.length ≤ 100000) (hr : 1 ≤ room ∧ room ≤ 4) (hm : 2 ≤ mod ∧ mod ≤ 16) (z : Bool) (hz : rightL l model room mod locs = z) :
    Calls Try.prog 38 #[v, .int .i64 model, .int .i64 room, .int .i64 mod, .int .i64 locs] w fun e w' => e = .returned (.bool z) ∧ Below w.heap.size w w' := by
  obtain ⟨r, rfl⟩ : ∃ r : Nat, room = (r : Int) := ⟨room.toNat, by omega⟩
  have hr' : 1 ≤ r ∧ r ≤ 4 := by omega
  unfold rightL at hz
  rw [if_neg (by omega), Int.toNat_natCast] at hz
  have HV := Lib.hid hv
  obtain ⟨q1, hq1⟩ : ∃ q, rqL l model r = q := ⟨_, rfl⟩
  obtain ⟨q2, hq2⟩ : ∃ q, (l.all fun e => !oddL mod locs e) = q := ⟨_, rfl⟩
  rw [hq1, hq2] at hz
  have HZ := Lib.hid hz
  have H1 := Lib.hid (fun W (hb : Below w.heap.size w W) => rightQueues_any l v model r W (EntsD.below HV.out hb) hn hr' q1 hq1)
  have H2 := Lib.hid (fun W p1 p2 h1 h2 (hb : Below w.heap.size w W) => scontains_any l v mod locs p1 p2 W (EntsD.below HV.out hb) hn h1 h2 q2 hq2)
  obtain ⟨ad, cap, rfl, _⟩ := hv.shape
  generalize l.length = n at H1 H2 hn HV
  have d1 : decide ((r : Int) < 1) = false := decide_eq_false (by omega)
  have d1' : decide (r < 1) = false := decide_eq_false (by omega)
  have d2 : decide ((4 : Int) < (r : Int)) = false := decide_eq_false (by omega)
  have d2' : decide (4 < r) = false := decide_eq_false (by omega)
  have d3 : decide (mod < 2) = false := decide_eq_false (by omega)
  have d4 : decide (16 < mod) = false := decide_eq_false (by omega)
  clear hv hz hq1 hq2 hr hr' hm
  go_enter Try.func38, Try.ntmps38
  have T0 := Lib.hid (two_new w 3 3 #[.int .i64 mod] #[.int .i64 locs])
  go_wp2_with fail
  generalize (w.alloc _).alloc _ = w1 at T0 ⊢
  refine (H1.out w1 T0.out.1).mono ?_
  rintro e w2 ⟨rfl, b2⟩
  have B2 := Lib.hid (T0.out.1.trans (b2.mono T0.out.1.size))
  have k1 : w2.cell? ⟨w.heap.size, 0, none⟩ = some (.int .i64 mod) := (T0.out.2.1.below b2).cell 0
  have k2 : w2.cell? ⟨w.heap.size + 1, 0, none⟩ = some (.int .i64 locs) := (T0.out.2.2.below b2).cell 0
  have G2 := Lib.hid (H2.out w2 _ _ k2 k1 B2.out)
  clear k1 k2 b2 H1 H2 T0
  cases q1 with
  | false =>
    go_wp2
    go_ret
    exact ⟨ret_bool HZ.out, B2.out⟩
  | true =>
    go_wp2_with fail
    refine G2.out.mono ?_
    rintro e w3 ⟨rfl, b3⟩
    have B3 := Lib.hid (B2.out.trans (b3.mono B2.out.size))
    clear b3
    go_wp2
    go_ret
    exact ⟨ret_bool (by rw [← HZ.out]; simp), B3.out⟩

end Go.Proofs.Ytmkgijedchpgcaa
