/- Layer 8: the order of a buffer, Right; Same and Ints of the references. -/
import Derived.Test.YtponbnlhedigoaaSf
namespace Go.Proofs.Ytponbnlhedigoaa
open Go.RowKit

/-- Does the entry at k break the order, or stand too late? -/
def badAt (l : List Ent) (r k : Nat) : Bool := decide ((0 < k ∧ (l.getD k (0, 0)).1 < (l.getD (k - 1) (0, 0)).1) ∨ (r ≤ k ∧ (l.getD k (0, 0)).1 = (l.getD (k - r) (0, 0)).1))
def ordF (l : List Ent) (r : Nat) : Nat → Nat → Bool
  | 0, _ => true
  | f + 1, k => if badAt l r k = true then false else ordF l r f (k + 1)
def ordL (l : List Ent) (r : Nat) : Bool := ordF l r l.length 0

theorem getD_at (l : List Ent) (k : Nat) (h : k < l.length) : l.getD k (0, 0) = l[k] := by rw [List.getD_eq_getElem?_getD, List.getElem?_eq_getElem h]; rfl

theorem EntsD.at {w : World} {v : Value} {xs : List Ent} (h : EntsD w v xs) (k : Nat) (hk : k < xs.length) : ∃ b off cap, v = .slice (some ⟨b, off, none⟩) xs.length cap ∧ b < w.heap.size ∧ w.cell? ⟨b, off + k * 2, none⟩ = some (.int .i64 (xs.getD k (0, 0)).1) := by
  obtain ⟨ad, cap, hv, _, _, hc⟩ := h
  obtain ⟨b, off, rfl, hl, h3, _⟩ := hc _ hk
  exact ⟨b, off, cap, hv, hl, by rw [getD_at _ _ hk]; exact h3⟩

set_option maxRecDepth 100000 in
set_option maxHeartbeats 4000000 in
theorem order_any (l : List Ent) (v : Value) (r : Nat) (w : World) (hv : EntsD w v l) (hn : l.length ≤ 100000) (hr : 1 ≤ r ∧ r ≤ 4) (z : Bool) (hz : ordL l r = z) :
    Calls Try.prog 30 #[v, .int .i64 r] w fun e w' => e = .returned (.bool z) ∧ Below w.heap.size w w' := by
  obtain ⟨hr1, hr4⟩ := hr
  have HZ : Hid (ordF l r (l.length - 0) 0 = z) := Lib.hid hz
  have HV := Lib.hid hv
  obtain ⟨ad, cap, rfl, hcap1, hcap2, hc⟩ := hv
  have HC := Lib.hid hc
  obtain ⟨n, hN⟩ : ∃ n, n = l.length := ⟨_, rfl⟩
  rw [← hN] at hn HZ ⊢
  have HN := Lib.hid hN
  clear hN hc hcap1 hcap2 hz
  go_enter Try.func30, Try.ntmps30
  go_wp2_with fail
  go_loopg [9] n (fun fuel i' wr => ∃ k : Nat, i' = .int .i64 k ∧ k ≤ n ∧ n - k ≤ fuel ∧ ordF l r (n - k) k = z ∧ Below w.heap.size w wr)
  case atStart => exact ⟨0, rfl, Nat.zero_le _, Nat.le_refl _, HZ.out, Below.refl _ _⟩
  case round =>
    obtain ⟨k, rfl, hk, hf, ha, hb⟩ := hrel
    have HA := Lib.hid ha
    have HB := Lib.hid hb
    have hww := hb.size
    clear ha hb
    by_cases hlt : k < n
    · have hk' : k < l.length := by have := HN.out; omega
      have HE : Hid (ordF l r (n - k) k = if badAt l r k = true then false else ordF l r (n - (k + 1)) (k + 1)) := Lib.hid (by rw [show n - k = (n - (k + 1)) + 1 by omega]; rfl)
      obtain ⟨b, off, rfl, hbl, x0, x1⟩ := HC.out k hk'
      have hgk : (l.getD k (0, 0)).1 = l[k].1 := by rw [getD_at _ _ hk']
      obtain ⟨⟨xl, xn⟩, hx⟩ : ∃ x, x = l[k] := ⟨_, rfl⟩
      rw [← hx] at x0 x1 hgk
      simp only [] at x0 x1 hgk
      have c0 : wr.cell? ⟨b, off + k * 2, none⟩ = some (.int .i64 xl) := (HB.out.cell (p := ⟨b, _, none⟩) hbl).trans x0
      have c1 : wr.cell? ⟨b, off + k * 2 + 1, none⟩ = some (.int .i64 xn) := (HB.out.cell (p := ⟨b, _, none⟩) hbl).trans x1
      have K1 := Lib.hid (Bk.new wr 25 #[.int .i64 xl, .int .i64 xn])
      have L1 : Hid (Below wr.heap.size wr (wr.alloc (.cells #[.int .i64 xl, .int .i64 xn] 25))) := (Below.refl _ _).alloc (Nat.le_refl _) _
      have hbr : b < wr.heap.size := Nat.lt_of_lt_of_le hbl hww
      clear x0 x1 hx
      by_cases h0 : k = 0
      · have q0 : decide ((0 : Int) < (k : Int)) = false := decide_eq_false (by omega)
        have q0' : decide (0 < k) = false := decide_eq_false (by omega)
        have q3 : decide ((r : Int) ≤ (k : Int)) = false := decide_eq_false (by omega)
        have q3' : decide (r ≤ k) = false := decide_eq_false (by omega)
        have HBAD : Hid (badAt l r k = false) := Lib.hid (by unfold badAt; exact decide_eq_false (by omega))
        clear hgk h0
        go_wp2_with fail
        generalize wr.alloc _ = w1 at K1 L1 ⊢
        have BQ := Lib.hid (fun q => below_drewN' (HB.out.trans (L1.out.mono hww)) q)
        have c3 : w1.cell? ⟨wr.heap.size, 0, none⟩ = some (.int .i64 xl) := K1.out.cell 0
        have hlt3 := K1.out.lt
        clear c0 c1 K1 L1
        go_quiet (fail)
        go_wp2
        go_roundg (gk - 1)
        case measure => omega
        case rel =>
          refine ⟨k + 1, by go_num, by omega, by omega, ?_, BQ.out _⟩
          have h2 := HA.out
          rw [HE.out, HBAD.out] at h2
          simpa using h2
      · obtain ⟨j, hj⟩ : ∃ j, k = j + 1 := ⟨k - 1, by omega⟩
        have hj' : j < l.length := by omega
        obtain ⟨b2, off2, cap2, hb2, _, y0⟩ := EntsD.at HV.out j hj'
        obtain ⟨rfl, rfl⟩ : b2 = b ∧ off2 = off := by injection hb2 with e1; injection e1 with e1; injection e1 with e2 e3; exact ⟨e2.symm, e3.symm⟩
        obtain ⟨pl, hpl⟩ : ∃ p, (l.getD j (0, 0)).1 = p := ⟨_, rfl⟩
        rw [hpl] at y0
        have c5 : wr.cell? ⟨b2, off2 + j * 2, none⟩ = some (.int .i64 pl) := (HB.out.cell (p := ⟨b2, _, none⟩) hbl).trans y0
        have ew : IntKind.i64.wrap ((k : Int) - 1) = (j : Int) := by rw [IntKind.wrap_i64]; omega
        have g0 : (0 : Int) ≤ (j : Int) := Int.natCast_nonneg _
        have g1 : (j : Int) < (n : Int) := by omega
        have g2 : j < n := by omega
        have q0 : decide ((0 : Int) < (k : Int)) = true := decide_eq_true (by omega)
        have q0' : decide (0 < k) = true := decide_eq_true (by omega)
        have hkj : k - 1 = j := by omega
        clear hb2 y0
        by_cases h1 : xl < pl
        · have q1 : decide (xl < pl) = true := decide_eq_true h1
          have HBAD : Hid (badAt l r k = true) := Lib.hid (by unfold badAt; rw [hkj, hgk, hpl]; exact decide_eq_true (.inl ⟨by omega, h1⟩))
          clear hgk h0 hj hj' hpl hkj h1
          go_wp2_with fail
          generalize wr.alloc _ = w1 at K1 L1 ⊢
          have BQ := Lib.hid (fun q => below_drewN' (HB.out.trans (L1.out.mono hww)) q)
          have c3 : w1.cell? ⟨wr.heap.size, 0, none⟩ = some (.int .i64 xl) := K1.out.cell 0
          have c6 : w1.cell? ⟨b2, off2 + j * 2, none⟩ = some (.int .i64 pl) := (L1.out.cell (p := ⟨b2, _, none⟩) hbr).trans c5
          have hlt3 := K1.out.lt
          clear c0 c1 K1 L1
          go_quiet (fail)
          go_wp2
          go_ret
          have h2 := HA.out
          rw [HE.out, HBAD.out] at h2
          exact ⟨ret_bool (by simpa using h2), BQ.out _⟩
        · have q1 : decide (xl < pl) = false := decide_eq_false h1
          by_cases h3 : r ≤ k
          · have q3 : decide ((r : Int) ≤ (k : Int)) = true := decide_eq_true (by omega)
            have q3' : decide (r ≤ k) = true := decide_eq_true h3
            obtain ⟨m, hm⟩ : ∃ m, k - r = m := ⟨_, rfl⟩
            have hm' : m < l.length := by omega
            obtain ⟨b3, off3, cap3, hb3, _, y3⟩ := EntsD.at HV.out m hm'
            obtain ⟨rfl, rfl⟩ : b3 = b2 ∧ off3 = off2 := by injection hb3 with e1; injection e1 with e1; injection e1 with e2 e3; exact ⟨e2.symm, e3.symm⟩
            obtain ⟨ql, hql⟩ : ∃ p, (l.getD m (0, 0)).1 = p := ⟨_, rfl⟩
            rw [hql] at y3
            have c7 : wr.cell? ⟨b3, off3 + m * 2, none⟩ = some (.int .i64 ql) := (HB.out.cell (p := ⟨b3, _, none⟩) hbl).trans y3
            have ew3 : IntKind.i64.wrap ((k : Int) - (r : Int)) = (m : Int) := by rw [IntKind.wrap_i64]; omega
            have g3 : (0 : Int) ≤ (m : Int) := Int.natCast_nonneg _
            have g4 : (m : Int) < (n : Int) := by omega
            have g5 : m < n := by omega
            by_cases h5 : xl = ql
            · have q5 : (xl == ql) = true := by simpa using h5
              have HBAD : Hid (badAt l r k = true) := Lib.hid (by unfold badAt; rw [hkj, hm, hgk, hpl, hql]; exact decide_eq_true (.inr ⟨by omega, h5⟩))
              clear hgk h0 hj hj' hpl hkj h1 h3 hm hm' hb3 y3 hql h5
              go_wp2_with fail
              generalize wr.alloc _ = w1 at K1 L1 ⊢
              have BQ := Lib.hid (fun q => below_drewN' (HB.out.trans (L1.out.mono hww)) q)
              have c3 : w1.cell? ⟨wr.heap.size, 0, none⟩ = some (.int .i64 xl) := K1.out.cell 0
              have c6 : w1.cell? ⟨b3, off3 + j * 2, none⟩ = some (.int .i64 pl) := (L1.out.cell (p := ⟨b3, _, none⟩) hbr).trans c5
              have c8 : w1.cell? ⟨b3, off3 + m * 2, none⟩ = some (.int .i64 ql) := (L1.out.cell (p := ⟨b3, _, none⟩) hbr).trans c7
              have hlt3 := K1.out.lt
              clear c0 c1 K1 L1
              go_quiet (fail)
              go_wp2
              go_ret
              have h2 := HA.out
              rw [HE.out, HBAD.out] at h2
              exact ⟨ret_bool (by simpa using h2), BQ.out _⟩
            · have q5 : (xl == ql) = false := by simpa using h5
              have HBAD : Hid (badAt l r k = false) := Lib.hid (by unfold badAt; rw [hkj, hm, hgk, hpl, hql]; exact decide_eq_false (by omega))
              clear hgk h0 hj hj' hpl hkj h1 h3 hm hm' hb3 y3 hql h5
              go_wp2_with fail
              generalize wr.alloc _ = w1 at K1 L1 ⊢
              have BQ := Lib.hid (fun q => below_drewN' (HB.out.trans (L1.out.mono hww)) q)
              have c3 : w1.cell? ⟨wr.heap.size, 0, none⟩ = some (.int .i64 xl) := K1.out.cell 0
              have c6 : w1.cell? ⟨b3, off3 + j * 2, none⟩ = some (.int .i64 pl) := (L1.out.cell (p := ⟨b3, _, none⟩) hbr).trans c5
              have c8 : w1.cell? ⟨b3, off3 + m * 2, none⟩ = some (.int .i64 ql) := (L1.out.cell (p := ⟨b3, _, none⟩) hbr).trans c7
              have hlt3 := K1.out.lt
              clear c0 c1 K1 L1
              go_quiet (fail)
              go_wp2
              go_roundg (gk - 1)
              case measure => omega
              case rel =>
                refine ⟨k + 1, by go_num, by omega, by omega, ?_, BQ.out _⟩
                have h2 := HA.out
                rw [HE.out, HBAD.out] at h2
                simpa using h2
          · have q3 : decide ((r : Int) ≤ (k : Int)) = false := decide_eq_false (by omega)
            have q3' : decide (r ≤ k) = false := decide_eq_false h3
            have HBAD : Hid (badAt l r k = false) := Lib.hid (by unfold badAt; rw [hkj, hgk, hpl]; exact decide_eq_false (by omega))
            clear hgk h0 hj hj' hpl hkj h1 h3
            go_wp2_with fail
            generalize wr.alloc _ = w1 at K1 L1 ⊢
            have BQ := Lib.hid (fun q => below_drewN' (HB.out.trans (L1.out.mono hww)) q)
            have c3 : w1.cell? ⟨wr.heap.size, 0, none⟩ = some (.int .i64 xl) := K1.out.cell 0
            have c6 : w1.cell? ⟨b2, off2 + j * 2, none⟩ = some (.int .i64 pl) := (L1.out.cell (p := ⟨b2, _, none⟩) hbr).trans c5
            have hlt3 := K1.out.lt
            clear c0 c1 K1 L1
            go_quiet (fail)
            go_wp2
            go_roundg (gk - 1)
            case measure => omega
            case rel =>
              refine ⟨k + 1, by go_num, by omega, by omega, ?_, BQ.out _⟩
              have h2 := HA.out
              rw [HE.out, HBAD.out] at h2
              simpa using h2
    · have h2 : z = true := by rw [← HA.out, show n - k = 0 by omega]; rfl
      subst h2
      go_wp2
      go_ret
      exact ⟨rfl, HB.out⟩

end Go.Proofs.Ytponbnlhedigoaa
