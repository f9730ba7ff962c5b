/- Layer 8: IndexFunc over entries, with each of the functions that are handed to it; end, oldest. -/
import Derived.Test.YtponbnlhedigoaaSb
namespace Go.Proofs.Ytponbnlhedigoaa
open Go.RowKit

set_option maxRecDepth 100000 in
set_option maxHeartbeats 2000000 in
theorem end_idx (l : List Ent) (v : Value) (w : World) (hv : EntsD w v l) (hn : l.length ≤ 100000) (FL : Ent → Bool) (p1 : Nat)
    (hF : ∀ w' x y, Below w.heap.size w w' → Calls Try.prog 29 #[.agg #[.int .i64 x, .int .i64 y], .pointer (some ⟨p1, 0, none⟩)] w' fun e w'' => e = .returned (.bool (FL (x, y))) ∧ Below w'.heap.size w' w'') (z : Int) (hz : fstL FL l 0 = z) :
    Calls Try.prog 28 #[v, .func (.func 29) #[] #[.pointer (some ⟨p1, 0, none⟩)]] w fun e w' => e = .returned (.int .i64 z) ∧ Below w.heap.size w w' := by
  have HZ : Hid (fstL FL (l.drop 0) 0 = z) := Lib.hid hz
  obtain ⟨ad, cap, rfl, hcap1, hcap2, hc⟩ := hv
  have HC := Lib.hid hc
  have HF := Lib.hid hF
  obtain ⟨n, hN⟩ : ∃ n, n = l.length := ⟨_, rfl⟩
  rw [← hN] at hn ⊢
  have HN := Lib.hid hN
  clear hN hc hcap1 hcap2 hz hF
  go_enter Try.func28, Try.ntmps28
  go_wp2_with fail
  go_loopg [8] n (fun fuel i' wr => ∃ k : Nat, i' = .int .i64 k ∧ k ≤ n ∧ n - k ≤ fuel ∧ fstL FL (l.drop k) k = z ∧ Below w.heap.size w wr)
  case atStart => exact ⟨0, rfl, Nat.zero_le _, Nat.le_refl _, HZ.out, Below.refl _ _⟩
  case round =>
    obtain ⟨k, rfl, hk, hf, ha, hb⟩ := hrel
    have HA := Lib.hid ha
    have HB := Lib.hid hb
    have hww := hb.size
    clear ha hb
    by_cases hlt : k < n
    · have hk' : k < l.length := by have := HN.out; omega
      have HE := Lib.hid (fstL_at FL l k hk')
      obtain ⟨b, off, rfl, hbl, x0, x1⟩ := HC.out k hk'
      obtain ⟨⟨xl, xn⟩, hx⟩ : ∃ x, x = l[k] := ⟨_, rfl⟩
      rw [← hx] at x0 x1 HE
      simp only [] at x0 x1
      have HFL := Lib.hid (HF.out wr xl xn HB.out)
      obtain ⟨q, hq⟩ : ∃ q, FL (xl, xn) = q := ⟨_, rfl⟩
      rw [hq] at HFL HE
      have c0 : wr.cell? ⟨b, off + k * 2, none⟩ = some (.int .i64 xl) := (HB.out.cell (p := ⟨b, _, none⟩) hbl).trans x0
      have c1 : wr.cell? ⟨b, off + k * 2 + 1, none⟩ = some (.int .i64 xn) := (HB.out.cell (p := ⟨b, _, none⟩) hbl).trans x1
      clear x0 x1 hx hq
      go_wp2_with fail
      refine HFL.out.mono ?_
      rintro e w2 ⟨rfl, hb2⟩
      have HB2 := Lib.hid (HB.out.trans (hb2.mono hww))
      clear hb2 c0 c1
      cases q with
      | false =>
        go_wp2
        go_roundg (gk - 1)
        case measure => omega
        case rel =>
          have h2 := HA.out
          rw [HE.out] at h2; first | rw [if_neg not_false] at h2 | rw [if_neg (by decide)] at h2
          exact ⟨k + 1, by go_num, by omega, by omega, h2, HB2.out⟩
      | true =>
        go_wp2
        go_ret
        have h2 := HA.out
        rw [HE.out, if_pos trivial] at h2
        exact ⟨ret_int h2, HB2.out⟩
    · have HE := Lib.hid (fstL_over FL l k (by have := HN.out; omega))
      go_wp2
      go_ret
      have h2 := HA.out
      rw [HE.out] at h2
      exact ⟨ret_int h2, HB.out⟩

set_option maxRecDepth 100000 in
set_option maxHeartbeats 2000000 in
theorem old_idx (l : List Ent) (v : Value) (w : World) (hv : EntsD w v l) (hn : l.length ≤ 100000) (FL : Ent → Bool) (p1 : Nat)
    (hF : ∀ w' x y, Below w.heap.size w w' → Calls Try.prog 32 #[.agg #[.int .i64 x, .int .i64 y], .pointer (some ⟨p1, 0, none⟩)] w' fun e w'' => e = .returned (.bool (FL (x, y))) ∧ Below w'.heap.size w' w'') (z : Int) (hz : fstL FL l 0 = z) :
    Calls Try.prog 28 #[v, .func (.func 32) #[] #[.pointer (some ⟨p1, 0, none⟩)]] w fun e w' => e = .returned (.int .i64 z) ∧ Below w.heap.size w w' := by
  have HZ : Hid (fstL FL (l.drop 0) 0 = z) := Lib.hid hz
  obtain ⟨ad, cap, rfl, hcap1, hcap2, hc⟩ := hv
  have HC := Lib.hid hc
  have HF := Lib.hid hF
  obtain ⟨n, hN⟩ : ∃ n, n = l.length := ⟨_, rfl⟩
  rw [← hN] at hn ⊢
  have HN := Lib.hid hN
  clear hN hc hcap1 hcap2 hz hF
  go_enter Try.func28, Try.ntmps28
  go_wp2_with fail
  go_loopg [8] n (fun fuel i' wr => ∃ k : Nat, i' = .int .i64 k ∧ k ≤ n ∧ n - k ≤ fuel ∧ fstL FL (l.drop k) k = z ∧ Below w.heap.size w wr)
  case atStart => exact ⟨0, rfl, Nat.zero_le _, Nat.le_refl _, HZ.out, Below.refl _ _⟩
  case round =>
    obtain ⟨k, rfl, hk, hf, ha, hb⟩ := hrel
    have HA := Lib.hid ha
    have HB := Lib.hid hb
    have hww := hb.size
    clear ha hb
    by_cases hlt : k < n
    · have hk' : k < l.length := by have := HN.out; omega
      have HE := Lib.hid (fstL_at FL l k hk')
      obtain ⟨b, off, rfl, hbl, x0, x1⟩ := HC.out k hk'
      obtain ⟨⟨xl, xn⟩, hx⟩ : ∃ x, x = l[k] := ⟨_, rfl⟩
      rw [← hx] at x0 x1 HE
      simp only [] at x0 x1
      have HFL := Lib.hid (HF.out wr xl xn HB.out)
      obtain ⟨q, hq⟩ : ∃ q, FL (xl, xn) = q := ⟨_, rfl⟩
      rw [hq] at HFL HE
      have c0 : wr.cell? ⟨b, off + k * 2, none⟩ = some (.int .i64 xl) := (HB.out.cell (p := ⟨b, _, none⟩) hbl).trans x0
      have c1 : wr.cell? ⟨b, off + k * 2 + 1, none⟩ = some (.int .i64 xn) := (HB.out.cell (p := ⟨b, _, none⟩) hbl).trans x1
      clear x0 x1 hx hq
      go_wp2_with fail
      refine HFL.out.mono ?_
      rintro e w2 ⟨rfl, hb2⟩
      have HB2 := Lib.hid (HB.out.trans (hb2.mono hww))
      clear hb2 c0 c1
      cases q with
      | false =>
        go_wp2
        go_roundg (gk - 1)
        case measure => omega
        case rel =>
          have h2 := HA.out
          rw [HE.out] at h2; first | rw [if_neg not_false] at h2 | rw [if_neg (by decide)] at h2
          exact ⟨k + 1, by go_num, by omega, by omega, h2, HB2.out⟩
      | true =>
        go_wp2
        go_ret
        have h2 := HA.out
        rw [HE.out, if_pos trivial] at h2
        exact ⟨ret_int h2, HB2.out⟩
    · have HE := Lib.hid (fstL_over FL l k (by have := HN.out; omega))
      go_wp2
      go_ret
      have h2 := HA.out
      rw [HE.out] at h2
      exact ⟨ret_int h2, HB.out⟩

set_option maxRecDepth 100000 in
set_option maxHeartbeats 2000000 in
theorem rgt_idx (l : List Ent) (v : Value) (w : World) (hv : EntsD w v l) (hn : l.length ≤ 100000) (FL : Ent → Bool) (p1 p2 : Nat)
    (hF : ∀ w' x y, Below w.heap.size w w' → Calls Try.prog 20 #[.agg #[.int .i64 x, .int .i64 y], .pointer (some ⟨p1, 0, none⟩), .pointer (some ⟨p2, 0, none⟩)] w' fun e w'' => e = .returned (.bool (FL (x, y))) ∧ Below w'.heap.size w' w'') (z : Int) (hz : fstL FL l 0 = z) :
    Calls Try.prog 28 #[v, .func (.func 20) #[] #[.pointer (some ⟨p1, 0, none⟩), .pointer (some ⟨p2, 0, none⟩)]] w fun e w' => e = .returned (.int .i64 z) ∧ Below w.heap.size w w' := by
  have HZ : Hid (fstL FL (l.drop 0) 0 = z) := Lib.hid hz
  obtain ⟨ad, cap, rfl, hcap1, hcap2, hc⟩ := hv
  have HC := Lib.hid hc
  have HF := Lib.hid hF
  obtain ⟨n, hN⟩ : ∃ n, n = l.length := ⟨_, rfl⟩
  rw [← hN] at hn ⊢
  have HN := Lib.hid hN
  clear hN hc hcap1 hcap2 hz hF
  go_enter Try.func28, Try.ntmps28
  go_wp2_with fail
  go_loopg [8] n (fun fuel i' wr => ∃ k : Nat, i' = .int .i64 k ∧ k ≤ n ∧ n - k ≤ fuel ∧ fstL FL (l.drop k) k = z ∧ Below w.heap.size w wr)
  case atStart => exact ⟨0, rfl, Nat.zero_le _, Nat.le_refl _, HZ.out, Below.refl _ _⟩
  case round =>
    obtain ⟨k, rfl, hk, hf, ha, hb⟩ := hrel
    have HA := Lib.hid ha
    have HB := Lib.hid hb
    have hww := hb.size
    clear ha hb
    by_cases hlt : k < n
    · have hk' : k < l.length := by have := HN.out; omega
      have HE := Lib.hid (fstL_at FL l k hk')
      obtain ⟨b, off, rfl, hbl, x0, x1⟩ := HC.out k hk'
      obtain ⟨⟨xl, xn⟩, hx⟩ : ∃ x, x = l[k] := ⟨_, rfl⟩
      rw [← hx] at x0 x1 HE
      simp only [] at x0 x1
      have HFL := Lib.hid (HF.out wr xl xn HB.out)
      obtain ⟨q, hq⟩ : ∃ q, FL (xl, xn) = q := ⟨_, rfl⟩
      rw [hq] at HFL HE
      have c0 : wr.cell? ⟨b, off + k * 2, none⟩ = some (.int .i64 xl) := (HB.out.cell (p := ⟨b, _, none⟩) hbl).trans x0
      have c1 : wr.cell? ⟨b, off + k * 2 + 1, none⟩ = some (.int .i64 xn) := (HB.out.cell (p := ⟨b, _, none⟩) hbl).trans x1
      clear x0 x1 hx hq
      go_wp2_with fail
      refine HFL.out.mono ?_
      rintro e w2 ⟨rfl, hb2⟩
      have HB2 := Lib.hid (HB.out.trans (hb2.mono hww))
      clear hb2 c0 c1
      cases q with
      | false =>
        go_wp2
        go_roundg (gk - 1)
        case measure => omega
        case rel =>
          have h2 := HA.out
          rw [HE.out] at h2; first | rw [if_neg not_false] at h2 | rw [if_neg (by decide)] at h2
          exact ⟨k + 1, by go_num, by omega, by omega, h2, HB2.out⟩
      | true =>
        go_wp2
        go_ret
        have h2 := HA.out
        rw [HE.out, if_pos trivial] at h2
        exact ⟨ret_int h2, HB2.out⟩
    · have HE := Lib.hid (fstL_over FL l k (by have := HN.out; omega))
      go_wp2
      go_ret
      have h2 := HA.out
      rw [HE.out] at h2
      exact ⟨ret_int h2, HB.out⟩

/-- The index behind a location's queue, or where that queue would be. -/
def endL (l : List Ent) (loc : Int) : Int := if fstL (fun e => decide (loc < e.1)) l 0 < 0 then (l.length : Int) else fstL (fun e => decide (loc < e.1)) l 0
theorem endL_range (l : List Ent) (loc : Int) : 0 ≤ endL l loc ∧ endL l loc ≤ l.length := by
  unfold endL
  rcases fstL_range (fun e => decide (loc < e.1)) l 0 with h | h
  · rw [h]; simp
  · rw [if_neg (by omega)]; omega

theorem bk_one (w : World) (x : Value) (t : Nat) : (w.alloc (.cells #[x] t)).cell? ⟨w.heap.size, 0, none⟩ = some x := (Bk.new w t #[x]).cell 0

set_option maxRecDepth 100000 in
set_option maxHeartbeats 2000000 in
theorem end_any (l : List Ent) (v : Value) (loc : Int) (w : World) (hv : EntsD w v l) (hn : l.length ≤ 100000) (z : Int) (hz : endL l loc = z) :
    Calls Try.prog 18 #[v, .int .i64 loc] w fun e w' => e = .returned (.int .i64 z) ∧ Below w.heap.size w w' := by
  obtain ⟨q, hq⟩ : ∃ q, fstL (fun e => decide (loc < e.1)) l 0 = q := ⟨_, rfl⟩
  have L0 : Below w.heap.size w (w.alloc (.cells #[.int .i64 loc] 3)) := (Below.refl _ _).alloc (Nat.le_refl _) _
  have H := Lib.hid (end_idx l v (w.alloc (.cells #[.int .i64 loc] 3)) (EntsD.below hv L0) hn (fun e => decide (loc < e.1)) w.heap.size
    (fun w' x y hb => end1_any x y loc w.heap.size w' ((hb.cell (p := ⟨w.heap.size, 0, none⟩) (by rw [alloc_size]; exact Nat.lt_succ_self _)).trans (bk_one w _ _))) q hq)
  have HR := fstL_range (fun e => decide (loc < e.1)) l 0
  rw [hq] at HR
  have HZ := Lib.hid hz
  unfold endL at HZ
  rw [hq] at HZ
  obtain ⟨ad, cap, rfl, _⟩ := hv.shape
  generalize l.length = n at HZ H hn HR
  have L := Lib.hid L0
  clear hv hz hq L0
  go_enter Try.func18, Try.ntmps18
  go_wp2_with fail
  refine H.out.mono ?_
  rintro e w2 ⟨rfl, b2⟩
  have B2 := Lib.hid (L.out.trans (b2.mono L.out.size))
  clear b2
  by_cases hneg : q < 0
  · go_wp2
    go_ret
    exact ⟨ret_int (by rw [← HZ.out, if_pos hneg]), B2.out⟩
  · go_wp2
    go_ret
    exact ⟨ret_int (by rw [← HZ.out, if_neg (by omega)]), B2.out⟩

/-- The index of the entry that Pop takes out, or -1. -/
def oldL (l : List Ent) (model loc : Int) : Int :=
  if model = 2 then (match l with | [] => -1 | e :: _ => if loc < 0 ∨ e.1 = loc then 0 else -1)
  else if model = 3 then fstL (fun e => decide (e.1 = loc)) l 0 else -1
theorem oldL_range (l : List Ent) (model loc : Int) : oldL l model loc = -1 ∨ (0 ≤ oldL l model loc ∧ oldL l model loc < l.length) := by
  unfold oldL
  split
  · cases l with
    | nil => exact .inl rfl
    | cons a r =>
      simp only []
      split
      · right; simp
      · exact .inl rfl
  · split
    · rcases fstL_range (fun e => decide (e.1 = loc)) l 0 with h | h
      · exact .inl h
      · right; omega
    · exact .inl rfl

set_option maxRecDepth 100000 in
set_option maxHeartbeats 2000000 in
theorem oldest_any (l : List Ent) (v : Value) (model loc : Int) (w : World) (hv : EntsD w v l) (hn : l.length ≤ 100000) (z : Int) (hz : oldL l model loc = z) :
    Calls Try.prog 26 #[v, .int .i64 model, .int .i64 loc] w fun e w' => e = .returned (.int .i64 z) ∧ Below w.heap.size w w' := by
  have L0 : Below w.heap.size w (w.alloc (.cells #[.int .i64 loc] 3)) := (Below.refl _ _).alloc (Nat.le_refl _) _
  have c9 := bk_one w (.int .i64 loc) 3
  by_cases h2 : model = 2
  · subst h2
    have HZ := Lib.hid hz
    unfold oldL at HZ
    have hE := EntsD.below hv L0
    obtain ⟨ad, cap, rfl, hcap1, hcap2, hc⟩ := hE
    clear hv
    cases l with
    | nil =>
      have L := Lib.hid L0
      clear hz L0 hc hcap1 hcap2
      go_enter Try.func26, Try.ntmps26
      go_wp2_with fail
      generalize w.alloc _ = W1 at c9 L ⊢
      go_quiet (fail)
      go_wp2
      go_ret
      exact ⟨ret_int (by rw [← HZ.out]; rfl), below_drewN' L.out _⟩
    | cons x0 r =>
      obtain ⟨b, off, rfl, hbl, x1, x2⟩ := hc 0 (by simp)
      obtain ⟨xl, xn⟩ := x0
      simp only [List.getElem_cons_zero, Nat.zero_mul, Nat.add_zero] at x1 x2
      rw [if_pos rfl] at HZ
      simp only [] at HZ
      have hlen : (((xl, xn) :: r : List Ent).length : Nat) = r.length + 1 := rfl
      rw [hlen]
      generalize r.length = m
      have L := Lib.hid L0
      clear hz L0 hc hcap1 hcap2 hn hlen x2
      have g0 : (0 : Int) < ((m + 1 : Nat) : Int) := by omega
      have g0' : (0 : Int) < (m : Int) + 1 := by omega
      have g1 : 0 < m + 1 := Nat.succ_pos m
      by_cases h3 : loc < 0
      · have q3 : decide (loc < 0) = true := decide_eq_true h3
        go_enter Try.func26, Try.ntmps26
        go_wp2_with fail
        generalize w.alloc _ = W1 at c9 x1 hbl L ⊢
        go_quiet (fail)
        go_wp2
        go_ret
        exact ⟨ret_int (by rw [← HZ.out, if_pos (.inl h3)]), below_drewN' L.out _⟩
      · have q3 : decide (loc < 0) = false := decide_eq_false h3
        by_cases h4 : xl = loc
        · subst h4
          go_enter Try.func26, Try.ntmps26
          go_wp2_with fail
          generalize w.alloc _ = W1 at c9 x1 hbl L ⊢
          go_quiet (fail)
          go_wp2
          go_ret
          exact ⟨ret_int (by rw [← HZ.out, if_pos (.inr trivial)]), below_drewN' L.out _⟩
        · have q4 : (xl == loc) = false := by simpa using h4
          go_enter Try.func26, Try.ntmps26
          go_wp2_with fail
          generalize w.alloc _ = W1 at c9 x1 hbl L ⊢
          go_quiet (fail)
          go_wp2
          go_ret
          exact ⟨ret_int (by rw [← HZ.out, if_neg (by omega)]), below_drewN' L.out _⟩
  · by_cases h3 : model = 3
    · subst h3
      unfold oldL at hz
      rw [if_neg h2, if_pos rfl] at hz
      have H := Lib.hid (old_idx l v (w.alloc (.cells #[.int .i64 loc] 3)) (EntsD.below hv L0) hn (fun e => decide (e.1 = loc)) w.heap.size
        (fun w' x y hb => old1_any x y loc w.heap.size w' ((hb.cell (p := ⟨w.heap.size, 0, none⟩) (by rw [alloc_size]; exact Nat.lt_succ_self _)).trans (bk_one w _ _))) z hz)
      obtain ⟨ad, cap, rfl, _⟩ := hv.shape
      generalize l.length = n at H hn
      have L := Lib.hid L0
      clear hv hz L0 h2
      go_enter Try.func26, Try.ntmps26
      go_wp2_with fail
      refine H.out.mono ?_
      rintro e w2 ⟨rfl, b2⟩
      have B2 := Lib.hid (L.out.trans (b2.mono L.out.size))
      clear b2
      go_wp2
      go_ret
      exact ⟨rfl, B2.out⟩
    · have q2 : (model == 2) = false := by simpa using h2
      have q3 : (model == 3) = false := by simpa using h3
      have HZ := Lib.hid hz
      unfold oldL at HZ
      rw [if_neg h2, if_neg h3] at HZ
      obtain ⟨ad, cap, rfl, _⟩ := hv.shape
      generalize l.length = n
      have L := Lib.hid L0
      clear hv hz L0
      go_enter Try.func26, Try.ntmps26
      go_wp2
      go_ret
      exact ⟨ret_int HZ.out, L.out⟩

end Go.Proofs.Ytponbnlhedigoaa
