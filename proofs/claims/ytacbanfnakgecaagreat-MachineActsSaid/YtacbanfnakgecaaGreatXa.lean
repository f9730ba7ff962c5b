/- Layer 8: Room, and where a store goes or comes from. Layer 8: Push. -/
import Derived.Test.YtacbanfnakgecaaGreatUq
import Derived.Deep.RegionHeld3
import Derived.OneCell
namespace Go.Proofs.YtacbanfnakgecaaGreat
set_option linter.unusedSimpArgs false
set_option linter.unusedVariables false
open Go.RowKit
theorem cntL_over (l : List Ent) (k : Int) (i : Nat) (h : ¬ i < l.length) : cntL (l.drop i) k = 0 := by
  rw [drop_over l i h]; rfl
set_option maxRecDepth 100000 in
set_option maxHeartbeats 2000000 in
theorem count_any (l : List Ent) (v : Value) (loc : Int) (w : World) (hv : EntsD w v l) (hn : l.length ≤ 100000) (z : Nat) (hz : cntL l loc = z) :
    Calls Tryz.prog 119 #[v, .int .i64 loc] w fun e w' => e = .returned (.int .i64 z) ∧ Below w.heap.size w w' := by
  have HZ : Hid (0 + cntL (l.drop 0) loc = z) := Lib.hid (by rw [Nat.zero_add]; exact hz)
  obtain ⟨ad, cap, rfl, hcap1, hcap2, hc⟩ := hv
  have HC := Lib.hid hc
  obtain ⟨n, hN⟩ : ∃ n, n = l.length := ⟨_, rfl⟩
  rw [← hN] at hn ⊢
  have HN := Lib.hid hN
  clear hN hc hcap1 hcap2 hz
  go_enter Tryz.func119, Tryz.ntmps119
  go_wp2_with fail
  go_loopg [5, 10] n (fun fuel m' i' wr => ∃ k m : Nat, i' = .int .i64 k ∧ m' = .int .i64 m ∧ k ≤ n ∧ n - k ≤ fuel ∧ m ≤ k ∧ m + cntL (l.drop k) loc = z ∧ Below w.heap.size w wr)
  case atStart => exact ⟨0, 0, rfl, rfl, Nat.zero_le _, Nat.le_refl _, Nat.le_refl _, HZ.out, Below.refl _ _⟩
  case round =>
    obtain ⟨k, m, rfl, rfl, hk, hf, hm, ha, hb⟩ := hrel
    have HA := Lib.hid ha
    have HB := Lib.hid hb
    have hww := hb.size
    clear ha hb
    by_cases hlt : k < n
    · have hk' : k < l.length := by have := HN.out; omega
      have HE := Lib.hid (cntL_at l loc k hk')
      obtain ⟨b, off, rfl, hbl, x0, x1⟩ := HC.out k hk'
      obtain ⟨⟨xl, xn⟩, hx⟩ : ∃ x, x = l[k] := ⟨_, rfl⟩
      rw [← hx] at x0 x1 HE
      simp only [] at x0 x1 HE
      have c0 : wr.cell? ⟨b, off + k * 2, none⟩ = some (.int .i64 xl) := (HB.out.cell (p := ⟨b, _, none⟩) hbl).trans x0
      have c1 : wr.cell? ⟨b, off + k * 2 + 1, none⟩ = some (.int .i64 xn) := (HB.out.cell (p := ⟨b, _, none⟩) hbl).trans x1
      clear x0 x1 hx
      by_cases h1 : xl = loc
      · subst h1
        go_wp2
        go_roundg (gk - 1)
        case measure => omega
        case rel =>
          have h2 := HA.out
          rw [HE.out, if_pos trivial] at h2
          exact ⟨k + 1, m + 1, by go_num, by go_num, by omega, by omega, by omega, by omega, HB.out.alloc hww _⟩
      · have q1 : (xl == loc) = false := by simpa using h1
        go_wp2
        go_roundg (gk - 1)
        case measure => omega
        case rel =>
          have h2 := HA.out
          rw [HE.out, if_neg h1] at h2
          exact ⟨k + 1, m, by go_num, rfl, by omega, by omega, by omega, by omega, HB.out.alloc hww _⟩
    · have HE := Lib.hid (cntL_over l loc k (by have := HN.out; omega))
      go_wp2
      go_ret
      refine ⟨ret_int ?_, HB.out⟩
      have h2 := HA.out
      rw [HE.out] at h2
      omega
def roomL (l : List Ent) (model room loc : Int) : Bool := if model = 2 then decide ((l.length : Int) < room) else if model = 3 then decide ((cntL l loc : Int) < room) else false
set_option maxRecDepth 100000 in
set_option maxHeartbeats 2000000 in
theorem room_any (l : List Ent) (v : Value) (model room loc : Int) (w : World) (hv : EntsD w v l) (hn : l.length ≤ 100000) (b : Bool) (hb : roomL l model room loc = b) :
    Calls Tryz.prog 109 #[v, .int .i64 model, .int .i64 room, .int .i64 loc] w fun e w' => e = .returned (.bool b) ∧ Below w.heap.size w w' := by
  have H := Lib.hid (count_any l v loc w hv hn _ rfl)
  have HB := Lib.hid hb
  obtain ⟨ad, cap, rfl, _⟩ := hv.shape
  unfold roomL at HB
  generalize l.length = n at HB H hn
  generalize cntL l loc = z at HB H
  clear hv hb
  by_cases h2 : model = 2
  · subst h2
    go_enter Tryz.func109, Tryz.ntmps109
    go_wp2
    go_ret
    exact ⟨ret_bool (by rw [← HB.out]; simp), Below.refl _ _⟩
  · by_cases h3 : model = 3
    · subst h3
      go_enter Tryz.func109, Tryz.ntmps109
      go_wp2_with fail
      refine H.out.mono ?_
      rintro e w2 ⟨rfl, b2⟩
      go_wp2
      go_ret
      exact ⟨ret_bool (by rw [← HB.out]; simp), b2⟩
    · have q2 : (model == 2) = false := by simpa using h2
      have q3 : (model == 3) = false := by simpa using h3
      go_enter Tryz.func109, Tryz.ntmps109
      go_wp2
      go_ret
      exact ⟨ret_bool (by rw [← HB.out]; simp [h2, h3]), Below.refl _ _⟩
theorem cut_any (ad : Option Addr) (n cap i : Nat) (hi : i ≤ n) (hc : n ≤ cap) (w : World) :
    Calls Tryz.prog 104 #[.slice ad n cap, .int .i64 i] w fun e w' => e = .returned (.tuple #[.slice ad i i, sliced ad i n cap 2]) ∧ Below w.heap.size w w' := by
  go_enter Tryz.func104, Tryz.ntmps104
  go_wp2
  have g0 : (0 : Int) ≤ (i : Int) := Int.natCast_nonneg i
  have g1 : (i : Int) ≤ (n : Int) := by omega
  have g2 : (i : Int) ≤ (cap : Int) := by omega
  go_quiet (fail)
  go_wp2
  all_goals
    go_ret2
    exact ⟨by simp_all, below_drewN' (Below.refl _ _) _⟩
theorem end1_any (x y k : Int) (p : Nat) (w : World) (hp : w.cell? ⟨p, 0, none⟩ = some (.int .i64 k)) :
    Calls Tryz.prog 129 #[.agg #[.int .i64 x, .int .i64 y], .pointer (some ⟨p, 0, none⟩)] w fun e w' => e = .returned (.bool (decide (k < x))) ∧ Below w.heap.size w w' := by
  have l1 := World.block_lt_of_cell? w ⟨p, 0, none⟩ hp
  simp only [] at l1
  go_enter Tryz.func129, Tryz.ntmps129
  go_wp2
  go_ret
  exact ⟨ret_bool (by simp), (Below.refl _ _).alloc (Nat.le_refl _) _⟩
theorem old1_any (x y k : Int) (p : Nat) (w : World) (hp : w.cell? ⟨p, 0, none⟩ = some (.int .i64 k)) :
    Calls Tryz.prog 117 #[.agg #[.int .i64 x, .int .i64 y], .pointer (some ⟨p, 0, none⟩)] w fun e w' => e = .returned (.bool (decide (x = k))) ∧ Below w.heap.size w w' := by
  have l1 := World.block_lt_of_cell? w ⟨p, 0, none⟩ hp
  simp only [] at l1
  go_enter Tryz.func117, Tryz.ntmps117
  go_wp2
  go_ret
  exact ⟨ret_bool (by rw [Bool.eq_iff_iff]; simp), (Below.refl _ _).alloc (Nat.le_refl _) _⟩
set_option maxRecDepth 100000 in
set_option maxHeartbeats 2000000 in
theorem end_idx (l : List Ent) (v : Value) (w : World) (hv : EntsD w v l) (hn : l.length ≤ 100000) (FL : Ent → Bool) (p1 : Nat)
    (hF : ∀ w' x y, Below w.heap.size w w' → Calls Tryz.prog 129 #[.agg #[.int .i64 x, .int .i64 y], .pointer (some ⟨p1, 0, none⟩)] w' fun e w'' => e = .returned (.bool (FL (x, y))) ∧ Below w'.heap.size w' w'') (z : Int) (hz : fstL FL l 0 = z) :
    Calls Tryz.prog 116 #[v, .func (.func 129) #[] #[.pointer (some ⟨p1, 0, none⟩)]] w fun e w' => e = .returned (.int .i64 z) ∧ Below w.heap.size w w' := by
  have HZ : Hid (fstL FL (l.drop 0) 0 = z) := Lib.hid hz
  obtain ⟨ad, cap, rfl, hcap1, hcap2, hc⟩ := hv
  have HC := Lib.hid hc
  have HF := Lib.hid hF
  obtain ⟨n, hN⟩ : ∃ n, n = l.length := ⟨_, rfl⟩
  rw [← hN] at hn ⊢
  have HN := Lib.hid hN
  clear hN hc hcap1 hcap2 hz hF
  go_enter Tryz.func116, Tryz.ntmps116
  go_wp2_with fail
  go_loopg [8] n (fun fuel i' wr => ∃ k : Nat, i' = .int .i64 k ∧ k ≤ n ∧ n - k ≤ fuel ∧ fstL FL (l.drop k) k = z ∧ Below w.heap.size w wr)
  case atStart => exact ⟨0, rfl, Nat.zero_le _, Nat.le_refl _, HZ.out, Below.refl _ _⟩
  case round =>
    obtain ⟨k, rfl, hk, hf, ha, hb⟩ := hrel
    have HA := Lib.hid ha
    have HB := Lib.hid hb
    have hww := hb.size
    clear ha hb
    by_cases hlt : k < n
    · have hk' : k < l.length := by have := HN.out; omega
      have HE := Lib.hid (fstL_at FL l k hk')
      obtain ⟨b, off, rfl, hbl, x0, x1⟩ := HC.out k hk'
      obtain ⟨⟨xl, xn⟩, hx⟩ : ∃ x, x = l[k] := ⟨_, rfl⟩
      rw [← hx] at x0 x1 HE
      simp only [] at x0 x1
      have HFL := Lib.hid (HF.out wr xl xn HB.out)
      obtain ⟨q, hq⟩ : ∃ q, FL (xl, xn) = q := ⟨_, rfl⟩
      rw [hq] at HFL HE
      have c0 : wr.cell? ⟨b, off + k * 2, none⟩ = some (.int .i64 xl) := (HB.out.cell (p := ⟨b, _, none⟩) hbl).trans x0
      have c1 : wr.cell? ⟨b, off + k * 2 + 1, none⟩ = some (.int .i64 xn) := (HB.out.cell (p := ⟨b, _, none⟩) hbl).trans x1
      clear x0 x1 hx hq
      go_wp2_with fail
      refine HFL.out.mono ?_
      rintro e w2 ⟨rfl, hb2⟩
      have HB2 := Lib.hid (HB.out.trans (hb2.mono hww))
      clear hb2 c0 c1
      cases q with
      | false =>
        go_wp2
        go_roundg (gk - 1)
        case measure => omega
        case rel =>
          have h2 := HA.out
          rw [HE.out] at h2; first | rw [if_neg not_false] at h2 | rw [if_neg (by decide)] at h2
          exact ⟨k + 1, by go_num, by omega, by omega, h2, HB2.out⟩
      | true =>
        go_wp2
        go_ret
        have h2 := HA.out
        rw [HE.out, if_pos trivial] at h2
        exact ⟨ret_int h2, HB2.out⟩
    · have HE := Lib.hid (fstL_over FL l k (by have := HN.out; omega))
      go_wp2
      go_ret
      have h2 := HA.out
      rw [HE.out] at h2
      exact ⟨ret_int h2, HB.out⟩
set_option maxRecDepth 100000 in
set_option maxHeartbeats 2000000 in
theorem old_idx (l : List Ent) (v : Value) (w : World) (hv : EntsD w v l) (hn : l.length ≤ 100000) (FL : Ent → Bool) (p1 : Nat)
    (hF : ∀ w' x y, Below w.heap.size w w' → Calls Tryz.prog 117 #[.agg #[.int .i64 x, .int .i64 y], .pointer (some ⟨p1, 0, none⟩)] w' fun e w'' => e = .returned (.bool (FL (x, y))) ∧ Below w'.heap.size w' w'') (z : Int) (hz : fstL FL l 0 = z) :
    Calls Tryz.prog 116 #[v, .func (.func 117) #[] #[.pointer (some ⟨p1, 0, none⟩)]] w fun e w' => e = .returned (.int .i64 z) ∧ Below w.heap.size w w' := by
  have HZ : Hid (fstL FL (l.drop 0) 0 = z) := Lib.hid hz
  obtain ⟨ad, cap, rfl, hcap1, hcap2, hc⟩ := hv
  have HC := Lib.hid hc
  have HF := Lib.hid hF
  obtain ⟨n, hN⟩ : ∃ n, n = l.length := ⟨_, rfl⟩
  rw [← hN] at hn ⊢
  have HN := Lib.hid hN
  clear hN hc hcap1 hcap2 hz hF
  go_enter Tryz.func116, Tryz.ntmps116
  go_wp2_with fail
  go_loopg [8] n (fun fuel i' wr => ∃ k : Nat, i' = .int .i64 k ∧ k ≤ n ∧ n - k ≤ fuel ∧ fstL FL (l.drop k) k = z ∧ Below w.heap.size w wr)
  case atStart => exact ⟨0, rfl, Nat.zero_le _, Nat.le_refl _, HZ.out, Below.refl _ _⟩
  case round =>
    obtain ⟨k, rfl, hk, hf, ha, hb⟩ := hrel
    have HA := Lib.hid ha
    have HB := Lib.hid hb
    have hww := hb.size
    clear ha hb
    by_cases hlt : k < n
    · have hk' : k < l.length := by have := HN.out; omega
      have HE := Lib.hid (fstL_at FL l k hk')
      obtain ⟨b, off, rfl, hbl, x0, x1⟩ := HC.out k hk'
      obtain ⟨⟨xl, xn⟩, hx⟩ : ∃ x, x = l[k] := ⟨_, rfl⟩
      rw [← hx] at x0 x1 HE
      simp only [] at x0 x1
      have HFL := Lib.hid (HF.out wr xl xn HB.out)
      obtain ⟨q, hq⟩ : ∃ q, FL (xl, xn) = q := ⟨_, rfl⟩
      rw [hq] at HFL HE
      have c0 : wr.cell? ⟨b, off + k * 2, none⟩ = some (.int .i64 xl) := (HB.out.cell (p := ⟨b, _, none⟩) hbl).trans x0
      have c1 : wr.cell? ⟨b, off + k * 2 + 1, none⟩ = some (.int .i64 xn) := (HB.out.cell (p := ⟨b, _, none⟩) hbl).trans x1
      clear x0 x1 hx hq
      go_wp2_with fail
      refine HFL.out.mono ?_
      rintro e w2 ⟨rfl, hb2⟩
      have HB2 := Lib.hid (HB.out.trans (hb2.mono hww))
      clear hb2 c0 c1
      cases q with
      | false =>
        go_wp2
        go_roundg (gk - 1)
        case measure => omega
        case rel =>
          have h2 := HA.out
          rw [HE.out] at h2; first | rw [if_neg not_false] at h2 | rw [if_neg (by decide)] at h2
          exact ⟨k + 1, by go_num, by omega, by omega, h2, HB2.out⟩
      | true =>
        go_wp2
        go_ret
        have h2 := HA.out
        rw [HE.out, if_pos trivial] at h2
        exact ⟨ret_int h2, HB2.out⟩
    · have HE := Lib.hid (fstL_over FL l k (by have := HN.out; omega))
      go_wp2
      go_ret
      have h2 := HA.out
      rw [HE.out] at h2
      exact ⟨ret_int h2, HB.out⟩
def endL (l : List Ent) (loc : Int) : Int := if fstL (fun e => decide (loc < e.1)) l 0 < 0 then (l.length : Int) else fstL (fun e => decide (loc < e.1)) l 0
theorem endL_range (l : List Ent) (loc : Int) : 0 ≤ endL l loc ∧ endL l loc ≤ l.length := by
  unfold endL
  rcases fstL_range (fun e => decide (loc < e.1)) l 0 with h | h
  · rw [h]; simp
  · rw [if_neg (by omega)]; omega
set_option maxRecDepth 100000 in
set_option maxHeartbeats 2000000 in
theorem end_any (l : List Ent) (v : Value) (loc : Int) (w : World) (hv : EntsD w v l) (hn : l.length ≤ 100000) (z : Int) (hz : endL l loc = z) :
    Calls Tryz.prog 121 #[v, .int .i64 loc] w fun e w' => e = .returned (.int .i64 z) ∧ Below w.heap.size w w' := by
  obtain ⟨q, hq⟩ : ∃ q, fstL (fun e => decide (loc < e.1)) l 0 = q := ⟨_, rfl⟩
  have L0 : Below w.heap.size w (w.alloc (.cells #[.int .i64 loc] 3)) := (Below.refl _ _).alloc (Nat.le_refl _) _
  have H := Lib.hid (end_idx l v (w.alloc (.cells #[.int .i64 loc] 3)) (EntsD.below hv L0) hn (fun e => decide (loc < e.1)) w.heap.size
    (fun w' x y hb => end1_any x y loc w.heap.size w' ((hb.cell (p := ⟨w.heap.size, 0, none⟩) (by rw [alloc_size]; exact Nat.lt_succ_self _)).trans (bk_one w _ _))) q hq)
  have HR := fstL_range (fun e => decide (loc < e.1)) l 0
  rw [hq] at HR
  have HZ := Lib.hid hz
  unfold endL at HZ
  rw [hq] at HZ
  obtain ⟨ad, cap, rfl, _⟩ := hv.shape
  generalize l.length = n at HZ H hn HR
  have L := Lib.hid L0
  clear hv hz hq L0
  go_enter Tryz.func121, Tryz.ntmps121
  go_wp2_with fail
  refine H.out.mono ?_
  rintro e w2 ⟨rfl, b2⟩
  have B2 := Lib.hid (L.out.trans (b2.mono L.out.size))
  clear b2
  by_cases hneg : q < 0
  · go_wp2
    go_ret
    exact ⟨ret_int (by rw [← HZ.out, if_pos hneg]), B2.out⟩
  · go_wp2
    go_ret
    exact ⟨ret_int (by rw [← HZ.out, if_neg (by omega)]), B2.out⟩
def oldL (l : List Ent) (model loc : Int) : Int :=
  if model = 2 then (match l with | [] => -1 | e :: _ => if loc < 0 ∨ e.1 = loc then 0 else -1)
  else if model = 3 then fstL (fun e => decide (e.1 = loc)) l 0 else -1
theorem oldL_range (l : List Ent) (model loc : Int) : oldL l model loc = -1 ∨ (0 ≤ oldL l model loc ∧ oldL l model loc < l.length) := by
  unfold oldL
  split
  · cases l with
    | nil => exact .inl rfl
    | cons a r =>
      simp only []
      split
      · right; simp
      · exact .inl rfl
  · split
    · rcases fstL_range (fun e => decide (e.1 = loc)) l 0 with h | h
      · exact .inl h
      · right; omega
    · exact .inl rfl
set_option maxRecDepth 100000 in
set_option maxHeartbeats 2000000 in
theorem oldest_any (l : List Ent) (v : Value) (model loc : Int) (w : World) (hv : EntsD w v l) (hn : l.length ≤ 100000) (z : Int) (hz : oldL l model loc = z) :
    Calls Tryz.prog 102 #[v, .int .i64 model, .int .i64 loc] w fun e w' => e = .returned (.int .i64 z) ∧ Below w.heap.size w w' := by
  have L0 : Below w.heap.size w (w.alloc (.cells #[.int .i64 loc] 3)) := (Below.refl _ _).alloc (Nat.le_refl _) _
  have c9 := bk_one w (.int .i64 loc) 3
  by_cases h2 : model = 2
  · subst h2
    have HZ := Lib.hid hz
    unfold oldL at HZ
    have hE := EntsD.below hv L0
    obtain ⟨ad, cap, rfl, hcap1, hcap2, hc⟩ := hE
    clear hv
    cases l with
    | nil =>
      have L := Lib.hid L0
      clear hz L0 hc hcap1 hcap2
      go_enter Tryz.func102, Tryz.ntmps102
      go_wp2_with fail
      generalize w.alloc _ = W1 at c9 L ⊢
      go_quiet (fail)
      go_wp2
      go_ret
      exact ⟨ret_int (by rw [← HZ.out]; rfl), below_drewN' L.out _⟩
    | cons x0 r =>
      obtain ⟨b, off, rfl, hbl, x1, x2⟩ := hc 0 (by simp)
      obtain ⟨xl, xn⟩ := x0
      simp only [List.getElem_cons_zero, Nat.zero_mul, Nat.add_zero] at x1 x2
      rw [if_pos rfl] at HZ
      simp only [] at HZ
      have hlen : (((xl, xn) :: r : List Ent).length : Nat) = r.length + 1 := rfl
      rw [hlen]
      generalize r.length = m
      have L := Lib.hid L0
      clear hz L0 hc hcap1 hcap2 hn hlen x2
      have g0 : (0 : Int) < ((m + 1 : Nat) : Int) := by omega
      have g0' : (0 : Int) < (m : Int) + 1 := by omega
      have g1 : 0 < m + 1 := Nat.succ_pos m
      by_cases h3 : loc < 0
      · have q3 : decide (loc < 0) = true := decide_eq_true h3
        go_enter Tryz.func102, Tryz.ntmps102
        go_wp2_with fail
        generalize w.alloc _ = W1 at c9 x1 hbl L ⊢
        go_quiet (fail)
        go_wp2
        go_ret
        exact ⟨ret_int (by rw [← HZ.out, if_pos (.inl h3)]), below_drewN' L.out _⟩
      · have q3 : decide (loc < 0) = false := decide_eq_false h3
        by_cases h4 : xl = loc
        · subst h4
          go_enter Tryz.func102, Tryz.ntmps102
          go_wp2_with fail
          generalize w.alloc _ = W1 at c9 x1 hbl L ⊢
          go_quiet (fail)
          go_wp2
          go_ret
          exact ⟨ret_int (by rw [← HZ.out, if_pos (.inr trivial)]), below_drewN' L.out _⟩
        · have q4 : (xl == loc) = false := by simpa using h4
          go_enter Tryz.func102, Tryz.ntmps102
          go_wp2_with fail
          generalize w.alloc _ = W1 at c9 x1 hbl L ⊢
          go_quiet (fail)
          go_wp2
          go_ret
          exact ⟨ret_int (by rw [← HZ.out, if_neg (by omega)]), below_drewN' L.out _⟩
  · by_cases h3 : model = 3
    · subst h3
      unfold oldL at hz
      rw [if_neg h2, if_pos rfl] at hz
      have H := Lib.hid (old_idx l v (w.alloc (.cells #[.int .i64 loc] 3)) (EntsD.below hv L0) hn (fun e => decide (e.1 = loc)) w.heap.size
        (fun w' x y hb => old1_any x y loc w.heap.size w' ((hb.cell (p := ⟨w.heap.size, 0, none⟩) (by rw [alloc_size]; exact Nat.lt_succ_self _)).trans (bk_one w _ _))) z hz)
      obtain ⟨ad, cap, rfl, _⟩ := hv.shape
      generalize l.length = n at H hn
      have L := Lib.hid L0
      clear hv hz L0 h2
      go_enter Tryz.func102, Tryz.ntmps102
      go_wp2_with fail
      refine H.out.mono ?_
      rintro e w2 ⟨rfl, b2⟩
      have B2 := Lib.hid (L.out.trans (b2.mono L.out.size))
      clear b2
      go_wp2
      go_ret
      exact ⟨rfl, B2.out⟩
    · have q2 : (model == 2) = false := by simpa using h2
      have q3 : (model == 3) = false := by simpa using h3
      have HZ := Lib.hid hz
      unfold oldL at HZ
      rw [if_neg h2, if_neg h3] at HZ
      obtain ⟨ad, cap, rfl, _⟩ := hv.shape
      generalize l.length = n
      have L := Lib.hid L0
      clear hv hz L0
      go_enter Tryz.func102, Tryz.ntmps102
      go_wp2
      go_ret
      exact ⟨ret_int HZ.out, L.out⟩
end Go.Proofs.YtacbanfnakgecaaGreat

namespace Go.Proofs.YtacbanfnakgecaaGreat
set_option linter.unusedSimpArgs false
set_option linter.unusedVariables false
open Go.RowKit
set_option maxRecDepth 100000 in
set_option maxHeartbeats 2000000 in
theorem insert_own (l : List Ent) (v : Value) (i : Nat) (x y : Int) (w : World) (hv : EntsD w v l) (hn : l.length ≤ 100000) (hi : i ≤ l.length) :
    Calls Tryz.prog 120 #[v, .int .i64 i, .agg #[.int .i64 x, .int .i64 y]] w fun e w' => ∃ v', e = .returned v' ∧ w'.ownsRow w.heap.size 70 2 v' (l.take i ++ ((x, y) :: l.drop i)).length (rowE (l.take i ++ ((x, y) :: l.drop i))) ∧ Below w.heap.size w w' := by
  obtain ⟨ad, cap, rfl, hc1, hc2⟩ := hv.shape
  obtain ⟨n, hN⟩ : ∃ n, n = l.length := ⟨_, rfl⟩
  have HV := Lib.hid hv
  rw [← hN] at hn hi hc1 HV ⊢
  have HN := Lib.hid hN
  have HT := Lib.hid (fun w' (hb : Below w.heap.size w w') => SlD.take (EntsD.below HV.out hb) i i hi (Nat.le_refl _) (Nat.le_trans hi hc1))
  have HD := Lib.hid (fun w' (hb : Below w.heap.size w w') => SlD.drop (EntsD.below HV.out hb) i 2 rfl hi)
  have HC := Lib.hid (fun W => cut_any ad n cap i hi hc1 W)
  obtain ⟨ad2, n2, cap2, hs⟩ : ∃ ad2 n2 cap2, sliced ad i n cap 2 = .slice ad2 n2 cap2 := ⟨_, _, _, rfl⟩
  rw [hs] at HD HC
  have hti : (l.take i).length = i := by rw [List.length_take, ← hN]; omega
  have hdi : (l.drop i).length = n - i := by rw [List.length_drop, ← hN]
  have HTI := Lib.hid hti
  have HDI := Lib.hid hdi
  have K0 := Lib.hid (Bk.new w 70 #[.int .i64 x, .int .i64 y])
  have L0 : Hid (Below w.heap.size w (w.alloc (.cells #[.int .i64 x, .int .i64 y] 70))) := (Below.refl _ _).alloc (Nat.le_refl _) _
  clear hv hs hN hc1 hc2 hti hdi
  go_enter Tryz.func120, Tryz.ntmps120
  go_wp2_with fail
  generalize w.alloc _ = w0 at K0 L0 ⊢
  refine (HC.out w0).mono ?_
  rintro e w1 ⟨rfl, b1⟩
  have k1 := K0.out.below b1
  have hlt := k1.lt
  have c0 : w1.cell? ⟨w.heap.size, 0, none⟩ = some (.int .i64 x) := k1.cell 0
  have c1 : w1.cell? ⟨w.heap.size, 1, none⟩ = some (.int .i64 y) := k1.cell 1
  have B1 := Lib.hid (L0.out.trans (b1.mono L0.out.size))
  have K2 := Lib.hid (Bk.new w1 70 #[.int .i64 x, .int .i64 y])
  have L2 : Hid (Below w1.heap.size w1 (w1.alloc (.cells #[.int .i64 x, .int .i64 y] 70))) := (Below.refl _ _).alloc (Nat.le_refl _) _
  have B2 := Lib.hid (B1.out.trans (L2.out.mono B1.out.size))
  have hi6 : i ≤ 1000000 := by omega
  have hb6 : w.heap.size ≤ (w1.alloc (.cells #[.int .i64 x, .int .i64 y] 70)).heap.size := B2.out.size
  have H6 := Lib.hid hb6
  clear b1 k1 hb6
  obtain ⟨X, hX⟩ : ∃ X, l.take i ++ [(x, y)] = X := ⟨_, rfl⟩
  obtain ⟨Z, hZ⟩ : ∃ Z, X ++ l.drop i = Z := ⟨_, rfl⟩
  have hn6 : X.length + (l.drop i).length ≤ 1000000 := by
    rw [← hX, List.length_append, HTI.out, HDI.out]; simp only [List.length_cons, List.length_nil]; omega
  have N6 := Lib.hid hn6
  have HX := Lib.hid hX
  have HZ := Lib.hid hZ
  clear hn6 hX hZ
  go_wp2_with (at_builtin; refine append_full rfl (.tmp 15) (.tmp 17) rfl w.heap.size ad i (l.take i) (x, y) rfl w1.heap.size rfl (HT.out _ B2.out) K2.out hi6 H6.out X HX.out ?_)
  intro g' cap' w3 O3 hb3
  have B3 := Lib.hid (B2.out.trans hb3)
  clear hb3
  go_wp2_with (at_builtin; refine append_ents rfl (.tmp 18) (.tmp 19) rfl w.heap.size (.slice (some ⟨g', 0, none⟩) (i + 1) cap') X (l.drop i) rfl ad2 n2 cap2 rfl O3.out (HD.out _ B3.out) N6.out B3.out.size Z HZ.out ?_)
  intro v' w4 hown4 hb4
  have D4 := Lib.hid (entsD_of_own hown4.out)
  have B4 := Lib.hid (B3.out.trans hb4)
  obtain ⟨ad4, cap4, rfl, _⟩ := D4.out.shape
  clear hb4
  go_wp2
  go_ret
  refine ⟨_, rfl, ?_, B4.out⟩
  have h9 : l.take i ++ ((x, y) :: l.drop i) = Z := by rw [← HZ.out, ← HX.out]; simp
  rw [h9]
  exact hown4.out
theorem insert_base (l : List Ent) (v : Value) (i : Nat) (x y : Int) (w : World) (hv : EntsD w v l) (hn : l.length ≤ 100000) (hi : i ≤ l.length) (B : Nat) (hB : B ≤ w.heap.size) :
    Calls Tryz.prog 120 #[v, .int .i64 i, .agg #[.int .i64 x, .int .i64 y]] w fun e w' => ∃ v', e = .returned v' ∧ w'.ownsRow B 70 2 v' (l.take i ++ ((x, y) :: l.drop i)).length (rowE (l.take i ++ ((x, y) :: l.drop i))) ∧ Below w.heap.size w w' :=
  (insert_own l v i x y w hv hn hi).mono fun _ _ ⟨v', h1, h2, h3⟩ => ⟨v', h1, own_base h2 hB, h3⟩
theorem splice_two {α : Type} (Z X1 X2 : List α) (k : Nat) (hk : X1.length = k) (hZ : Z.length = k + X2.length) : splice (splice Z 0 X1) k X2 = X1 ++ X2 := by
  subst hk
  unfold splice
  simp only [List.take_zero, List.nil_append, Nat.zero_add]
  rw [List.take_left, List.drop_append, List.drop_eq_nil_of_le (by omega), List.nil_append, List.drop_drop, List.drop_eq_nil_of_le (by omega), List.append_nil]
def OwnJ (w : World) (B : Nat) (v : Value) (l : List Ent) : Prop := w.ownsRow B 70 2 v l.length (rowE l)
theorem OwnJ.data {w : World} {B : Nat} {v : Value} {l : List Ent} (h : OwnJ w B v l) : EntsD w v l := entsD_of_own h
theorem OwnJ.base {w : World} {B B' : Nat} {v : Value} {l : List Ent} (h : OwnJ w B v l) (hb : B' ≤ B) : OwnJ w B' v l := own_base h hb
theorem OwnJ.other {w : World} {B g n c b p : Nat} {l : List Ent} (h : OwnJ w B (.slice (some ⟨g, 0, none⟩) n c) l) (hb : g ≠ b) (u : Value) : OwnJ (w.setCell ⟨b, p, none⟩ u) B (.slice (some ⟨g, 0, none⟩) n c) l :=
  ownsRow_setCell_other h (a := ⟨b, p, none⟩) (by intro e; simp [Value.ownBlock] at e; exact hb e) u
theorem joined_end {w : World} {B g r k m : Nat} {l1 l2 : List Ent} (hB : B ≤ g) (G : w.heap[g]? = some (.cells (splice (splice (rowE (List.replicate r (0, 0))) 0 (rowE l1)) (k * 2) (rowE l2)).toArray 70 (0, 0))) (hr : r = l1.length + l2.length) (hk : k = l1.length) (hm : m = l1.length + l2.length) (h6 : r ≤ 1000000) :
    OwnJ w B (.slice (some ⟨g, 0, none⟩) m m) (l1 ++ l2) := by
  have h9 : splice (splice (rowE (List.replicate r (0, 0))) 0 (rowE l1)) (k * 2) (rowE l2) = rowE (l1 ++ l2) := by
    rw [rowE_app]
    exact splice_two _ _ _ _ (by rw [rowE_len, hk]) (by rw [rowE_len, rowE_len, List.length_replicate]; omega)
  rw [h9] at G
  have hL : (l1 ++ l2).length = m := by rw [List.length_append, hm]
  have h8 : (rowE (l1 ++ l2)).length = m * 2 := by rw [rowE_len, hL]
  unfold OwnJ
  rw [hL]
  exact ⟨h8, .inr ⟨g, m, (rowE (l1 ++ l2)).toArray, rfl, hB, G, Nat.le_refl _, by unfold maxLen; omega, by rw [List.size_toArray, h8], by rw [← h8, List.take_length]⟩⟩
set_option maxRecDepth 100000 in
set_option maxHeartbeats 2000000 in
theorem joined_any (l1 l2 : List Ent) (v1 v2 : Value) (w : World) (h1 : EntsD w v1 l1) (h2 : EntsD w v2 l2) (hn1 : l1.length ≤ 100000) (hn2 : l2.length ≤ 100000) :
    Calls Tryz.prog 103 #[v1, v2] w fun e w' => ∃ g n, e = .returned (.slice (some ⟨g, 0, none⟩) n n) ∧ w.heap.size ≤ g ∧ OwnJ w' w.heap.size (.slice (some ⟨g, 0, none⟩) n n) (l1 ++ l2) ∧ Below w.heap.size w w' := by
  have H1 := Lib.hid h1
  have H2 := Lib.hid h2
  obtain ⟨a1, p1, rfl, hc1, hc1'⟩ := h1.shape
  obtain ⟨a2, p2, rfl, hc2, hc2'⟩ := h2.shape
  obtain ⟨n1, hN1⟩ : ∃ n, n = l1.length := ⟨_, rfl⟩
  obtain ⟨n2, hN2⟩ : ∃ n, n = l2.length := ⟨_, rfl⟩
  rw [← hN1] at hn1 hc1 H1 ⊢
  rw [← hN2] at hn2 hc2 H2 ⊢
  have N1 := Lib.hid hN1
  have N2 := Lib.hid hN2
  have hn6 : n1 + n2 ≤ 1000000 := by omega
  obtain ⟨m, hm⟩ : ∃ m, m = n1 + n2 := ⟨_, rfl⟩
  have ew : IntKind.i64.wrap ((n1 : Int) + (n2 : Int)) = (m : Int) := by rw [IntKind.wrap_i64]; omega
  have hm6 : m ≤ 1000000 := by omega
  have HM := Lib.hid hm
  clear h1 h2 hN1 hN2 hn6 hm
  go_enter Tryz.func103, Tryz.ntmps103
  go_wp2_with (refine make_ents rfl (.tmp 10) (.tmp 10) rfl m rfl rfl hm6 ?_)
  intro w1 G1 b1
  have B1 := Lib.hid b1
  clear b1
  obtain ⟨g, hg⟩ : ∃ g, g = w.heap.size := ⟨_, rfl⟩
  rw [← hg] at G1 ⊢
  have HG := Lib.hid hg
  clear hg
  go_wp2_with (refine copy_ents rfl (.tmp 12) (.tmp 13) rfl (some ⟨g, 0, none⟩) a1 m m n1 p1 rfl rfl g 0 _ _ G1.out l1 (by have := HM.out; omega) (EntsD.below H1.out B1.out) (fun _ => rfl) (by rw [rowE_len, List.length_replicate]; have := HM.out; have := N1.out; omega) w.heap.size w B1.out (Nat.le_of_eq HG.out.symm) ?_)
  intro w2 G2 b2
  have B2 := Lib.hid b2
  clear b2
  have e0 : (0 : Int) ≤ (n1 : Int) := Int.natCast_nonneg _
  have e1 : (n1 : Int) ≤ (m : Int) := by have := HM.out; omega
  have e2 : n1 ≤ m := by omega
  go_wp2_with (refine copy_ents rfl (.tmp 18) (.tmp 19) rfl _ a2 _ _ n2 p2 rfl rfl g (n1 * 2) _ _ G2.out l2 (by have := HM.out; omega) (EntsD.below H2.out B2.out) (fun h => by have := HM.out; have := N2.out; first | (exfalso; omega) | rfl | (simp; intro; omega)) (by rw [length_splice _ _ _ (by rw [rowE_len, rowE_len, List.length_replicate]; have := HM.out; have := N1.out; omega), rowE_len, List.length_replicate]; have := HM.out; have := N2.out; omega) w.heap.size w B2.out (Nat.le_of_eq HG.out.symm) ?_)
  all_goals
    intro w3 G3 b3
    have B3 := Lib.hid b3
    clear b3
    go_wp2
    go_ret
    exact ⟨_, _, rfl, Nat.le_of_eq HG.out.symm, joined_end (Nat.le_of_eq HG.out.symm) G3.out (by have := HM.out; have := N1.out; have := N2.out; omega) (by have := HM.out; have := N1.out; have := N2.out; omega) (by have := HM.out; have := N1.out; have := N2.out; omega) (by omega), B3.out⟩
def pushL (l : List Ent) (model : Int) (e : Ent) : List Ent :=
  if model = 2 then l ++ [e] else if model = 3 then l.take (endL l e.1).toNat ++ (e :: l.drop (endL l e.1).toNat) else l
set_option maxRecDepth 100000 in
set_option maxHeartbeats 2000000 in
theorem push_own (l : List Ent) (v : Value) (model x y : Int) (w : World) (hv : EntsD w v l) (hn : l.length ≤ 100000) (z : List Ent) (hz : pushL l model (x, y) = z) (hm : model = 2 ∨ model = 3) :
    Calls Tryz.prog 110 #[v, .int .i64 model, .agg #[.int .i64 x, .int .i64 y]] w fun e w' => ∃ v', e = .returned v' ∧ w'.ownsRow w.heap.size 70 2 v' z.length (rowE z) ∧ Below w.heap.size w w' := by
  have K0 := Lib.hid (Bk.new w 70 #[.int .i64 x, .int .i64 y])
  have L0 : Hid (Below w.heap.size w (w.alloc (.cells #[.int .i64 x, .int .i64 y] 70))) := (Below.refl _ _).alloc (Nat.le_refl _) _
  have HV := Lib.hid hv
  unfold pushL at hz
  have HZ := Lib.hid hz
  by_cases h2 : model = 2
  · subst h2
    have H := Lib.hid (fun W (hb : Below w.heap.size w W) => insert_base l v l.length x y W (EntsD.below HV.out hb) hn (Nat.le_refl _) w.heap.size hb.size)
    obtain ⟨ad, cap, rfl, _⟩ := hv.shape
    have HN : Hid (l.take l.length ++ ((x, y) :: l.drop l.length) = z) := Lib.hid (by rw [← hz, if_pos rfl, List.take_length, List.drop_length])
    rw [HN.out] at H
    clear hz hv HN HZ
    generalize l.length = n at H hn HV
    go_enter Tryz.func110, Tryz.ntmps110
    go_wp2_with fail
    generalize w.alloc _ = w1 at K0 L0 ⊢
    refine (H.out w1 L0.out).mono ?_
    rintro e w2 ⟨v2, rfl, d2, b2⟩
    have D2 := Lib.hid d2
    have B2 := Lib.hid (L0.out.trans (b2.mono L0.out.size))
    obtain ⟨ad2, cap2, rfl, _⟩ := (entsD_of_own d2).shape
    clear d2 b2
    go_wp2
    go_ret
    exact ⟨_, rfl, D2.out, B2.out⟩
  · by_cases h3 : model = 3
    · subst h3
      obtain ⟨q, hq⟩ : ∃ q, endL l x = q := ⟨_, rfl⟩
      have hr := endL_range l x
      obtain ⟨k, hk⟩ : ∃ k : Nat, q = (k : Int) := ⟨q.toNat, by rw [← hq]; omega⟩
      subst hk
      rw [hq] at hr
      have H1 := Lib.hid (fun W (hb : Below w.heap.size w W) => end_any l v x W (EntsD.below HV.out hb) hn _ hq)
      have H := Lib.hid (fun W (hb : Below w.heap.size w W) => insert_base l v k x y W (EntsD.below HV.out hb) hn (by omega) w.heap.size hb.size)
      obtain ⟨ad, cap, rfl, _⟩ := hv.shape
      have HN : Hid (l.take k ++ ((x, y) :: l.drop k) = z) := Lib.hid (by rw [← hz, if_neg (by decide), if_pos rfl, hq]; rfl)
      rw [HN.out] at H
      clear hz hv HN HZ hq hr h2
      generalize l.length = n at H hn HV H1
      go_enter Tryz.func110, Tryz.ntmps110
      go_wp2_with fail
      generalize w.alloc _ = w1 at K0 L0 ⊢
      have c0 : w1.cell? ⟨w.heap.size, 0, none⟩ = some (.int .i64 x) := K0.out.cell 0
      have c1 : w1.cell? ⟨w.heap.size, 1, none⟩ = some (.int .i64 y) := K0.out.cell 1
      have hlt := K0.out.lt
      have KK := Lib.hid (fun W (hb : Below w1.heap.size w1 W) => (⟨(K0.out.below hb).cell 0, (K0.out.below hb).cell 1, hb⟩ : W.cell? ⟨w.heap.size, 0, none⟩ = some (.int .i64 x) ∧ W.cell? ⟨w.heap.size, 1, none⟩ = some (.int .i64 y) ∧ Below w1.heap.size w1 W))
      have G1 := Lib.hid (fun W (hb : Below w1.heap.size w1 W) => H1.out W (L0.out.trans (hb.mono L0.out.size)))
      have G2 := Lib.hid (fun W (hb : Below w1.heap.size w1 W) => H.out W (L0.out.trans (hb.mono L0.out.size)))
      have hb0 : Below w1.heap.size w1 w1 := Below.refl _ _
      clear H H1 K0
      go_region_held3 (fun w' => w'.cell? ⟨w.heap.size, 0, none⟩ = some (.int .i64 x) ∧ w'.cell? ⟨w.heap.size, 1, none⟩ = some (.int .i64 y) ∧ Below w1.heap.size w1 w')
        (first | exact ⟨c0, c1, Below.refl _ _⟩ | exact ⟨c0, c1, (Below.refl _ _).drew⟩ | assumption | (go_split_ands; exact KK.out _ bb))
        ((first
          | (go_split_ands; (with_reducible refine Calls.mono (G1.out _ (by assumption)) ?_); rintro e wn ⟨rfl, bn⟩; have bb : Below w1.heap.size w1 wn := Below.trans (by assumption) (bn.mono (Below.size (by assumption))))
          | (go_split_ands; (with_reducible refine Calls.mono (G2.out _ (by assumption)) ?_); rintro e wn ⟨v2, rfl, dn, bn⟩; obtain ⟨ad2, cap2, rfl, _⟩ := (entsD_of_own dn).shape; have bb : Below w1.heap.size w1 wn := Below.trans (by assumption) (bn.mono (Below.size (by assumption))))))
      all_goals
        go_split_ands
        go_wp2
        go_ret
        exact ⟨_, rfl, by assumption, L0.out.trans (Below.mono (by assumption) L0.out.size)⟩
    · exact absurd hm (by omega)
theorem EntsD.other {w : World} {g o n c b p : Nat} {xs : List Ent} (h : EntsD w (.slice (some ⟨g, o, none⟩) n c) xs) (hb : g ≠ b) (u : Value) : EntsD (w.setCell ⟨b, p, none⟩ u) (.slice (some ⟨g, o, none⟩) n c) xs := by
  obtain ⟨ad, cap, hv, h1, h2, hc⟩ := h
  refine ⟨ad, cap, hv, h1, h2, fun i hi => ?_⟩
  obtain ⟨b', off', he, hl, x0, x1⟩ := hc i hi
  injection hv with e1
  rw [← e1] at he
  injection he with he
  injection he with he1 he2
  subst he1
  have hk := Below.heap_setCell w ⟨b, p, none⟩ u g hb
  exact ⟨g, off', by rw [← e1, he2], by simpa using hl, (World.cell?_of_block (a := ⟨g, _, none⟩) hk).trans x0, (World.cell?_of_block (a := ⟨g, _, none⟩) hk).trans x1⟩
end Go.Proofs.YtacbanfnakgecaaGreat
