/- Layer 8: small functions of package store: count, Room, cut, what stands first, end, oldest. -/
import Derived.Test.YtponbnlhedigoaaSa
namespace Go.Proofs.Ytponbnlhedigoaa
open Go.RowKit

/-- How many entries a location has. -/
def cntL : List Ent → Int → Nat
  | [], _ => 0
  | e :: r, k => (if e.1 = k then 1 else 0) + cntL r k
theorem cntL_at (l : List Ent) (k : Int) (i : Nat) (h : i < l.length) : cntL (l.drop i) k = (if l[i].1 = k then 1 else 0) + cntL (l.drop (i + 1)) k := by
  rw [List.drop_eq_getElem_cons h]; rfl
theorem cntL_over (l : List Ent) (k : Int) (i : Nat) (h : ¬ i < l.length) : cntL (l.drop i) k = 0 := by
  rw [drop_over l i h]; rfl
theorem cntL_le (l : List Ent) (k : Int) : cntL l k ≤ l.length := by
  induction l with
  | nil => exact Nat.le_refl _
  | cons a r ih => unfold cntL; simp only [List.length_cons]; split <;> omega

/-- Where an entry stands first. -/
def fstL (p : Ent → Bool) : List Ent → Nat → Int
  | [], _ => -1
  | e :: r, k => if p e = true then (k : Int) else fstL p r (k + 1)
theorem fstL_at (p : Ent → Bool) (l : List Ent) (k : Nat) (h : k < l.length) : fstL p (l.drop k) k = if p l[k] = true then (k : Int) else fstL p (l.drop (k + 1)) (k + 1) := by
  rw [List.drop_eq_getElem_cons h]; rfl
theorem fstL_over (p : Ent → Bool) (l : List Ent) (k : Nat) (h : ¬ k < l.length) : fstL p (l.drop k) k = -1 := by
  rw [drop_over l k h]; rfl
theorem fstL_range (p : Ent → Bool) (l : List Ent) : ∀ k, fstL p l k = -1 ∨ ((k : Int) ≤ fstL p l k ∧ fstL p l k < k + l.length) := by
  induction l with
  | nil => intro k; exact .inl rfl
  | cons a r ih =>
    intro k
    unfold fstL
    split
    · right; simp; omega
    · rcases ih (k + 1) with h | h
      · exact .inl h
      · right; simp; omega

theorem light_any (l : List Ent) (v : Value) (w : World) (hv : EntsD w v l) : Calls Try.prog 13 #[v] w fun e w' => e = .returned (.bool (decide (l.length ≤ 60))) ∧ w = w' := by
  obtain ⟨ad, cap, rfl, _⟩ := hv.shape
  generalize l.length = n
  clear hv
  go_enter Try.func13, Try.ntmps13
  go_wp2
  go_ret
  exact ⟨ret_bool (by rw [Bool.eq_iff_iff]; simp; omega), rfl⟩

set_option maxRecDepth 100000 in
set_option maxHeartbeats 2000000 in
theorem count_any (l : List Ent) (v : Value) (loc : Int) (w : World) (hv : EntsD w v l) (hn : l.length ≤ 100000) (z : Nat) (hz : cntL l loc = z) :
    Calls Try.prog 16 #[v, .int .i64 loc] w fun e w' => e = .returned (.int .i64 z) ∧ Below w.heap.size w w' := by
  have HZ : Hid (0 + cntL (l.drop 0) loc = z) := Lib.hid (by rw [Nat.zero_add]; exact hz)
  obtain ⟨ad, cap, rfl, hcap1, hcap2, hc⟩ := hv
  have HC := Lib.hid hc
  obtain ⟨n, hN⟩ : ∃ n, n = l.length := ⟨_, rfl⟩
  rw [← hN] at hn ⊢
  have HN := Lib.hid hN
  clear hN hc hcap1 hcap2 hz
  go_enter Try.func16, Try.ntmps16
  go_wp2_with fail
  go_loopg [5, 10] n (fun fuel m' i' wr => ∃ k m : Nat, i' = .int .i64 k ∧ m' = .int .i64 m ∧ k ≤ n ∧ n - k ≤ fuel ∧ m ≤ k ∧ m + cntL (l.drop k) loc = z ∧ Below w.heap.size w wr)
  case atStart => exact ⟨0, 0, rfl, rfl, Nat.zero_le _, Nat.le_refl _, Nat.le_refl _, HZ.out, Below.refl _ _⟩
  case round =>
    obtain ⟨k, m, rfl, rfl, hk, hf, hm, ha, hb⟩ := hrel
    have HA := Lib.hid ha
    have HB := Lib.hid hb
    have hww := hb.size
    clear ha hb
    by_cases hlt : k < n
    · have hk' : k < l.length := by have := HN.out; omega
      have HE := Lib.hid (cntL_at l loc k hk')
      obtain ⟨b, off, rfl, hbl, x0, x1⟩ := HC.out k hk'
      obtain ⟨⟨xl, xn⟩, hx⟩ : ∃ x, x = l[k] := ⟨_, rfl⟩
      rw [← hx] at x0 x1 HE
      simp only [] at x0 x1 HE
      have c0 : wr.cell? ⟨b, off + k * 2, none⟩ = some (.int .i64 xl) := (HB.out.cell (p := ⟨b, _, none⟩) hbl).trans x0
      have c1 : wr.cell? ⟨b, off + k * 2 + 1, none⟩ = some (.int .i64 xn) := (HB.out.cell (p := ⟨b, _, none⟩) hbl).trans x1
      clear x0 x1 hx
      by_cases h1 : xl = loc
      · subst h1
        go_wp2
        go_roundg (gk - 1)
        case measure => omega
        case rel =>
          have h2 := HA.out
          rw [HE.out, if_pos trivial] at h2
          exact ⟨k + 1, m + 1, by go_num, by go_num, by omega, by omega, by omega, by omega, HB.out.alloc hww _⟩
      · have q1 : (xl == loc) = false := by simpa using h1
        go_wp2
        go_roundg (gk - 1)
        case measure => omega
        case rel =>
          have h2 := HA.out
          rw [HE.out, if_neg h1] at h2
          exact ⟨k + 1, m, by go_num, rfl, by omega, by omega, by omega, by omega, HB.out.alloc hww _⟩
    · have HE := Lib.hid (cntL_over l loc k (by have := HN.out; omega))
      go_wp2
      go_ret
      refine ⟨ret_int ?_, HB.out⟩
      have h2 := HA.out
      rw [HE.out] at h2
      omega

/-- Whether there is room. -/
def roomL (l : List Ent) (model room loc : Int) : Bool := if model = 2 then decide ((l.length : Int) < room) else if model = 3 then decide ((cntL l loc : Int) < room) else false

set_option maxRecDepth 100000 in
set_option maxHeartbeats 2000000 in
theorem room_any (l : List Ent) (v : Value) (model room loc : Int) (w : World) (hv : EntsD w v l) (hn : l.length ≤ 100000) (b : Bool) (hb : roomL l model room loc = b) :
    Calls Try.prog 7 #[v, .int .i64 model, .int .i64 room, .int .i64 loc] w fun e w' => e = .returned (.bool b) ∧ Below w.heap.size w w' := by
  have H := Lib.hid (count_any l v loc w hv hn _ rfl)
  have HB := Lib.hid hb
  obtain ⟨ad, cap, rfl, _⟩ := hv.shape
  unfold roomL at HB
  generalize l.length = n at HB H hn
  generalize cntL l loc = z at HB H
  clear hv hb
  by_cases h2 : model = 2
  · subst h2
    go_enter Try.func7, Try.ntmps7
    go_wp2
    go_ret
    exact ⟨ret_bool (by rw [← HB.out]; simp), Below.refl _ _⟩
  · by_cases h3 : model = 3
    · subst h3
      go_enter Try.func7, Try.ntmps7
      go_wp2_with fail
      refine H.out.mono ?_
      rintro e w2 ⟨rfl, b2⟩
      go_wp2
      go_ret
      exact ⟨ret_bool (by rw [← HB.out]; simp), b2⟩
    · have q2 : (model == 2) = false := by simpa using h2
      have q3 : (model == 3) = false := by simpa using h3
      go_enter Try.func7, Try.ntmps7
      go_wp2
      go_ret
      exact ⟨ret_bool (by rw [← HB.out]; simp [h2, h3]), Below.refl _ _⟩

theorem below_drewN' {B : Nat} {a w : World} (h : Below B a w) (n : Nat) : Below B a (w.drewN n) := ⟨h.os, h.tape, h.output, h.size, h.block⟩

theorem cut_any (ad : Option Addr) (n cap i : Nat) (hi : i ≤ n) (hc : n ≤ cap) (w : World) :
    Calls Try.prog 27 #[.slice ad n cap, .int .i64 i] w fun e w' => e = .returned (.tuple #[.slice ad i i, sliced ad i n cap 2]) ∧ Below w.heap.size w w' := by
  go_enter Try.func27, Try.ntmps27
  go_wp2
  have g0 : (0 : Int) ≤ (i : Int) := Int.natCast_nonneg i
  have g1 : (i : Int) ≤ (n : Int) := by omega
  have g2 : (i : Int) ≤ (cap : Int) := by omega
  go_quiet (fail)
  go_wp2
  all_goals
    go_ret2
    exact ⟨by simp_all, below_drewN' (Below.refl _ _) _⟩

/-- The small functions that are handed to IndexFunc. -/
theorem end1_any (x y k : Int) (p : Nat) (w : World) (hp : w.cell? ⟨p, 0, none⟩ = some (.int .i64 k)) :
    Calls Try.prog 29 #[.agg #[.int .i64 x, .int .i64 y], .pointer (some ⟨p, 0, none⟩)] w fun e w' => e = .returned (.bool (decide (k < x))) ∧ Below w.heap.size w w' := by
  have l1 := World.block_lt_of_cell? w ⟨p, 0, none⟩ hp
  simp only [] at l1
  go_enter Try.func29, Try.ntmps29
  go_wp2
  go_ret
  exact ⟨ret_bool (by simp), (Below.refl _ _).alloc (Nat.le_refl _) _⟩
theorem old1_any (x y k : Int) (p : Nat) (w : World) (hp : w.cell? ⟨p, 0, none⟩ = some (.int .i64 k)) :
    Calls Try.prog 32 #[.agg #[.int .i64 x, .int .i64 y], .pointer (some ⟨p, 0, none⟩)] w fun e w' => e = .returned (.bool (decide (x = k))) ∧ Below w.heap.size w w' := by
  have l1 := World.block_lt_of_cell? w ⟨p, 0, none⟩ hp
  simp only [] at l1
  go_enter Try.func32, Try.ntmps32
  go_wp2
  go_ret
  exact ⟨ret_bool (by rw [Bool.eq_iff_iff]; simp), (Below.refl _ _).alloc (Nat.le_refl _) _⟩

/-- Is a number one of the first n? -/
def inB (i n : Int) : Bool := decide (0 ≤ i ∧ i < n)
theorem below_any (i n : Int) (w : World) : Calls Try.prog 21 #[.int .i64 i, .int .i64 n] w fun e w' => e = .returned (.bool (inB i n)) ∧ w = w' := by
  go_enter Try.func21, Try.ntmps21
  go_wp2
  all_goals
    go_ret
    exact ⟨ret_bool (by simp_all [inB] <;> omega), rfl⟩
theorem below_is (i n : Int) (b : Bool) (h : inB i n = b) (w : World) : Calls Try.prog 21 #[.int .i64 i, .int .i64 n] w fun e w' => e = .returned (.bool b) ∧ w = w' := h ▸ below_any i n w

/-- Is an entry strange? -/
def oddL (mod locs : Int) (e : Ent) : Bool := !inB e.1 locs || !inB e.2 mod
set_option maxRecDepth 100000 in
set_option maxHeartbeats 2000000 in
theorem right1_any (x y mod locs : Int) (p1 p2 : Nat) (w : World) (h1 : w.cell? ⟨p1, 0, none⟩ = some (.int .i64 locs)) (h2 : w.cell? ⟨p2, 0, none⟩ = some (.int .i64 mod)) :
    Calls Try.prog 20 #[.agg #[.int .i64 x, .int .i64 y], .pointer (some ⟨p1, 0, none⟩), .pointer (some ⟨p2, 0, none⟩)] w fun e w' => e = .returned (.bool (oddL mod locs (x, y))) ∧ Below w.heap.size w w' := by
  have l1 := World.block_lt_of_cell? w ⟨p1, 0, none⟩ h1
  have l2 := World.block_lt_of_cell? w ⟨p2, 0, none⟩ h2
  simp only [] at l1 l2
  obtain ⟨q1, hq1⟩ : ∃ q, inB x locs = q := ⟨_, rfl⟩
  obtain ⟨q2, hq2⟩ : ∃ q, inB y mod = q := ⟨_, rfl⟩
  have H1 := Lib.hid (below_is x locs q1 hq1)
  have H2 := Lib.hid (below_is y mod q2 hq2)
  have HR : Hid (oddL mod locs (x, y) = (!q1 || !q2)) := Lib.hid (by unfold oddL; rw [hq1, hq2])
  clear hq1 hq2
  cases q1
  · go_enter Try.func20, Try.ntmps20
    go_wp2_with (go_at_call 21; refine (H1.out _).mono ?_; rintro e w2 ⟨rfl, rfl⟩)
    go_ret
    exact ⟨ret_bool HR.out.symm, (Below.refl _ _).alloc (Nat.le_refl _) _⟩
  · go_enter Try.func20, Try.ntmps20
    go_wp2_with fail
    refine (H1.out _).mono ?_
    rintro e w2 ⟨rfl, rfl⟩
    go_wp2_with fail
    refine (H2.out _).mono ?_
    rintro e w2 ⟨rfl, rfl⟩
    go_wp2
    go_ret
    exact ⟨ret_bool (by rw [HR.out]; cases q2 <;> rfl), (Below.refl _ _).alloc (Nat.le_refl _) _⟩

end Go.Proofs.Ytponbnlhedigoaa
