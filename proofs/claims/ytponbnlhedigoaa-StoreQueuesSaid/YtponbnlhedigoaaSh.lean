/- Layer 8: Right; Same and Ints of the references. -/
import Derived.Test.YtponbnlhedigoaaSg
namespace Go.Proofs.Ytponbnlhedigoaa
open Go.RowKit

/-- Are the entries in the queues that a model has? -/
def rqL (l : List Ent) (model : Int) (r : Nat) : Bool := if model = 1 then decide (l.length = 0) else if model = 2 then decide (l.length ≤ r) else if model = 3 then ordL l r else false

set_option maxRecDepth 100000 in
set_option maxHeartbeats 2000000 in
theorem rightQueues_any (l : List Ent) (v : Value) (model : Int) (r : Nat) (w : World) (hv : EntsD w v l) (hn : l.length ≤ 100000) (hr : 1 ≤ r ∧ r ≤ 4) (z : Bool) (hz : rqL l model r = z) :
    Calls Try.prog 22 #[v, .int .i64 model, .int .i64 r] w fun e w' => e = .returned (.bool z) ∧ Below w.heap.size w w' := by
  have H := Lib.hid (order_any l v r w hv hn hr _ rfl)
  have HZ := Lib.hid hz
  unfold rqL at HZ
  obtain ⟨ad, cap, rfl, _⟩ := hv.shape
  generalize l.length = n at HZ H hn
  generalize ordL l r = q at HZ H
  clear hv hz
  by_cases h1 : model = 1
  · subst h1
    go_enter Try.func22, Try.ntmps22
    go_wp2
    go_ret
    exact ⟨ret_bool (by rw [← HZ.out, Bool.eq_iff_iff]; simp), Below.refl _ _⟩
  · have q1 : (model == 1) = false := by simpa using h1
    rw [if_neg h1] at HZ
    by_cases h2 : model = 2
    · subst h2
      go_enter Try.func22, Try.ntmps22
      go_wp2
      go_ret
      exact ⟨ret_bool (by rw [← HZ.out]; simp), Below.refl _ _⟩
    · have q2 : (model == 2) = false := by simpa using h2
      rw [if_neg h2] at HZ
      by_cases h3 : model = 3
      · subst h3
        go_enter Try.func22, Try.ntmps22
        go_wp2_with fail
        refine H.out.mono ?_
        rintro e w2 ⟨rfl, b2⟩
        go_wp2
        go_ret
        exact ⟨ret_bool (by rw [← HZ.out]; simp), b2⟩
      · have q3 : (model == 3) = false := by simpa using h3
        rw [if_neg h3] at HZ
        go_enter Try.func22, Try.ntmps22
        go_wp2
        go_ret
        exact ⟨ret_bool HZ.out, Below.refl _ _⟩

theorem fstL_all (p : Ent → Bool) (l : List Ent) : ∀ k, decide (0 ≤ fstL p l k) = !(l.all fun e => !p e) := by
  induction l with
  | nil => intro k; rfl
  | cons a r ih =>
    intro k
    unfold fstL
    rw [List.all_cons]
    by_cases h : p a = true
    · rw [if_pos h, h]; simp
    · rw [if_neg h, ih]
      have h2 : p a = false := by simpa using h
      rw [h2]; simp

set_option maxRecDepth 100000 in
set_option maxHeartbeats 2000000 in
theorem contains_any (l : List Ent) (v : Value) (mod locs : Int) (p1 p2 : Nat) (w : World) (hv : EntsD w v l) (hn : l.length ≤ 100000)
    (h1 : w.cell? ⟨p1, 0, none⟩ = some (.int .i64 locs)) (h2 : w.cell? ⟨p2, 0, none⟩ = some (.int .i64 mod)) (z : Bool) (hz : (l.all fun e => !oddL mod locs e) = z) :
    Calls Try.prog 23 #[v, .func (.func 20) #[] #[.pointer (some ⟨p1, 0, none⟩), .pointer (some ⟨p2, 0, none⟩)]] w fun e w' => e = .returned (.bool (!z)) ∧ Below w.heap.size w w' := by
  have l1 := World.block_lt_of_cell? w ⟨p1, 0, none⟩ h1
  have l2 := World.block_lt_of_cell? w ⟨p2, 0, none⟩ h2
  obtain ⟨q, hq⟩ : ∃ q, fstL (oddL mod locs) l 0 = q := ⟨_, rfl⟩
  have H := Lib.hid (rgt_idx l v w hv hn (oddL mod locs) p1 p2 (fun w' x y hb => right1_any x y mod locs p1 p2 w' ((hb.cell (p := ⟨p1, 0, none⟩) l1).trans h1) ((hb.cell (p := ⟨p2, 0, none⟩) l2).trans h2)) q hq)
  have HZ : Hid (decide (0 ≤ q) = !z) := Lib.hid (by rw [← hq, fstL_all, hz])
  obtain ⟨ad, cap, rfl, _⟩ := hv.shape
  generalize l.length = n at H hn
  clear hv hz hq h1 h2 l1 l2
  go_enter Try.func23, Try.ntmps23
  go_wp2_with fail
  refine H.out.mono ?_
  rintro e w2 ⟨rfl, b2⟩
  go_wp2
  go_ret
  exact ⟨ret_bool HZ.out, b2⟩

theorem two_new (w : World) (t1 t2 : Nat) (c1 c2 : Array Value) : Below w.heap.size w ((w.alloc (.cells c1 t1)).alloc (.cells c2 t2)) ∧ Bk ((w.alloc (.cells c1 t1)).alloc (.cells c2 t2)) w.heap.size t1 c1 ∧ Bk ((w.alloc (.cells c1 t1)).alloc (.cells c2 t2)) (w.heap.size + 1) t2 c2 := by
  have a : Below w.heap.size w (w.alloc (.cells c1 t1)) := (Below.refl _ _).alloc (Nat.le_refl _) _
  have b : Below (w.alloc (.cells c1 t1)).heap.size (w.alloc (.cells c1 t1)) ((w.alloc (.cells c1 t1)).alloc (.cells c2 t2)) := (Below.refl _ _).alloc (Nat.le_refl _) _
  have c := Bk.new (w.alloc (.cells c1 t1)) t2 c2
  rw [alloc_size w] at c
  exact ⟨a.trans (b.mono a.size), (Bk.new w t1 c1).below b, c⟩

/-- Can a buffer be? -/
def rightL (l : List Ent) (model room mod locs : Int) : Bool :=
  if room < 1 ∨ 4 < room ∨ mod < 2 ∨ 16 < mod then false else rqL l model room.toNat && (l.all fun e => !oddL mod locs e)

set_option maxRecDepth 100000 in
set_option maxHeartbeats 2000000 in
theorem right_any (l : List Ent) (v : Value) (model room mod locs : Int) (w : World) (hv : EntsD w v l) (hn : l.length ≤ 100000) (hr : 1 ≤ room ∧ room ≤ 4) (hm : 2 ≤ mod ∧ mod ≤ 16) (z : Bool) (hz : rightL l model room mod locs = z) :
    Calls Try.prog 9 #[v, .int .i64 model, .int .i64 room, .int .i64 mod, .int .i64 locs] w fun e w' => e = .returned (.bool z) ∧ Below w.heap.size w w' := by
  obtain ⟨r, rfl⟩ : ∃ r : Nat, room = (r : Int) := ⟨room.toNat, by omega⟩
  have hr' : 1 ≤ r ∧ r ≤ 4 := by omega
  unfold rightL at hz
  rw [if_neg (by omega), Int.toNat_natCast] at hz
  have HV := Lib.hid hv
  obtain ⟨q1, hq1⟩ : ∃ q, rqL l model r = q := ⟨_, rfl⟩
  obtain ⟨q2, hq2⟩ : ∃ q, (l.all fun e => !oddL mod locs e) = q := ⟨_, rfl⟩
  rw [hq1, hq2] at hz
  have HZ := Lib.hid hz
  have H1 := Lib.hid (fun W (hb : Below w.heap.size w W) => rightQueues_any l v model r W (EntsD.below HV.out hb) hn hr' q1 hq1)
  have H2 := Lib.hid (fun W p1 p2 h1 h2 (hb : Below w.heap.size w W) => contains_any l v mod locs p1 p2 W (EntsD.below HV.out hb) hn h1 h2 q2 hq2)
  obtain ⟨ad, cap, rfl, _⟩ := hv.shape
  generalize l.length = n at H1 H2 hn HV
  have d1 : decide ((r : Int) < 1) = false := decide_eq_false (by omega)
  have d1' : decide (r < 1) = false := decide_eq_false (by omega)
  have d2 : decide ((4 : Int) < (r : Int)) = false := decide_eq_false (by omega)
  have d2' : decide (4 < r) = false := decide_eq_false (by omega)
  have d3 : decide (mod < 2) = false := decide_eq_false (by omega)
  have d4 : decide (16 < mod) = false := decide_eq_false (by omega)
  clear hv hz hq1 hq2 hr hr' hm
  go_enter Try.func9, Try.ntmps9
  have T0 := Lib.hid (two_new w 3 3 #[.int .i64 mod] #[.int .i64 locs])
  go_wp2_with fail
  generalize (w.alloc _).alloc _ = w1 at T0 ⊢
  refine (H1.out w1 T0.out.1).mono ?_
  rintro e w2 ⟨rfl, b2⟩
  have B2 := Lib.hid (T0.out.1.trans (b2.mono T0.out.1.size))
  have k1 : w2.cell? ⟨w.heap.size, 0, none⟩ = some (.int .i64 mod) := (T0.out.2.1.below b2).cell 0
  have k2 : w2.cell? ⟨w.heap.size + 1, 0, none⟩ = some (.int .i64 locs) := (T0.out.2.2.below b2).cell 0
  have G2 := Lib.hid (H2.out w2 _ _ k2 k1 B2.out)
  clear k1 k2 b2 H1 H2 T0
  cases q1 with
  | false =>
    go_wp2
    go_ret
    exact ⟨ret_bool HZ.out, B2.out⟩
  | true =>
    go_wp2_with fail
    refine G2.out.mono ?_
    rintro e w3 ⟨rfl, b3⟩
    have B3 := Lib.hid (B2.out.trans (b3.mono B2.out.size))
    clear b3
    go_wp2
    go_ret
    exact ⟨ret_bool (by rw [← HZ.out]; simp), B3.out⟩

set_option maxRecDepth 100000 in
set_option maxHeartbeats 2000000 in
theorem same_any (l : List Ent) (v1 v2 : Value) (w : World) (h1 : EntsD w v1 l) (h2 : EntsD w v2 l) (hn : l.length ≤ 100000) :
    Calls Try.prog 14 #[v1, v2] w fun e w' => e = .returned (.bool true) ∧ Below w.heap.size w w' := by
  obtain ⟨ad, cap, rfl, _, _, hc⟩ := h1
  obtain ⟨ad2, cap2, rfl, _, _, hc2⟩ := h2
  have HC := Lib.hid hc
  have HC2 := Lib.hid hc2
  obtain ⟨n, hN⟩ : ∃ n, n = l.length := ⟨_, rfl⟩
  rw [← hN] at hn ⊢
  have HN := Lib.hid hN
  clear hN hc hc2
  go_enter Try.func14, Try.ntmps14
  go_wp2_with fail
  go_loopg [5] n (fun fuel i' wr => ∃ (k : Nat), i' = .int .i64 k ∧ k ≤ n ∧ n - k ≤ fuel ∧ Below w.heap.size w wr)
  case atStart => exact ⟨0, rfl, Nat.zero_le _, Nat.le_refl _, Below.refl _ _⟩
  case round =>
    obtain ⟨k, rfl, hk, hf, hb⟩ := hrel
    have HB := Lib.hid hb
    have hww := hb.size
    by_cases hlt : k < n
    · have hk' : k < l.length := by have := HN.out; omega
      obtain ⟨b, off, rfl, hbl, x0, x1⟩ := HC.out k hk'
      obtain ⟨b2, off2, rfl, hbl2, y0, y1⟩ := HC2.out k hk'
      obtain ⟨⟨xo, xn⟩, hx⟩ : ∃ x, x = l[k] := ⟨_, rfl⟩
      rw [← hx] at x0 x1 y0 y1
      simp only [] at x0 x1 y0 y1
      have c0 : wr.cell? ⟨b, off + k * 2, none⟩ = some (.int .i64 xo) := (hb.cell (p := ⟨b, _, none⟩) hbl).trans x0
      have c1 : wr.cell? ⟨b, off + k * 2 + 1, none⟩ = some (.int .i64 xn) := (hb.cell (p := ⟨b, _, none⟩) hbl).trans x1
      have d0 : wr.cell? ⟨b2, off2 + k * 2, none⟩ = some (.int .i64 xo) := (hb.cell (p := ⟨b2, _, none⟩) hbl2).trans y0
      have d1 : wr.cell? ⟨b2, off2 + k * 2 + 1, none⟩ = some (.int .i64 xn) := (hb.cell (p := ⟨b2, _, none⟩) hbl2).trans y1
      clear x0 x1 y0 y1 hx hb
      go_wp2
      go_quiet (fail)
      go_wp2
      go_roundg (gk - 1)
      case measure => omega
      case rel => exact ⟨k + 1, by go_num, by omega, by omega, below_drewN' HB.out _⟩
    · clear hb
      go_wp2
      go_ret
      exact ⟨rfl, HB.out⟩

set_option maxRecDepth 100000 in
set_option maxHeartbeats 2000000 in
theorem ints_any (l : List Int) (v1 v2 : Value) (w : World) (h1 : IntsD w v1 l) (h2 : IntsD w v2 l) (hn : l.length ≤ 100000) :
    Calls Try.prog 15 #[v1, v2] w fun e w' => e = .returned (.bool true) ∧ Below w.heap.size w w' := by
  obtain ⟨ad, cap, rfl, _, _, hc⟩ := h1
  obtain ⟨ad2, cap2, rfl, _, _, hc2⟩ := h2
  have HC := Lib.hid hc
  have HC2 := Lib.hid hc2
  obtain ⟨n, hN⟩ : ∃ n, n = l.length := ⟨_, rfl⟩
  rw [← hN] at hn ⊢
  have HN := Lib.hid hN
  clear hN hc hc2
  go_enter Try.func15, Try.ntmps15
  go_wp2_with fail
  go_loopg [5] n (fun fuel i' wr => ∃ (k : Nat), i' = .int .i64 k ∧ k ≤ n ∧ n - k ≤ fuel ∧ Below w.heap.size w wr)
  case atStart => exact ⟨0, rfl, Nat.zero_le _, Nat.le_refl _, Below.refl _ _⟩
  case round =>
    obtain ⟨k, rfl, hk, hf, hb⟩ := hrel
    have HB := Lib.hid hb
    have hww := hb.size
    by_cases hlt : k < n
    · have hk' : k < l.length := by have := HN.out; omega
      obtain ⟨b, off, rfl, hbl, x0⟩ := HC.out k hk'
      obtain ⟨b2, off2, rfl, hbl2, y0⟩ := HC2.out k hk'
      obtain ⟨xo, hx⟩ : ∃ x, x = l[k] := ⟨_, rfl⟩
      rw [← hx] at x0 y0
      simp only [IntAt, Nat.mul_one] at x0 y0
      have c0 : wr.cell? ⟨b, off + k, none⟩ = some (.int .i64 xo) := (hb.cell (p := ⟨b, _, none⟩) hbl).trans x0
      have d0 : wr.cell? ⟨b2, off2 + k, none⟩ = some (.int .i64 xo) := (hb.cell (p := ⟨b2, _, none⟩) hbl2).trans y0
      clear x0 y0 hx hb
      go_wp2
      go_quiet (fail)
      go_wp2
      go_roundg (gk - 1)
      case measure => omega
      case rel => exact ⟨k + 1, by go_num, by omega, by omega, below_drewN' HB.out _⟩
    · clear hb
      go_wp2
      go_ret
      exact ⟨rfl, HB.out⟩

end Go.Proofs.Ytponbnlhedigoaa
