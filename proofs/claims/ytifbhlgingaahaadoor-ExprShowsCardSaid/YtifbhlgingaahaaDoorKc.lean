/- What join does. -/
import Derived.Test.YtifbhlgingaahaaDoorKb
import Derived.Laws.AppendOwnNone
namespace Go.Proofs.YtifbhlgingaahaaDoor
open Go.RowKit

/-- A part as it lies in memory: its nodes' slice, its size, its depth, its nodes. -/
structure PtR where
  ad : Option Addr
  cap : Nat
  s : Int
  d : Int
  xs : List Nd

def PtR.nv (p : PtR) : Value := .slice p.ad p.xs.length p.cap

def szF : List PtR → Int → Int
  | [], a => a
  | p :: r, a => szF r (a + p.s)
def dpF : List PtR → Int → Int
  | [], a => a
  | p :: r, a => dpF r (max a (p.d + 1))
def xsF (x : Nd) (ps : List PtR) : List Nd := x :: ps.flatMap PtR.xs

theorem szF_at (l : List PtR) (k : Nat) (h : k < l.length) (a : Int) : szF (l.drop k) a = szF (l.drop (k + 1)) (a + l[k].s) := by
  rw [List.drop_eq_getElem_cons h, szF]
theorem dpF_at (l : List PtR) (k : Nat) (h : k < l.length) (a : Int) : dpF (l.drop k) a = dpF (l.drop (k + 1)) (max a (l[k].d + 1)) := by
  rw [List.drop_eq_getElem_cons h, dpF]
theorem drop_over {α : Type} (l : List α) (k : Nat) (h : ¬ k < l.length) : l.drop k = [] := List.drop_eq_nil_of_le (by omega)

def Blk5 (W : World) (b : Nat) (x : Nd) : Prop := W.heap[b]? = some (.cells #[.int .i64 x.op, .int .i64 x.n, .string x.nm, .string x.inn, .int .i64 x.pl] 32 (0, 0))
theorem Blk5.lt {W : World} {b : Nat} {x : Nd} (h : Blk5 W b x) : b < W.heap.size := (Array.getElem?_eq_some_iff.1 h).1
theorem Blk5.below {W W' : World} {b : Nat} {x : Nd} (h : Blk5 W b x) (hb : Below W.heap.size W W') : Blk5 W' b x := by
  have := Blk5.lt h
  unfold Blk5 at *; rw [hb.block b this]; exact h
theorem Blk5.facts {W : World} {b : Nat} {x : Nd} (h : Blk5 W b x) :
    (W.cell? ⟨b, 0, none⟩ = some (.int .i64 x.op) ∧ W.cell? ⟨b, 1, none⟩ = some (.int .i64 x.n) ∧ W.cell? ⟨b, 2, none⟩ = some (.string x.nm) ∧ W.cell? ⟨b, 3, none⟩ = some (.string x.inn) ∧ W.cell? ⟨b, 4, none⟩ = some (.int .i64 x.pl)) ∧
    W.frozen? ⟨b, 0, none⟩ = false ∧ W.frozen? ⟨b, 1, none⟩ = false ∧ W.frozen? ⟨b, 2, none⟩ = false ∧ W.frozen? ⟨b, 3, none⟩ = false ∧ W.frozen? ⟨b, 4, none⟩ = false := by
  unfold Blk5 at h
  simp [World.cell?, World.frozen?, h]

/-- The parts that are handed to join. -/
def PtsAt (w : World) (v : Value) (ps : List PtR) : Prop :=
  ∃ ad cap, v = .slice ad ps.length cap ∧ ∀ i, (hi : i < ps.length) → ∃ g, ad = some ⟨g, 0, none⟩ ∧ g < w.heap.size ∧
    w.cell? ⟨g, i * 3, none⟩ = some ps[i].nv ∧ w.cell? ⟨g, i * 3 + 1, none⟩ = some (.int .i64 ps[i].s) ∧ w.cell? ⟨g, i * 3 + 2, none⟩ = some (.int .i64 ps[i].d)

theorem PtsAt.below {w w' : World} {v : Value} {ps : List PtR} (h : PtsAt w v ps) (hb : Below w.heap.size w w') : PtsAt w' v ps := by
  obtain ⟨ad, cap, hv, hc⟩ := h
  refine ⟨ad, cap, hv, fun i hi => ?_⟩
  obtain ⟨g, hg, h1, k0, k1, k2⟩ := hc i hi
  exact ⟨g, hg, Nat.lt_of_lt_of_le h1 hb.size, (hb.cell (p := ⟨g, _, none⟩) h1).trans k0, (hb.cell (p := ⟨g, _, none⟩) h1).trans k1, (hb.cell (p := ⟨g, _, none⟩) h1).trans k2⟩

/-- A part whose nodes the call owns. -/
def PtOwn (w : World) (B : Nat) (p : PtR) : Prop := w.ownsRow B 32 5 p.nv p.xs.length (rowN p.xs) ∧ p.xs.length ≤ 200 ∧ 0 ≤ p.s ∧ p.s ≤ 1000000 ∧ 0 ≤ p.d ∧ p.d ≤ 1000000

theorem Blk3.set {w : World} {b : Nat} {x0 x1 x2 : Value} (h : Blk3 w b x0 x1 x2) :
    (∀ u, Blk3 (w.setCell ⟨b, 0, none⟩ u) b u x1 x2) ∧ (∀ u, Blk3 (w.setCell ⟨b, 1, none⟩ u) b x0 u x2) ∧ (∀ u, Blk3 (w.setCell ⟨b, 2, none⟩ u) b x0 x1 u) := by
  unfold Blk3 at h
  have hlt := (Array.getElem?_eq_some_iff.1 h).1
  have hg := (Array.getElem?_eq_some_iff.1 h).2
  refine ⟨fun u => ?_, fun u => ?_, fun u => ?_⟩ <;> simp [Blk3, World.setCell, Array.getElem?_modify, h]
theorem Blk3.other {w : World} {b : Nat} {x0 x1 x2 : Value} (h : Blk3 w b x0 x1 x2) (g o : Nat) (hg : b ≠ g) (u : Value) : Blk3 (w.setCell ⟨g, o, none⟩ u) b x0 x1 x2 := by
  unfold Blk3 at *; rw [Below.heap_setCell _ _ _ _ (by exact hg)]; exact h
theorem Blk5.other {w : World} {b : Nat} {x : Nd} (h : Blk5 w b x) (g o : Nat) (hg : b ≠ g) (u : Value) : Blk5 (w.setCell ⟨g, o, none⟩ u) b x := by
  unfold Blk5 at *; rw [Below.heap_setCell _ _ _ _ (by exact hg)]; exact h
theorem Blk3.alloc {w : World} {b : Nat} {x0 x1 x2 : Value} (h : Blk3 w b x0 x1 x2) (o : Obj) : Blk3 (w.alloc o) b x0 x1 x2 := h.below ((Below.refl _ _).alloc (Nat.le_refl _) _)
theorem Blk5.alloc {w : World} {b : Nat} {x : Nd} (h : Blk5 w b x) (o : Obj) : Blk5 (w.alloc o) b x := h.below ((Below.refl _ _).alloc (Nat.le_refl _) _)
/-- A block of the call's own is written, twice; a new one is made. -/
theorem below_two {B b : Nat} {w wr : World} (h : Below B w wr) (hb : B ≤ b) (hB : B ≤ w.heap.size) (o1 o2 : Nat) (u1 u2 : Value) (o : Obj) : Below B w (((wr.setCell ⟨b, o1, none⟩ u1).setCell ⟨b, o2, none⟩ u2).alloc o) := by
  have h2 := (h.setCell (p := ⟨b, o1, none⟩) hb u1).setCell (p := ⟨b, o2, none⟩) hb u2
  exact h2.alloc (Nat.le_trans hB h2.size) o

theorem info32 : (Tryd.prog.info? 32).map (fun i => (i.zero, i.size, i.bytes)) = some (some (.agg #[.int .i64 0, .int .i64 0, .string ⟨#[]⟩, .string ⟨#[]⟩, .int .i64 0]), 5, 56) := by kernel_rfl

theorem rowN_length (l : List Nd) : (rowN l).length = l.length * 5 := by
  unfold rowN
  induction l with
  | nil => rfl
  | cons a l ih => simp only [List.flatMap_cons, List.length_append, ih, List.length_cons, Nd.cells, List.length_nil]; omega
theorem rowN_one (l : List Nd) : ∀ u ∈ rowN l, u.oneCell' = true := by
  intro u h
  unfold rowN at h
  rw [List.mem_flatMap] at h
  obtain ⟨t, _, h⟩ := h
  simp [Nd.cells] at h
  rcases h with rfl | rfl | rfl | rfl | rfl <;> rfl
theorem rowN_append (a b : List Nd) : rowN (a ++ b) = rowN a ++ rowN b := by simp [rowN]

theorem own_mono {w : World} {B B' e size n : Nat} {v : Value} {xs : List Value} (h : w.ownsRow B e size v n xs) (hB : B' ≤ B) : w.ownsRow B' e size v n xs := by
  obtain ⟨h1, h2⟩ := h
  refine ⟨h1, ?_⟩
  rcases h2 with h2 | ⟨g, cap, cur, hv, hg, hh, r⟩
  · exact .inl h2
  · exact .inr ⟨g, cap, cur, hv, Nat.le_trans hB hg, hh, r⟩

theorem own_shape {w : World} {B n e size : Nat} {v : Value} {xs : List Value} (h : w.ownsRow B e size v n xs) : ∃ ad cap, v = .slice ad n cap ∧ ((ad = none ∧ n = 0 ∧ cap = 0) ∨ ∃ g, ad = some ⟨g, 0, none⟩ ∧ B ≤ g ∧ g < w.heap.size) := by
  have hl := h.lt
  rcases h.2 with ⟨rfl, rfl⟩ | ⟨g, cap', cur, rfl, hb, hg, _⟩
  · exact ⟨none, 0, rfl, .inl ⟨rfl, rfl, rfl⟩⟩
  · exact ⟨_, cap', rfl, .inr ⟨g, rfl, hl g rfl⟩⟩

/-- append(x, l...), l nodes that the call owns. -/
theorem append_nds {w : World} {ops : Array Oper} {rest : List Oper} {o : Oper} {a : Act} {Q : Exit → Act → World → Prop} (hgd : o.guard = none) (s x : Operand)
    (ho : o.op = .call { callee := .builtin .append, args := #[s, x], argTypes := #[22, 22] }) (base B n m : Nat) (v u : Value) (xs : List Value) (l : List Nd) (hs : a.eval s = v) (hx : a.eval x = u)
    (hown : w.ownsRow base 32 5 v n xs) (hu : w.ownsRow B 32 5 u m (rowN l)) (hm : m = l.length) (hn : n + m ≤ 1000000) (hbase : base ≤ w.heap.size)
    (h : ∀ v' w', w'.ownsRow base 32 5 v' (n + m) (xs ++ rowN l) → Below base w w' → wpList Tryd.prog ops Q rest (a.put o.dst v') w') : wpList Tryd.prog ops Q (o :: rest) a w := by
  obtain ⟨i0, hi, hz0, hz1, hz2⟩ := info_parts info32
  have hc := @World.ownsRow.cells _ _ _ _ _ _ _ hu
  subst hm
  rcases hu.2 with ⟨rfl, h0⟩ | ⟨g, cap, cur, rfl, _⟩
  · obtain rfl := List.eq_nil_of_length_eq_zero h0
    refine wpList_append_own_none hgd s x 22 ho base 32 i0 5 Tryd.underlying22 hi v n xs hs hown hx ?_
    have := h v w
    rw [show rowN [] = [] from rfl, List.append_nil] at this
    exact this hown (Below.refl _ _)
  · refine wpList_append_own _ hgd s x 22 ho base 32 i0 (.agg #[.int .i64 0, .int .i64 0, .string ⟨#[]⟩, .string ⟨#[]⟩, .int .i64 0]) 5 56 Tryd.underlying22 hi hz0 hz1 hz2 rfl (by decide) v n xs hs hown ⟨g, 0, none⟩ l.length cap (rowN l) hx
      (by rw [rowN_length]) (hc rfl) (rowN_one l) (by unfold maxLen; omega) (by omega) hbase ?_
    intro v' w' h1 h2 _
    exact h v' w' h1 ((Below.refl base w).grown h2 hbase (fun k hk => (hown.lt k hk).1))

/-- A slice of one node in a new block. -/
theorem own_new (w : World) (x : Nd) : (w.alloc (.cells #[.int .i64 x.op, .int .i64 x.n, .string x.nm, .string x.inn, .int .i64 x.pl] 32)).ownsRow w.heap.size 32 5 (.slice (some ⟨w.heap.size, 0, none⟩) 1 1) 1 (rowN [x]) :=
  ⟨rfl, .inr ⟨w.heap.size, 1, _, rfl, Nat.le_refl _, heap_alloc_new w _, Nat.le_refl _, by unfold maxLen; decide, rfl, rfl⟩⟩

def JoinAns (x : Nd) (ps : List PtR) (B : Nat) (w : World) (e : Ending) (w' : World) : Prop :=
  ∃ nv xs, e = .returned (.agg #[nv, .int .i64 (szF ps 1), .int .i64 (dpF ps 0)]) ∧ w'.ownsRow B 32 5 nv xs.length (rowN xs) ∧ (szF ps 1 ≤ 200 ∧ dpF ps 0 ≤ 30 → xs = xsF x ps) ∧ (¬ (szF ps 1 ≤ 200 ∧ dpF ps 0 ≤ 30) → xs = []) ∧ Below w.heap.size w w'

set_option maxHeartbeats 2000000 in
theorem join_any (x : Nd) (v : Value) (ps : List PtR) (B : Nat) (w : World) (hv : PtsAt w v ps) (hn : ps.length ≤ 2) (ho : ∀ p ∈ ps, PtOwn w B p) (hB : B ≤ w.heap.size) :
    Calls Tryd.prog 55 #[.agg #[.int .i64 x.op, .int .i64 x.n, .string x.nm, .string x.inn, .int .i64 x.pl], v] w (JoinAns x ps B w) := by
  obtain ⟨ad, cap, rfl, hc⟩ := hv
  have HC := Lib.hid hc
  have HO : Hid (∀ i, (hi : i < ps.length) → 0 ≤ ps[i].s ∧ ps[i].s ≤ 1000000 ∧ 0 ≤ ps[i].d ∧ ps[i].d ≤ 1000000) := fun i hi => (ho _ (List.getElem_mem hi)).2.2
  have HOW := Lib.hid ho
  clear hc ho
  obtain ⟨n, hN⟩ : ∃ n, n = ps.length := ⟨_, rfl⟩
  rw [← hN] at hn ⊢
  have HN := Lib.hid hN
  clear hN
  obtain ⟨S, hS⟩ : ∃ S, szF ps 1 = S := ⟨_, rfl⟩
  obtain ⟨D, hD⟩ : ∃ D, dpF ps 0 = D := ⟨_, rfl⟩
  have HS := Lib.hid hS
  have HD := Lib.hid hD
  clear hS hD
  obtain ⟨xo, xn, xnm, xin, xp⟩ := x
  simp only []
  go_enter Tryd.func55, Tryd.ntmps55
  go_wp2
  have hn5 : Blk5 (((w.alloc (.cells #[.int .i64 xo, .int .i64 xn, .string xnm, .string xin, .int .i64 xp] 32)).alloc (.cells #[.slice none 0 0, .int .i64 0, .int .i64 0] 48)).alloc (.cells #[.slice none 0 0, .int .i64 1, .int .i64 0] 48)) w.heap.size ⟨xo, xn, xnm, xin, xp⟩ := by
    unfold Blk5
    rw [Below.heap_alloc _ _ _ (by simp; omega), Below.heap_alloc _ _ _ (by simp)]
    exact heap_alloc_new w _
  have hr3 : Blk3 (((w.alloc (.cells #[.int .i64 xo, .int .i64 xn, .string xnm, .string xin, .int .i64 xp] 32)).alloc (.cells #[.slice none 0 0, .int .i64 0, .int .i64 0] 48)).alloc (.cells #[.slice none 0 0, .int .i64 1, .int .i64 0] 48)) (w.heap.size + 1) (.slice none 0 0) (.int .i64 0) (.int .i64 0) := by
    unfold Blk3
    rw [Below.heap_alloc _ _ _ (by simp)]
    have := heap_alloc_new (w.alloc (.cells #[.int .i64 xo, .int .i64 xn, .string xnm, .string xin, .int .i64 xp] 32)) (.cells #[.slice none 0 0, .int .i64 0, .int .i64 0] 48)
    simpa using this
  have hx3 : Blk3 (((w.alloc (.cells #[.int .i64 xo, .int .i64 xn, .string xnm, .string xin, .int .i64 xp] 32)).alloc (.cells #[.slice none 0 0, .int .i64 0, .int .i64 0] 48)).alloc (.cells #[.slice none 0 0, .int .i64 1, .int .i64 0] 48)) (w.heap.size + 1 + 1) (.slice none 0 0) (.int .i64 1) (.int .i64 0) := by
    have := heap_alloc_new ((w.alloc (.cells #[.int .i64 xo, .int .i64 xn, .string xnm, .string xin, .int .i64 xp] 32)).alloc (.cells #[.slice none 0 0, .int .i64 0, .int .i64 0] 48)) (.cells #[.slice none 0 0, .int .i64 1, .int .i64 0] 48)
    simpa [Blk3] using this
  have hbw : Below w.heap.size w (((w.alloc (.cells #[.int .i64 xo, .int .i64 xn, .string xnm, .string xin, .int .i64 xp] 32)).alloc (.cells #[.slice none 0 0, .int .i64 0, .int .i64 0] 48)).alloc (.cells #[.slice none 0 0, .int .i64 1, .int .i64 0] 48)) :=
    (((Below.refl _ _).alloc (Nat.le_refl _) _).alloc (by simp) _).alloc (by simp; omega) _
  generalize (((w.alloc (.cells #[.int .i64 xo, .int .i64 xn, .string xnm, .string xin, .int .i64 xp] 32)).alloc (.cells #[.slice none 0 0, .int .i64 0, .int .i64 0] 48)).alloc (.cells #[.slice none 0 0, .int .i64 1, .int .i64 0] 48)) = w0 at hn5 hr3 hx3 hbw ⊢
  obtain ⟨bn, hbn⟩ : ∃ b, b = w.heap.size := ⟨_, rfl⟩
  obtain ⟨br, hbr⟩ : ∃ b, b = w.heap.size + 1 := ⟨_, rfl⟩
  obtain ⟨bx, hbx⟩ : ∃ b, b = w.heap.size + 1 + 1 := ⟨_, rfl⟩
  have hbn0 : w.heap.size ≤ bn := by omega
  have hbr0 : w.heap.size ≤ br := by omega
  have hbx0 : w.heap.size ≤ bx := by omega
  have hd1 : bn ≠ br := by omega
  have hd2 : bn ≠ bx := by omega
  have hd3 : br ≠ bx := by omega
  rw [← hbx] at hx3 ⊢
  rw [← hbr] at hr3 ⊢
  rw [← hbn] at hn5
  have HBN := Lib.hid hbn
  clear hbr hbx hbn
  have HBW := Lib.hid hbw
  have HN5 := Lib.hid hn5
  have HR3 := Lib.hid hr3
  have HX3 := Lib.hid hx3
  clear hbw hn5 hr3 hx3
  go_loopg [13] n (fun fuel i' wr => ∃ (k : Nat) (a c : Int), i' = .int .i64 k ∧ k ≤ n ∧ n - k ≤ fuel ∧ 0 ≤ a ∧ a ≤ 1 + 1000000 * k ∧ 0 ≤ c ∧ c ≤ 2000000 ∧ szF (ps.drop k) a = S ∧ dpF (ps.drop k) c = D ∧ Blk3 wr bx (.slice none 0 0) (.int .i64 a) (.int .i64 c) ∧ Blk3 wr br (.slice none 0 0) (.int .i64 0) (.int .i64 0) ∧ Blk5 wr bn ⟨xo, xn, xnm, xin, xp⟩ ∧ Below w.heap.size w wr)
  case atStart => exact ⟨0, 1, 0, rfl, Nat.zero_le _, Nat.le_refl _, by omega, by omega, by omega, by omega, HS.out, HD.out, HX3.out, HR3.out, HN5.out, HBW.out⟩
  case round =>
    obtain ⟨k, a, c, rfl, hk, hf, ha0, ha1, hc0, hc1, hsz, hdp, hx3, hr3, hn5, hbw⟩ := hrel
    have HX := Lib.hid hx3
    have HR := Lib.hid hr3
    have HN5 := Lib.hid hn5
    have HBW := Lib.hid hbw
    have HSZ := Lib.hid hsz
    have HDP := Lib.hid hdp
    obtain ⟨⟨x0, x1, x2⟩, xf0, xf1, xf2⟩ := hx3.facts
    have hxl := hx3.lt
    clear hx3 hr3 hn5 hbw hsz hdp
    by_cases hlt : k < n
    · have hk' : k < ps.length := by have := HN.out; omega
      obtain ⟨g, rfl, hg, p0, p1, p2⟩ := HC.out k hk'
      obtain ⟨o1, o2, o3, o4⟩ := HO.out k hk'
      have HSA := Lib.hid (szF_at ps k hk' a)
      have HDA := Lib.hid (dpF_at ps k hk' c)
      obtain ⟨⟨pad, pcap, pz, pd, px⟩, hpk⟩ : ∃ t, t = ps[k] := ⟨_, rfl⟩
      have HPK := Lib.hid hpk
      rw [← hpk] at p0 p1 p2 o1 o2 o3 o4
      simp only [PtR.nv] at p0 p1 p2 o1 o2 o3 o4
      clear hpk
      have g0 : wr.cell? ⟨g, k * 3, none⟩ = some (.slice pad px.length pcap) := (HBW.out.cell (p := ⟨g, _, none⟩) hg).trans p0
      have g1 : wr.cell? ⟨g, k * 3 + 1, none⟩ = some (.int .i64 pz) := (HBW.out.cell (p := ⟨g, _, none⟩) hg).trans p1
      have g2 : wr.cell? ⟨g, k * 3 + 2, none⟩ = some (.int .i64 pd) := (HBW.out.cell (p := ⟨g, _, none⟩) hg).trans p2
      clear p0 p1 p2
      have s1 : 0 ≤ a + pz := by omega
      have s2 : a + pz ≤ 10000000 := by omega
      have s3 : 0 ≤ pd + 1 := by omega
      have s4 : pd + 1 ≤ 10000000 := by omega
      go_wp2
      all_goals
        go_roundg (gk - 1)
        case measure => omega
        case rel =>
          refine ⟨k + 1, a + pz, _, by go_num, by omega, by omega, s1, by omega, ?_, ?_, ?_, ?_, ((HX.out.set.2.1 _).set.2.2 _).alloc _, ((HR.out.other _ _ hd3 _).other _ _ hd3 _).alloc _, ((HN5.out.other _ _ hd2 _).other _ _ hd2 _).alloc _, below_two HBW.out hbx0 (Nat.le_refl _) _ _ _ _ _⟩
          · omega
          · omega
          · have e1 := HSZ.out
            rw [HSA.out, ← HPK.out] at e1
            exact e1
          · have e1 := HDP.out
            rw [HDA.out, ← HPK.out] at e1
            simp only [] at e1
            rw [← e1]; congr 1; omega
    · have hk2 : ¬ k < ps.length := by have := HN.out; omega
      have ea : a = S := by have := HSZ.out; rw [drop_over ps k hk2] at this; exact this
      have ec : c = D := by have := HDP.out; rw [drop_over ps k hk2] at this; exact this
      subst ea ec
      obtain ⟨⟨r0, r1, r2⟩, rf0, rf1, rf2⟩ := HR.out.facts
      by_cases hb : 200 < a
      · go_wp2
        refine bodyPost_ret (v := .agg #[.slice none 0 0, .int .i64 a, .int .i64 c]) (by simp [results, Tryd.results55, go_sem, r0, r1, r2]) rfl ⟨.slice none 0 0, [], ?_, World.ownsRow_nil _ _ _ _, fun h => by have h1 := HS.out; omega, fun _ => rfl, ?_⟩
        · rw [HS.out, HD.out]
        · exact ((HBW.out.setCell (p := ⟨br, 0, none⟩) hbr0 _).setCell (p := ⟨br, 1, none⟩) hbr0 _).setCell (p := ⟨br, 2, none⟩) hbr0 _
      · by_cases hb2 : 30 < c
        · go_wp2
          refine bodyPost_ret (v := .agg #[.slice none 0 0, .int .i64 a, .int .i64 c]) (by simp [results, Tryd.results55, go_sem, r0, r1, r2]) rfl ⟨.slice none 0 0, [], ?_, World.ownsRow_nil _ _ _ _, fun h => by have h1 := HD.out; omega, fun _ => rfl, ?_⟩
          · rw [HS.out, HD.out]
          · exact ((HBW.out.setCell (p := ⟨br, 0, none⟩) hbr0 _).setCell (p := ⟨br, 1, none⟩) hbr0 _).setCell (p := ⟨br, 2, none⟩) hbr0 _
        · have HSM : Hid (szF ps 1 ≤ 200 ∧ dpF ps 0 ≤ 30) := ⟨by rw [HS.out]; omega, by rw [HD.out]; omega⟩
          obtain ⟨⟨n0, n1, n2, n3, n4⟩, _⟩ := HN5.out.facts
          simp only [] at n0 n1 n2 n3 n4
          rw [HBN.out] at n0 n1 n2 n3 n4
          have HNEW : Hid ((wr.alloc (.cells #[.int .i64 xo, .int .i64 xn, .string xnm, .string xin, .int .i64 xp] 32)).ownsRow wr.heap.size 32 5 (.slice (some ⟨wr.heap.size, 0, none⟩) 1 1) 1 (rowN [⟨xo, xn, xnm, xin, xp⟩])) := own_new wr ⟨xo, xn, xnm, xin, xp⟩
          go_wp2_with (at_builtin; refine append_nds rfl (.tmp 41) (.tmp 43) rfl wr.heap.size wr.heap.size 0 1 _ _ [] [⟨xo, xn, xnm, xin, xp⟩] rfl rfl (World.ownsRow_nil _ _ _ _) HNEW.out rfl (by omega) (by simp) ?_)
          intro v1 w1 hown1 hb1
          replace hown1 : w1.ownsRow wr.heap.size 32 5 v1 1 (rowN [⟨xo, xn, xnm, xin, xp⟩]) := hown1
          have hxlt := HX.out.lt
          have hrlt := HR.out.lt
          have hbA : Below wr.heap.size wr w1 := ((Below.refl _ _).alloc (Nat.le_refl _) _).trans hb1
          obtain ⟨N0, hN0⟩ : ∃ N, N = wr.heap.size := ⟨_, rfl⟩
          have HB1 := Lib.hid (HBW.out.trans (hbA.mono HBW.out.size))
          have HX1 := Lib.hid (HX.out.below hbA)
          have HR1 := Lib.hid (HR.out.below hbA)
          have hN1 : N0 ≤ w1.heap.size := by have := hbA.size; omega
          have hN2 : w.heap.size ≤ N0 := by have := HBW.out.size; omega
          rw [← hN0] at hown1 hxlt hrlt
          obtain ⟨ad1, cap1, rfl, _⟩ := own_shape hown1
          have HOWN1 := Lib.hid hown1
          obtain ⟨⟨x0, x1, x2⟩, xf0, xf1, xf2⟩ := HX1.out.facts
          clear hown1 hb1 hbA HX HR HBW HN5 n0 n1 n2 n3 n4 r0 r1 r2 rf0 rf1 rf2 HNEW hN0
          go_wp2_with fail
          have HX2 := Lib.hid (HX1.out.set.1 (.slice ad1 1 cap1))
          have HR2 := Lib.hid (HR1.out.other bx 0 hd3 (.slice ad1 1 cap1))
          have HB2 := Lib.hid (HB1.out.setCell (p := ⟨bx, 0, none⟩) hbx0 (.slice ad1 1 cap1))
          have HO2 : Hid ((w1.setCell ⟨bx, 0, none⟩ (.slice ad1 1 cap1)).ownsRow N0 32 5 (.slice ad1 1 cap1) 1 (rowN [⟨xo, xn, xnm, xin, xp⟩])) := ownsRow_setCell_below HOWN1.out hxlt _
          have hN3 : N0 ≤ (w1.setCell ⟨bx, 0, none⟩ (.slice ad1 1 cap1)).heap.size := by simpa [World.setCell] using hN1
          clear HX1 HR1 HB1 HOWN1 x0 x1 x2 xf0 xf1 xf2 hN1
          generalize w1.setCell ⟨bx, 0, none⟩ (.slice ad1 1 cap1) = w2 at HX2 HR2 HB2 HO2 hN3 ⊢
          clear hlt hk2
          go_loopg [48] n (fun fuel i' wr => ∃ (k : Nat) (ad1 : Option Addr) (cap1 : Nat) (xs1 : List Nd), i' = .int .i64 k ∧ k ≤ n ∧ n - k ≤ fuel ∧ xs1.length ≤ 1 + 200 * k ∧ xs1 ++ (ps.drop k).flatMap PtR.xs = xsF ⟨xo, xn, xnm, xin, xp⟩ ps ∧ Blk3 wr bx (.slice ad1 xs1.length cap1) (.int .i64 a) (.int .i64 c) ∧ Blk3 wr br (.slice none 0 0) (.int .i64 0) (.int .i64 0) ∧ wr.ownsRow N0 32 5 (.slice ad1 xs1.length cap1) xs1.length (rowN xs1) ∧ Below w.heap.size w wr ∧ N0 ≤ wr.heap.size)
          case atStart => exact ⟨0, ad1, cap1, [⟨xo, xn, xnm, xin, xp⟩], rfl, Nat.zero_le _, Nat.le_refl _, by simp, rfl, HX2.out, HR2.out, HO2.out, HB2.out, hN3⟩
          case round =>
            obtain ⟨k, ad1, cap1, xs1, rfl, hk, hf, hxl1, hxs, hx3, hr3, ho3, hb3, hn3⟩ := hrel
            have HXS := Lib.hid hxs
            have HX := Lib.hid hx3
            have HR := Lib.hid hr3
            have HO3 := Lib.hid ho3
            have HB3 := Lib.hid hb3
            obtain ⟨⟨x0, x1, x2⟩, xf0, xf1, xf2⟩ := hx3.facts
            obtain ⟨⟨r0, r1, r2⟩, rf0, rf1, rf2⟩ := hr3.facts
            have hxl := hx3.lt
            clear hx3 hr3 hxs ho3 hb3
            by_cases hlt : k < n
            · have hk' : k < ps.length := by have := HN.out; omega
              obtain ⟨g, rfl, hg, p0, p1, p2⟩ := HC.out k hk'
              obtain ⟨hpo, hpl, hjunk⟩ := HOW.out _ (List.getElem_mem hk')
              clear hjunk
              have HSA := Lib.hid (List.drop_eq_getElem_cons hk')
              obtain ⟨⟨pad, pcap, pz, pd, px⟩, hpk⟩ : ∃ t, t = ps[k] := ⟨_, rfl⟩
              have HPK := Lib.hid hpk
              rw [← hpk] at p0 p1 p2 hpo hpl
              simp only [PtR.nv] at p0 p1 p2 hpo hpl
              clear hpk
              have g0 : wr.cell? ⟨g, k * 3, none⟩ = some (.slice pad px.length pcap) := (HB3.out.cell (p := ⟨g, _, none⟩) hg).trans p0
              have g1 : wr.cell? ⟨g, k * 3 + 1, none⟩ = some (.int .i64 pz) := (HB3.out.cell (p := ⟨g, _, none⟩) hg).trans p1
              have g2 : wr.cell? ⟨g, k * 3 + 2, none⟩ = some (.int .i64 pd) := (HB3.out.cell (p := ⟨g, _, none⟩) hg).trans p2
              have HPO := Lib.hid (own_below hpo HB3.out)
              clear p0 p1 p2 hpo
              go_wp2_with (at_builtin; refine append_nds rfl (.tmp 53) (.tmp 55) rfl N0 B xs1.length px.length _ _ (rowN xs1) px rfl rfl (own_below HO3.out ((Below.refl _ _).alloc (Nat.le_refl _) _)) (own_below HPO.out ((Below.refl _ _).alloc (Nat.le_refl _) _)) rfl (by omega) (by simp; omega) ?_)
              intro v' w' hown' hb'
              have hbA : Below N0 wr w' := ((Below.refl _ _).alloc hn3 _).trans hb'
              obtain ⟨ad', cap', rfl, _⟩ := own_shape hown'
              have HX' : Hid (Blk3 w' bx (.slice ad1 xs1.length cap1) (.int .i64 a) (.int .i64 c)) := by
                have h := HX.out
                unfold Blk3 at h ⊢; rw [hbA.block bx hxlt]; exact h
              have HR' : Hid (Blk3 w' br (.slice none 0 0) (.int .i64 0) (.int .i64 0)) := by
                have h := HR.out
                unfold Blk3 at h ⊢; rw [hbA.block br hrlt]; exact h
              have HB' := Lib.hid (HB3.out.trans (hbA.mono hN2))
              have hn' : N0 ≤ w'.heap.size := Nat.le_trans hn3 hbA.size
              have HOWN' := Lib.hid hown'
              clear hown' hb' hbA x0 x1 x2 xf0 xf1 xf2 r0 r1 r2 rf0 rf1 rf2 g0 g1 g2 hxl
              obtain ⟨⟨x0, x1, x2⟩, xf0, xf1, xf2⟩ := HX'.out.facts
              obtain ⟨m', hm'⟩ : ∃ m, m = xs1.length + px.length := ⟨_, rfl⟩
              rw [← hm'] at HOWN' ⊢
              have HM := Lib.hid hm'
              clear hm'
              go_wp2_with fail
              go_roundg (gk - 1)
              case measure => omega
              case rel =>
                have hlen : (xs1 ++ px).length ≤ 1 + 200 * (k + 1) := by
                  rw [List.length_append]
                  exact Nat.le_trans (Nat.add_le_add hxl1 hpl) (by omega)
                have hk3 : k + 1 ≤ n := by omega
                have hf3 : n - (k + 1) ≤ gk - 1 := by rw [Nat.sub_add_eq]; exact Nat.sub_le_sub_right hf 1
                refine ⟨k + 1, ad', cap', xs1 ++ px, by go_num, hk3, hf3, hlen, ?_, ?_, HR'.out.other bx 0 hd3 _, ?_, HB'.out.setCell (p := ⟨bx, 0, none⟩) hbx0 _, by simpa [World.setCell] using hn'⟩
                · have e := HXS.out
                  rw [HSA.out, List.flatMap_cons, ← HPK.out] at e
                  rw [List.append_assoc]; exact e
                · rw [List.length_append, ← HM.out]; exact HX'.out.set.1 _
                · rw [List.length_append, ← HM.out, rowN_append]; exact ownsRow_setCell_below HOWN'.out hxlt _
            · have hk2 : ¬ k < ps.length := by have := HN.out; omega
              have e := HXS.out
              rw [drop_over ps k hk2] at e
              simp only [List.flatMap_nil, List.append_nil] at e
              have HE := Lib.hid e
              clear e
              go_wp2
              refine bodyPost_ret (v := .agg #[.slice ad1 xs1.length cap1, .int .i64 a, .int .i64 c]) (by simp [results, Tryd.results55, go_sem, r0, r1, r2]) rfl ⟨.slice ad1 xs1.length cap1, xs1, ?_, ?_, fun _ => HE.out, fun h => absurd HSM.out h, ?_⟩
              · rw [HS.out, HD.out]
              · exact own_mono (ownsRow_setCell_below (ownsRow_setCell_below (ownsRow_setCell_below HO3.out hrlt _) hrlt _) hrlt _) (by omega)
              · exact ((HB3.out.setCell (p := ⟨br, 0, none⟩) hbr0 _).setCell (p := ⟨br, 1, none⟩) hbr0 _).setCell (p := ⟨br, 2, none⟩) hbr0 _

end Go.Proofs.YtifbhlgingaahaaDoor
