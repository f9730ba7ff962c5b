/- Layer 6: steps of names, of a claim. -/
import Derived.Test.YtibkegalbcjmpaaOs
namespace Go.Proofs.Ytibkegalbcjmpaa
open Go.RowKit

/-- The step of a claim's name, and whether there is one. -/
def rsvC (locs : List ByteArray) (ts : List TN) (x : Nd) : Opn × Bool :=
  if x.op = 3 then (⟨3, ixL locs x.nm 0, 0⟩, decide (0 ≤ ixL locs x.nm 0))
  else if x.op = 4 ∧ 0 ≤ ixL (ts.map (·.nm)) x.inn 0 then
    (⟨4, ixL ((ts.map (·.regs)).getD (ixL (ts.map (·.nm)) x.inn 0).toNat []) x.nm 0, ixL (ts.map (·.nm)) x.inn 0⟩, decide (0 ≤ ixL ((ts.map (·.regs)).getD (ixL (ts.map (·.nm)) x.inn 0).toNat []) x.nm 0))
  else (⟨0, 0, 0⟩, false)

theorem index_q (l : List ByteArray) (v : Value) (s : ByteArray) (w : World) (hv : StrsD w v l) (hn : l.length ≤ 100000) (z : Int) (hz : ixL l s 0 = z) (k : Nat) :
    Calls Try.prog 28 #[v, .string s] (w.drewN k) fun e w' => e = .returned (.int .i64 z) ∧ ∃ m, w' = w.drewN m :=
  (index_any l v s (w.drewN k) (StrsD.below hv (below_end k)) hn z hz).mono fun _ _ ⟨e, h⟩ => ⟨e, _, h.symm⟩

/-- What Claim's resolver reads. -/
structure CtxC (W : World) (p1 p2 p3 : Nat) (locs : List ByteArray) (ts : List TN) : Prop where
  a : ∃ v, W.cell? ⟨p1, 0, none⟩ = some v ∧ StrsD W v locs
  b : ∃ v, W.cell? ⟨p2, 0, none⟩ = some v ∧ StrsD W v (ts.map (·.nm))
  c : ∃ m lv tv cv, Bk W p3 28 #[.int .i64 m, lv, tv, cv] ∧ TnsD W tv ts
  n1 : locs.length ≤ 100000
  n2 : ts.length ≤ 100000
  n3 : ∀ x ∈ ts, x.regs.length ≤ 100000
theorem CtxC.below {W W' : World} {p1 p2 p3 : Nat} {locs : List ByteArray} {ts : List TN} (h : CtxC W p1 p2 p3 locs ts) (hb : Below W.heap.size W W') : CtxC W' p1 p2 p3 locs ts := by
  obtain ⟨v1, a1, a2⟩ := h.a
  obtain ⟨v2, b1, b2⟩ := h.b
  obtain ⟨m, lv, tv, cv, c1, c2⟩ := h.c
  exact ⟨⟨v1, (hb.cell (p := ⟨p1, _, none⟩) (World.block_lt_of_cell? W ⟨p1, 0, none⟩ a1)).trans a1, StrsD.below a2 hb⟩, ⟨v2, (hb.cell (p := ⟨p2, _, none⟩) (World.block_lt_of_cell? W ⟨p2, 0, none⟩ b1)).trans b1, StrsD.below b2 hb⟩, ⟨m, lv, tv, cv, c1.below hb, TnsD.below c2 hb⟩, h.n1, h.n2, h.n3⟩

set_option maxRecDepth 100000 in
set_option maxHeartbeats 4000000 in
theorem clm1_any (locs : List ByteArray) (ts : List TN) (xo xn : Int) (xm xi : ByteArray) (xp : Int) (p1 p2 p3 : Nat) (w : World) (hc : CtxC w p1 p2 p3 locs ts) (o : Opn) (b : Bool) (ho : rsvC locs ts ⟨xo, xn, xm, xi, xp⟩ = (o, b)) :
    Calls Try.prog 34 #[.agg #[.int .i64 xo, .int .i64 xn, .string xm, .string xi, .int .i64 xp], .pointer (some ⟨p1, 0, none⟩), .pointer (some ⟨p2, 0, none⟩), .pointer (some ⟨p3, 0, none⟩)] w (RAns o b w) := by
  have HB := Lib.hid (two_new w 57 53 #[.int .i64 xo, .int .i64 xn, .string xm, .string xi, .int .i64 xp] #[.int .i64 0, .int .i64 0, .int .i64 0])
  by_cases h3 : xo = 3
  · subst h3
    obtain ⟨v, a1, a2⟩ := hc.a
    have hl := World.block_lt_of_cell? w ⟨p1, 0, none⟩ a1
    simp only [] at hl
    obtain ⟨z, hz⟩ : ∃ z, ixL locs xm 0 = z := ⟨_, rfl⟩
    obtain ⟨rfl, rfl⟩ : o = ⟨3, z, 0⟩ ∧ b = decide (0 ≤ z) := by
      unfold rsvC at ho
      simp only [hz, if_true] at ho
      obtain ⟨h1, h2⟩ := Prod.mk.inj ho
      exact ⟨h1.symm, h2.symm⟩
    have HI := Lib.hid (fun (W : World) (h : Below w.heap.size w W) => index_any locs v xm W (StrsD.below a2 h) hc.n1 z hz)
    obtain ⟨ad, cap, rfl⟩ := a2.shape
    generalize locs.length = n at a1 HI
    clear hc a2 hz ho
    go_enter Try.func34, Try.ntmps34
    go_wp2_with fail
    refine (HI.out _ HB.out.1).mono ?_
    rintro e w2 ⟨rfl, rfl⟩
    go_wp2
    all_goals
      exact bodyPost_ret (v := .tuple #[.agg #[.int .i64 3, .int .i64 z, .int .i64 0], .bool (decide (0 ≤ z))]) (by simp [results, Try.results34, go_sem]) rfl ⟨rfl, (two_new _ _ _ _ _).1⟩
  · have q3 : (xo == 3) = false := by simpa using h3
    obtain ⟨v, a1, a2⟩ := hc.b
    have hl := World.block_lt_of_cell? w ⟨p2, 0, none⟩ a1
    simp only [] at hl
    obtain ⟨u, hu⟩ : ∃ u, ixL (ts.map (·.nm)) xi 0 = u := ⟨_, rfl⟩
    have HI := Lib.hid (fun (W : World) (h : Below w.heap.size w W) => index_any (ts.map (·.nm)) v xi W (StrsD.below a2 h) (by rw [List.length_map]; exact hc.n2) u hu)
    obtain ⟨ad, cap, rfl⟩ := a2.shape
    obtain ⟨nn, hnn⟩ : ∃ nn, (ts.map (·.nm)).length = nn := ⟨_, rfl⟩
    rw [hnn] at a1 HI
    by_cases h4 : xo = 4 ∧ 0 ≤ u
    · obtain ⟨rfl, hu0⟩ := h4
      have hur : u < ts.length := by
        have := ixL_range (ts.map (·.nm)) xi 0
        rw [hu, List.length_map] at this
        omega
      obtain ⟨m, lv, tv, cv, c1, c2⟩ := hc.c
      have k2 := c1.cell 2
      have kl := c1.lt
      obtain ⟨tad, tcap, rfl, _, _, htc⟩ := id c2
      have hun : u.toNat < ts.length := by omega
      obtain ⟨tb, toff, rfl, htb, ⟨t0, t1, t2, t3⟩, hst⟩ := htc u.toNat hun
      have hrn := hc.n3 _ (List.getElem_mem hun)
      obtain ⟨z, hz⟩ : ∃ z, ixL (ts[u.toNat]).regs xm 0 = z := ⟨_, rfl⟩
      have hg : (ts.map (·.regs)).getD u.toNat [] = (ts[u.toNat]).regs := by rw [List.getD_eq_getElem?_getD, List.getElem?_map, List.getElem?_eq_getElem hun]; rfl
      obtain ⟨rfl, rfl⟩ : o = ⟨4, z, u⟩ ∧ b = decide (0 ≤ z) := by
        unfold rsvC at ho
        rw [if_neg (by omega)] at ho
        simp only [hu] at ho
        rw [if_pos (by first | exact ⟨rfl, hu0⟩ | exact ⟨trivial, hu0⟩)] at ho
        simp only [hg, hz] at ho
        obtain ⟨h1, h2⟩ := Prod.mk.inj ho
        exact ⟨h1.symm, h2.symm⟩
      have HI2 := Lib.hid (fun (W : World) (h : Below w.heap.size w W) (k : Nat) => index_q (ts[u.toNat]).regs (ts[u.toNat]).rv xm W (StrsD.below hst h) hrn z hz k)
      obtain ⟨ra, rc, hrv⟩ := hst.shape
      rw [hrv] at t1 HI2
      generalize (ts[u.toNat]).regs.length = rn at t1 HI2
      obtain ⟨t, rfl⟩ : ∃ t : Nat, u = t := ⟨u.toNat, by omega⟩
      rw [Int.toNat_natCast] at t1
      have htL : t < ts.length := by omega
      clear hc ho hu a2 hnn c1 c2 htc t0 t2 t3 hst hrn hz hg hrv hun hur hu0 q3 h3
      generalize ts.length = L at htL k2
      go_enter Try.func34, Try.ntmps34
      go_wp2_with fail
      refine (HI.out _ HB.out.1).mono ?_
      rintro e w2 ⟨rfl, rfl⟩
      go_wp2_with fail
      go_quiet ((go_at_call 28; with_reducible exact HI2.out _ HB.out.1 _))
      go_wp2
      all_goals
        exact bodyPost_ret (v := .tuple #[.agg #[.int .i64 4, .int .i64 z, .int .i64 t], .bool (decide (0 ≤ z))]) (by simp [results, Try.results34, go_sem]) rfl ⟨rfl, by first | exact (two_new _ _ _ _ _).1.trans (below_end _) | exact ((((two_new _ _ _ _ _).1.trans (below_end _)).setCell (by simp) _).setCell (by simp) _).setCell (by simp) _⟩
    · obtain ⟨rfl, rfl⟩ : o = ⟨0, 0, 0⟩ ∧ b = false := by
        unfold rsvC at ho
        rw [if_neg h3] at ho
        simp only [hu] at ho
        rw [if_neg h4] at ho
        obtain ⟨h1, h2⟩ := Prod.mk.inj ho
        exact ⟨h1.symm, h2.symm⟩
      by_cases h5 : xo = 4
      · subst h5
        have h6 : u < 0 := by omega
        have q5 : decide (u < 0) = true := decide_eq_true h6
        clear hc ho hu a2 hnn h4
        go_enter Try.func34, Try.ntmps34
        go_wp2_with fail
        refine (HI.out _ HB.out.1).mono ?_
        rintro e w2 ⟨rfl, rfl⟩
        go_wp2
        exact bodyPost_ret (v := .tuple #[.agg #[.int .i64 0, .int .i64 0, .int .i64 0], .bool false]) (by simp [results, Try.results34, go_sem]) rfl ⟨rfl, (two_new _ _ _ _ _).1⟩
      · have q5 : (xo != 4) = true := by simpa using h5
        clear hc ho hu a2 hnn h4 h5 h3
        go_enter Try.func34, Try.ntmps34
        go_wp2_with fail
        refine (HI.out _ HB.out.1).mono ?_
        rintro e w2 ⟨rfl, rfl⟩
        go_wp2
        exact bodyPost_ret (v := .tuple #[.agg #[.int .i64 0, .int .i64 0, .int .i64 0], .bool false]) (by simp [results, Try.results34, go_sem]) rfl ⟨rfl, (two_new _ _ _ _ _).1⟩

end Go.Proofs.Ytibkegalbcjmpaa
