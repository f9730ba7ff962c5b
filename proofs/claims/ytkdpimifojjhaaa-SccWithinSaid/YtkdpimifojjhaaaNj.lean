/- Layer 14, the code: Nodes, row, Out; rows of edges in blocks of their own. -/
import Derived.Test.YtkdpimifojjhaaaNi
import Derived.BigRegion
namespace Go.Proofs.Ytkdpimifojjhaaa
set_option linter.unusedSimpArgs false
set_option linter.unusedVariables false
open Go.RowKit

theorem set3_oth (w : World) (g a b c : Nat) (x0 x1 x2 : Value) : Oth (fun x => x = g) w (((w.setCell ⟨g, a, none⟩ x0).setCell ⟨g, b, none⟩ x1).setCell ⟨g, c, none⟩ x2) :=
  ((Oth.set w g a x0).trans (Oth.set _ g b x1) (fun _ h => h) (fun _ _ h => h)).trans (Oth.set _ g c x2) (fun _ h => h) (fun _ _ h => h)
abbrev BkE (w : World) (g : Nat) (l : List Edg) : Prop := Bk w g 41 (rowG l).toArray
def zE : Edg := (0, 0, 0)
theorem rowG_len (l : List Edg) : (rowG l).length = l.length * 3 := by
  induction l with
  | nil => rfl
  | cons a r ih => simp only [rowG, List.flatMap_cons, List.length_append, List.length_cons, cellsG] at ih ⊢; simp only [List.length_nil]; omega
theorem rowG_app (a b : List Edg) : rowG (a ++ b) = rowG a ++ rowG b := by simp [rowG]
theorem rowG_one (l : List Edg) : ∀ u ∈ rowG l, u.oneCell' = true := by
  intro u hu
  obtain ⟨o, _, ho⟩ := List.mem_flatMap.1 hu
  simp [cellsG] at ho
  rcases ho with rfl | rfl | rfl <;> rfl
theorem rowG_zero (n : Nat) : rowG (List.replicate n zE) = List.replicate (n * 3) (.int .i64 0) := by
  induction n with
  | zero => rfl
  | succ n ih =>
    rw [List.replicate_succ, show (n + 1) * 3 = n * 3 + 1 + 1 + 1 by omega, List.replicate_succ, List.replicate_succ, List.replicate_succ, ← ih]
    rfl
theorem rowG_set (l : List Edg) : ∀ j, ∀ e : Edg, (((rowG l).set (j * 3) (.int .i64 e.1)).set (j * 3 + 1) (.int .i64 e.2.1)).set (j * 3 + 2) (.int .i64 e.2.2) = rowG (l.set j e) := by
  induction l with
  | nil => intro j e; simp [rowG]
  | cons x l ih =>
    intro j e
    cases j with
    | zero => rfl
    | succ j =>
      rw [List.set_cons_succ]
      show (((cellsG x ++ rowG l).set _ _).set _ _).set _ _ = cellsG x ++ rowG (l.set j e)
      rw [← ih j e, show (j + 1) * 3 = j * 3 + 1 + 1 + 1 by omega]
      rfl
theorem edgsD_of_bk {w : World} {g : Nat} {xs : List Edg} {n : Nat} (h : BkE w g xs) (hn : xs.length = n) (hl : n ≤ 1000000) : EdgsD w (.slice (some ⟨g, 0, none⟩) n n) xs := by
  subst hn
  exact slD_of_bk cellsG 3 (fun _ => rfl) h rfl hl fun i hi hk => ⟨hk 0 (by decide), hk 1 (by decide), hk 2 (by decide)⟩
theorem edgsD_of_own {w : World} {B : Nat} {v : Value} {l : List Edg} (h : w.ownsRow B 41 3 v l.length (rowG l)) : EdgsD w v l :=
  slD_of_own cellsG 3 (fun _ => rfl) h fun g i hi hk => ⟨hk 0 (by decide), hk 1 (by decide), hk 2 (by decide)⟩
theorem BkE.own {w : World} {g B : Nat} {l : List Edg} {n : Nat} (h : BkE w g l) (hn : l.length = n) (hB : B ≤ g) (hl : n ≤ 1000000) : w.ownsRow B 41 3 (.slice (some ⟨g, 0, none⟩) n n) n (rowG l) :=
  own_of_bk h rfl hB (by rw [rowG_len, hn]) hl
theorem BkE.set {w : World} {g : Nat} {l : List Edg} (h : BkE w g l) (j : Nat) (e : Edg) : BkE (((w.setCell ⟨g, j * 3, none⟩ (.int .i64 e.1)).setCell ⟨g, j * 3 + 1, none⟩ (.int .i64 e.2.1)).setCell ⟨g, j * 3 + 2, none⟩ (.int .i64 e.2.2)) g (l.set j e) := by
  have := heap_setCell_same _ g (j * 3 + 2) _ _ (.int .i64 e.2.2) (heap_setCell_same _ g (j * 3 + 1) _ _ (.int .i64 e.2.1) (heap_setCell_same w g (j * 3) _ _ (.int .i64 e.1) h))
  show _ = _
  rw [← rowG_set l j e]
  simpa using this
theorem bkE_at {w : World} {g : Nat} {l : List Edg} (h : BkE w g l) (j : Nat) (e : Edg) (hj : l[j]? = some e) : EdgAt w g (j * 3) e := by
  obtain ⟨hl, he⟩ := List.getElem?_eq_some_iff.1 hj
  subst he
  have h0 := fun k hk => flat_at cellsG 3 (fun _ => rfl) l j hl k hk
  refine ⟨?_, ?_, ?_⟩
  · rw [h.cell, List.getElem?_toArray]; exact h0 0 (by decide)
  · rw [h.cell, List.getElem?_toArray]; exact h0 1 (by decide)
  · rw [h.cell, List.getElem?_toArray]; exact h0 2 (by decide)
theorem info_edge : (Try.prog.info? 41).map (fun i => (i.zero, i.size, i.bytes)) = some (some (.agg #[.int .i64 0, .int .i64 0, .int .i64 0]), 3, 24) := by kernel_rfl
theorem madeCells_three (z : Value) (m : Nat) : (madeCells #[z, z, z] m).toList = List.replicate m z := by
  apply List.ext_getElem?
  intro j
  by_cases hj : j < m
  · have h3 : j % 3 < 3 := Nat.mod_lt _ (by decide)
    have h : j % 3 = 0 ∨ j % 3 = 1 ∨ j % 3 = 2 := by omega
    rcases h with h | h | h <;> simp [madeCells, hj, h]
  · simp [madeCells, hj]
theorem make_edgs {w : World} {ops : Array Oper} {rest : List Oper} {o : Oper} {a : Act} {Q : Exit → Act → World → Prop} (hgd : o.guard = none) (l c : Operand)
    (hop : o.op = Op.makeSlice 37 l c) (n : Nat) (hl : a.eval l = .int .i64 n) (hc : a.eval c = .int .i64 n) (hn : n ≤ 1000000)
    (h : ∀ w', Hid (BkE w' w.heap.size (List.replicate n zE)) → Hid (Below w.heap.size w w') → wpList Try.prog ops Q rest (a.put o.dst (.slice (some ⟨w.heap.size, 0, none⟩) n n)) w') : wpList Try.prog ops Q (o :: rest) a w := by
  obtain ⟨i0, hi, hz0, hz1, hz2⟩ := info_parts info_edge
  refine wpList_make_full w hgd l c 37 hop w.heap.size 41 i0 (.agg #[.int .i64 0, .int .i64 0, .int .i64 0]) 3 Try.underlying37 hi hz0 hz1 .i64 .i64 n n n hl hc rfl rfl (by rw [hz2]; omega) (by unfold maxLen; omega) (Nat.le_refl _) ?_
  intro w' h1 h2
  refine h w' ?_ (Lib.hid ((Below.refl _ _).grown h2 (Nat.le_refl _) (fun k h => by cases h)))
  rw [show (Value.agg #[.int .i64 0, .int .i64 0, .int .i64 0]).cells = #[Value.int .i64 0, Value.int .i64 0, Value.int .i64 0] from rfl, madeCells_three, ← rowG_zero] at h1
  rcases h1.2 with ⟨hv, _⟩ | ⟨g, cap, cur, hv, _, hg, _, _, hcs, ht⟩
  · injection hv with e1; cases e1
  · injection hv with e1 e2 e3
    injection e1 with e1
    injection e1 with e1
    subst e1; subst e3
    rw [List.take_of_length_le (by rw [Array.length_toList, hcs]; exact Nat.le_refl _)] at ht
    show w'.heap[w.heap.size]? = _
    rw [hg, ← ht]

/-- A row whose first k elements stand, the others zero. -/
def filL (A : List Edg) (k : Nat) : List Edg := A.take k ++ List.replicate (A.length - k) zE
theorem filL_len (A : List Edg) (k : Nat) (h : k ≤ A.length) : (filL A k).length = A.length := by simp [filL]; omega
theorem filL_zero (A : List Edg) : filL A 0 = List.replicate A.length zE := by simp [filL]
theorem filL_all (A : List Edg) : filL A A.length = A := by simp [filL]
theorem filL_set (A : List Edg) (k : Nat) (e : Edg) (h : A[k]? = some e) : (filL A k).set k e = filL A (k + 1) := by
  obtain ⟨hk, he⟩ := List.getElem?_eq_some_iff.1 h
  unfold filL
  have hl : (A.take k).length = k := by rw [List.length_take]; omega
  rw [List.set_append_right _ _ (by omega), hl, Nat.sub_self, show A.length - k = (A.length - (k + 1)) + 1 by omega, List.replicate_succ, List.set_cons_zero, List.take_add_one, h]
  simp
theorem filL_at (A : List Edg) (k : Nat) (h : k < A.length) : (filL A k)[k]? = some zE := by
  unfold filL
  have hl : (A.take k).length = k := by rw [List.length_take]; omega
  rw [List.getElem?_append_right (by omega), hl, Nat.sub_self, List.getElem?_replicate_of_lt (by omega)]

set_option maxRecDepth 100000 in
set_option maxHeartbeats 8000000 in
theorem nodes_any (g : Gr) (vs va vt : Value) (w : World) (hd : GrD w vs va vt g) (hn : g.st.length ≤ 1001 ∧ g.to.length ≤ 1000 ∧ g.ag.length ≤ 1000) (b : Nat) (hb : (if rightG g = true then numN g else 0) = b) :
    Calls Try.prog 34 #[.agg #[vs, va, vt]] w fun e w' => e = .returned (.int .i64 (b : Int)) ∧ Below w.heap.size w w' := by
  obtain ⟨q, hq⟩ : ∃ q, rightG g = q := ⟨_, rfl⟩
  have HR := Lib.hid fun (W : World) (h : Below w.heap.size w W) => right14_any g vs va vt W (hd.below h) hn q hq
  have HS : Hid (q = true → 1 ≤ g.st.length) := Lib.hid fun h => (right_RG g (hq.trans h)).pos
  have HB := Lib.hid hb
  rw [hq] at HB
  have HCT := Lib.hid fun (W : World) (h : Below w.heap.size w W) (h1 : 1 ≤ g.st.length) => count_any vs va vt g W (hd.below h).s h1 (by omega)
  obtain ⟨a1, p1, rfl⟩ := hd.s.shape0
  obtain ⟨a2, p2, rfl⟩ := hd.t.shape0
  obtain ⟨a3, p3, rfl⟩ := hd.a.shape0
  clear hd hn hb hq
  obtain ⟨n, hn⟩ : ∃ n, n = g.st.length := ⟨_, rfl⟩
  obtain ⟨m, hm⟩ : ∃ n, n = g.to.length := ⟨_, rfl⟩
  obtain ⟨l, hl⟩ : ∃ n, n = g.ag.length := ⟨_, rfl⟩
  rw [← hn, ← hm, ← hl] at HR HCT ⊢
  rw [← hn] at HS
  clear hn hm hl
  have BX := Lib.hid (bal (Below.refl w.heap.size w) (.cells #[.slice a1 n p1, .slice a3 l p3, .slice a2 m p2] 24))
  have KX := Lib.hid (Bk.new w 24 #[.slice a1 n p1, .slice a3 l p3, .slice a2 m p2])
  go_enter Try.func34, Try.ntmps34
  go_wp2_with fail
  generalize (w.alloc _) = w0 at BX KX ⊢
  refine (HR.out _ BX.out).mono ?_
  rintro e w1 ⟨rfl, b1⟩
  have BY := Lib.hid (BX.out.trans (b1.mono BX.out.size))
  have KY := Lib.hid (KX.out.below b1)
  clear b1 HR BX KX
  cases q with
  | false =>
    go_wp2_with fail
    go_ret
    exact ⟨ret_int (by rw [← HB.out]; rfl), BY.out⟩
  | true =>
    have c0 := KY.out.cell 0
    have c1 := KY.out.cell 1
    have c2 := KY.out.cell 2
    have lw := KY.out.lt
    have HE : Hid (numN g = b) := Lib.hid HB.out
    clear HB
    go_wp2_with fail
    refine (HCT.out _ BY.out (by first | exact HS.out rfl | exact HS.out trivial)).mono ?_
    rintro e w2 ⟨rfl, b2⟩
    have BZ := Lib.hid (BY.out.trans (b2.mono BY.out.size))
    clear c0 c1 c2 lw b2
    go_wp2_with fail
    go_ret
    exact ⟨ret_int (by rw [HE.out]), BZ.out⟩

set_option maxRecDepth 100000 in
set_option maxHeartbeats 8000000 in
theorem row_any (g : Gr) (hg : RG g) (vs va vt : Value) (w : World) (hd : GrD w vs va vt g) (hn : g.st.length ≤ 1001 ∧ g.to.length ≤ 1000) (i : Nat) (hi : i < numN g) :
    Calls Try.prog 55 #[.agg #[vs, va, vt], .int .i64 i] w fun e w' => ∃ v, e = .returned v ∧ w'.ownsRow w.heap.size 41 3 v (outL g i).length (rowG (outL g i)) ∧ Below w.heap.size w w' := by
  have HD := Lib.hid hd
  have hlen : i + 1 < g.st.length := by unfold numN at hi; omega
  obtain ⟨s, hs⟩ : ∃ s, s = sN g i := ⟨_, rfl⟩
  obtain ⟨d, hdd⟩ : ∃ d, sN g (i + 1) = s + d := ⟨sN g (i + 1) - s, by have := hg.up i hi; omega⟩
  have hle := hg.le (i + 1) hi
  have hal := hg.alen
  have x0' := hg.st i (Nat.le_of_lt hi)
  have x1' := hg.st (i + 1) hi
  rw [← hs] at x0'
  obtain ⟨t, ht⟩ : ∃ t, t = s + d := ⟨_, rfl⟩
  rw [hdd] at x1' hle
  rw [← ht] at x1'
  have hol : (outL g i).length = d := by rw [outL_len, ← hs, hdd]; omega
  have HO := Lib.hid fun j (hj : j < d) => (by rw [outL_at g i j (by rw [← hs, hdd]; omega), ← hs] : (outL g i)[j]? = some ((i : Int), g.ag.getD (s + j) 0, g.to.getD (s + j) 0))
  rw [hol]
  have HOL := Lib.hid hol
  obtain ⟨a1, p1, rfl⟩ := hd.s.shape0
  obtain ⟨a2, p2, rfl⟩ := hd.t.shape0
  obtain ⟨a3, p3, rfl⟩ := hd.a.shape0
  have hl0 : i < g.st.length := by omega
  obtain ⟨b0, o0, rfl, l0, x0⟩ := IntsD.at2 hd.s i hl0
  obtain ⟨b0', o0', he, _, x1⟩ := IntsD.at2 hd.s (i + 1) hlen
  injection he with he
  injection he with e1 e2
  subst e1 e2
  rw [List.getElem?_eq_getElem hl0] at x0'
  rw [List.getElem?_eq_getElem hlen] at x1'
  rw [Option.some.inj x0'] at x0
  rw [Option.some.inj x1'] at x1
  obtain ⟨n, hn'⟩ : ∃ n, n = g.st.length := ⟨_, rfl⟩
  obtain ⟨m, hm⟩ : ∃ n, n = g.to.length := ⟨_, rfl⟩
  have HM := Lib.hid hm
  have HA : Hid (g.ag.length = m) := Lib.hid (by rw [hal, hm])
  rw [hal, ← hn', ← hm] at HD ⊢
  rw [← hn'] at hn hlen hl0
  rw [← hm] at hn hle
  have HSZ : Hid (n ≤ 1001 ∧ m ≤ 1000 ∧ s + d ≤ m ∧ i + 1 < n) := Lib.hid ⟨hn.1, hn.2, hle, hlen⟩
  have i1 : (0 : Int) ≤ (i : Int) := by omega
  have i2 : (i : Int) < (n : Int) := by omega
  have i3 : (0 : Int) ≤ (i : Int) + 1 := by omega
  have i4 : (i : Int) + 1 < (n : Int) := by omega
  have i5 : IntKind.i64.wrap ((i : Int) + 1) = (i : Int) + 1 := IntWalk.i64_in _ (by omega)
  have i6 : IntKind.i64.wrap ((t : Int) - (s : Int)) = (d : Int) := by rw [show (t : Int) - (s : Int) = (d : Int) by omega]; exact IntWalk.i64_in _ (by omega)
  have hd6 : d ≤ 1000000 := by omega
  have BX := Lib.hid (bal (Below.refl w.heap.size w) (.cells #[.slice (some ⟨b0, o0, none⟩) n p1, .slice a3 m p3, .slice a2 m p2] 24))
  have KX := Lib.hid (Bk.new w 24 #[.slice (some ⟨b0, o0, none⟩) n p1, .slice a3 m p3, .slice a2 m p2])
  clear hd hi hg hs hdd hle hal x0' x1' hol hn hn' hm ht
  go_enter Try.func55, Try.ntmps55
  go_wp2_with fail
  generalize (w.alloc _) = w0 at BX KX ⊢
  have d0 := (BX.out.cell (p := ⟨b0, _, none⟩) l0).trans x0
  have d1 := (BX.out.cell (p := ⟨b0, _, none⟩) l0).trans x1
  have c0 := KX.out.cell 0
  clear x0 x1
  go_quiet (fail)
  clear d0 d1 c0
  go_wp2_with (refine make_edgs rfl (.tmp 22) (.tmp 22) rfl d rfl rfl hd6 ?_)
  intro w1 HE b1
  obtain ⟨ge, hge⟩ : ∃ x, x = w0.heap.size := ⟨_, rfl⟩
  rw [← hge] at HE ⊢
  have B1 := Lib.hid ((show Below w0.heap.size w0 (w0.drewN nq) from below_end nq).trans b1.out)
  have HGE : Hid (w.heap.size < ge) := Lib.hid (by rw [hge]; exact KX.out.lt)
  have E0 : Hid (BkE w1 ge (filL (outL g i) 0)) := Lib.hid (by rw [filL_zero, HOL.out]; exact HE.out)
  have BA := Lib.hid (BX.out.trans (B1.out.mono BX.out.size))
  have KA := Lib.hid (KX.out.below B1.out)
  clear hge HE b1 B1 BX KX i1 i2 i3 i4 i5 i6 hd6
  go_wp2_with fail
  go_loopg [8, 26] d (fun fuel s8 i' wr => ∃ (k : Nat), i' = .int .i64 k ∧ k ≤ d ∧ d - k ≤ fuel ∧ BkE wr ge (filL (outL g i) k) ∧ Below w.heap.size w wr ∧ Bk wr w.heap.size 24 #[.slice (some ⟨b0, o0, none⟩) n p1, .slice a3 m p3, .slice a2 m p2])
  case atStart => exact ⟨0, rfl, Nat.zero_le _, Nat.le_refl _, E0.out, BA.out, KA.out⟩
  case round =>
    clear E0 BA KA
    obtain ⟨k, rfl, hk, hf, he, hb, hkk⟩ := hrel
    have HE := Lib.hid he
    have HB := Lib.hid hb
    have HK := Lib.hid hkk
    clear he hb hkk
    by_cases hlt : k < d
    · have hat := HO.out k hlt
      have hz := bkE_at HE.out k zE (filL_at _ _ (by rw [HOL.out]; exact hlt))
      have h1 : s + k < g.ag.length := by rw [HA.out]; have := HSZ.out; omega
      have h2 : s + k < g.to.length := by rw [← HM.out]; have := HSZ.out; omega
      obtain ⟨b2, o2, rfl, l2, x2⟩ := IntsD.at2 (HD.out.below HB.out).a (s + k) h1
      obtain ⟨b3, o3, rfl, l3, x3⟩ := IntsD.at2 (HD.out.below HB.out).t (s + k) h2
      rw [getD_get _ _ h1, getD_get _ _ h2] at hat
      generalize g.ag[s + k] = xa at x2 hat
      generalize g.to[s + k] = xt at x3 hat
      have HEN := Lib.hid (HE.out.set k ((i : Int), xa, xt))
      rw [filL_set _ _ _ hat] at HEN
      obtain ⟨z0, z1, z2⟩ := hz
      have f0 := HE.out.fz (k * 3)
      have f1 := HE.out.fz (k * 3 + 1)
      have f2 := HE.out.fz (k * 3 + 2)
      have le := HE.out.lt
      have c1 := HK.out.cell 1
      have c2 := HK.out.cell 2
      have lk := HK.out.lt
      have i1 : (0 : Int) ≤ (k : Int) := by omega
      have i2 : (k : Int) < (d : Int) := by omega
      have i3 : (0 : Int) ≤ (s : Int) + (k : Int) := by omega
      have i4 : (s : Int) + (k : Int) < (m : Int) := by have := HSZ.out; omega
      have i5 : IntKind.i64.wrap ((k : Int) + 1) = (k : Int) + 1 := IntWalk.i64_in _ (by have := HSZ.out; omega)
      have i6 : IntKind.i64.wrap ((s : Int) + (k : Int)) = (s : Int) + (k : Int) := IntWalk.i64_in _ (by have := HSZ.out; omega)
      clear h1 h2 hat
      go_wp2_with fail
      go_region
      have HO3 := Lib.hid (set3_oth wr ge (k * 3) (k * 3 + 1) (k * 3 + 2) (.int .i64 i) (.int .i64 xa) (.int .i64 xt))
      have HBN := Lib.hid (HB.out.trans (HO3.out.below (fun _ h => by rw [h]; exact Nat.le_of_lt HGE.out) HB.out.size))
      have HKN := Lib.hid (HO3.out.bk HK.out (Nat.ne_of_lt HGE.out))
      go_wp2_with fail
      go_roundg (gk - 1)
      case measure => omega
      case rel => exact ⟨k + 1, by go_num, by omega, by omega, bk_drew HEN.out, bdr HBN.out, bk_drew HKN.out⟩
    · obtain rfl : k = d := by omega
      have HE2 : Hid (BkE wr ge (outL g i)) := Lib.hid (by have h := HE.out; rw [← HOL.out, filL_all] at h; exact h)
      go_wp2_with fail
      go_ret
      exact ⟨_, rfl, BkE.own HE2.out HOL.out (Nat.le_of_lt HGE.out) (by have := HSZ.out; omega), HB.out⟩

/-- A node's edges, as Out tells them. -/
def outZ (g : Gr) (i : Int) : List Edg := if rightG g = true ∧ 0 ≤ i ∧ i < (numN g : Int) then outL g i.toNat else []

end Go.Proofs.Ytkdpimifojjhaaa
