/- CodeRows: code with more numbers, with more steps. -/
import Derived.Test.YtpidodeekogcfaaMa
namespace Go.Proofs.Ytpidodeekogcfaa
open Go.RowKit

theorem inB_mono {i n m : Int} (h : inB i n = true) (hm : n ≤ m) : inB i m = true := by
  have := of_decide_eq_true h
  exact decide_eq_true (by omega)

theorem okO_more {own locs : Int} {o : Opn} (h : okO [] own locs o = true) : okO [3] (own + 1) (locs + 2) o = true := by
  unfold okO at h ⊢
  by_cases g1 : o.op = 1
  · rw [if_pos g1] at h ⊢; exact h
  · rw [if_neg g1] at h ⊢
    by_cases g2 : o.op = 2
    · rw [if_pos g2] at h ⊢; exact inB_mono h (by omega)
    · rw [if_neg g2] at h ⊢
      by_cases g3 : o.op = 3
      · rw [if_pos g3] at h ⊢; exact inB_mono h (by omega)
      · rw [if_neg g3] at h ⊢
        by_cases g4 : o.op = 4
        · rw [if_pos g4, Bool.and_eq_true] at h
          have := of_decide_eq_true h.1
          simp at this
          omega
        · rw [if_neg g4]

theorem right_more {l : List Opn} {own locs : Int} (h : rightO l [] own locs = true) : rightO l [3] (own + 1) (locs + 2) = true := by
  unfold rightO at h ⊢
  rw [Bool.and_eq_true] at h ⊢
  exact ⟨h.1, List.all_eq_true.2 fun x hx => okO_more (List.all_eq_true.1 h.2 x hx)⟩

theorem htsL_snoc (l : List Opn) : ∀ m k, (htsL l m k).2 = 1 → htsL (l ++ [⟨1, 0, 0⟩]) m k = (max (htsL l m k).1 2, 2) := by
  induction l with
  | nil =>
    intro m k h
    have hk : k = 1 := h
    subst hk
    show (if ar 1 < 0 ∨ (1 : Int) < ar 1 then _ else _) = _
    rw [if_neg (by decide)]
    rfl
  | cons o r ih =>
    intro m k h
    have e1 : htsL (o :: r) m k = if ar o.op < 0 ∨ k < ar o.op then (-1, -1) else htsL r (max m (k + 1 - ar o.op)) (k + 1 - ar o.op) := rfl
    have e2 : htsL ((o :: r) ++ [⟨1, 0, 0⟩]) m k = if ar o.op < 0 ∨ k < ar o.op then (-1, -1) else htsL (r ++ [⟨1, 0, 0⟩]) (max m (k + 1 - ar o.op)) (k + 1 - ar o.op) := rfl
    rw [e1] at h ⊢
    rw [e2]
    by_cases hh : ar o.op < 0 ∨ k < ar o.op
    · rw [if_pos hh] at h; cases h
    · rw [if_neg hh] at h
      rw [if_neg hh, if_neg hh, ih _ _ h]

theorem right_less {l : List Opn} {own locs : Int} (h : rightO l [] own locs = true) : rightO (l ++ [⟨1, 0, 0⟩]) [] own locs = false ∧ (htsL l 0 0).1 ≤ (htsL (l ++ [⟨1, 0, 0⟩]) 0 0).1 ∧ 0 < l.length := by
  unfold rightO at h
  rw [Bool.and_eq_true] at h
  have h1 := of_decide_eq_true h.1
  have h2 := htsL_snoc l 0 0 h1
  refine ⟨?_, ?_, ?_⟩
  · unfold rightO; rw [h2]; rfl
  · rw [h2]; show (htsL l 0 0).1 ≤ max (htsL l 0 0).1 2; omega
  · cases l with
    | nil => cases h1
    | cons a r => simp

theorem ops_flat {w : World} {b off n cap : Nat} {l : List Opn} (h : OpsD w (.slice (some ⟨b, off, none⟩) n cap) l) : ∀ j u, (rowP l)[j]? = some u → w.cell? ((⟨b, off, none⟩ : Addr).add j) = some u := by
  intro j u hu
  obtain ⟨ad, cap', hv, _, _, hc⟩ := h
  injection hv with h1 h2 h3
  have hlen : ∀ l : List Opn, (rowP l).length = l.length * 3 := by
    intro l; induction l with
    | nil => rfl
    | cons a r ih => simp only [rowP, List.flatMap_cons, List.length_append, List.length_cons, Opn.cells] at ih ⊢; simp only [List.length_nil]; omega
  have hj : j < l.length * 3 := by rw [← hlen]; exact (List.getElem?_eq_some_iff.1 hu).1
  have hi : j / 3 < l.length := by omega
  obtain ⟨b', off', hb', hlt, x0, x1, x2⟩ := hc _ hi
  rw [← h1] at hb'
  obtain ⟨rfl, rfl⟩ : b' = b ∧ off' = off := by injection hb' with h; injection h with h4 h5; exact ⟨h4.symm, h5.symm⟩
  have hf := flat_at Opn.cells 3 (fun _ => rfl) l (j / 3) hi (j % 3) (by omega)
  have hjj : j / 3 * 3 + j % 3 = j := by omega
  rw [hjj] at hf
  have hu2 : (rowP l)[j]? = _ := hf
  rw [hu] at hu2
  injection hu2 with hu2
  have ha : (⟨b', off', none⟩ : Addr).add j = ⟨b', off' + j, none⟩ := by unfold Addr.add; split <;> simp_all
  rw [ha, hu2]
  have hm : j % 3 = 0 ∨ j % 3 = 1 ∨ j % 3 = 2 := by omega
  rcases hm with hm | hm | hm
  · have e : off' + j = off' + j / 3 * 3 := by omega
    rw [e]; simpa [Opn.cells, hm] using x0
  · have e : off' + j = off' + j / 3 * 3 + 1 := by omega
    rw [e]; simpa [Opn.cells, hm] using x1
  · have e : off' + j = off' + j / 3 * 3 + 2 := by omega
    rw [e]; simpa [Opn.cells, hm] using x2

/-- append of a row of steps to a row of one's own. -/
theorem append_ops {w : World} {ops : Array Oper} {rest : List Oper} {o : Oper} {a : Act} {Q : Exit → Act → World → Prop} (hgd : o.guard = none) (s x : Operand)
    (ho : o.op = .call { callee := .builtin .append, args := #[s, x], argTypes := #[32, 32] }) (base : Nat) (v : Value) (xs ys : List Opn) (hs : a.eval s = v) (b off cap : Nat) (hx : a.eval x = .slice (some ⟨b, off, none⟩) ys.length cap)
    (hown : w.ownsRow base 53 3 v xs.length (rowP xs)) (hys : OpsD w (.slice (some ⟨b, off, none⟩) ys.length cap) ys) (hn : xs.length + ys.length ≤ 1000000) (hbase : base ≤ w.heap.size)
    (h : ∀ v' w', w'.ownsRow base 53 3 v' (xs ++ ys).length (rowP (xs ++ ys)) → Below base w w' → wpList Try.prog ops Q rest (a.put o.dst v') w') : wpList Try.prog ops Q (o :: rest) a w := by
  obtain ⟨i0, hi, hz0, hz1, hz2⟩ := info_parts info_op
  have hlen : ∀ l : List Opn, (rowP l).length = l.length * 3 := by
    intro l; induction l with
    | nil => rfl
    | cons a r ih => simp only [rowP, List.flatMap_cons, List.length_append, List.length_cons, Opn.cells] at ih ⊢; simp only [List.length_nil]; omega
  refine wpList_append_own _ hgd s x 32 ho base 53 i0 (.agg #[.int .i64 0, .int .i64 0, .int .i64 0]) 3 24 Try.underlying32 hi hz0 hz1 hz2 rfl (by decide) v xs.length (rowP xs) hs hown ⟨b, off, none⟩ ys.length cap (rowP ys) hx (hlen ys) (ops_flat hys) ?_ (by unfold maxLen; omega) (by omega) hbase ?_
  · intro u hu
    obtain ⟨o, _, ho⟩ := List.mem_flatMap.1 hu
    simp [Opn.cells] at ho
    rcases ho with rfl | rfl | rfl <;> rfl
  · intro v' w' h1 h2 _
    refine h v' w' ?_ ((Below.refl base w).grown h2 hbase (fun k hk => (hown.lt k hk).1))
    rw [List.length_append]
    have e : rowP (xs ++ ys) = rowP xs ++ rowP ys := by simp [rowP]
    rw [e]
    exact h1

set_option maxRecDepth 100000 in
set_option maxHeartbeats 4000000 in
theorem codeRows_yes (l : List Opn) (v : Value) (a b : Int) (w : World) (hv : OpsD w v l) (hn : l.length ≤ 400) (ha : 0 ≤ a ∧ a ≤ 255) (hb : 0 ≤ b ∧ b ≤ 255) (hr : rightO l [] a b = true) :
    Calls Try.prog 7 #[v, .int .u8 a, .int .u8 b] w fun e w' => e = .returned (.bool true) ∧ Below w.heap.size w w' := by
  obtain ⟨ha0, ha1⟩ := ha
  obtain ⟨hb0, hb1⟩ := hb
  obtain ⟨hno, hdp, hl0⟩ := right_less hr
  have HV := Lib.hid hv
  have HR := Lib.hid (fun (W : World) (h : Below w.heap.size w W) => right_code l [] v _ a b W (OpsD.below hv h) intsD_nil (by omega) true hr)
  have HR2 := Lib.hid (fun (W : World) (h : Below w.heap.size w W) (rv : Value) (hrv : IntsD W rv [3]) => right_code l [3] v rv (a + 1) (b + 2) W (OpsD.below hv h) hrv (by omega) true (right_more hr))
  obtain ⟨d, hd⟩ : ∃ d, (htsL l 0 0).1 = d := ⟨_, rfl⟩
  obtain ⟨d2, hd2⟩ : ∃ d2, (htsL (l ++ [⟨1, 0, 0⟩]) 0 0).1 = d2 := ⟨_, rfl⟩
  rw [hd, hd2] at hdp
  have HDP := Lib.hid (fun (W : World) (h : Below w.heap.size w W) => depth_code l v W (OpsD.below hv h) (by omega) d hd)
  have HD2 := Lib.hid (fun (W : World) (mv : Value) (h : OpsD W mv (l ++ [⟨1, 0, 0⟩])) => depth_code _ mv W h (by simp; omega) d2 hd2)
  have HN := Lib.hid (fun (W : World) (mv : Value) (h : OpsD W mv (l ++ [⟨1, 0, 0⟩])) => right_code _ [] mv _ a b W h intsD_nil (by simp; omega) false hno)
  obtain ⟨ad, cap, rfl, _, _, hc⟩ := id hv
  obtain ⟨g, off, rfl, hg, _⟩ := hc 0 hl0
  obtain ⟨n, hnn⟩ : ∃ n, n = l.length := ⟨_, rfl⟩
  have HNN := Lib.hid hnn
  rw [← hnn] at hn hl0 HR HR2 HDP HV ⊢
  have q1 : decide ((400 : Int) < (n : Int)) = false := decide_eq_false (by omega)
  have q2 : decide (400 < n) = false := decide_eq_false (by omega)
  clear hv hr hno hd hd2 hc hnn
  go_enter Try.func7, Try.ntmps7
  go_wp2_with fail
  refine (HR.out _ (Below.refl _ _)).mono ?_
  rintro e w1 ⟨rfl, b1⟩
  have B1 := Lib.hid b1
  clear b1
  have D1 := Lib.hid (OpsD.below HV.out B1.out)
  have hn6 : n ≤ 1000000 := by omega
  have hnl : ([] : List Opn).length + l.length ≤ 1000000 := by rw [← HNN.out]; simp; omega
  have K0 : Hid ((w1.alloc (.cells #[] 53)).ownsRow w1.heap.size 53 3 (.slice (some ⟨w1.heap.size, 0, none⟩) 0 0) ([] : List Opn).length (rowP [])) :=
    ⟨rfl, .inr ⟨w1.heap.size, 0, _, rfl, Nat.le_refl _, heap_alloc_new w1 _, Nat.le_refl _, by unfold maxLen; decide, rfl, rfl⟩⟩
  have L0 : Hid (Below w1.heap.size w1 (w1.alloc (.cells #[] 53))) := (Below.refl _ _).alloc (Nat.le_refl _) _
  have HNL := Lib.hid hnl
  clear hnl
  go_wp2_with (at_builtin; refine append_ops rfl (.tmp 21) (.tmp 22) rfl w1.heap.size (.slice (some ⟨w1.heap.size, 0, none⟩) 0 0) [] l rfl g off cap (by rw [← HNN.out]; rfl) K0.out (by rw [← HNN.out]; exact OpsD.below D1.out L0.out) HNL.out L0.out.size ?_)
  intro v2 w2 hown2 hb2
  have B2 := Lib.hid (B1.out.trans ((L0.out.trans hb2).mono B1.out.size))
  rw [← HNN.out] at hown2
  obtain ⟨ad4, cap4, rfl, _⟩ := own_shape' hown2
  have hown2' := hown2
  rw [HNN.out] at hown2'
  have O2 := Lib.hid hown2'
  have K3 := Lib.hid (Bk.new w2 53 #[.int .i64 1, .int .i64 0, .int .i64 0])
  have L3 : Hid (Below w2.heap.size w2 (w2.alloc (.cells #[.int .i64 1, .int .i64 0, .int .i64 0] 53))) := (Below.refl _ _).alloc (Nat.le_refl _) _
  have hnl2 : l.length + ([⟨1, 0, 0⟩] : List Opn).length ≤ 1000000 := by rw [← HNN.out]; show n + 1 ≤ _; omega
  have HNL2 := Lib.hid hnl2
  have hbase : w1.heap.size ≤ (w2.alloc (.cells #[.int .i64 1, .int .i64 0, .int .i64 0] 53)).heap.size := Nat.le_trans (Nat.le_trans L0.out.size hb2.size) L3.out.size
  have HBASE := Lib.hid hbase
  clear hown2 hown2' hb2 hnl2 hbase L0 K0
  go_wp2_with (at_builtin; refine append_ops rfl (.tmp 24) (.tmp 26) rfl w1.heap.size (.slice ad4 n cap4) l [⟨1, 0, 0⟩] rfl w2.heap.size 0 1 rfl (by rw [HNN.out]; exact own_below O2.out L3.out) (opsD_of_bk (xs := [⟨1, 0, 0⟩]) K3.out rfl (by decide)) HNL2.out HBASE.out ?_)
  intro v4 w4 hown4 hb4
  have hB4 : Below w.heap.size w w4 := B2.out.trans ((L3.out.mono (show w.heap.size ≤ w2.heap.size from B2.out.size)).trans (hb4.mono (show w.heap.size ≤ w1.heap.size from B1.out.size)))
  have B4 := Lib.hid hB4
  have hown4' : w4.ownsRow w1.heap.size 53 3 v4 (l ++ [(⟨1, 0, 0⟩ : Opn)]).length (rowP (l ++ [⟨1, 0, 0⟩])) := by rw [List.length_append]; exact hown4
  have D4 := Lib.hid (opsD_of_own hown4')
  obtain ⟨ad5, cap5, rfl, _⟩ := own_shape' hown4
  have hlen : l.length + 1 = n + 1 := by rw [HNN.out]
  rw [hlen] at D4 ⊢
  have K5 := Lib.hid (Bk.new w4 3 #[.int .i64 3])
  have L5 : Hid (Below w4.heap.size w4 (w4.alloc (.cells #[.int .i64 3] 3))) := (Below.refl _ _).alloc (Nat.le_refl _) _
  clear hown4 hown4' hb4 hB4 hlen O2 K3 L3 HBASE HNL2 HNL
  go_wp2_with fail
  generalize w4.alloc _ = w5 at K5 L5 ⊢
  have B5 := Lib.hid (B4.out.trans (L5.out.mono B4.out.size))
  have D5 := Lib.hid (OpsD.below D4.out L5.out)
  refine (HR2.out w5 B5.out _ (intsD_of_bk (xs := [3]) K5.out rfl (by decide))).mono ?_
  rintro e w6 ⟨rfl, b6⟩
  have B6 := Lib.hid (B5.out.trans (b6.mono B5.out.size))
  have D6 := Lib.hid (OpsD.below D5.out b6)
  clear b6 B5 D5 K5 L5 B4 D4
  go_wp2_with fail
  refine (HN.out w6 _ D6.out).mono ?_
  rintro e w7 ⟨rfl, b7⟩
  have B7 := Lib.hid (B6.out.trans (b7.mono B6.out.size))
  have D7 := Lib.hid (OpsD.below D6.out b7)
  clear b7 B6 D6
  go_wp2_with fail
  refine (HD2.out w7 _ D7.out).mono ?_
  rintro e w8 ⟨rfl, b8⟩
  have B8 := Lib.hid (B7.out.trans (b8.mono B7.out.size))
  clear b8 B7 D7
  go_wp2_with fail
  refine (HDP.out w8 B8.out).mono ?_
  rintro e w9 ⟨rfl, b9⟩
  have B9 := Lib.hid (B8.out.trans (b9.mono B8.out.size))
  clear b9 B8
  have q3 : decide ((0 : Int) < (n : Int)) = true := decide_eq_true (by omega)
  have q4 : decide (0 < n) = true := decide_eq_true hl0
  go_wp2_with fail
  refine (known_any w9).mono ?_
  rintro e w10 ⟨rfl, b10⟩
  go_wp2
  go_ret
  exact ⟨rfl, B9.out.trans (b10.mono B9.out.size)⟩

set_option maxRecDepth 100000 in
set_option maxHeartbeats 2000000 in
theorem codeRows_no (l : List Opn) (v : Value) (a b : Int) (w : World) (hv : OpsD w v l) (hn : l.length ≤ 400) (ha : 0 ≤ a ∧ a ≤ 255) (hb : 0 ≤ b ∧ b ≤ 255) (hr : rightO l [] a b = false) :
    Calls Try.prog 7 #[v, .int .u8 a, .int .u8 b] w fun e w' => e = .returned (.bool true) ∧ Below w.heap.size w w' := by
  obtain ⟨ha0, ha1⟩ := ha
  obtain ⟨hb0, hb1⟩ := hb
  have HR := Lib.hid (right_code l [] v _ a b w hv intsD_nil (by omega) false hr)
  obtain ⟨ad, cap, rfl⟩ := hv.shape
  generalize l.length = n at hn HR ⊢
  have q1 : decide ((400 : Int) < (n : Int)) = false := decide_eq_false (by omega)
  have q2 : decide (400 < n) = false := decide_eq_false (by omega)
  clear hv hr
  go_enter Try.func7, Try.ntmps7
  go_wp2_with fail
  refine HR.out.mono ?_
  rintro e w1 ⟨rfl, b1⟩
  go_wp2_with fail
  refine (known_any w1).mono ?_
  rintro e w2 ⟨rfl, b2⟩
  go_wp2
  go_ret
  exact ⟨rfl, b1.trans (b2.mono b1.size)⟩

set_option maxRecDepth 100000 in
set_option maxHeartbeats 2000000 in
theorem codeRows_long (l : List Opn) (v : Value) (a b : Int) (w : World) (hv : OpsD w v l) (hn : 400 < l.length) :
    Calls Try.prog 7 #[v, .int .u8 a, .int .u8 b] w fun e w' => e = .returned (.bool true) ∧ Below w.heap.size w w' := by
  obtain ⟨ad, cap, rfl⟩ := hv.shape
  generalize l.length = n at hn ⊢
  have q1 : decide ((400 : Int) < (n : Int)) = true := decide_eq_true (by omega)
  have q2 : decide (400 < n) = true := decide_eq_true hn
  clear hv
  go_enter Try.func7, Try.ntmps7
  go_wp2_with fail
  refine (known_any w).mono ?_
  rintro e w2 ⟨rfl, b2⟩
  go_wp2
  go_ret
  exact ⟨rfl, b2⟩

end Go.Proofs.Ytpidodeekogcfaa
