/- Layer 6: the reference's made: the code of an expression out of its leaves. -/
import Derived.Test.YtibkegalbcjmpaaLa
import Derived.Test.YtibkegalbcjmpaaOz
import Derived.Laws.AppendOwnNone
namespace Go.Proofs.Ytibkegalbcjmpaa
open Go.RowKit

theorem opsFlat2 {w : World} {b off n cap : Nat} {l : List Opn} (h : OpsD w (.slice (some ⟨b, off, none⟩) n cap) l) : ∀ j u, (rowP l)[j]? = some u → w.cell? ((⟨b, off, none⟩ : Addr).add j) = some u := by
  intro j u hu
  obtain ⟨ad, cap', hv, _, _, hc⟩ := h
  injection hv with h1 h2 h3
  have hlen : ∀ l : List Opn, (rowP l).length = l.length * 3 := by
    intro l; induction l with
    | nil => rfl
    | cons a r ih => simp only [rowP, List.flatMap_cons, List.length_append, List.length_cons, Opn.cells] at ih ⊢; simp only [List.length_nil]; omega
  have hj : j < l.length * 3 := by rw [← hlen]; exact (List.getElem?_eq_some_iff.1 hu).1
  have hi : j / 3 < l.length := by omega
  obtain ⟨b', off', hb', hlt, x0, x1, x2⟩ := hc _ hi
  rw [← h1] at hb'
  obtain ⟨rfl, rfl⟩ : b' = b ∧ off' = off := by injection hb' with h; injection h with h4 h5; exact ⟨h4.symm, h5.symm⟩
  have hf := flat_at Opn.cells 3 (fun _ => rfl) l (j / 3) hi (j % 3) (by omega)
  have hjj : j / 3 * 3 + j % 3 = j := by omega
  rw [hjj] at hf
  have hu2 : (rowP l)[j]? = _ := hf
  rw [hu] at hu2
  injection hu2 with hu2
  have ha : (⟨b', off', none⟩ : Addr).add j = ⟨b', off' + j, none⟩ := by unfold Addr.add; split <;> simp_all
  rw [ha, hu2]
  have hm : j % 3 = 0 ∨ j % 3 = 1 ∨ j % 3 = 2 := by omega
  rcases hm with hm | hm | hm
  · have e : off' + j = off' + j / 3 * 3 := by omega
    rw [e]; simpa [Opn.cells, hm] using x0
  · have e : off' + j = off' + j / 3 * 3 + 1 := by omega
    rw [e]; simpa [Opn.cells, hm] using x1
  · have e : off' + j = off' + j / 3 * 3 + 2 := by omega
    rw [e]; simpa [Opn.cells, hm] using x2

/-- append of steps to a row of steps of one's own. -/
theorem append_ops2 {w : World} {ops : Array Oper} {rest : List Oper} {o : Oper} {a : Act} {Q : Exit → Act → World → Prop} (hgd : o.guard = none) (s x : Operand)
    (ho : o.op = .call { callee := .builtin .append, args := #[s, x], argTypes := #[32, 32] }) (base : Nat) (v : Value) (xs ys : List Opn) (hs : a.eval s = v) (b off cap : Nat) (hx : a.eval x = .slice (some ⟨b, off, none⟩) ys.length cap)
    (hown : w.ownsRow base 53 3 v xs.length (rowP xs)) (hys : OpsD w (.slice (some ⟨b, off, none⟩) ys.length cap) ys) (hn : xs.length + ys.length ≤ 1000000) (hbase : base ≤ w.heap.size)
    (h : ∀ v' w', w'.ownsRow base 53 3 v' (xs ++ ys).length (rowP (xs ++ ys)) → Below base w w' → wpList Try.prog ops Q rest (a.put o.dst v') w') : wpList Try.prog ops Q (o :: rest) a w := by
  obtain ⟨i0, hi, hz0, hz1, hz2⟩ := info_parts info_op
  have hlen : ∀ l : List Opn, (rowP l).length = l.length * 3 := by
    intro l; induction l with
    | nil => rfl
    | cons a r ih => simp only [rowP, List.flatMap_cons, List.length_append, List.length_cons, Opn.cells] at ih ⊢; simp only [List.length_nil]; omega
  refine wpList_append_own _ hgd s x 32 ho base 53 i0 (.agg #[.int .i64 0, .int .i64 0, .int .i64 0]) 3 24 Try.underlying32 hi hz0 hz1 hz2 rfl (by decide) v xs.length (rowP xs) hs hown ⟨b, off, none⟩ ys.length cap (rowP ys) hx (hlen ys) (opsFlat2 hys) ?_ (by unfold maxLen; omega) (by omega) hbase ?_
  · intro u hu
    obtain ⟨o, _, ho⟩ := List.mem_flatMap.1 hu
    simp [Opn.cells] at ho
    rcases ho with rfl | rfl | rfl <;> rfl
  · intro v' w' h1 h2 _
    refine h v' w' ?_ ((Below.refl base w).grown h2 hbase (fun k hk => (hown.lt k hk).1))
    rw [List.length_append]
    have e : rowP (xs ++ ys) = rowP xs ++ rowP ys := by simp [rowP]
    rw [e]
    exact h1

/-- What lies in the row of leaves for a node. -/
def lfO (rsv : Nd → Opn × Bool) (x : Nd) : Opn := if x.op ≤ 4 then (stpL rsv x).1 else ⟨0, 0, 0⟩

theorem ar_op0 {x : Nd} (h : ar x.op = 0) : 1 ≤ x.op ∧ x.op ≤ 4 := by
  rcases ar_kind x.op with ⟨h1, h2, _⟩ | ⟨_, h2⟩ | ⟨_, _, h2⟩ | ⟨_, h2⟩ <;> omega
theorem ar_op1 {x : Nd} (h : ar x.op = 1) : x.op = 5 := by
  rcases ar_kind x.op with ⟨h1, h2, _⟩ | ⟨_, h2⟩ | ⟨_, _, h2⟩ | ⟨_, h2⟩ <;> omega
theorem ar_op2 {x : Nd} (h : ar x.op = 2) : 6 ≤ x.op ∧ x.op ≤ 14 := by
  rcases ar_kind x.op with ⟨h1, h2, _⟩ | ⟨_, h2⟩ | ⟨_, _, h2⟩ | ⟨_, h2⟩ <;> omega
theorem okN_zero {x : Nd} (h : okN x = true) (h5 : 5 ≤ x.op) : x.n = 0 := by
  unfold okN at h
  rw [Bool.and_eq_true] at h
  have h2 := h.2
  rw [if_neg (by omega), if_neg (by omega), if_neg (by omega), Bool.and_eq_true] at h2
  exact of_decide_eq_true h2.1
theorem stpL_op (rsv : Nd → Opn × Bool) {x : Nd} (h : okN x = true) (h5 : 5 ≤ x.op) : (stpL rsv x).1 = ⟨x.op, 0, 0⟩ := by
  unfold stpL; rw [if_neg (by omega), okN_zero h h5]

theorem drop_head {l : List Nd} {i : Nat} {x : Nd} {r : List Nd} (h : l.drop i = x :: r) : ∃ hi : i < l.length, l[i] = x ∧ l.drop (i + 1) = r := by
  have hi : i < l.length := by
    rcases Nat.lt_or_ge i l.length with h' | h'
    · exact h'
    · rw [List.drop_eq_nil_of_le h'] at h; cases h
  rw [List.drop_eq_getElem_cons hi] at h
  exact ⟨hi, (List.cons.inj h).1, (List.cons.inj h).2⟩

/-- What made gives: steps that lie somewhere. -/
def MAns (cs : List Opn) (w : World) (e : Ending) (w' : World) : Prop := ∃ b off cap, e = .returned (.slice (some ⟨b, off, none⟩) cs.length cap) ∧ OpsD w' (.slice (some ⟨b, off, none⟩) cs.length cap) cs ∧ Below w.heap.size w w'

theorem opsD_some {w : World} {v : Value} {cs : List Opn} (h : OpsD w v cs) (h0 : 0 < cs.length) : ∃ b off cap, v = .slice (some ⟨b, off, none⟩) cs.length cap := by
  obtain ⟨ad, cap, rfl, _, _, hc⟩ := h
  obtain ⟨b, off, rfl, _⟩ := hc 0 h0
  exact ⟨b, off, cap, rfl⟩

theorem codeE_pos (rsv : Nd → Opn × Bool) (e : Ex) : 0 < (codeE rsv e).length := by rw [codeE_len]; exact Ex.size_pos' e

theorem ops_one {w : World} {b off cap : Nat} {ys : List Opn} (h : OpsD w (.slice (some ⟨b, off, none⟩) ys.length cap) ys) (i : Nat) (hi : i < ys.length) : OpsD w (.slice (some ⟨b, off + i * 3, none⟩) 1 (cap - i)) [ys[i]] := by
  obtain ⟨ad, cap', hv, h1, h2, hc⟩ := h
  cases hv
  refine ⟨_, _, rfl, ⟨by have := h1.1; simp; omega, fun h => by cases h⟩, by omega, fun k hk => ?_⟩
  obtain ⟨b', off', he, hl, h⟩ := hc i hi
  cases he
  have hk0 : k = 0 := by simpa using hk
  subst hk0
  exact ⟨b, off + i * 3, rfl, hl, by simpa using h⟩

set_option maxRecDepth 100000 in
set_option maxHeartbeats 8000000 in
theorem made_any (rsv : Nd → Opn × Bool) (l : List Nd) (v lv : Value) (hn : l.length ≤ 200) (hok : l.all okN = true) : ∀ (s : Nat) (e : Ex) (i : Nat) (r : List Nd) (W : World), e.size ≤ s → e.wf → l.drop i = e.flat ++ r → NdsC W v l → OpsD W lv (l.map (lfO rsv)) →
    Calls Try.prog 31 #[v, lv, .int .i64 i] W (MAns (codeE rsv e) W) := by
  intro s
  induction s with
  | zero => intro e i r W hs; have := Ex.size_pos' e; omega
  | succ s ih =>
    intro e i r W hs hwf hd hv hlv
    have hhd : ∃ x tl, e.flat ++ r = x :: tl := by rw [flat_kids]; exact ⟨_, _, rfl⟩
    obtain ⟨x, tl, hxt⟩ := hhd
    have hx : hdN e = x := by rw [flat_kids] at hxt; exact (List.cons.inj hxt).1
    rw [hxt] at hd
    obtain ⟨hi, hxi, hd1⟩ := drop_head hd
    have hokx : okN x = true := by rw [← hxi]; exact List.all_eq_true.1 hok _ (List.getElem_mem hi)
    have IH := Lib.hid ih
    have HV := Lib.hid hv
    have HLV := Lib.hid hlv
    obtain ⟨ad, cap, rfl, hcap1, hcap2, hc⟩ := id hv
    obtain ⟨b, off, rfl, hbl, c0, c1, c2, c3, c4⟩ := hc i hi
    rw [hxi] at c0 c1 c2 c3 c4
    obtain ⟨b2, off2, lcap, rfl⟩ := opsD_some hlv (by rw [List.length_map]; omega)
    obtain ⟨_, _, hlvv, ⟨hlc, _⟩, hlc2, _⟩ := id hlv
    cases hlvv
    rw [List.length_map] at hlc
    have hone := ops_one hlv i (by rw [List.length_map]; exact hi)
    rw [List.getElem_map, hxi] at hone
    have hlm : (l.map (lfO rsv)).length = l.length := List.length_map ..
    have HLM := Lib.hid hlm
    rw [hlm]
    obtain ⟨n, hN⟩ : ∃ n, n = l.length := ⟨_, rfl⟩
    rw [← hN] at hcap1 hlc hn hi ⊢
    cases e with
    | leaf y =>
      obtain rfl : y = x := hx
      have h4 := ar_op0 (show ar y.op = 0 from hwf)
      have hlf : lfO rsv y = (stpL rsv y).1 := if_pos h4.2
      rw [hlf] at hone
      have HONE := Lib.hid hone
      have q4 : decide (y.op ≤ 4) = true := decide_eq_true h4.2
      obtain ⟨xo, xn, xm, xi, xp⟩ := y
      simp only [] at c0 c1 c2 c3 c4 q4
      clear hv hlv hc hone hlf hwf hs hxt hd hd1 hokx hok hlm ih h4 hxi
      go_enter Try.func31, Try.ntmps31
      go_wp2
      go_ret
      have ba : Below W.heap.size W (W.alloc (.cells #[.int .i64 xo, .int .i64 xn, .string xm, .string xi, .int .i64 xp] 57)) := (Below.refl _ _).alloc (Nat.le_refl _) _
      exact ⟨_, _, _, rfl, OpsD.below HONE.out ba, ba⟩
    | un y a =>
      obtain rfl : y = x := hx
      have h5 := ar_op1 (show ar y.op = 1 from hwf.1)
      have q4 : decide (y.op ≤ 4) = false := decide_eq_false (by omega)
      have hz := stpL_op rsv hokx (by omega)
      have hsz : a.size + 1 ≤ s + 1 := hs
      have htl : l.drop (i + 1) = a.flat ++ r := by rw [hd1]; exact (List.cons.inj hxt).2.symm
      have HIH := Lib.hid (fun (V : World) (h : Below W.heap.size W V) => ih a (i + 1) r V (by omega) hwf.2 htl (hv.below h) (OpsD.below hlv h))
      have hcd : codeE rsv (.un y a) = codeE rsv a ++ [⟨5, 0, 0⟩] := by simp only [codeE, hz, h5]
      rw [hcd]
      have hal : (codeE rsv a).length ≤ 200 := by rw [codeE_len]; have := Ex.flat_length a; have h2 : (l.drop (i + 1)).length = (a.flat ++ r).length := by rw [htl]; 
                                                  rw [List.length_drop, List.length_append] at h2; omega
      rw [hlm, ← hN, show ((i + 1 : Nat) : Int) = (i : Int) + 1 by omega] at HIH
      have HN := Lib.hid hN
      have hpos := codeE_pos rsv a
      generalize codeE rsv a = ca at *
      obtain ⟨xo, xn, xm, xi, xp⟩ := y
      simp only [] at c0 c1 c2 c3 c4 q4 h5
      subst h5
      have HHI := Lib.hid hi
      clear hv hlv hc hone hwf hs hxt hd hd1 hokx hok hlm ih hxi IH hz htl hcd hsz hN
      have L0 : Hid (Below W.heap.size W (W.alloc (.cells #[.int .i64 5, .int .i64 xn, .string xm, .string xi, .int .i64 xp] 57))) := (Below.refl _ _).alloc (Nat.le_refl _) _
      have K0 := Lib.hid (Bk.new W 57 #[.int .i64 5, .int .i64 xn, .string xm, .string xi, .int .i64 xp])
      obtain ⟨wb, hwb⟩ : ∃ wb, wb = W.alloc (.cells #[.int .i64 5, .int .i64 xn, .string xm, .string xi, .int .i64 xp] 57) := ⟨_, rfl⟩
      rw [← hwb] at L0 K0
      have HWB := Lib.hid hwb
      clear hwb
      go_enter Try.func31, Try.ntmps31
      go_wp2_with fail
      rw [← HWB.out]
      refine (HIH.out _ L0.out).mono ?_
      rintro e1 w1 ⟨b3, off3, cap3, rfl, o1, bb1⟩
      have O1 := Lib.hid o1
      have B1 := Lib.hid bb1
      clear o1 bb1
      go_wp2_with (at_builtin; first
        | (refine append_ops2 rfl _ _ rfl wb.heap.size (.slice none 0 0) [] ca rfl b3 off3 cap3 rfl ⟨rfl, .inl ⟨rfl, rfl⟩⟩ O1.out (by simp; omega) B1.out.size ?_; intro v2 w2 hown2 hb2; obtain ⟨ad4, cap4, rfl, _⟩ := own_shape' hown2; have K2 := K0.out.below (B1.out.trans hb2); have e0 := K2.cell 0; have el := K2.lt; have hown2' : w2.ownsRow wb.heap.size 53 3 (.slice ad4 ca.length cap4) ca.length (rowP ca) := hown2; have O2 := Lib.hid hown2'; have B2 := Lib.hid (B1.out.trans hb2); clear hown2 hown2' hb2 K2)
        | (refine append_ops2 rfl _ _ rfl wb.heap.size (.slice ad4 ca.length cap4) ca [⟨5, 0, 0⟩] rfl w2.heap.size 0 1 rfl (own_below O2.out ((Below.refl _ _).alloc (Nat.le_refl _) _)) (opsD_of_bk (xs := [⟨5, 0, 0⟩]) (Bk.new w2 _ _) rfl (by decide)) (by simp; omega) (by have := B2.out.size; simp; omega) ?_; intro v5 w5 hown5 hb5; have O5 := Lib.hid (opsD_of_own hown5); have B5 := Lib.hid (B2.out.trans (((Below.refl _ _).alloc (Nat.le_refl _) _).mono B2.out.size |>.trans hb5)); clear hown5 hb5))
      go_ret
      obtain ⟨b7, off7, cap7, rfl⟩ := opsD_some O5.out (by simp)
      exact ⟨b7, off7, cap7, rfl, O5.out, L0.out.trans (B5.out.mono L0.out.size)⟩
    | bin y a d =>
      obtain rfl : y = x := hx
      have h5 := ar_op2 (show ar y.op = 2 from hwf.1)
      have q4 : decide (y.op ≤ 4) = false := decide_eq_false (by omega)
      have q5 : (y.op != 5) = true := by simpa using (show ¬ y.op = 5 by omega)
      have hz := stpL_op rsv hokx (by omega)
      have hsz : a.size + d.size + 1 ≤ s + 1 := hs
      have htl : l.drop (i + 1) = a.flat ++ (d.flat ++ r) := by rw [hd1, ← List.append_assoc]; exact (List.cons.inj hxt).2.symm
      have htl2 : l.drop (i + 1 + a.size) = d.flat ++ r := by rw [← List.drop_drop, htl, ← Ex.flat_length, List.drop_left]
      have HIH := Lib.hid (fun (V : World) (h : Below W.heap.size W V) => ih a (i + 1) _ V (by omega) hwf.2.1 htl (hv.below h) (OpsD.below hlv h))
      have HIH2 := Lib.hid (fun (V : World) (h : Below W.heap.size W V) => ih d (i + 1 + a.size) _ V (by omega) hwf.2.2 htl2 (hv.below h) (OpsD.below hlv h))
      have hend := endL_at l a (d.flat ++ r) (i + 1) hwf.2.1 htl
      have HEN := Lib.hid (fun (V : World) (h : Below W.heap.size W V) => rend_any l _ ((i : Int) + 1) V (hv.below h).nds (by omega))
      have hll : a.size + d.size ≤ 200 := by
        have h2 : (l.drop (i + 1)).length = (a.flat ++ (d.flat ++ r)).length := by rw [htl]
        rw [List.length_drop, List.length_append, List.length_append, Ex.flat_length, Ex.flat_length] at h2
        omega
      have hcd : codeE rsv (.bin y a d) = codeE rsv a ++ codeE rsv d ++ [⟨y.op, 0, 0⟩] := by simp only [codeE, hz]
      rw [hcd]
      have hal : (codeE rsv a).length + (codeE rsv d).length ≤ 200 := by rw [codeE_len, codeE_len]; exact hll
      obtain ⟨za, hza⟩ : ∃ z, a.size = z := ⟨_, rfl⟩
      rw [hza] at HIH2 hend
      rw [hlm, ← hN, show ((i + 1 : Nat) : Int) = (i : Int) + 1 by omega] at HIH
      obtain ⟨ze, hze⟩ : ∃ z : Int, ((i + 1 + za : Nat) : Int) = z := ⟨_, rfl⟩
      rw [hlm, ← hN, hze] at HIH2
      rw [hze, show ((i + 1 : Nat) : Int) = (i : Int) + 1 by omega] at hend
      rw [← hN] at HEN
      rw [hend] at HEN
      have HN := Lib.hid hN
      generalize codeE rsv a = ca at *
      generalize codeE rsv d = cd at *
      obtain ⟨xo, xn, xm, xi, xp⟩ := y
      simp only [] at c0 c1 c2 c3 c4 q4 q5 h5
      clear hv hlv hc hone hwf hs hxt hd hd1 hokx hok hlm ih hxi IH hz htl htl2 hcd hsz hN hend hll hza hze h5
      have L0 : Hid (Below W.heap.size W (W.alloc (.cells #[.int .i64 xo, .int .i64 xn, .string xm, .string xi, .int .i64 xp] 57))) := (Below.refl _ _).alloc (Nat.le_refl _) _
      have K0 := Lib.hid (Bk.new W 57 #[.int .i64 xo, .int .i64 xn, .string xm, .string xi, .int .i64 xp])
      obtain ⟨wb, hwb⟩ : ∃ wb, wb = W.alloc (.cells #[.int .i64 xo, .int .i64 xn, .string xm, .string xi, .int .i64 xp] 57) := ⟨_, rfl⟩
      rw [← hwb] at L0 K0
      have HWB := Lib.hid hwb
      clear hwb
      go_enter Try.func31, Try.ntmps31
      go_wp2_with fail
      rw [← HWB.out]
      refine (HIH.out _ L0.out).mono ?_
      rintro e1 w1 ⟨b3, off3, cap3, rfl, o1, bb1⟩
      have O1 := Lib.hid o1
      have B1 := Lib.hid bb1
      clear o1 bb1
      go_wp2_with (first
        | (at_builtin; refine append_ops2 rfl _ _ rfl wb.heap.size (.slice none 0 0) [] ca rfl b3 off3 cap3 rfl ⟨rfl, .inl ⟨rfl, rfl⟩⟩ O1.out (by simp; omega) B1.out.size ?_; intro v2 w2 hown2 hb2; obtain ⟨ad4, cap4, rfl, _⟩ := own_shape' hown2; have K2 := Lib.hid (K0.out.below (B1.out.trans hb2)); have e0 := K2.out.cell 0; have el := K2.out.lt; have hown2' : w2.ownsRow wb.heap.size 53 3 (.slice ad4 ca.length cap4) ca.length (rowP ca) := hown2; have O2 := Lib.hid hown2'; have B2 := Lib.hid (B1.out.trans hb2); clear hown2 hown2' hb2)
        | (go_at_call 52; refine Calls.mono (HEN.out _ (L0.out.trans (B2.out.mono L0.out.size))) ?_; rintro e3 w3 ⟨rfl, rfl⟩)
        | (go_at_call 31; refine Calls.mono (HIH2.out _ (L0.out.trans (B2.out.mono L0.out.size))) ?_; rintro e4 w4 ⟨b5, off5, cap5, rfl, o4, bb4⟩; have O4 := Lib.hid o4; have B4 := Lib.hid (B2.out.trans (bb4.mono B2.out.size)); have O24 := Lib.hid (own_below O2.out bb4); have K4 := Lib.hid (K2.out.below bb4); clear o4 bb4)
        | (at_builtin; refine append_ops2 rfl _ _ rfl wb.heap.size (.slice ad4 ca.length cap4) ca cd rfl b5 off5 cap5 rfl O24.out O4.out (by omega) B4.out.size ?_; intro v6 w6 hown6 hb6; obtain ⟨ad6, cap6, rfl, _⟩ := own_shape' hown6; have K6 := Lib.hid (K0.out.below (B4.out.trans hb6)); have e6 := K6.out.cell 0; have el6 := K6.out.lt; have hown6' : w6.ownsRow wb.heap.size 53 3 (.slice ad6 (ca.length + cd.length) cap6) (ca ++ cd).length (rowP (ca ++ cd)) := (by rw [← List.length_append]; exact hown6); have O6 := Lib.hid hown6'; have B6 := Lib.hid (B4.out.trans hb6); clear hown6 hown6' hb6)
        | (at_builtin; refine append_ops2 rfl _ _ rfl wb.heap.size (.slice ad6 (ca.length + cd.length) cap6) (ca ++ cd) [⟨xo, 0, 0⟩] rfl w6.heap.size 0 1 rfl (own_below O6.out ((Below.refl _ _).alloc (Nat.le_refl _) _)) (opsD_of_bk (xs := [⟨xo, 0, 0⟩]) (Bk.new w6 _ _) rfl (show 1 ≤ 1000000 by decide)) (by simp; omega) (by have := B6.out.size; simp; omega) ?_; intro v7 w7 hown7 hb7; have O7 := Lib.hid (opsD_of_own hown7); have B7 := Lib.hid (B6.out.trans (((Below.refl _ _).alloc (Nat.le_refl _) _).mono B6.out.size |>.trans hb7)); clear hown7 hb7))
      go_ret
      obtain ⟨b9, off9, cap9, rfl⟩ := opsD_some O7.out (by rw [List.length_append]; show 0 < _ + 1; omega)
      exact ⟨b9, off9, cap9, rfl, O7.out, L0.out.trans (B7.out.mono L0.out.size)⟩

end Go.Proofs.Ytibkegalbcjmpaa
