/- ScanJoins holds: for every two strings the law returns true and the strings read as they did. -/
import Derived.Test.YtgpbogagpmjilaaQ
import Derived.Laws.AppendOwnNone
namespace Go.Proofs.Ytgpbogagpmjilaa
open Go.ChangeShapes Go.WideShapes Go.ChangeAt Go.RowKit
open Go.ChangeMaps (open_string shut_string)

theorem rowOf_one (l : List Tok) : ∀ u ∈ rowOf l, u.oneCell' = true := by
  intro u h
  unfold rowOf at h
  rw [List.mem_flatMap] at h
  obtain ⟨t, _, h⟩ := h
  simp [cellsOf] at h
  rcases h with rfl | rfl | rfl | rfl <;> rfl

theorem own_under {w w' : World} {B e size n N : Nat} {v : Value} {xs : List Value} (h : w.ownsRow B e size v n xs) (hlt : ∀ k, v.ownBlock = some k → k < N) (hb : Below N w w') : w'.ownsRow B e size v n xs := by
  obtain ⟨h1, h2⟩ := h
  refine ⟨h1, ?_⟩
  rcases h2 with h2 | ⟨g, cap, cur, rfl, hg, hh, r⟩
  · exact .inl h2
  · exact .inr ⟨g, cap, cur, rfl, hg, by rw [hb.block g (hlt g rfl)]; exact hh, r⟩

/-- append(x, l...), l tokens that the call owns. -/
theorem append_toks {w : World} {ops : Array Oper} {rest : List Oper} {o : Oper} {a : Act} {Q : Exit → Act → World → Prop} (hgd : o.guard = none) (s x : Operand)
    (ho : o.op = .call { callee := .builtin .append, args := #[s, x], argTypes := #[23, 23] }) (base B n m : Nat) (v u : Value) (xs : List Value) (l : List Tok) (hs : a.eval s = v) (hx : a.eval x = u)
    (hown : w.ownsRow base 29 4 v n xs) (hu : w.ownsRow B 29 4 u m (rowOf l)) (hm : m = l.length) (hn : n + m ≤ 1000000) (hbase : base ≤ w.heap.size)
    (h : ∀ v' w', w'.ownsRow base 29 4 v' (n + m) (xs ++ rowOf l) → Below base w w' → wpList Try.prog ops Q rest (a.put o.dst v') w') : wpList Try.prog ops Q (o :: rest) a w := by
  obtain ⟨i0, hi, hz0, hz1, hz2⟩ := info_parts info29
  have hc := @World.ownsRow.cells _ _ _ _ _ _ _ hu
  subst hm
  rcases hu.2 with ⟨rfl, h0⟩ | ⟨g, cap, cur, rfl, _⟩
  · obtain rfl := List.eq_nil_of_length_eq_zero h0
    refine wpList_append_own_none hgd s x 23 ho base 29 i0 4 Try.underlying23 hi v n xs hs hown hx ?_
    have := h v w
    rw [show rowOf [] = [] from rfl, List.append_nil] at this
    exact this hown (Below.refl _ _)
  · refine wpList_append_own _ hgd s x 23 ho base 29 i0 (.agg #[.int .i64 0, .string ⟨#[]⟩, .int .i64 0, .int .i64 0]) 4 40 Try.underlying23 hi hz0 hz1 hz2 rfl (by decide) v n xs hs hown ⟨g, 0, none⟩ l.length cap (rowOf l) hx
      (by rw [rowOf_length]) (hc rfl) (rowOf_one l) (by unfold maxLen; omega) (by omega) hbase ?_
    intro v' w' h1 h2 _
    exact h v' w' h1 ((Below.refl base w).grown h2 hbase (fun k hk => (hown.lt k hk).1))

/-- Two rows that are alike but for places are the same. -/
theorem same_alike {w : World} {B B' n n' : Nat} {v v' : Value} {l l' : List Tok} (h : w.ownsRow B 29 4 v n (rowOf l)) (h' : w.ownsRow B' 29 4 v' n' (rowOf l')) (e : n = l.length) (e' : n' = l'.length) (hs : l.map strip = l'.map strip) (hn : n ≤ 140737488351232) :
    Calls Try.prog 11 #[v, v', .bool false] w fun e w' => e = .returned (.bool true) ∧ Below w.heap.size w w' := by
  subst e; subst e'
  have hl : l'.length = l.length := by
    have := congrArg List.length hs
    simpa using this.symm
  refine same_toks false v v' _ _ w (toks_own h) (toks_own h') (by rw [List.length_map]; exact hn) (by rw [List.length_map, List.length_map, hl]) (fun i hi => ?_)
  rw [List.length_map] at hi
  have e1 : (l.map tv).getD i (0, ⟨#[]⟩, 0, 0) = tv l[i] := by simp [List.getD_eq_getElem?_getD, hi]
  have e2 : (l'.map tv).getD i (0, ⟨#[]⟩, 0, 0) = tv (l'[i]'(by omega)) := by simp [List.getD_eq_getElem?_getD, hl, hi]
  have e3 : strip l[i] = strip (l'[i]'(by omega)) := by
    have := congrArg (fun x => x[i]?) hs
    simpa [hl, hi] using this
  simp only [strip, Prod.mk.injEq] at e3
  rw [e1, e2]
  show alike _ _
  exact ⟨by show (_ : Int) = _; simp [tv, e3.1], by simp [tv, e3.2.1], by simp [tv, e3.2.2]⟩

theorem joins_known (a b : ByteArray) (w : World) (h : 1500 < a.size ∨ 1500 < b.size) (ha : a.size ≤ maxLen) (hb : b.size ≤ maxLen) :
    Calls Try.prog 7 #[.string a, .string b] w fun e w' => e = .returned (.bool true) ∧ Below w.heap.size w w' := by
  unfold maxLen at ha hb
  by_cases h1 : 1500 < a.size
  · clear h
    go_enter Try.func7, Try.ntmps7
    go_wp2_with (go_at_call 8; refine (known_any _).mono ?_; rintro e w1 ⟨rfl, hb⟩)
    go_ret
    exact ⟨rfl, hb⟩
  · have h2 : 1500 < b.size := by omega
    clear h
    go_enter Try.func7, Try.ntmps7
    go_wp2_with (go_at_call 8; refine (known_any _).mono ?_; rintro e w1 ⟨rfl, hb⟩)
    go_ret
    exact ⟨rfl, hb⟩

set_option maxHeartbeats 1000000 in
theorem joins_bad (a b : ByteArray) (w : World) (ha : a.size ≤ 1500) (hb : b.size ≤ 1500) (ta tb : List Tok) (ea eb pa pb : Nat) (hA : scanL a.data.toList = (ta, ea, pa)) (hB : scanL b.data.toList = (tb, eb, pb)) (h : ea ≠ 0 ∨ eb ≠ 0) :
    Calls Try.prog 7 #[.string a, .string b] w fun e w' => e = .returned (.bool true) ∧ Below w.heap.size w w' := by
  have HA := fun w => scan_shape a w (by unfold maxLen; omega) ta ea pa hA
  have HB := fun w => scan_shape b w (by unfold maxLen; omega) tb eb pb hB
  clear hA hB
  by_cases h1 : ea = 0
  · have h2 : eb ≠ 0 := by omega
    have q0 : ((ea : Int) != 0) = false := by simp [h1]
    have q1 : ((eb : Int) != 0) = true := by simpa using h2
    clear h h1 h2
    go_enter Try.func7, Try.ntmps7
    go_wp2_with fail
    refine (HA _).mono ?_
    rintro e w1 ⟨ad, cap, rfl, _, hb1⟩
    go_wp2_with fail
    refine (HB _).mono ?_
    rintro e w2 ⟨ad2, cap2, rfl, _, hb2⟩
    have hb3 := below_next hb1 hb2
    clear hb1 hb2
    go_wp2_with (go_at_call 8; refine (known_any _).mono ?_; rintro e w1 ⟨rfl, hb⟩)
    go_ret
    exact ⟨rfl, below_next hb3 hb⟩
  · have q0 : ((ea : Int) != 0) = true := by simpa using h1
    clear h h1
    go_enter Try.func7, Try.ntmps7
    go_wp2_with fail
    refine (HA _).mono ?_
    rintro e w1 ⟨ad, cap, rfl, _, hb1⟩
    go_wp2_with fail
    refine (HB _).mono ?_
    rintro e w2 ⟨ad2, cap2, rfl, _, hb2⟩
    have hb3 := below_next hb1 hb2
    clear hb1 hb2
    go_wp2_with (go_at_call 8; refine (known_any _).mono ?_; rintro e w1 ⟨rfl, hb⟩)
    go_ret
    exact ⟨rfl, below_next hb3 hb⟩

set_option maxHeartbeats 2000000 in
theorem joins_good (a b : ByteArray) (w : World) (ha : a.size ≤ 1500) (hb : b.size ≤ 1500) (ta tb : List Tok) (pa pb : Nat) (hA : scanL a.data.toList = (ta, 0, pa)) (hB : scanL b.data.toList = (tb, 0, pb)) :
    Calls Try.prog 7 #[.string a, .string b] w fun e w' => e = .returned (.bool true) ∧ Below w.heap.size w w' := by
  have HA := fun w => scan_shape a w (by unfold maxLen; omega) ta 0 pa hA
  have HB := fun w => scan_shape b w (by unfold maxLen; omega) tb 0 pb hB
  obtain ⟨⟨tc, ec, pc⟩, hC⟩ : ∃ R, scanL (a.data.toList ++ 10 :: b.data.toList) = R := ⟨_, rfl⟩
  have hj := scanL_join a.data.toList b.data.toList (by rw [← Lib.size_eq]; exact ha) (by rw [← Lib.size_eq]; exact hb) (by rw [hA]) (by rw [hB])
  rw [hA, hB, hC] at hj
  obtain ⟨hj1, hj2⟩ := hj
  have hj1' : ec = 0 := hj1
  subst hj1'
  have hC' : scanL (a ++ ⟨#[10]⟩ ++ b).data.toList = (tc, 0, pc) := by rw [← hC]; congr 1; simp
  have HC := fun w => scan_shape (a ++ ⟨#[10]⟩ ++ b) w (by have e1 : (⟨#[10]⟩ : ByteArray).size = 1 := rfl; unfold maxLen; simp only [ByteArray.size_append, e1]; omega) tc 0 pc hC'
  have hla : ta.length ≤ 3000 := by
    have h1 := scanL_lenS a.data.toList
    have h2 := length_le_lenS (scanL a.data.toList).1
    rw [hA, ← Lib.size_eq] at *
    simp only [] at h1 h2; omega
  have hlb : tb.length ≤ 3000 := by
    have h1 := scanL_lenS b.data.toList
    have h2 := length_le_lenS (scanL b.data.toList).1
    rw [hB, ← Lib.size_eq] at *
    simp only [] at h1 h2; omega
  have HJ : Hid (tc.map strip = (ta ++ tb).map strip) := hj2
  have hlc : tc.length ≤ 6000 := by
    have := congrArg List.length hj2
    simp at this; omega
  clear hA hB hC hC' hj1 hj2
  go_enter Try.func7, Try.ntmps7
  go_wp2_with fail
  refine (HA _).mono ?_
  rintro e w1 ⟨ad, cap, rfl, hoa, hb1⟩
  go_wp2_with fail
  refine (HB _).mono ?_
  rintro e w2 ⟨ad2, cap2, rfl, hob, hb2⟩
  have hoa2 := own_below hoa hb2
  have hb3 := below_next hb1 hb2
  clear hoa hb1 hb2
  go_wp2_with fail
  refine (HC _).mono ?_
  rintro e w3 ⟨ad3, cap3, rfl, hoc, hb4⟩
  have hoa3 := own_below hoa2 hb4
  have hob3 := own_below hob hb4
  have hb5 := below_next hb3 hb4
  have hz := hb5.size
  have HLT : Hid (∀ k, (Value.slice ad3 tc.length cap3).ownBlock = some k → k < w3.heap.size) := fun k hk => (hoc.lt k hk).2
  clear hoa2 hob hb3 hb4 HA HB HC
  obtain ⟨la, hla'⟩ : ∃ n, n = ta.length := ⟨_, rfl⟩
  obtain ⟨lb, hlb'⟩ : ∃ n, n = tb.length := ⟨_, rfl⟩
  obtain ⟨lc, hlc'⟩ : ∃ n, n = tc.length := ⟨_, rfl⟩
  rw [← hla'] at hla hoa3 ⊢
  rw [← hlb'] at hlb hob3 ⊢
  rw [← hlc'] at hlc hoc HLT ⊢
  have HLA := Lib.hid hla'
  have HLB := Lib.hid hlb'
  have HLC := Lib.hid hlc'
  clear hla' hlb' hlc'
  go_wp2_with (first
    | (at_builtin; refine append_toks rfl (.tmp 52) (.tmp 53) rfl w3.heap.size w.heap.size 0 la _ _ [] ta rfl rfl (World.ownsRow_nil _ _ _ _) hoa3 HLA.out (by omega) (Nat.le_refl _) ?_; intro v1 w4 h1 h2; have hoc4 := own_below hoc h2; have hob4 := own_below hob3 h2; have hb6 := below_next hb5 h2; have hz4 := h2.size; clear hoc hob3 hb5 hoa3 h2)
    | (at_builtin; refine append_toks rfl (.tmp 55) (.tmp 56) rfl w3.heap.size w1.heap.size _ lb _ _ _ tb rfl rfl h1 hob4 HLB.out (by omega) hz4 ?_; intro v2 w5 h3 h4))
  have hoc5 := own_under hoc4 HLT.out h4
  have hb7 : Below w.heap.size w w5 := hb6.trans (h4.mono hz)
  have h3' : w5.ownsRow w3.heap.size 29 4 v2 (0 + la + lb) (rowOf (ta ++ tb)) := by
    have e : rowOf (ta ++ tb) = [] ++ rowOf ta ++ rowOf tb := by simp [rowOf]
    rw [e]; exact h3
  clear hoc4 hob4 hb6 h4 h3 h1
  refine (same_alike hoc5 h3' HLC.out (by have := HLA.out; have := HLB.out; rw [List.length_append]; omega) HJ.out (by omega)).mono ?_
  rintro e w6 ⟨rfl, hb8⟩
  have hb9 := below_next hb7 hb8
  clear hoc5 h3' hb7 hb8
  go_wp2_with (go_at_call 8; refine (known_any _).mono ?_; rintro e w7 ⟨rfl, hb10⟩)
  go_ret
  exact ⟨rfl, below_next hb9 hb10⟩

theorem scanJoins_walk (a b : ByteArray) (ha : a.size ≤ maxLen) (hb : b.size ≤ maxLen) (w : World) :
    Calls Try.prog 7 #[.string a, .string b] w fun e w' => e = .returned (.bool true) ∧ Below w.heap.size w w' := by
  by_cases h : 1500 < a.size ∨ 1500 < b.size
  · exact joins_known a b w h ha hb
  · obtain ⟨⟨ta, ea, pa⟩, hA⟩ : ∃ R, scanL a.data.toList = R := ⟨_, rfl⟩
    obtain ⟨⟨tb, eb, pb⟩, hB⟩ : ∃ R, scanL b.data.toList = R := ⟨_, rfl⟩
    by_cases h0 : ea ≠ 0 ∨ eb ≠ 0
    · exact joins_bad a b w (by omega) (by omega) ta tb ea eb pa pb hA hB h0
    · obtain rfl : ea = 0 := by omega
      obtain rfl : eb = 0 := by omega
      exact joins_good a b w (by omega) (by omega) ta tb pa pb hA hB

theorem ownScanJoins : ownKnob Try.prog.godebug = none := by kernel_rfl
theorem laidScanJoins : laidOutB Try.prog = true := by kernel_rfl

set_option linter.unusedVariables false in
set_option maxRecDepth 100000 in
theorem scanJoins_lifted (os : Os) (started : os.Started) (H : Type) (enc : TypeId × Value → H) :
    ReturnsInHanded {} Try.checked os 7 .any (Rows.scanJoinsSpec.pre6 enc Try.prog Try.f7 Rows.scanJoinsRow.domain false) (Rows.scanJoinsSpec.post enc Try.prog Try.f7 false true false false) := by
  refine returnsInHanded_of_change (C := Try.checked) ownScanJoins started (by kernel_rfl) Try.func7
    (ChangeSpec.witness6 (enc := enc) (C := Try.checked) false ⟨#[], #[.string ByteArray.empty, .string ByteArray.empty], []⟩ 8 (by kernel_rfl) (by kernel_rfl) (by kernel_rfl) (by kernel_rfl)) ?_
  intro W base args ds gs before hval0 hW hcnd _
  have hval : ∀ (j : Nat) t v, Try.f7.params[j]? = some t → args[j]? = some v → Value.okWide Try.prog W .any base t v := hval0
  have hW' := hW
  obtain ⟨p, q, hA0, hV, rfl, hfz, hnd⟩ := hW
  have hA : DataW.TrodAll enc Try.prog W 0 (fun _ => true) true Try.f7.params.toList args.toList ds p := hA0
  rw [Try.params7] at hA hval
  obtain ⟨v0, vs0, d0, ds0, p0, q0, hargs, rfl, rfl, h0, r0⟩ := trodAll_cons hA
  obtain ⟨v1, vs1, d1, ds1, p1, q1, rfl, rfl, rfl, h1, r1⟩ := trodAll_cons r0
  obtain ⟨rfl, rfl, rfl⟩ := trodAll_nil r1
  obtain rfl : args = #[v0, v1] := by cases args; simp_all
  obtain ⟨rfl, rfl⟩ := trodVars_none hV
  have k0 := h0
  have lt0 : ∀ x ∈ p0, x.block < W.heap.size := by obtain ⟨m, hm⟩ := k0; exact DataW.trod_lt m _ _ _ hm
  obtain ⟨a0, rfl, rfl, rfl, w0⟩ := open_string Try.underlying9 (hval 0 9 v0 rfl rfl) h0
  have k1 := h1
  have lt1 : ∀ x ∈ p1, x.block < W.heap.size := by obtain ⟨m, hm⟩ := k1; exact DataW.trod_lt m _ _ _ hm
  obtain ⟨a1, rfl, rfl, rfl, w1⟩ := open_string Try.underlying9 (hval 1 9 v1 rfl rfl) h1
  clear hA0 hval0
  refine (scanJoins_walk a0 a1 w0 w1 W).mono fun e W' ⟨he, bel⟩ => ?_
  subst he
  exact ⟨_, rfl, _, _, _, [], _, [], hW', trodAll_mk1 (shut_bool Try.underlying4 _), (trodAll_cons_mk (Below.trod laidScanJoins (by kernel_rfl) (of_decide_eq_true (by kernel_rfl)) k0 bel lt0) (trodAll_cons_mk (Below.trod laidScanJoins (by kernel_rfl) (of_decide_eq_true (by kernel_rfl)) k1 bel lt1) trodAll_mk0)), rfl, bel.frame _, fun h => by cases h⟩

theorem scanJoins_holds : Rows.ScanJoinsSaid :=
  OpenClaim.holds_of_wide 7 Try.f7 rfl rfl rfl rfl rfl rfl rfl ⟨rfl, rfl, rfl, rfl, rfl⟩ rfl rfl rfl rfl rfl (by kernel_rfl) Try.func7 (by kernel_rfl)
    (of_decide_eq_true (by kernel_rfl)) (by unfold Func.isWrapper; first | (rw [if_pos (by decide +kernel)]; kernel_rfl) | (rw [if_neg (by decide +kernel)]; exact ⟨rfl, rfl⟩))
    (fun os started H enc _ => scanJoins_lifted os started H enc)



end Go.Proofs.Ytgpbogagpmjilaa
