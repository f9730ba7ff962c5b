/- ScanTells holds: for every string and every slice of tokens the law returns true and both read as they did. -/
import Derived.Test.YtgpbogagpmjilaaQ
import Derived.Deep.Slices
namespace Go.Proofs.Ytgpbogagpmjilaa
open Go.ChangeShapes Go.WideShapes Go.ChangeAt Go.RowKit
open Go.ChangeMaps (open_string shut_string)

theorem cell_spot {w : World} {b off : Nat} {sp : Option Nat} {x : Value} (h : w.cell? ⟨b, off, sp⟩ = some x) : sp = none ∧ b < w.heap.size := by
  unfold World.cell? at h
  constructor
  · cases sp with
    | none => rfl
    | some k => split at h <;> simp at h
  · rcases Nat.lt_or_ge b w.heap.size with h' | h'
    · exact h'
    · simp [Array.getElem?_eq_none h'] at h

theorem cell_tok {H : Type} {enc : TypeId × Value → H} {W : World} {n : Nat} {cs : List Value} {x : DataW H × List MemPlace} (h : DataW.trod enc Try.prog W 0 (fun _ => true) true n 29 cs = some x) (hl : cs.length = 4) :
    ∃ t : TokV, cs = [.int .i64 t.1, .string t.2.1, .int .i64 t.2.2.1, .int .i64 t.2.2.2] ∧ t.2.1.size ≤ maxLen := by
  obtain ⟨xs, m, _, _, _, hxl, hf⟩ := DataW.trod_struct Try.underlying29 h
  match cs, hl with
  | [c0, c1, c2, c3], _ =>
    match xs, hxl with
    | [x0, x1, x2, x3], _ =>
      have s3 : Try.prog.cellsOf 3 = 1 := by kernel_rfl
      have s9 : Try.prog.cellsOf 9 = 1 := by kernel_rfl
      have f0 : DataW.trod enc Try.prog W 0 (fun _ => true) true m 3 (([c0, c1, c2, c3].drop 0).take (Try.prog.cellsOf 3)) = some x0 := hf 0 _ rfl
      have f1 : DataW.trod enc Try.prog W 0 (fun _ => true) true m 9 (([c0, c1, c2, c3].drop 1).take (Try.prog.cellsOf 9)) = some x1 := hf 1 _ rfl
      have f2 : DataW.trod enc Try.prog W 0 (fun _ => true) true m 3 (([c0, c1, c2, c3].drop 2).take (Try.prog.cellsOf 3)) = some x2 := hf 2 _ rfl
      have f3 : DataW.trod enc Try.prog W 0 (fun _ => true) true m 3 (([c0, c1, c2, c3].drop 3).take (Try.prog.cellsOf 3)) = some x3 := hf 3 _ rfl
      rw [s3] at f0 f2 f3
      rw [s9] at f1
      obtain ⟨n0, e0, _⟩ := DataW.trod_int Try.underlying3 f0
      obtain ⟨n1, e1, _, hz⟩ := DataW.trod_string Try.underlying9 f1
      obtain ⟨n2, e2, _⟩ := DataW.trod_int Try.underlying3 f2
      obtain ⟨n3, e3, _⟩ := DataW.trod_int Try.underlying3 f3
      have e0' : c0 = _ := (List.cons.inj e0).1
      have e1' : c1 = _ := (List.cons.inj e1).1
      have e2' : c2 = _ := (List.cons.inj e2).1
      have e3' : c3 = _ := (List.cons.inj e3).1
      subst e0' e1' e2' e3'
      exact ⟨(n0, n1, n2, n3), rfl, hz⟩

/-- A slice of tokens that came in, as it lies in memory. -/
theorem open_toks {H : Type} {enc : TypeId × Value → H} {W : World} {base : Nat} {v : Value} {d : DataW H} {p : List MemPlace} (hv : Value.okWide Try.prog W .any base 23 v) (h : DataW.Trod enc Try.prog W 0 (fun _ => true) true 23 v d p) :
    ∃ ts : List TokV, Toks W v ts ∧ ts.length ≤ maxLen := by
  obtain ⟨a0, len, cap, rfl⟩ := okWide_slice Try.underlying23 hv
  obtain ⟨fuel, hf⟩ := h
  rcases Deep.open_slice Try.underlying23 hf with ⟨hcs, _⟩ | ⟨a, len', cap', m, n, D, Pl, hcs, _, hl, hm, hmm, _, hx⟩
  · simp [Value.cells] at hcs
    obtain ⟨rfl, rfl, rfl⟩ := hcs
    exact ⟨[], .inl ⟨rfl, none, 0, rfl⟩, by unfold maxLen; simp⟩
  · simp [Value.cells] at hcs
    obtain ⟨rfl, rfl, rfl⟩ := hcs
    have h29 : Try.prog.cellsOf 29 = 4 := by kernel_rfl
    rw [h29] at hx
    simp only [if_true] at hmm
    have hc : ∀ i, i < len → ∃ t : TokV, W.cell? (a.add (i * 4)) = some (.int .i64 t.1) ∧ W.cell? (a.add (i * 4 + 1)) = some (.string t.2.1) ∧ W.cell? (a.add (i * 4 + 2)) = some (.int .i64 t.2.2.1) ∧ W.cell? (a.add (i * 4 + 3)) = some (.int .i64 t.2.2.2) := by
      intro i hi
      obtain ⟨cs', h1, h2⟩ := hx i (by omega)
      obtain ⟨_, hcl, hat⟩ := World.cells?_some h1
      obtain ⟨t, rfl, _⟩ := cell_tok h2 hcl
      have k0 := hat 0 (by omega)
      have k1 := hat 1 (by omega)
      have k2 := hat 2 (by omega)
      have k3 := hat 3 (by omega)
      rw [Deep.add_add] at k0 k1 k2 k3
      exact ⟨t, k0, k1, k2, k3⟩
    obtain ⟨V, hV⟩ := Deep.choose_lt (α := TokV) (p := fun i t => W.cell? (a.add (i * 4)) = some (.int .i64 t.1) ∧ W.cell? (a.add (i * 4 + 1)) = some (.string t.2.1) ∧ W.cell? (a.add (i * 4 + 2)) = some (.int .i64 t.2.2.1) ∧ W.cell? (a.add (i * 4 + 3)) = some (.int .i64 t.2.2.2)) hc
    refine ⟨(List.range len).map V, ?_, by simp; omega⟩
    by_cases h0 : len = 0
    · subst h0
      exact .inl ⟨rfl, _, _, rfl⟩
    · obtain ⟨b, off, sp⟩ := a
      have e0 : (⟨b, off, sp⟩ : Addr).add (0 * 4) = ⟨b, off, sp⟩ := by simp [Addr.add]
      obtain ⟨rfl, hb⟩ := cell_spot (e0 ▸ (hV 0 (by omega)).1)
      refine .inr ⟨b, off, cap, by simp, hb, fun i hi => ?_⟩
      have hi' : i < len := by simpa using hi
      have e : ∀ j, (⟨b, off, none⟩ : Addr).add j = ⟨b, off + j, none⟩ := by
        intro j; unfold Addr.add; split <;> simp_all
      have k := hV i hi'
      rw [e, e, e, e] at k
      simp only [List.getElem_map, List.getElem_range]
      exact k

theorem toks_below {w w' : World} {v : Value} {ts : List TokV} (h : Toks w v ts) (hb : Below w.heap.size w w') : Toks w' v ts := by
  rcases h with h | ⟨b, off, cap, hv, hlt, hc⟩
  · exact .inl h
  · refine .inr ⟨b, off, cap, hv, Nat.lt_of_lt_of_le hlt hb.size, fun i hi => ?_⟩
    obtain ⟨k0, k1, k2, k3⟩ := hc i hi
    exact ⟨(hb.cell (p := ⟨b, _, none⟩) hlt).trans k0, (hb.cell (p := ⟨b, _, none⟩) hlt).trans k1, (hb.cell (p := ⟨b, _, none⟩) hlt).trans k2, (hb.cell (p := ⟨b, _, none⟩) hlt).trans k3⟩

theorem keyword_is (s : ByteArray) (b : Bool) (w : World) (h : kw s = b) : Calls Try.prog 12 #[.string s] w fun e w' => e = .returned (.bool b) ∧ w = w' := by
  cases b with
  | false => exact keyword_no s w h
  | true => exact keyword_yes s w h
theorem rkeyword_is (s : ByteArray) (b : Bool) (w : World) (h : kw s = b) : Calls Try.prog 13 #[.string s] w fun e w' => e = .returned (.bool b) ∧ Below w.heap.size w w' := by
  subst h; exact rkeyword_any s w
theorem rname_is (s : ByteArray) (w : World) (hs : s.size ≤ maxLen) (b : Bool) (h : nameB s = b) :
    Calls Try.prog 15 #[.string s] w fun e w' => e = .returned (.bool b) ∧ Below w.heap.size w w' := by
  subst h; exact rname_any s w hs

theorem showT_size (ts : List TokV) (h : ∀ k, (hk : k < ts.length) → ts[k].2.1.size ≤ 100) : (showT ts).length ≤ ts.length * 101 := by
  have key : ∀ r : List TokV, (∀ t ∈ r, t.2.1.size ≤ 100) → (r.flatMap fun u => (32 : UInt8) :: u.2.1.data.toList).length ≤ r.length * 101 := by
    intro r
    induction r with
    | nil => intro _; simp
    | cons t r ih =>
      intro hr
      have h1 := ih fun u hu => hr u (by simp [hu])
      have h2 := hr t (by simp)
      rw [Lib.size_eq] at h2
      simp only [List.flatMap_cons, List.length_append, List.length_cons]; omega
  have hm : ∀ t ∈ ts, t.2.1.size ≤ 100 := by
    intro t ht
    obtain ⟨i, hi, rfl⟩ := List.getElem_of_mem ht
    exact h i hi
  cases ts with
  | nil => simp [showT]
  | cons t r =>
    have h1 := key r fun u hu => hm u (by simp [hu])
    have h2 := hm t (by simp)
    rw [Lib.size_eq] at h2
    simp only [showT, List.length_append, List.length_cons]; omega

theorem tells_big (s : ByteArray) (hs : s.size ≤ maxLen) (ad : Option Addr) (n cap : Nat) (hn : n ≤ maxLen) (w : World) (h : 300 < s.size ∨ 100 < n) :
    Calls Try.prog 4 #[.string s, .slice ad n cap] w fun e w' => e = .returned (.bool true) ∧ Below w.heap.size w w' := by
  unfold maxLen at hs hn
  by_cases h1 : 300 < s.size
  · clear h
    go_enter Try.func4, Try.ntmps4
    go_wp2_with (go_at_call 8; refine (known_any _).mono ?_; rintro e w1 ⟨rfl, hb⟩)
    go_ret
    exact ⟨rfl, hb⟩
  · have h2 : 100 < n := by omega
    clear h
    go_enter Try.func4, Try.ntmps4
    go_wp2_with (go_at_call 8; refine (known_any _).mono ?_; rintro e w1 ⟨rfl, hb⟩)
    go_ret
    exact ⟨rfl, hb⟩

set_option maxHeartbeats 2000000 in
theorem tells_small (s : ByteArray) (hs : s.size ≤ 300) (ad : Option Addr) (cap : Nat) (ts : List TokV) (w : World) (ht : Toks w (.slice ad ts.length cap) ts) (hl : ts.length ≤ 100)
    (hc : ∀ k, (hk : k < ts.length) → ∃ b off, ad = some ⟨b, off, none⟩ ∧ w.cell? ⟨b, off + k * 4 + 1, none⟩ = some (.string ts[k].2.1)) :
    Calls Try.prog 4 #[.string s, .slice ad ts.length cap] w fun e w' => e = .returned (.bool true) ∧ Below w.heap.size w w' := by
  have hm : s.size ≤ maxLen := by unfold maxLen; omega
  obtain ⟨kb, hkb⟩ : ∃ b, kw s = b := ⟨_, rfl⟩
  obtain ⟨nb, hnb⟩ : ∃ b, nameB s = b := ⟨_, rfl⟩
  have HK := fun w => keyword_is s kb w hkb
  have HRK := fun w => rkeyword_is s kb w hkb
  have HN := fun w => name_is s w hm nb hnb
  have HRN := fun w => rname_is s w hm nb hnb
  have HC := Lib.hid hc
  clear hm hkb hnb hc
  obtain ⟨n, hn⟩ : ∃ n, n = ts.length := ⟨_, rfl⟩
  rw [← hn] at ht hl ⊢
  have HL := Lib.hid hn
  clear hn
  go_enter Try.func4, Try.ntmps4
  go_wp2_with fail
  go_loopg [5] n (fun fuel i wr => ∃ k : Nat, k ≤ n ∧ i = .int .i64 k ∧ n - k ≤ fuel ∧ (∀ j, (hj : j < ts.length) → j < k → ts[j].2.1.size ≤ 100) ∧ w = wr)
  case atStart => exact ⟨0, Nat.zero_le _, rfl, Nat.le_refl _, fun j _ hj => absurd hj (Nat.not_lt_zero _), rfl⟩
  case round =>
    obtain ⟨k, hk, rfl, hf, hsm, rfl⟩ := hrel
    have HSM := Lib.hid hsm
    clear hsm
    by_cases hlt : k < n
    · have hk' : k < ts.length := by have := HL.out; omega
      obtain ⟨b, off, rfl, c1⟩ := HC.out k hk'
      obtain ⟨x, hx⟩ : ∃ x, x = ts[k].2.1 := ⟨_, rfl⟩
      rw [← hx] at c1
      have HX := Lib.hid hx
      clear hx
      by_cases hk0 : k = 0
      · subst hk0
        simp only [Nat.zero_mul, Nat.add_zero] at c1
        by_cases hb : 100 < x.size
        · go_wp2_with (go_at_call 8; refine (known_any _).mono ?_; rintro e w1 ⟨rfl, hb1⟩)
          go_ret
          exact ⟨rfl, hb1⟩
        · go_wp2
          go_roundg (gk - 1)
          case measure => omega
          case rel =>
            refine ⟨1, by omega, by go_num, by omega, fun j hj hjk => ?_, rfl⟩
            by_cases e : j = 0
            · subst e; rw [← HX.out]; omega
            · exact HSM.out j hj (by omega)
      · by_cases hb : 100 < x.size
        · go_wp2_with (go_at_call 8; refine (known_any _).mono ?_; rintro e w1 ⟨rfl, hb1⟩)
          go_ret
          exact ⟨rfl, hb1⟩
        · go_wp2
          go_roundg (gk - 1)
          case measure => omega
          case rel =>
            refine ⟨k + 1, by omega, by go_num, by omega, fun j hj hjk => ?_, rfl⟩
            by_cases e : j = k
            · subst e; rw [← HX.out]; omega
            · exact HSM.out j hj (by omega)
    · obtain rfl : k = n := by omega
      have hT : (showT ts).length ≤ 100000 := by
        have := showT_size ts fun j hj => HSM.out j hj (by have := HL.out; omega)
        have := HL.out
        omega
      obtain ⟨x, hx⟩ : ∃ x : ByteArray, x = ⟨(showT ts).toArray⟩ := ⟨_, rfl⟩
      have HSh : ∀ w, Toks w (.slice ad k cap) ts → Calls Try.prog 16 #[.slice ad k cap] w fun e w' => e = .returned (.string x) ∧ Below w.heap.size w w' := fun w h => by
        rw [hx]; exact show_any _ ts w h (by have := HL.out; omega) (by omega)
      have HRS : ∀ w, Toks w (.slice ad k cap) ts → Calls Try.prog 17 #[.slice ad k cap] w fun e w' => e = .returned (.string x) ∧ w = w' := fun w h => by
        rw [hx]; exact rshow_any _ ts w h (by have := HL.out; omega) (by omega)
      clear hx hT HSM HC
      go_wp2_with (go_at_call 12; refine (HK _).mono ?_; rintro e w1 ⟨rfl, rfl⟩)
      refine (HRK _).mono ?_
      rintro e w1 ⟨rfl, hb1⟩
      clear HK HRK
      go_wp2_with fail
      refine (HN _).mono ?_
      rintro e w2 ⟨rfl, hb2⟩
      have hb3 := below_next hb1 hb2
      clear hb1 hb2
      go_wp2_with fail
      refine (HRN _).mono ?_
      rintro e w4 ⟨rfl, hb4⟩
      have hb5 := below_next hb3 hb4
      clear hb3 hb4
      go_wp2_with fail
      refine (HSh _ (toks_below ht hb5)).mono ?_
      rintro e w6 ⟨rfl, hb6⟩
      have hb7 := below_next hb5 hb6
      have ht7 := toks_below ht hb7
      clear hb5 hb6 HSh ht
      go_wp2_with fail
      refine (HRS _ ht7).mono ?_
      rintro e w8 ⟨rfl, rfl⟩
      clear HRS ht7
      go_wp2_with (go_at_call 8; refine (known_any _).mono ?_; rintro e w9 ⟨rfl, hb9⟩)
      go_ret
      exact ⟨rfl, below_next hb7 hb9⟩

theorem scanTells_walk (s : ByteArray) (v : Value) (hs : s.size ≤ maxLen) {H : Type} {enc : TypeId × Value → H} {W : World} {base : Nat} {d : DataW H} {p : List MemPlace} (hv : Value.okWide Try.prog W .any base 23 v) (h : DataW.Trod enc Try.prog W 0 (fun _ => true) true 23 v d p) (w : World) (hw : w = W) :
    Calls Try.prog 4 #[.string s, v] w fun e w' => e = .returned (.bool true) ∧ Below w.heap.size w w' := by
  subst hw
  obtain ⟨ts, ht, hn⟩ := open_toks hv h
  obtain ⟨ad, cap, rfl, hc⟩ : ∃ ad cap, v = .slice ad ts.length cap ∧ ∀ k, (hk : k < ts.length) → ∃ b off, ad = some ⟨b, off, none⟩ ∧ w.cell? ⟨b, off + k * 4 + 1, none⟩ = some (.string ts[k].2.1) := by
    rcases ht with ⟨rfl, ad, cap, rfl⟩ | ⟨b, off, cap, rfl, _, hc⟩
    · exact ⟨ad, cap, rfl, fun k hk => absurd hk (Nat.not_lt_zero _)⟩
    · exact ⟨_, cap, rfl, fun k hk => ⟨b, off, rfl, (hc k hk).2.1⟩⟩
  by_cases hb : 300 < s.size ∨ 100 < ts.length
  · exact tells_big s hs ad ts.length cap hn w hb
  · exact tells_small s (by omega) ad cap ts w ht (by omega) hc

theorem ownScanTells : ownKnob Try.prog.godebug = none := by kernel_rfl
theorem laidScanTells : laidOutB Try.prog = true := by kernel_rfl

set_option linter.unusedVariables false in
set_option maxRecDepth 100000 in
theorem scanTells_lifted (os : Os) (started : os.Started) (H : Type) (enc : TypeId × Value → H) :
    ReturnsInHanded {} Try.checked os 4 .any (Rows.scanTellsSpec.pre6 enc Try.prog Try.f4 Rows.scanTellsRow.domain false) (Rows.scanTellsSpec.post enc Try.prog Try.f4 false true false false) := by
  refine returnsInHanded_of_change (C := Try.checked) ownScanTells started (by kernel_rfl) Try.func4
    (ChangeSpec.witness6 (enc := enc) (C := Try.checked) false ⟨#[], #[.string ByteArray.empty, .slice none 0 0], []⟩ 8 (by kernel_rfl) (by kernel_rfl) (by kernel_rfl) (by kernel_rfl)) ?_
  intro W base args ds gs before hval0 hW hcnd _
  have hval : ∀ (j : Nat) t v, Try.f4.params[j]? = some t → args[j]? = some v → Value.okWide Try.prog W .any base t v := hval0
  have hW' := hW
  obtain ⟨p, q, hA0, hV, rfl, hfz, hnd⟩ := hW
  have hA : DataW.TrodAll enc Try.prog W 0 (fun _ => true) true Try.f4.params.toList args.toList ds p := hA0
  rw [Try.params4] at hA hval
  obtain ⟨v0, vs0, d0, ds0, p0, q0, hargs, rfl, rfl, h0, r0⟩ := trodAll_cons hA
  obtain ⟨v1, vs1, d1, ds1, p1, q1, rfl, rfl, rfl, h1, r1⟩ := trodAll_cons r0
  obtain ⟨rfl, rfl, rfl⟩ := trodAll_nil r1
  obtain rfl : args = #[v0, v1] := by cases args; simp_all
  obtain ⟨rfl, rfl⟩ := trodVars_none hV
  have k0 := h0
  have lt0 : ∀ x ∈ p0, x.block < W.heap.size := by obtain ⟨m, hm⟩ := k0; exact DataW.trod_lt m _ _ _ hm
  obtain ⟨a0, rfl, rfl, rfl, w0⟩ := open_string Try.underlying9 (hval 0 9 v0 rfl rfl) h0
  have k1 := h1
  have lt1 : ∀ x ∈ p1, x.block < W.heap.size := by obtain ⟨m, hm⟩ := k1; exact DataW.trod_lt m _ _ _ hm
  have o1 := hval 1 23 v1 rfl rfl
  clear hA0 hval0
  refine (scanTells_walk a0 v1 w0 o1 h1 W rfl).mono fun e W' ⟨he, bel⟩ => ?_
  subst he
  exact ⟨_, rfl, _, _, _, [], _, [], hW', trodAll_mk1 (shut_bool Try.underlying4 _), (trodAll_cons_mk (Below.trod laidScanTells (by kernel_rfl) (of_decide_eq_true (by kernel_rfl)) k0 bel lt0) (trodAll_cons_mk (Below.trod laidScanTells (by kernel_rfl) (of_decide_eq_true (by kernel_rfl)) k1 bel lt1) trodAll_mk0)), rfl, bel.frame _, fun h => by cases h⟩

theorem scanTells_holds : Rows.ScanTellsSaid :=
  OpenClaim.holds_of_wide 4 Try.f4 rfl rfl rfl rfl rfl rfl rfl ⟨rfl, rfl, rfl, rfl, rfl⟩ rfl rfl rfl rfl rfl (by kernel_rfl) Try.func4 (by kernel_rfl)
    (of_decide_eq_true (by kernel_rfl)) (by unfold Func.isWrapper; first | (rw [if_pos (by decide +kernel)]; kernel_rfl) | (rw [if_neg (by decide +kernel)]; exact ⟨rfl, rfl⟩))
    (fun os started H enc _ => scanTells_lifted os started H enc)



end Go.Proofs.Ytgpbogagpmjilaa
