/- ScanScans holds: for every string the law returns true and the string reads as it did. -/
import Derived.Test.YtgpbogagpmjilaaQ
import Derived.OneCell
namespace Go.Proofs.Ytgpbogagpmjilaa
open Go.ChangeShapes Go.WideShapes Go.ChangeAt Go.RowKit
open Go.ChangeMaps (open_string shut_string)

/-- The reference's Scan, its result's shape told. -/
theorem rscan_shape (s : ByteArray) (w : World) (hs : s.size ≤ maxLen) (toks : List Tok) (er p : Nat) (hR : scanL s.data.toList = (toks, er, p)) :
    Calls Try.prog 10 #[.string s] w fun e w' => ∃ ad cap, e = .returned (.tuple #[.slice ad toks.length cap, .int .i64 er, .int .i64 p]) ∧ w'.ownsRow w.heap.size 29 4 (.slice ad toks.length cap) toks.length (rowOf toks) ∧ Below w.heap.size w w' := by
  refine (rscan_any s w hs).mono ?_
  rintro e w' ⟨v, he, ho, hb⟩
  rw [hR] at he ho
  rcases ho.2 with ⟨rfl, h0⟩ | ⟨g, cap, cur, rfl, _⟩
  · rw [show toks.length = 0 from h0] at ho ⊢
    exact ⟨none, 0, he, ho, hb⟩
  · exact ⟨_, cap, he, ho, hb⟩

/-- Two rows of the same tokens are the same, places too. -/
theorem same_own {w : World} {B B' n : Nat} {v v' : Value} {l : List Tok} (h : w.ownsRow B 29 4 v n (rowOf l)) (h' : w.ownsRow B' 29 4 v' n (rowOf l)) (e : n = l.length) (hn : n ≤ 140737488351232) :
    Calls Try.prog 11 #[v, v', .bool true] w fun e w' => e = .returned (.bool true) ∧ Below w.heap.size w w' := by
  subst e
  exact same_toks true v v' _ _ w (toks_own h) (toks_own h') (by rw [List.length_map]; exact hn) rfl (fun _ _ => rfl)

/-- A row of the call's own that may be written. -/
def RowAt (w : World) (g n : Nat) : Prop := ∃ cur, w.heap[g]? = some (.cells cur 29 (0, 0)) ∧ n * 4 ≤ cur.size

theorem RowAt.facts {w : World} {g n : Nat} (h : RowAt w g n) (k : Nat) (hk : k < n) : (∃ x, w.cell? ⟨g, k * 4, none⟩ = some x) ∧ w.frozen? ⟨g, k * 4, none⟩ = false := by
  obtain ⟨cur, hg, hc⟩ := h
  refine ⟨⟨cur[k * 4]'(by omega), ?_⟩, by simp [World.frozen?, hg]⟩
  simp [World.cell?, hg, show k * 4 < cur.size by omega]

theorem RowAt.setCell {w : World} {g n : Nat} (h : RowAt w g n) (i : Nat) (v : Value) : RowAt (w.setCell ⟨g, i, none⟩ v) g n := by
  obtain ⟨cur, hg, hc⟩ := h
  have hlt := (Array.getElem?_eq_some_iff.1 hg).1
  have h' : w.heap[g] = .cells cur 29 (0, 0) := by simpa [Array.getElem?_eq_getElem hlt] using hg
  refine ⟨cur.setIfInBounds i v, ?_, by simpa using hc⟩
  show (w.heap.modify g _)[g]? = _
  rw [Array.getElem?_eq_getElem (by simpa using hlt), Array.getElem_modify_self, h']
  rfl

theorem RowAt.own {w : World} {B n cap g : Nat} {xs : List Value} (h : w.ownsRow B 29 4 (.slice (some ⟨g, 0, none⟩) n cap) n xs) : RowAt w g n := by
  rcases h.2 with ⟨h0, _⟩ | ⟨g', cap', cur, hv, _, hg, hn, _, hs, _⟩
  · cases h0
  · simp only [Value.slice.injEq, Option.some.injEq, Addr.mk.injEq, and_true] at hv
    obtain ⟨rfl, _⟩ := hv
    exact ⟨cur, hg, by omega⟩

theorem RowAt.below {w w' : World} {g n : Nat} (h : RowAt w g n) (hb : Below w.heap.size w w') : RowAt w' g n := by
  obtain ⟨cur, hg, hc⟩ := h
  exact ⟨cur, by rw [hb.block g (Array.getElem?_eq_some_iff.1 hg).1]; exact hg, hc⟩

theorem own_shape {w : World} {B n cap : Nat} {ad : Option Addr} {xs : List Value} (h : w.ownsRow B 29 4 (.slice ad n cap) n xs) : (ad = none ∧ n = 0) ∨ ∃ g, ad = some ⟨g, 0, none⟩ ∧ B ≤ g ∧ g < w.heap.size := by
  have hl := h.lt
  rcases h.2 with ⟨h0, h1⟩ | ⟨g, cap', cur, hv, hb, hg, _⟩
  · simp only [Value.slice.injEq] at h0
    exact .inl ⟨h0.1, h1⟩
  · simp only [Value.slice.injEq] at hv
    obtain ⟨rfl, _⟩ := hv
    exact .inr ⟨g, rfl, hl g rfl⟩

set_option maxHeartbeats 2000000 in
theorem scans_small (s : ByteArray) (w : World) (h : s.size ≤ 3000) :
    Calls Try.prog 3 #[.string s] w fun e w' => e = .returned (.bool true) ∧ Below w.heap.size w w' := by
  have hm : s.size ≤ maxLen := by unfold maxLen; omega
  obtain ⟨⟨toks, er, p⟩, hR⟩ : ∃ R, scanL s.data.toList = R := ⟨_, rfl⟩
  have hlen : toks.length ≤ 6000 := by
    have h1 := scanL_lenS s.data.toList
    have h2 := length_le_lenS (scanL s.data.toList).1
    rw [hR, ← Lib.size_eq] at *
    simp only [] at h1 h2; omega
  have HS := fun w => scan_shape s w hm toks er p hR
  have HRS := fun w => rscan_shape s w hm toks er p hR
  clear hR hm
  go_enter Try.func3, Try.ntmps3
  go_wp2_with fail
  refine (HS _).mono ?_
  rintro e w1 ⟨ad, cap, rfl, ho1, hb1⟩
  go_wp2_with fail
  refine (HRS _).mono ?_
  rintro e w2 ⟨ad', cap', rfl, ho2, hb2⟩
  have ho12 := own_below ho1 hb2
  have hb02 := below_next hb1 hb2
  have hsz := hb1.size
  have hg1 := own_shape ho1
  clear ho1
  go_wp2_with fail
  refine (same_own ho12 ho2 rfl (by omega)).mono ?_
  rintro e w3 ⟨rfl, hb3⟩
  have ho13 := own_below ho12 hb3
  have ho23 := own_below ho2 hb3
  have hb03 := below_next hb02 hb3
  have hz3 : w1.heap.size ≤ w3.heap.size := Nat.le_trans hb2.size hb3.size
  clear ho12 ho2 hb02 hb2 hb3
  go_wp2_with fail
  have hra : ∀ g, ad = some ⟨g, 0, none⟩ → RowAt w3 g toks.length := fun g hg => by subst hg; exact RowAt.own ho13
  have hb1z := hb1.size
  clear ho13 hb1 HRS
  obtain ⟨n, hn⟩ : ∃ n, n = toks.length := ⟨_, rfl⟩
  rw [← hn] at hlen hra hg1
  have HN := Lib.hid hn
  rw [← hn]
  go_loopg [10] n (fun fuel i wr => ∃ k : Nat, k ≤ n ∧ i = .int .i64 k ∧ n - k ≤ fuel ∧ wr.ownsRow w1.heap.size 29 4 (.slice ad' toks.length cap') toks.length (rowOf toks) ∧ Below w.heap.size w wr ∧ ∀ g, ad = some ⟨g, 0, none⟩ → RowAt wr g n)
  case atStart => exact ⟨0, Nat.zero_le _, rfl, Nat.le_refl _, ho23, hb03, hra⟩
  case round =>
    clear hn hra hb03 ho23
    obtain ⟨k, hk, rfl, hf, hob, hbw, hra⟩ := hrel
    by_cases hlt : k < n
    · rcases hg1 with ⟨rfl, h0⟩ | ⟨g, rfl, hg2, hg3⟩
      · omega
      · have hr := hra g rfl
        obtain ⟨⟨x, hx⟩, hz⟩ := hr.facts k hlt
        by_cases hk0 : k = 0
        · subst hk0
          simp only [Nat.zero_mul] at hx hz
          go_wp2
          go_roundg (gk - 1)
          case measure => omega
          case rel =>
            refine ⟨1, by omega, by go_num, by omega, ?_, hbw.setCell (p := ⟨g, _, none⟩) hg2 _, fun g' hg' => ?_⟩
            · exact ownsRow_setCell_other hob (fun e => by have := (hob.lt g e).1; omega) _
            · simp only [Option.some.injEq, Addr.mk.injEq, and_true] at hg'
              subst hg'
              exact hr.setCell _ _
        · go_wp2
          go_roundg (gk - 1)
          case measure => omega
          case rel =>
            refine ⟨k + 1, by omega, by go_num, by omega, ?_, hbw.setCell (p := ⟨g, _, none⟩) hg2 _, fun g' hg' => ?_⟩
            · exact ownsRow_setCell_other hob (fun e => by have := (hob.lt g e).1; omega) _
            · simp only [Option.some.injEq, Addr.mk.injEq, and_true] at hg'
              subst hg'
              exact hr.setCell _ _
    · obtain rfl : k = n := by omega
      have HS2 := HS wr
      rw [← HN.out] at hob HS2
      clear HS hra
      go_wp2_with fail
      refine HS2.mono ?_
      rintro e w4 ⟨ad4, cap4, rfl, ho4, hb4⟩
      have hob4 := own_below hob hb4
      have hbw4 := below_next hbw hb4
      clear HS2 hob hbw hb4
      go_wp2_with fail
      refine (same_own ho4 hob4 HN.out (by omega)).mono ?_
      rintro e w5 ⟨rfl, hb5⟩
      have hbw5 := below_next hbw4 hb5
      clear hbw4 hb5 ho4 hob4
      go_wp2_with (go_at_call 8; refine (known_any _).mono ?_; rintro e w6 ⟨rfl, hb6⟩)
      go_ret
      exact ⟨rfl, below_next hbw5 hb6⟩

theorem scans_big (s : ByteArray) (w : World) (h : 3000 < s.size) (hs : s.size ≤ maxLen) :
    Calls Try.prog 3 #[.string s] w fun e w' => e = .returned (.bool true) ∧ Below w.heap.size w w' := by
  unfold maxLen at hs
  go_enter Try.func3, Try.ntmps3
  go_wp2_with (go_at_call 8; refine (known_any _).mono ?_; rintro e w1 ⟨rfl, hb⟩)
  go_ret
  exact ⟨rfl, hb⟩

theorem scanScans_walk (s : ByteArray) (hs : s.size ≤ maxLen) (w : World) :
    Calls Try.prog 3 #[.string s] w fun e w' => e = .returned (.bool true) ∧ Below w.heap.size w w' := by
  by_cases h : 3000 < s.size
  · exact scans_big s w h hs
  · exact scans_small s w (by omega)

theorem ownScanScans : ownKnob Try.prog.godebug = none := by kernel_rfl
theorem laidScanScans : laidOutB Try.prog = true := by kernel_rfl

set_option linter.unusedVariables false in
set_option maxRecDepth 100000 in
theorem scanScans_lifted (os : Os) (started : os.Started) (H : Type) (enc : TypeId × Value → H) :
    ReturnsInHanded {} Try.checked os 3 .any (Rows.scanScansSpec.pre6 enc Try.prog Try.f3 Rows.scanScansRow.domain false) (Rows.scanScansSpec.post enc Try.prog Try.f3 false true false false) := by
  refine returnsInHanded_of_change (C := Try.checked) ownScanScans started (by kernel_rfl) Try.func3
    (ChangeSpec.witness6 (enc := enc) (C := Try.checked) false ⟨#[], #[.string ByteArray.empty], []⟩ 8 (by kernel_rfl) (by kernel_rfl) (by kernel_rfl) (by kernel_rfl)) ?_
  intro W base args ds gs before hval0 hW hcnd _
  have hval : ∀ (j : Nat) t v, Try.f3.params[j]? = some t → args[j]? = some v → Value.okWide Try.prog W .any base t v := hval0
  have hW' := hW
  obtain ⟨p, q, hA0, hV, rfl, hfz, hnd⟩ := hW
  have hA : DataW.TrodAll enc Try.prog W 0 (fun _ => true) true Try.f3.params.toList args.toList ds p := hA0
  rw [Try.params3] at hA hval
  obtain ⟨v0, vs0, d0, ds0, p0, q0, hargs, rfl, rfl, h0, r0⟩ := trodAll_cons hA
  obtain ⟨rfl, rfl, rfl⟩ := trodAll_nil r0
  obtain rfl : args = #[v0] := by cases args; simp_all
  obtain ⟨rfl, rfl⟩ := trodVars_none hV
  have k0 := h0
  have lt0 : ∀ x ∈ p0, x.block < W.heap.size := by obtain ⟨m, hm⟩ := k0; exact DataW.trod_lt m _ _ _ hm
  obtain ⟨a0, rfl, rfl, rfl, w0⟩ := open_string Try.underlying9 (hval 0 9 v0 rfl rfl) h0
  clear hA0 hval0
  refine (scanScans_walk a0 w0 W).mono fun e W' ⟨he, bel⟩ => ?_
  subst he
  exact ⟨_, rfl, _, _, _, [], _, [], hW', trodAll_mk1 (shut_bool Try.underlying4 _), (trodAll_cons_mk (Below.trod laidScanScans (by kernel_rfl) (of_decide_eq_true (by kernel_rfl)) k0 bel lt0) trodAll_mk0), rfl, bel.frame _, fun h => by cases h⟩

theorem scanScans_holds : Rows.ScanScansSaid :=
  OpenClaim.holds_of_wide 3 Try.f3 rfl rfl rfl rfl rfl rfl rfl ⟨rfl, rfl, rfl, rfl, rfl⟩ rfl rfl rfl rfl rfl (by kernel_rfl) Try.func3 (by kernel_rfl)
    (of_decide_eq_true (by kernel_rfl)) (by unfold Func.isWrapper; first | (rw [if_pos (by decide +kernel)]; kernel_rfl) | (rw [if_neg (by decide +kernel)]; exact ⟨rfl, rfl⟩))
    (fun os started H enc _ => scanScans_lifted os started H enc)


end Go.Proofs.Ytgpbogagpmjilaa
