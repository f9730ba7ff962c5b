/- ScanNames holds: for every string the law returns true and the string reads as it did. -/
import Derived.Test.YtgpbogagpmjilaaO
import Derived.Test.YtgpbogagpmjilaaP
import Derived.ProofKit
import Derived.OpenShut
import Derived.ShutString
import Derived.ChangeOld
import Derived.Below
namespace Go.Proofs.Ytgpbogagpmjilaa
open Go.ChangeShapes Go.WideShapes Go.ChangeAt Go.RowKit
open Go.ChangeMaps (open_string shut_string)

/-- Scan, its result's shape told. -/
theorem scan_shape (s : ByteArray) (w : World) (hs : s.size ≤ maxLen) (toks : List Tok) (er p : Nat) (hR : scanL s.data.toList = (toks, er, p)) :
    Calls Try.prog 9 #[.string s] w fun e w' => ∃ ad cap, e = .returned (.tuple #[.slice ad toks.length cap, .int .i64 er, .int .i64 p]) ∧ w'.ownsRow w.heap.size 29 4 (.slice ad toks.length cap) toks.length (rowOf toks) ∧ Below w.heap.size w w' := by
  refine (scan_any s w hs).mono ?_
  rintro e w' ⟨v, he, ho, hb⟩
  rw [hR] at he ho
  rcases ho.2 with ⟨rfl, h0⟩ | ⟨g, cap, cur, rfl, _⟩
  · rw [show toks.length = 0 from h0] at ho ⊢
    exact ⟨none, 0, he, ho, hb⟩
  · exact ⟨_, cap, he, ho, hb⟩

/-- Scan where there is one token. -/
theorem scan_single (s : ByteArray) (w : World) (hs : s.size ≤ maxLen) (k n p q : Nat) (x : List UInt8) (hR : scanL s.data.toList = ([(k, x, n, p)], 0, q)) :
    Calls Try.prog 9 #[.string s] w fun e w' => ∃ g cap, e = .returned (.tuple #[.slice (some ⟨g, 0, none⟩) 1 cap, .int .i64 0, .int .i64 q]) ∧ w'.cell? ⟨g, 0, none⟩ = some (.int .i64 k) ∧ w'.cell? ⟨g, 1, none⟩ = some (.string ⟨x.toArray⟩) ∧ Below w.heap.size w w' := by
  refine (scan_any s w hs).mono ?_
  rintro e w' ⟨v, he, ho, hb⟩
  rw [hR] at he ho
  rcases ho.2 with ⟨_, h0⟩ | ⟨g, cap, cur, rfl, _⟩
  · cases h0
  · have hc := @World.ownsRow.cells _ _ _ _ _ _ _ ho g rfl
    exact ⟨g, cap, he, by rw [← addr_add]; exact hc 0 _ rfl, by rw [← addr_add]; exact hc 1 _ rfl, hb⟩

theorem name_is (s : ByteArray) (w : World) (hs : s.size ≤ maxLen) (b : Bool) (h : nameB s = b) :
    Calls Try.prog 14 #[.string s] w fun e w' => e = .returned (.bool b) ∧ Below w.heap.size w w' := by
  subst h; exact name_any s w hs

theorem below_next {w w1 w2 : World} (h : Below w.heap.size w w1) (k : Below w1.heap.size w1 w2) : Below w.heap.size w w2 := h.trans (k.mono h.size)

theorem names_big (s : ByteArray) (w : World) (h : 300 < s.size) (hs : s.size ≤ maxLen) :
    Calls Try.prog 6 #[.string s] w fun e w' => e = .returned (.bool true) ∧ Below w.heap.size w w' := by
  unfold maxLen at hs
  go_enter Try.func6, Try.ntmps6
  go_wp2_with (go_at_call 8; refine (known_any _).mono ?_; rintro e w1 ⟨rfl, hb⟩)
  go_ret
  exact ⟨rfl, hb⟩

set_option maxHeartbeats 1000000 in
theorem names_kw (s : ByteArray) (w : World) (h : s.size ≤ 300) (hk : kw s = true) :
    Calls Try.prog 6 #[.string s] w fun e w' => e = .returned (.bool true) ∧ Below w.heap.size w w' := by
  have hx : (⟨s.data.toList.toArray⟩ : ByteArray) = s := rfl
  have hm : s.size ≤ maxLen := by unfold maxLen; omega
  have HS := scan_single s w hm 1 0 0 0 s.data.toList (scanL_namy _ (kw_namy s hk))
  rw [hx] at HS
  clear hx
  have HN := fun w => name_is s w hm false (nameB_kw s hk)
  clear hm
  go_enter Try.func6, Try.ntmps6
  go_wp2_with fail
  refine HS.mono ?_
  rintro e w1 ⟨g, cap, rfl, c0, c1, hb1⟩
  clear HS
  go_wp2_with fail
  refine (HN _).mono ?_
  rintro e w2 ⟨rfl, hb2⟩
  have hb3 := below_next hb1 hb2
  clear hb1 hb2 c0 c1
  go_wp2_with (go_at_call 12; refine (keyword_yes _ _ hk).mono ?_; rintro e w3 ⟨rfl, rfl⟩)
  refine (HN _).mono ?_
  rintro e w4 ⟨rfl, hb4⟩
  have hb5 := below_next hb3 hb4
  clear hb3 hb4
  go_wp2_with (go_at_call 8; refine (known_any _).mono ?_; rintro e w5 ⟨rfl, hb6⟩)
  go_ret
  exact ⟨rfl, below_next hb5 hb6⟩

set_option maxHeartbeats 1000000 in
theorem names_nm (s : ByteArray) (w : World) (h : s.size ≤ 300) (hk : kw s = false) (hn : nameB s = true) :
    Calls Try.prog 6 #[.string s] w fun e w' => e = .returned (.bool true) ∧ Below w.heap.size w w' := by
  have hx : (⟨s.data.toList.toArray⟩ : ByteArray) = s := rfl
  have hm : s.size ≤ maxLen := by unfold maxLen; omega
  have HS := scan_single s w hm 1 0 0 0 s.data.toList (scanL_namy _ (by rw [← name_or, hn]; rfl))
  rw [hx] at HS
  clear hx
  have HN := fun w => name_is s w hm true hn
  clear hm hn
  go_enter Try.func6, Try.ntmps6
  go_wp2_with fail
  refine HS.mono ?_
  rintro e w1 ⟨g, cap, rfl, c0, c1, hb1⟩
  clear HS
  go_wp2_with fail
  refine (HN _).mono ?_
  rintro e w2 ⟨rfl, hb2⟩
  have hb3 := below_next hb1 hb2
  clear hb1 hb2 c0 c1
  go_wp2_with fail
  refine (HN _).mono ?_
  rintro e w4 ⟨rfl, hb4⟩
  have hb5 := below_next hb3 hb4
  clear hb3 hb4
  go_wp2_with (first
    | (go_at_call 12; refine (keyword_no _ _ hk).mono ?_; rintro e w3 ⟨rfl, rfl⟩)
    | (go_at_call 8; refine (known_any _).mono ?_; rintro e w5 ⟨rfl, hb6⟩))
  go_ret
  exact ⟨rfl, below_next hb5 hb6⟩

set_option maxHeartbeats 1000000 in
theorem names_err (s : ByteArray) (w : World) (h : s.size ≤ 300) (hk : kw s = false) (hn : nameB s = false) (toks : List Tok) (er p : Nat) (hR : scanL s.data.toList = (toks, er, p)) (her : er ≠ 0) :
    Calls Try.prog 6 #[.string s] w fun e w' => e = .returned (.bool true) ∧ Below w.heap.size w w' := by
  have hm : s.size ≤ maxLen := by unfold maxLen; omega
  have HS := scan_shape s w hm toks er p hR
  have HN := fun w => name_is s w hm false hn
  have q0 : ((er : Int) == 0) = false := by simp [her]
  clear her
  clear hm hn hR
  go_enter Try.func6, Try.ntmps6
  go_wp2_with fail
  refine HS.mono ?_
  rintro e w1 ⟨ad, cap, rfl, _, hb1⟩
  clear HS
  go_wp2_with fail
  refine (HN _).mono ?_
  rintro e w2 ⟨rfl, hb2⟩
  have hb3 := below_next hb1 hb2
  clear hb1 hb2
  go_wp2_with (go_at_call 12; refine (keyword_no _ _ hk).mono ?_; rintro e w3 ⟨rfl, rfl⟩)
  refine (HN _).mono ?_
  rintro e w4 ⟨rfl, hb4⟩
  have hb5 := below_next hb3 hb4
  clear hb3 hb4
  go_wp2_with (go_at_call 8; refine (known_any _).mono ?_; rintro e w5 ⟨rfl, hb6⟩)
  go_ret
  exact ⟨rfl, below_next hb5 hb6⟩

set_option maxHeartbeats 1000000 in
theorem names_len (s : ByteArray) (w : World) (h : s.size ≤ 300) (hk : kw s = false) (hn : nameB s = false) (toks : List Tok) (er p : Nat) (hR : scanL s.data.toList = (toks, er, p)) (her : er = 0) (hl : toks.length ≠ 1) :
    Calls Try.prog 6 #[.string s] w fun e w' => e = .returned (.bool true) ∧ Below w.heap.size w w' := by
  have hm : s.size ≤ maxLen := by unfold maxLen; omega
  have HS := scan_shape s w hm toks er p hR
  have HN := fun w => name_is s w hm false hn
  have q0 : ((er : Int) == 0) = true := by simp [her]
  have q1 : ((toks.length : Int) == 1) = false := by simp; omega
  clear her hl
  clear hm hn hR
  go_enter Try.func6, Try.ntmps6
  go_wp2_with fail
  refine HS.mono ?_
  rintro e w1 ⟨ad, cap, rfl, _, hb1⟩
  clear HS
  go_wp2_with fail
  refine (HN _).mono ?_
  rintro e w2 ⟨rfl, hb2⟩
  have hb3 := below_next hb1 hb2
  clear hb1 hb2
  go_wp2_with (go_at_call 12; refine (keyword_no _ _ hk).mono ?_; rintro e w3 ⟨rfl, rfl⟩)
  refine (HN _).mono ?_
  rintro e w4 ⟨rfl, hb4⟩
  have hb5 := below_next hb3 hb4
  clear hb3 hb4
  go_wp2_with (go_at_call 8; refine (known_any _).mono ?_; rintro e w5 ⟨rfl, hb6⟩)
  go_ret
  exact ⟨rfl, below_next hb5 hb6⟩

set_option maxHeartbeats 1000000 in
theorem names_kind (s : ByteArray) (w : World) (h : s.size ≤ 300) (hk : kw s = false) (hn : nameB s = false) (k n p q : Nat) (x : List UInt8) (hR : scanL s.data.toList = ([(k, x, n, p)], 0, q)) (hkd : k ≠ 1) :
    Calls Try.prog 6 #[.string s] w fun e w' => e = .returned (.bool true) ∧ Below w.heap.size w w' := by
  have hm : s.size ≤ maxLen := by unfold maxLen; omega
  have HS := scan_single s w hm k n p q x hR
  have HN := fun w => name_is s w hm false hn
  have q0 : ((k : Int) == 1) = false := by simp; omega
  clear hkd
  clear hm hn hR
  go_enter Try.func6, Try.ntmps6
  go_wp2_with fail
  refine HS.mono ?_
  rintro e w1 ⟨g, cap, rfl, c0, c1, hb1⟩
  clear HS
  go_wp2_with fail
  refine (HN _).mono ?_
  rintro e w2 ⟨rfl, hb2⟩
  have hb3 := below_next hb1 hb2
  clear hb1 hb2 c0 c1
  go_wp2_with (go_at_call 12; refine (keyword_no _ _ hk).mono ?_; rintro e w3 ⟨rfl, rfl⟩)
  refine (HN _).mono ?_
  rintro e w4 ⟨rfl, hb4⟩
  have hb5 := below_next hb3 hb4
  clear hb3 hb4
  go_wp2_with (go_at_call 8; refine (known_any _).mono ?_; rintro e w5 ⟨rfl, hb6⟩)
  go_ret
  exact ⟨rfl, below_next hb5 hb6⟩

set_option maxHeartbeats 1000000 in
theorem names_text (s : ByteArray) (w : World) (h : s.size ≤ 300) (hk : kw s = false) (hn : nameB s = false) (k n p q : Nat) (x : List UInt8) (hR : scanL s.data.toList = ([(k, x, n, p)], 0, q)) (hkd : k = 1) (hx : x ≠ s.data.toList) :
    Calls Try.prog 6 #[.string s] w fun e w' => e = .returned (.bool true) ∧ Below w.heap.size w w' := by
  have hm : s.size ≤ maxLen := by unfold maxLen; omega
  have HS := scan_single s w hm k n p q x hR
  have HN := fun w => name_is s w hm false hn
  have q0 : ((k : Int) == 1) = true := by simp [hkd]
  obtain ⟨y, hy⟩ : ∃ y : ByteArray, y = ⟨x.toArray⟩ := ⟨_, rfl⟩
  rw [← hy] at HS
  have q1 : (y.toList == s.toList) = false := by rw [Lib.toList_data, Lib.toList_data, hy]; simpa using hx
  clear hkd hx hy
  clear hm hn hR
  go_enter Try.func6, Try.ntmps6
  go_wp2_with fail
  refine HS.mono ?_
  rintro e w1 ⟨g, cap, rfl, c0, c1, hb1⟩
  clear HS
  go_wp2_with fail
  refine (HN _).mono ?_
  rintro e w2 ⟨rfl, hb2⟩
  have hb3 := below_next hb1 hb2
  clear hb1 hb2 c0 c1
  go_wp2_with (go_at_call 12; refine (keyword_no _ _ hk).mono ?_; rintro e w3 ⟨rfl, rfl⟩)
  refine (HN _).mono ?_
  rintro e w4 ⟨rfl, hb4⟩
  have hb5 := below_next hb3 hb4
  clear hb3 hb4
  go_wp2_with (go_at_call 8; refine (known_any _).mono ?_; rintro e w5 ⟨rfl, hb6⟩)
  go_ret
  exact ⟨rfl, below_next hb5 hb6⟩

theorem scanNames_walk (s : ByteArray) (hs : s.size ≤ maxLen) (w : World) :
    Calls Try.prog 6 #[.string s] w fun e w' => e = .returned (.bool true) ∧ Below w.heap.size w w' := by
  by_cases h : 300 < s.size
  · exact names_big s w h hs
  · have h' : s.size ≤ 300 := by omega
    rcases hk : kw s with _ | _
    · rcases hn : nameB s with _ | _
      · obtain ⟨⟨toks, er, q⟩, hR⟩ : ∃ R, scanL s.data.toList = R := ⟨_, rfl⟩
        by_cases her : er = 0
        · by_cases hl : toks.length = 1
          · obtain ⟨⟨k, x, n, p⟩, rfl⟩ : ∃ t, toks = [t] := by
              cases toks with
              | nil => cases hl
              | cons t r => cases r with
                | nil => exact ⟨t, rfl⟩
                | cons u r => simp at hl
            subst her
            by_cases hkd : k = 1
            · refine names_text s w h' hk hn k n p q x hR hkd ?_
              rintro rfl
              have hg : Good (k, s.data.toList, n, p) := by
                have := scanL_good s.data.toList (k, s.data.toList, n, p)
                rw [hR] at this
                exact this (by simp)
              subst hkd
              have := namy_of _ _ hg
              rw [← name_or, hn, hk] at this
              cases this
            · exact names_kind s w h' hk hn k n p q x hR hkd
          · exact names_len s w h' hk hn toks er q hR her hl
        · exact names_err s w h' hk hn toks er q hR her
      · exact names_nm s w h' hk hn
    · exact names_kw s w h' hk

theorem ownScanNames : ownKnob Try.prog.godebug = none := by kernel_rfl
theorem laidScanNames : laidOutB Try.prog = true := by kernel_rfl

set_option linter.unusedVariables false in
set_option maxRecDepth 100000 in
theorem scanNames_lifted (os : Os) (started : os.Started) (H : Type) (enc : TypeId × Value → H) :
    ReturnsInHanded {} Try.checked os 6 .any (Rows.scanNamesSpec.pre6 enc Try.prog Try.f6 Rows.scanNamesRow.domain false) (Rows.scanNamesSpec.post enc Try.prog Try.f6 false true false false) := by
  refine returnsInHanded_of_change (C := Try.checked) ownScanNames started (by kernel_rfl) Try.func6
    (ChangeSpec.witness6 (enc := enc) (C := Try.checked) false ⟨#[], #[.string ByteArray.empty], []⟩ 8 (by kernel_rfl) (by kernel_rfl) (by kernel_rfl) (by kernel_rfl)) ?_
  intro W base args ds gs before hval0 hW hcnd _
  have hval : ∀ (j : Nat) t v, Try.f6.params[j]? = some t → args[j]? = some v → Value.okWide Try.prog W .any base t v := hval0
  have hW' := hW
  obtain ⟨p, q, hA0, hV, rfl, hfz, hnd⟩ := hW
  have hA : DataW.TrodAll enc Try.prog W 0 (fun _ => true) true Try.f6.params.toList args.toList ds p := hA0
  rw [Try.params6] at hA hval
  obtain ⟨v0, vs0, d0, ds0, p0, q0, hargs, rfl, rfl, h0, r0⟩ := trodAll_cons hA
  obtain ⟨rfl, rfl, rfl⟩ := trodAll_nil r0
  obtain rfl : args = #[v0] := by cases args; simp_all
  obtain ⟨rfl, rfl⟩ := trodVars_none hV
  have k0 := h0
  have lt0 : ∀ x ∈ p0, x.block < W.heap.size := by obtain ⟨m, hm⟩ := k0; exact DataW.trod_lt m _ _ _ hm
  obtain ⟨a0, rfl, rfl, rfl, w0⟩ := open_string Try.underlying9 (hval 0 9 v0 rfl rfl) h0
  clear hA0 hval0
  refine (scanNames_walk a0 w0 W).mono fun e W' ⟨he, bel⟩ => ?_
  subst he
  exact ⟨_, rfl, _, _, _, [], _, [], hW', trodAll_mk1 (shut_bool Try.underlying4 _), (trodAll_cons_mk (Below.trod laidScanNames (by kernel_rfl) (of_decide_eq_true (by kernel_rfl)) k0 bel lt0) trodAll_mk0), rfl, bel.frame _, fun h => by cases h⟩

theorem scanNames_holds : Rows.ScanNamesSaid :=
  OpenClaim.holds_of_wide 6 Try.f6 rfl rfl rfl rfl rfl rfl rfl ⟨rfl, rfl, rfl, rfl, rfl⟩ rfl rfl rfl rfl rfl (by kernel_rfl) Try.func6 (by kernel_rfl)
    (of_decide_eq_true (by kernel_rfl)) (by unfold Func.isWrapper; first | (rw [if_pos (by decide +kernel)]; kernel_rfl) | (rw [if_neg (by decide +kernel)]; exact ⟨rfl, rfl⟩))
    (fun os started H enc _ => scanNames_lifted os started H enc)


end Go.Proofs.Ytgpbogagpmjilaa
