/- StmtParses: the law's own walk. StmtParses: for every text and every number: whatever lies in memory as the row asks, the call returns true. -/
import Derived.Test.YtmlcdnfejebhoaaGreatDoorWd
import Derived.Test.YtmlcdnfejebhoaaGreatDoorZt
import Derived.Test.YtmlcdnfejebhoaaGreatDoorCards
import Derived.SevenTiedAt
import Derived.ChangeOld
namespace Go.Proofs.YtmlcdnfejebhoaaGreatDoor
open Go.RowKit
set_option maxRecDepth 100000 in
set_option maxHeartbeats 4000000 in
theorem sparses_big (s : ByteArray) (i : Int) (w : World) (hf : Flds w) (ht : Tabs w) (hs : 2000 < s.size) :
    Calls Tryz.prog 3 #[.string s, .int .i64 i] w fun e w' => e = .returned (.bool true) ∧ Below w.heap.size w w' := by
  have HK := Lib.hid (known_any w hf ht)
  have q1 : decide ((2000 : Int) < (s.size : Int)) = true := decide_eq_true (by omega)
  have q2 : decide (2000 < s.size) = true := decide_eq_true hs
  clear hf ht
  go_enter Tryz.func3, Tryz.ntmps3
  go_wp2_with fail
  refine HK.out.mono ?_
  rintro e w1 ⟨rfl, c1⟩
  go_wp2
  go_ret
  exact ⟨rfl, c1⟩
set_option maxRecDepth 100000 in
set_option maxHeartbeats 4000000 in
theorem sparses_small (s : ByteArray) (i : Int) (w : World) (hf : Flds w) (ht : Tabs w) (hs : s.size ≤ 2000) :
    Calls Tryz.prog 3 #[.string s, .int .i64 i] w fun e w' => e = .returned (.bool true) ∧ Below w.heap.size w w' := by
  have HF := Lib.hid hf
  have HT := Lib.hid ht
  have hsl : s.data.toList.length ≤ 20000 := by rw [← Lib.size_eq]; omega
  have HSL := Lib.hid hsl
  have q1 : decide ((2000 : Int) < (s.size : Int)) = false := decide_eq_false (by omega)
  have q2 : decide (2000 < s.size) = false := decide_eq_false (by omega)
  have HTK := Lib.hid (tokens_any s w (by omega))
  clear hf ht hsl
  go_enter Tryz.func3, Tryz.ntmps3
  go_wp2_with fail
  refine HTK.out.mono ?_
  rintro e w1 ⟨v, rfl, o1, b1⟩
  have HO := Lib.hid o1
  have B1 := Lib.hid b1
  have HP := Lib.hid (spar_scanned s.data.toList _ v i w1 o1 HSL.out (HT.out.below b1).1)
  clear o1 b1 HTK
  obtain ⟨r, hr⟩ : ∃ r, stmtR (scanL s.data.toList).1 i = r := ⟨_, rfl⟩
  have HR := Lib.hid hr
  rw [hr] at HP
  clear hr
  cases r with
  | err k a =>
    go_wp2_with fail
    refine HP.out.mono ?_
    rintro e w2 ⟨rfl, c2⟩
    have B2 := Lib.hid (B1.out.trans (c2.mono B1.out.size))
    have HO2 := Lib.hid (own_below HO.out c2)
    clear c2 HP HO B1
    have HP2 := Lib.hid (rspar_scanned s.data.toList _ v i w2 HO2.out HSL.out)
    rw [HR.out] at HP2
    go_wp2_with fail
    refine HP2.out.mono ?_
    rintro e w3 ⟨rfl, c3⟩
    have B3 := Lib.hid (B2.out.trans (c3.mono B2.out.size))
    clear c3 HP2 HO2 B2
    have HS := Lib.hid (same_of_maps true [] [] (.slice none 0 0) (.slice none 0 0) w3 ⟨none, 0, rfl, Nat.zero_le _, by omega, fun i hi => absurd hi (Nat.not_lt_zero _)⟩ ⟨none, 0, rfl, Nat.zero_le _, by omega, fun i hi => absurd hi (Nat.not_lt_zero _)⟩ [] rfl rfl (Nat.zero_le _) (fun _ h => by cases h))
    go_wp2_with fail
    refine HS.out.mono ?_
    rintro e w4 ⟨rfl, c4⟩
    have B4 := Lib.hid (B3.out.trans (c4.mono B3.out.size))
    clear c4 HS B3
    have HK := Lib.hid (known_any w4 (HF.out.below B4.out) (HT.out.below B4.out))
    go_wp2_with fail
    refine HK.out.mono ?_
    rintro e w5 ⟨rfl, c5⟩
    go_wp2
    go_ret
    exact ⟨rfl, B4.out.trans (c5.mono B4.out.size)⟩
  | ok xs j =>
    have HL := Lib.hid (stmt_len _ _ _ _ HR.out)
    go_wp2_with fail
    refine HP.out.mono ?_
    rintro e w2 ⟨z1, rfl, n1, c2⟩
    obtain ⟨ts, hts, n1⟩ := stsD_of_own n1
    have HTS := Lib.hid hts
    have N1 := Lib.hid n1
    have B2 := Lib.hid (B1.out.trans (c2.mono B1.out.size))
    have HO2 := Lib.hid (own_below HO.out c2)
    clear c2 HP HO B1 n1 hts
    have HP2 := Lib.hid (rspar_scanned s.data.toList _ v i w2 HO2.out HSL.out)
    rw [HR.out] at HP2
    go_wp2_with fail
    refine HP2.out.mono ?_
    rintro e w3 ⟨z2, rfl, n2, c3⟩
    obtain ⟨us, hus, n2⟩ := stsD_of_own n2
    have B3 := Lib.hid (B2.out.trans (c3.mono B2.out.size))
    have HS := Lib.hid (same_of_maps true ts us z1 z2 w3 (N1.out.below c3) n2 xs HTS.out hus HL.out.1 HL.out.2)
    obtain ⟨a1, p1, rfl⟩ := N1.out.shape
    obtain ⟨a2, p2, rfl⟩ := n2.shape
    clear c3 HP2 HO2 B2 n2 hus
    go_wp2_with fail
    refine HS.out.mono ?_
    rintro e w4 ⟨rfl, c4⟩
    have B4 := Lib.hid (B3.out.trans (c4.mono B3.out.size))
    clear c4 HS B3
    have HK := Lib.hid (known_any w4 (HF.out.below B4.out) (HT.out.below B4.out))
    go_wp2_with fail
    refine HK.out.mono ?_
    rintro e w5 ⟨rfl, c5⟩
    go_wp2
    go_ret
    exact ⟨rfl, B4.out.trans (c5.mono B4.out.size)⟩
theorem stmtParses_walk (s : ByteArray) (i : Int) (w : World) (hf : Flds w) (ht : Tabs w) :
    Calls Tryz.prog 3 #[.string s, .int .i64 i] w fun e w' => e = .returned (.bool true) ∧ Below w.heap.size w w' := by
  by_cases hs : 2000 < s.size
  · exact sparses_big s i w hf ht hs
  · exact sparses_small s i w hf ht (by omega)
end Go.Proofs.YtmlcdnfejebhoaaGreatDoor

namespace Go.Proofs.YtmlcdnfejebhoaaGreatDoor
open Go.ChangeShapes Go.WideShapes Go.ChangeAt Go.RowKit
open Go.ChangeMaps (open_string shut_string)
theorem ownStmtParses : ownKnob Tryz.prog.godebug = none := by kernel_rfl
theorem laidStmtParses : laidOutB Tryz.prog = true := by kernel_rfl
set_option linter.unusedVariables false in
set_option maxRecDepth 100000 in
theorem stmtParses_lifted (os : Os) (started : os.Started) (H : Type) (enc : TypeId × Value → H) :
    ReturnsInHanded {} Tryz.checked os 3 .any (fun w args => (Rows.stmtParsesSpec.pre enc Tryz.prog Tryz.f3 [] false w args ∧ laidMetH Tryz.prog laid5 w) ∧ sizedMet enc Tryz.prog Tryz.f3 (OpenSpec.ofChange Rows.stmtParsesSpec) false w args) (Rows.stmtParsesSpec.post enc Tryz.prog Tryz.f3 false true false false) := by
  refine returnsInHanded_of_change_and (C := Tryz.checked) (X := fun w _ => laidMetH Tryz.prog laid5 w) (fun _ _ _ hh h => h.of_heap hh) ownStmtParses started (by kernel_rfl) Tryz.func3
    (ChangeSpec.witness_shaped (enc := enc) (C := Tryz.checked) (os := os) (X := fun w _ => laidMetH Tryz.prog laid5 w) false (World.doorLaid Tryz.prog 400 os) #[.string ByteArray.empty, .int .i64 0] 8 rfl (World.shaped_of_RefB (by kernel_rfl) (by kernel_rfl)) (by kernel_rfl) (by kernel_rfl) (by kernel_rfl) (door_met os _)) ?_
  intro W base args ds gs before hval0 hW _ _ hL _
  have HT := tabs_of_laid hL
  have hval : ∀ (j : Nat) t v, Tryz.f3.params[j]? = some t → args[j]? = some v → Value.okWide Tryz.prog W .any base t v := hval0
  have hW' := hW
  obtain ⟨p, q, hA0, hV, rfl, hfz, hnd⟩ := hW
  have hA : DataW.TrodAll enc Tryz.prog W 0 (fun _ => true) true Tryz.f3.params.toList args.toList ds p := hA0
  rw [Tryz.params3] at hA hval
  obtain ⟨v0, vs0, d0, ds0, p0, q0, hargs, rfl, rfl, h0, r0⟩ := trodAll_cons hA
  obtain ⟨v1, vs1, d1, ds1, p1, q1, rfl, rfl, rfl, h1, r1⟩ := trodAll_cons r0
  obtain ⟨rfl, rfl, rfl⟩ := trodAll_nil r1
  obtain rfl : args = #[v0, v1] := by cases args; simp_all
  obtain ⟨rfl, rfl⟩ := trodVars_none hV
  have k0 := h0
  have lt0 : ∀ x ∈ p0, x.block < W.heap.size := by obtain ⟨m, hm⟩ := k0; exact DataW.trod_lt m _ _ _ hm
  obtain ⟨a0, rfl, rfl, rfl, w0⟩ := open_string Tryz.underlying9 (hval 0 9 v0 rfl rfl) h0
  have k1 := h1
  have lt1 : ∀ x ∈ p1, x.block < W.heap.size := by obtain ⟨m, hm⟩ := k1; exact DataW.trod_lt m _ _ _ hm
  obtain ⟨a1, rfl, rfl, rfl, w1⟩ := open_int Tryz.underlying3 (hval 1 3 v1 rfl rfl) h1
  clear hA0 hval0
  refine (stmtParses_walk a0 a1 W (flds_of_laid hL) HT).mono fun e W' ⟨he, bel⟩ => ?_
  subst he
  exact ⟨_, rfl, _, _, _, [], _, [], hW', trodAll_mk1 (shut_bool Tryz.underlying4 _), (trodAll_cons_mk (Below.trod laidStmtParses (by kernel_rfl) (of_decide_eq_true (by kernel_rfl)) k0 bel lt0) (trodAll_cons_mk (Below.trod laidStmtParses (by kernel_rfl) (of_decide_eq_true (by kernel_rfl)) k1 bel lt1) trodAll_mk0)), rfl, bel.frame _, fun h => by cases h⟩
theorem stmtParses_holds : Rows.StmtParsesSaid :=
  OpenClaim.holds_of_wide 3 Tryz.f3 rfl rfl rfl rfl rfl rfl rfl ⟨rfl, rfl, rfl, rfl, rfl⟩ rfl rfl rfl rfl rfl (by kernel_rfl) Tryz.func3 (by kernel_rfl)
    (of_decide_eq_true (by kernel_rfl)) (by unfold Func.isWrapper; first | (rw [if_pos (by decide +kernel)]; kernel_rfl) | (rw [if_neg (by decide +kernel)]; exact ⟨rfl, rfl⟩))
    (fun os started H enc _ => stmtParses_lifted os started H enc)
theorem stmtParses_card : Rows.StmtParsesCardSaid :=
  Claim7.holds_tied_plain_at .later [] [.data, .data, .data, .data, .data] true (true, "69541e45f0ef97acb60d7a75fafbf738375d58152748f94143b7566e82dc3071") false
    stmtParses_holds (fun _ h => by cases h) (by kernel_rfl) (fun _ h => by cases h) stmtParses_row_tie rfl ⟨rfl, rfl⟩ (by kernel_rfl) rfl
    (fun f fn hf hfn => by
      obtain rfl : f = 3 := Option.some.inj ((show Tryz.prog.funcNamed "spinnaker/spinnakerlaw03.StmtParses" = some 3 by kernel_rfl).symm.trans hf) |>.symm
      obtain rfl : fn = Tryz.f3 := (Option.some.inj (Tryz.func3.symm.trans hfn)).symm
      exact ⟨by kernel_rfl, fun j t ht => by
        rw [Tryz.params3] at ht
        have hm : t ∈ [9, 3] := by simpa using Array.mem_of_getElem? ht
        have hall : ([9, 3].all fun u => !Tryz.prog.wantsStandIn u) = true := by kernel_rfl
        exact (show Tryz.prog.wantsStandIn t = false by simpa using List.all_eq_true.1 hall t hm)⟩)
    (by kernel_rfl)
end Go.Proofs.YtmlcdnfejebhoaaGreatDoor
