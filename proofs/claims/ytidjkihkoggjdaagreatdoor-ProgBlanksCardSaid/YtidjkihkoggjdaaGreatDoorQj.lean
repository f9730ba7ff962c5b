/- ProgBlanks holds: for every text the law returns true and the text reads as it did: blanks, lines and remarks around a text make no difference for what Parse gives, but for places. -/
import Derived.Test.YtidjkihkoggjdaaGreatDoorPz
import Derived.Test.YtidjkihkoggjdaaGreatDoorQa
import Derived.Test.YtidjkihkoggjdaaGreatDoorZt
import Derived.Test.YtidjkihkoggjdaaGreatDoorCards
import Derived.ChangeOld
import Derived.Below
import Derived.OneCell
import Derived.SevenTiedAt
import Derived.SevenBuild
namespace Go.Proofs.YtidjkihkoggjdaaGreatDoor
open Go.ChangeShapes Go.WideShapes Go.ChangeAt Go.RowKit
open Go.ChangeMaps (open_string shut_string)

set_option maxRecDepth 100000 in
set_option maxHeartbeats 2000000 in
theorem blanks_big (s : ByteArray) (w : World) (h : 3000 < s.size) (hl : s.size ≤ maxLen) (hf : Flds w) (ht : Tabs w) (hw : Wds w) :
    Calls Tryz.prog 7 #[.string s] w fun e w' => e = .returned (.bool true) ∧ Below w.heap.size w w' := by
  have HK := Lib.hid (pknown_any w hf ht hw)
  clear hf ht hw
  unfold maxLen at hl
  go_enter Tryz.func7, Tryz.ntmps7
  go_wp2_with fail
  refine HK.out.mono ?_
  rintro e w1 ⟨rfl, b1⟩
  go_wp2
  go_ret
  exact ⟨rfl, b1⟩

theorem pre_data (s : ByteArray) : ((⟨#[32, 35, 32, 114, 101, 109, 97, 114, 107, 59, 32, 36, 10, 9]⟩ : ByteArray) ++ s ++ (⟨#[10, 35, 32, 101, 110, 100]⟩ : ByteArray)).data.toList = preL ++ (s.data.toList ++ 10 :: postL) := by
  simp [preL, postL, ByteArray.data_append]

set_option maxRecDepth 100000 in
set_option maxHeartbeats 4000000 in
theorem blanks_small (s : ByteArray) (w : World) (h : s.size ≤ 3000) (hf : Flds w) (ht : Tabs w) (hw : Wds w) :
    Calls Tryz.prog 7 #[.string s] w fun e w' => e = .returned (.bool true) ∧ Below w.heap.size w w' := by
  have HF := Lib.hid hf
  have HT := Lib.hid ht
  have HW := Lib.hid hw
  have hsl : s.data.toList.length ≤ 3000 := by rw [← Lib.size_eq]; exact h
  obtain ⟨⟨g1, k1, a1⟩, hR1⟩ : ∃ R, R = parseG s.data.toList := ⟨_, rfl⟩
  obtain ⟨⟨g2, k2, a2⟩, hR2⟩ : ∃ R, R = parseG (preL ++ (s.data.toList ++ 10 :: postL)) := ⟨_, rfl⟩
  have hpb := parse_blanks s.data.toList hsl
  have hbd := parse_few s.data.toList (by omega)
  rw [← hR1] at hbd
  rw [← hR1, ← hR2] at hpb
  obtain ⟨hk, he⟩ := hpb
  simp only [] at hk he hbd
  subst hk
  have HAL := Lib.hid (alike_er hbd he)
  have HP1 := Lib.hid (gparse_any s w ht.1 hw (by unfold maxLen; omega))
  rw [← hR1] at HP1
  obtain ⟨S2, hS2⟩ : ∃ S2, S2 = (⟨#[32, 35, 32, 114, 101, 109, 97, 114, 107, 59, 32, 36, 10, 9]⟩ : ByteArray) ++ s ++ (⟨#[10, 35, 32, 101, 110, 100]⟩ : ByteArray) := ⟨_, rfl⟩
  have hS2d : S2.data.toList = preL ++ (s.data.toList ++ 10 :: postL) := by rw [hS2]; exact pre_data s
  have hS2s : S2.size ≤ 3020 := by
    rw [Lib.size_eq, hS2d]
    simp only [List.length_append, List.length_cons, preL, postL, List.length_nil]; omega
  have HP2 := Lib.hid (fun (W : World) (h : Below w.heap.size w W) => gparse_any S2 W (ht.below h).1 (hw.below h) (by unfold maxLen; omega))
  rw [hS2d, ← hR2] at HP2
  have HS2 := Lib.hid hS2
  have q1 : decide ((3000 : Int) < (s.size : Int)) = false := decide_eq_false (by omega)
  have q2 : decide (3000 < s.size) = false := decide_eq_false (by omega)
  clear hf ht hw hR1 hR2 he hbd hsl hS2 hS2d hS2s
  go_enter Tryz.func7, Tryz.ntmps7
  go_wp2_with fail
  refine HP1.out.mono ?_
  rintro e w1 ⟨a, b, c, rfl, p1, b1⟩
  have D1 := Lib.hid (pgD_of_own p1)
  obtain ⟨aa, na, ca, rfl⟩ : ∃ x n y, a = .slice x n y := by obtain ⟨x, y, h, _⟩ := own_shape p1.l; exact ⟨x, _, y, h⟩
  obtain ⟨ab, nb, cb, rfl⟩ : ∃ x n y, b = .slice x n y := by obtain ⟨x, y, h⟩ := p1.t.shape; exact ⟨x, _, y, h⟩
  obtain ⟨ac, nc, cc, rfl⟩ : ∃ x n y, c = .slice x n y := by obtain ⟨x, y, h⟩ := p1.c.shape; exact ⟨x, _, y, h⟩
  have B1 := Lib.hid b1
  obtain ⟨m1, hm1⟩ : ∃ m, m = g1.mod := ⟨_, rfl⟩
  simp only [] at p1 ⊢
  rw [← hm1]
  have HM1 := Lib.hid hm1
  have K1 := Lib.hid (Bk.new w1 27 #[.int .i64 m1, .slice aa na ca, .slice ab nb cb, .slice ac nc cc])
  have B1a : Hid (Below w.heap.size w (w1.alloc (.cells #[.int .i64 m1, .slice aa na ca, .slice ab nb cb, .slice ac nc cc] 27))) := B1.out.alloc B1.out.size _
  clear p1 b1 HP1 hm1
  go_wp2_with fail
  rw [← HS2.out]
  refine (HP2.out _ B1a.out).mono ?_
  rintro e w2 ⟨a', b', c', rfl, p2, b2⟩
  have D2 := Lib.hid (pgD_of_own p2)
  obtain ⟨da, ma, ea, rfl⟩ : ∃ x n y, a' = .slice x n y := by obtain ⟨x, y, h, _⟩ := own_shape p2.l; exact ⟨x, _, y, h⟩
  obtain ⟨db, mb, eb, rfl⟩ : ∃ x n y, b' = .slice x n y := by obtain ⟨x, y, h⟩ := p2.t.shape; exact ⟨x, _, y, h⟩
  obtain ⟨dc, mc, ec, rfl⟩ : ∃ x n y, c' = .slice x n y := by obtain ⟨x, y, h⟩ := p2.c.shape; exact ⟨x, _, y, h⟩
  obtain ⟨m2, hm2⟩ : ∃ m, m = g2.mod := ⟨_, rfl⟩
  simp only [] at p2 ⊢
  rw [← hm2]
  have B2 := Lib.hid (B1a.out.trans (b2.mono B1a.out.size))
  have K2 := K1.out.below b2
  have C2 := Lib.hid (below_a b2)
  have HM2 := Lib.hid hm2
  have d0 := K2.cell 0
  have d1 := K2.cell 1
  have d2 := K2.cell 2
  have d3 := K2.cell 3
  have dl := K2.lt
  have HSM := Lib.hid (fun (W : World) (h1 : Below w1.heap.size w1 W) (h2 : Below w2.heap.size w2 W) => rpsame_any false g1 g2 _ _ _ _ _ _ W (D1.out.below h1) (D2.out.below h2) HAL.out)
  rw [← HM1.out, ← hm2] at HSM
  clear p2 b2 K2 hm2 HP2 K1
  go_wp2_with fail
  have hal : Below w2.heap.size w2 (w2.alloc (.cells #[.int .i64 m2, .slice da ma ea, .slice db mb eb, .slice dc mc ec] 27)) := (Below.refl _ _).alloc (Nat.le_refl _) _
  have B3 := Lib.hid (B2.out.trans (hal.mono B2.out.size))
  have hcc := C2.out.trans (hal.mono C2.out.size)
  refine (HSM.out _ hcc hal).mono ?_
  rintro e w3 ⟨rfl, b3⟩
  have B4 := Lib.hid (B3.out.trans (b3.mono B3.out.size))
  clear b3 hal hcc
  go_wp2_with fail
  refine (pknown_any w3 (HF.out.below B4.out) (HT.out.below B4.out) (HW.out.below B4.out)).mono ?_
  rintro e w4 ⟨rfl, b4⟩
  go_wp2
  go_ret
  exact ⟨rfl, B4.out.trans (b4.mono B4.out.size)⟩

theorem gWords : Tryz.prog.globalNamed "spinnaker/prog.words" = some 0 := by kernel_rfl
theorem tWords : (Tryz.prog.globals[0]?).map (·.type) = some 94 := by kernel_rfl
theorem uWords : Tryz.prog.underlying 94 = some (.array 4 9) := by kernel_rfl
theorem cWords : Tryz.prog.cellsOf 94 = 4 := by kernel_rfl

theorem wds_of_laid {W : World} (h : laidMetH Tryz.prog laid6 W) : Wds W := by
  rw [MakeChecks.laidMetH_plain _ _ _ (by kernel_rfl)] at h
  obtain ⟨ps, ⟨g0, t0, cs0, f0, p0, q0, hg0, ht0, hv0, hd0, ⟨g1, t1, cs1, f1, p1, q1, hg1, ht1, hv1, hd1, ⟨g2, t2, cs2, f2, p2, q2, hg2, ht2, hv2, hd2, ⟨g3, t3, cs3, f3, p3, q3, hg3, ht3, hv3, hd3, ⟨g4, t4, cs4, f4, p4, q4, hg4, ht4, hv4, hd4, ⟨g5, t5, cs5, f5, p5, q5, hg5, ht5, hv5, hd5, _, _⟩, _⟩, _⟩, _⟩, _⟩, _⟩, _, _⟩ := h
  obtain rfl := Option.some.inj (gWords.symm.trans hg5)
  obtain rfl := Option.some.inj (tWords.symm.trans ht5)
  have hall : ∀ i, i < 4 → W.cell? ⟨0, i, none⟩ = some (.string ⟨(wdsL.getD i []).toArray⟩) := by
    intro i hi
    obtain ⟨xs, m, rfl, hx, hl, hxl, hel⟩ := DataW.trod_array uWords hd5
    have hi' := hel i hi
    rw [c9, Nat.mul_one] at hi'
    rw [cWords] at hl
    rw [World.var?_cell hg5 hv5 i]
    simp only [Prod.mk.injEq] at hx
    have hxi : i < xs.length := by omega
    rw [List.getElem?_eq_getElem hxi] at hi'
    obtain ⟨sb, e1, e2, _⟩ := DataW.trod_string Tryz.underlying9 hi'
    have hci : i < cs5.toList.length := by omega
    have e3 : cs5.toList[i] = .string sb := by
      have := congrArg (·[0]?) e1
      simpa [List.getElem?_take, List.getElem?_drop, List.getElem?_eq_getElem hci] using this
    have e4 : (Rows.laid_spinnaker_prog_words : DataW Unit) = .agg (wdsL.map fun l => .lit (.string l)) := rfl
    rw [e4, DataW.agg.injEq] at hx
    have e5 := congrArg (·[i]?) hx.1
    simp only [List.getElem?_map, List.getElem?_eq_getElem hxi, Option.map_some, e2] at e5
    have hti : i < wdsL.length := hi
    rw [List.getElem?_eq_getElem hti, Option.map_some, Option.some.injEq, DataW.lit.injEq, Lit.string.injEq] at e5
    have e6 : cs5[i]? = some (.string sb) := by
      rw [← e3, ← Array.getElem?_toList, List.getElem?_eq_getElem hci]
    rw [e6]
    refine congrArg some (congrArg Value.string ?_)
    refine ByteArray.ext ?_
    rw [List.getD_eq_getElem?_getD, List.getElem?_eq_getElem hti, Option.getD_some, e5]
  exact ⟨World.block_lt_of_cell? W ⟨0, 0, none⟩ (hall 0 (by decide)), hall⟩

theorem progBlanks_walk (s : ByteArray) (w : World) (hl : s.size ≤ maxLen) (hf : Flds w) (hw : Wds w) (ht : Tabs w) :
    Calls Tryz.prog 7 #[.string s] w fun e w' => e = .returned (.bool true) ∧ Below w.heap.size w w' := by
  by_cases h : 3000 < s.size
  · exact blanks_big s w h hl hf ht hw
  · exact blanks_small s w (by omega) hf ht hw

theorem door_met (os : Os) (args : Array Value) : laidMetH Tryz.prog laid6 ((World.doorLaid Tryz.prog 400 os).forCall (fun _ _ => 0) ⟨#[], args, []⟩).memory :=
  laidMetH_of_parts3 (fuel := 8) (laidMet_of_run' 8 (by kernel_rfl) (by kernel_rfl)) (by kernel_rfl) (by kernel_rfl)

theorem ownProgBlanks : ownKnob Tryz.prog.godebug = none := by kernel_rfl
theorem laidProgBlanks : laidOutB Tryz.prog = true := by kernel_rfl

set_option linter.unusedVariables false in
set_option maxRecDepth 100000 in
theorem progBlanks_lifted (os : Os) (started : os.Started) (H : Type) (enc : TypeId × Value → H) :
    ReturnsInHanded {} Tryz.checked os 7 .any (fun w args => (Rows.progBlanksSpec.pre enc Tryz.prog Tryz.f7 [] false w args ∧ laidMetH Tryz.prog laid6 w) ∧ sizedMet enc Tryz.prog Tryz.f7 (OpenSpec.ofChange Rows.progBlanksSpec) false w args) (Rows.progBlanksSpec.post enc Tryz.prog Tryz.f7 false true false false) := by
  refine returnsInHanded_of_change_and (C := Tryz.checked) (X := fun w _ => laidMetH Tryz.prog laid6 w) (fun _ _ _ hh h => h.of_heap hh) ownProgBlanks started (by kernel_rfl) Tryz.func7
    (ChangeSpec.witness_shaped (enc := enc) (C := Tryz.checked) (os := os) (X := fun w _ => laidMetH Tryz.prog laid6 w) false (World.doorLaid Tryz.prog 400 os) #[.string ByteArray.empty] 8 rfl (World.shaped_of_RefB (by kernel_rfl) (by kernel_rfl)) (by kernel_rfl) (by kernel_rfl) (by kernel_rfl) (door_met os _)) ?_
  intro W base args ds gs before hval0 hW _ _ hL _
  have HT := tabs_of_laid hL
  have hval : ∀ (j : Nat) t v, Tryz.f7.params[j]? = some t → args[j]? = some v → Value.okWide Tryz.prog W .any base t v := hval0
  have hW' := hW
  obtain ⟨p, q, hA0, hV, rfl, hfz, hnd⟩ := hW
  have hA : DataW.TrodAll enc Tryz.prog W 0 (fun _ => true) true Tryz.f7.params.toList args.toList ds p := hA0
  rw [Tryz.params7] at hA hval
  obtain ⟨v0, vs0, d0, ds0, p0, q0, hargs, rfl, rfl, h0, r0⟩ := trodAll_cons hA
  obtain ⟨rfl, rfl, rfl⟩ := trodAll_nil r0
  obtain rfl : args = #[v0] := by cases args; simp_all
  obtain ⟨rfl, rfl⟩ := trodVars_none hV
  have k0 := h0
  have lt0 : ∀ x ∈ p0, x.block < W.heap.size := by obtain ⟨m, hm⟩ := k0; exact DataW.trod_lt m _ _ _ hm
  obtain ⟨a0, rfl, rfl, rfl, w0⟩ := open_string Tryz.underlying9 (hval 0 9 v0 rfl rfl) h0
  clear hA0 hval0
  refine (progBlanks_walk a0 W w0 (flds_of_laid hL) (wds_of_laid hL) HT).mono fun e W' ⟨he, bel⟩ => ?_
  subst he
  exact ⟨_, rfl, _, _, _, [], _, [], hW', trodAll_mk1 (shut_bool Tryz.underlying4 _), (trodAll_cons_mk (Below.trod laidProgBlanks (by kernel_rfl) (of_decide_eq_true (by kernel_rfl)) k0 bel lt0) trodAll_mk0), rfl, bel.frame _, fun h => by cases h⟩

theorem progBlanks_holds : Rows.ProgBlanksSaid :=
  OpenClaim.holds_of_wide 7 Tryz.f7 rfl rfl rfl rfl rfl rfl rfl ⟨rfl, rfl, rfl, rfl, rfl⟩ rfl rfl rfl rfl rfl (by kernel_rfl) Tryz.func7 (by kernel_rfl)
    (of_decide_eq_true (by kernel_rfl)) (by unfold Func.isWrapper; first | (rw [if_pos (by decide +kernel)]; kernel_rfl) | (rw [if_neg (by decide +kernel)]; exact ⟨rfl, rfl⟩))
    (fun os started H enc _ => progBlanks_lifted os started H enc)

theorem progBlanks_card : Rows.ProgBlanksCardSaid :=
  Claim7.holds_tied_plain_at .later [] [.data, .data, .data, .data, .data, .data] true (true, "19bb8aa1d8061144c491f764c0f8ea02cd7951f68cd56ffc1c4bb9faba466245") false
    progBlanks_holds (fun _ h => by cases h) (by kernel_rfl) (fun _ h => by cases h) progBlanks_row_tie rfl ⟨rfl, rfl⟩ (by kernel_rfl) rfl
    (fun f fn hf hfn => by
      obtain rfl : f = 7 := Option.some.inj ((show Tryz.prog.funcNamed "spinnaker/spinnakerlaw04.ProgBlanks" = some 7 by kernel_rfl).symm.trans hf) |>.symm
      obtain rfl : fn = Tryz.f7 := (Option.some.inj (Tryz.func7.symm.trans hfn)).symm
      exact ⟨by kernel_rfl, fun j t ht => by
        rw [Tryz.params7] at ht
        have hm : t ∈ [9] := by simpa using Array.mem_of_getElem? ht
        have hall : ([9].all fun u => !Tryz.prog.wantsStandIn u) = true := by kernel_rfl
        exact (show Tryz.prog.wantsStandIn t = false by simpa using List.all_eq_true.1 hall t hm)⟩)
    (by kernel_rfl)


end Go.Proofs.YtidjkihkoggjdaaGreatDoor
