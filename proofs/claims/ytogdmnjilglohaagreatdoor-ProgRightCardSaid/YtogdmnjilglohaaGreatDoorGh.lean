/- ProgRight holds: for every text the law returns true and the text reads as it did: what Parse gives of a text is right, or an error within the text; without places it is the same as what is read of what is shown of it. -/
import Derived.Test.YtogdmnjilglohaaGreatDoorGf
import Derived.Test.YtogdmnjilglohaaGreatDoorZt
import Derived.Test.YtogdmnjilglohaaGreatDoorCards
import Derived.ChangeOld
import Derived.Below
import Derived.OneCell
import Derived.SevenTiedAt
import Derived.SevenBuild
set_option maxRecDepth 100000
set_option maxHeartbeats 32000000
namespace Go.Proofs.YtogdmnjilglohaaGreatDoor
open Go.ChangeShapes Go.WideShapes Go.ChangeAt Go.RowKit
open Go.ChangeMaps (open_string shut_string)
theorem gWords : Tryz.prog.globalNamed "spinnaker/prog.words" = some 0 := by kernel_rfl
theorem tWords : (Tryz.prog.globals[0]?).map (·.type) = some 94 := by kernel_rfl
theorem uWords : Tryz.prog.underlying 94 = some (.array 4 9) := by kernel_rfl
theorem cWords : Tryz.prog.cellsOf 94 = 4 := by kernel_rfl
theorem wds_of_laid {W : World} (h : laidMetH Tryz.prog laid6 W) : Wds W := by
 rw [MakeChecks.laidMetH_plain _ _ _ (by kernel_rfl)] at h
 obtain ⟨ps, ⟨g0, t0, cs0, f0, p0, q0, hg0, ht0, hv0, hd0, ⟨g1, t1, cs1, f1, p1, q1, hg1, ht1, hv1, hd1, ⟨g2, t2, cs2, f2, p2, q2, hg2, ht2, hv2, hd2, ⟨g3, t3, cs3, f3, p3, q3, hg3, ht3, hv3, hd3, ⟨g4, t4, cs4, f4, p4, q4, hg4, ht4, hv4, hd4, ⟨g5, t5, cs5, f5, p5, q5, hg5, ht5, hv5, hd5, _, _⟩, _⟩, _⟩, _⟩, _⟩, _⟩, _, _⟩ := h
 obtain rfl := Option.some.inj (gWords.symm.trans hg5)
 obtain rfl := Option.some.inj (tWords.symm.trans ht5)
 have hall : ∀ i, i < 4 → W.cell? ⟨0, i, none⟩ = some (.string ⟨(wdsL.getD i []).toArray⟩) := by
  intro i hi
  obtain ⟨xs, m, rfl, hx, hl, hxl, hel⟩ := DataW.trod_array uWords hd5
  have hi' := hel i hi
  rw [c9, Nat.mul_one] at hi'
  rw [cWords] at hl
  rw [World.var?_cell hg5 hv5 i]
  simp only [Prod.mk.injEq] at hx
  have hxi : i < xs.length := by omega
  rw [List.getElem?_eq_getElem hxi] at hi'
  obtain ⟨sb, e1, e2, _⟩ := DataW.trod_string Tryz.underlying9 hi'
  have hci : i < cs5.toList.length := by omega
  have e3 : cs5.toList[i] = .string sb := by
   have := congrArg (·[0]?) e1
   simpa [List.getElem?_take, List.getElem?_drop, List.getElem?_eq_getElem hci] using this
  have e4 : (Rows.laid_spinnaker_prog_words : DataW Unit) = .agg (wdsL.map fun l => .lit (.string l)) := rfl
  rw [e4, DataW.agg.injEq] at hx
  have e5 := congrArg (·[i]?) hx.1
  simp only [List.getElem?_map, List.getElem?_eq_getElem hxi, Option.map_some, e2] at e5
  have hti : i < wdsL.length := hi
  rw [List.getElem?_eq_getElem hti, Option.map_some, Option.some.injEq, DataW.lit.injEq, Lit.string.injEq] at e5
  have e6 : cs5[i]? = some (.string sb) := by
   rw [← e3, ← Array.getElem?_toList, List.getElem?_eq_getElem hci]
  rw [e6]
  refine congrArg some (congrArg Value.string ?_)
  refine ByteArray.ext ?_
  rw [List.getD_eq_getElem?_getD, List.getElem?_eq_getElem hti, Option.getD_some, e5]
 exact ⟨World.block_lt_of_cell? W ⟨0, 0, none⟩ (hall 0 (by decide)), hall⟩
theorem progRight_walk (s : ByteArray) (w : World) (hl : s.size ≤ maxLen) (hf : Flds w) (hw : Wds w) (ht : Tabs w) :
  Calls Tryz.prog 6 #[.string s] w fun e w' => e = .returned (.bool true) ∧ Below w.heap.size w w' := by
 by_cases h : 3000 < s.size
 ·exact pright_big s w h hl hf ht hw
 ·have hsl : s.data.toList.length ≤ 3000 := by rw [← Lib.size_eq]; omega
  obtain ⟨p1, p2⟩ := parse_good s.data.toList
  obtain ⟨⟨g, k, a⟩, hR⟩ : ∃ R, R = parseG s.data.toList := ⟨_, rfl⟩
  by_cases hk : k = 0
  ·subst hk
   obtain ⟨h1, h2⟩ := p1 (by rw [← hR])
   rw [← hR] at h1 h2
   simp only [] at h1 h2
   subst h2
   have hb := parse_few s.data.toList (by omega)
   have hc := parse_cnt s.data.toList hsl
   rw [← hR] at hb hc
   exact pright_ok s w (by omega) hf ht hw g hR.symm h1 hb hc
  ·obtain ⟨h1, h2⟩ := p2 (by rw [← hR]; exact hk)
   rw [← hR] at h1 h2
   simp only [] at h1 h2
   subst h1
   exact pright_err s w (by omega) hf ht hw k a hR.symm hk (by have := h2 (by omega); rw [Lib.size_eq]; exact this)
theorem door_met (os : Os) (args : Array Value) : laidMetH Tryz.prog laid6 ((World.doorLaid Tryz.prog 400 os).forCall (fun _ _ => 0) ⟨#[], args, []⟩).memory :=
 laidMetH_of_parts3 (fuel := 8) (laidMet_of_run' 8 (by kernel_rfl) (by kernel_rfl)) (by kernel_rfl) (by kernel_rfl)
theorem ownProgRight : ownKnob Tryz.prog.godebug = none := by kernel_rfl
theorem laidProgRight : laidOutB Tryz.prog = true := by kernel_rfl
set_option linter.unusedVariables false in
theorem progRight_lifted (os : Os) (started : os.Started) (H : Type) (enc : TypeId × Value → H) :
  ReturnsInHanded {} Tryz.checked os 6 .any (fun w args => (Rows.progRightSpec.pre enc Tryz.prog Tryz.f6 [] false w args ∧ laidMetH Tryz.prog laid6 w) ∧ sizedMet enc Tryz.prog Tryz.f6 (OpenSpec.ofChange Rows.progRightSpec) false w args) (Rows.progRightSpec.post enc Tryz.prog Tryz.f6 false true false false) := by
 refine returnsInHanded_of_change_and (C := Tryz.checked) (X := fun w _ => laidMetH Tryz.prog laid6 w) (fun _ _ _ hh h => h.of_heap hh) ownProgRight started (by kernel_rfl) Tryz.func6
  (ChangeSpec.witness_shaped (enc := enc) (C := Tryz.checked) (os := os) (X := fun w _ => laidMetH Tryz.prog laid6 w) false (World.doorLaid Tryz.prog 400 os) #[.string ByteArray.empty] 8 rfl (World.shaped_of_RefB (by kernel_rfl) (by kernel_rfl)) (by kernel_rfl) (by kernel_rfl) (by kernel_rfl) (door_met os _)) ?_
 intro W base args ds gs before hval0 hW _ _ hL _
 have HT := tabs_of_laid hL
 have hval : ∀ (j : Nat) t v, Tryz.f6.params[j]? = some t → args[j]? = some v → Value.okWide Tryz.prog W .any base t v := hval0
 have hW' := hW
 obtain ⟨p, q, hA0, hV, rfl, hfz, hnd⟩ := hW
 have hA : DataW.TrodAll enc Tryz.prog W 0 (fun _ => true) true Tryz.f6.params.toList args.toList ds p := hA0
 rw [Tryz.params6] at hA hval
 obtain ⟨v0, vs0, d0, ds0, p0, q0, hargs, rfl, rfl, h0, r0⟩ := trodAll_cons hA
 obtain ⟨rfl, rfl, rfl⟩ := trodAll_nil r0
 obtain rfl : args = #[v0] := by cases args; simp_all
 obtain ⟨rfl, rfl⟩ := trodVars_none hV
 have k0 := h0
 have lt0 : ∀ x ∈ p0, x.block < W.heap.size := by obtain ⟨m, hm⟩ := k0; exact DataW.trod_lt m _ _ _ hm
 obtain ⟨a0, rfl, rfl, rfl, w0⟩ := open_string Tryz.underlying9 (hval 0 9 v0 rfl rfl) h0
 clear hA0 hval0
 refine (progRight_walk a0 W w0 (flds_of_laid hL) (wds_of_laid hL) HT).mono fun e W' ⟨he, bel⟩ => ?_
 subst he
 exact ⟨_, rfl, _, _, _, [], _, [], hW', trodAll_mk1 (shut_bool Tryz.underlying4 _), (trodAll_cons_mk (Below.trod laidProgRight (by kernel_rfl) (of_decide_eq_true (by kernel_rfl)) k0 bel lt0) trodAll_mk0), rfl, bel.frame _, fun h => by cases h⟩
theorem progRight_holds : Rows.ProgRightSaid :=
 OpenClaim.holds_of_wide 6 Tryz.f6 rfl rfl rfl rfl rfl rfl rfl ⟨rfl, rfl, rfl, rfl, rfl⟩ rfl rfl rfl rfl rfl (by kernel_rfl) Tryz.func6 (by kernel_rfl)
  (of_decide_eq_true (by kernel_rfl)) (by unfold Func.isWrapper; first | (rw [if_pos (by decide +kernel)]; kernel_rfl) | (rw [if_neg (by decide +kernel)]; exact ⟨rfl, rfl⟩))
  (fun os started H enc _ => progRight_lifted os started H enc)
theorem progRight_card : Rows.ProgRightCardSaid :=
 Claim7.holds_tied_plain_at .later [] [.data, .data, .data, .data, .data, .data] true (true, "19bb8aa1d8061144c491f764c0f8ea02cd7951f68cd56ffc1c4bb9faba466245") false
  progRight_holds (fun _ h => by cases h) (by kernel_rfl) (fun _ h => by cases h) progRight_row_tie rfl ⟨rfl, rfl⟩ (by kernel_rfl) rfl
  (fun f fn hf hfn => by
   obtain rfl : f = 6 := Option.some.inj ((show Tryz.prog.funcNamed "spinnaker/spinnakerlaw04.ProgRight" = some 6 by kernel_rfl).symm.trans hf) |>.symm
   obtain rfl : fn = Tryz.f6 := (Option.some.inj (Tryz.func6.symm.trans hfn)).symm
   exact ⟨by kernel_rfl, fun j t ht => by
    rw [Tryz.params6] at ht
    have hm : t ∈ [9] := by simpa using Array.mem_of_getElem? ht
    have hall : ([9].all fun u => !Tryz.prog.wantsStandIn u) = true := by kernel_rfl
    exact (show Tryz.prog.wantsStandIn t = false by simpa using List.all_eq_true.1 hall t hm)⟩)
  (by kernel_rfl)
end Go.Proofs.YtogdmnjilglohaaGreatDoor
