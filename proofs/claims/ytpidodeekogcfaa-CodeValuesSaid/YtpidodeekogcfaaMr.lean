/- CodeValues holds: whatever steps and numbers come in, the law returns true: what the code's Value, Right and Depth answer is what the plain reference answers, and what was handed in stays. -/
import Derived.Test.YtpidodeekogcfaaMp
import Derived.Test.YtpidodeekogcfaaMq
import Derived.Test.YtpidodeekogcfaaRows
import Derived.ProofKit
import Derived.OpenShut
import Derived.ShutString
import Derived.ChangeOld
import Derived.Below
namespace Go.Proofs.Ytpidodeekogcfaa
open Go.ChangeShapes Go.WideShapes Go.ChangeAt Go.RowKit
open Go.ChangeMaps (open_string shut_string)
set_option maxRecDepth 100000

theorem codeValues_walk (v0 v1 : Value) {W : World} {H : Type} {enc : TypeId × Value → H} {base : Nat} {d0 d1 : DataW H} {p0 p1 : List MemPlace} (o0 : Value.okWide Try.prog W .any base 32 v0) (h0 : DataW.Trod enc Try.prog W 0 (fun _ => true) true 32 v0 d0 p0) (o1 : Value.okWide Try.prog W .any base 41 v1) (h1 : DataW.Trod enc Try.prog W 0 (fun _ => true) true 41 v1 d1 p1) :
    Calls Try.prog 4 #[v0, v1] W fun e w' => e = .returned (.bool true) ∧ Below W.heap.size W w' := by
  obtain ⟨ts, hv, hl⟩ := open_ops o0 h0
  obtain ⟨m, own, mem, rs, ov, av, mv, rfl, ho, ha, hm, b1, b2, b3, b4⟩ := open_state o1 h1
  by_cases hn : 400 < ts.length
  · exact values_long ts v0 m ov av mv W hv hn hl
  · by_cases hb : light6B own rs mem = true
    · have hb2 := hb
      unfold light6B at hb2
      rw [Bool.and_eq_true, Bool.and_eq_true, Bool.and_eq_true] at hb2
      obtain ⟨l1, l2, l3, l4⟩ := hb2
      have l1 := of_decide_eq_true l1
      have l2 := of_decide_eq_true l2
      have l3 := of_decide_eq_true l3
      have l4 : ∀ x ∈ rs, x.1.length ≤ 20 := fun x hx => of_decide_eq_true (List.all_eq_true.1 l4 x hx)
      exact values_light ts v0 ⟨m, own, rs.map (·.1), mem⟩ rs ov av mv W hv (by omega) ⟨ho, ha, rfl, hm, (show own.length ≤ 100000 by omega), by omega, fun x hx => Nat.le_trans (l4 x hx) (by decide), (show mem.length ≤ 100000 by omega)⟩ hb
    · exact values_heavy ts v0 m own rs mem ov av mv W hv (by omega) ho ha hm b1 b2 b3 b4 (by simpa using hb)

theorem ownCodeValues : ownKnob Try.prog.godebug = none := by kernel_rfl
theorem laidCodeValues : laidOutB Try.prog = true := by kernel_rfl

set_option linter.unusedVariables false in
set_option maxRecDepth 100000 in
theorem codeValues_lifted (os : Os) (started : os.Started) (H : Type) (enc : TypeId × Value → H) :
    ReturnsInHanded {} Try.checked os 4 .any (Rows.codeValuesSpec.pre6 enc Try.prog Try.f4 Rows.codeValuesRow.domain false) (Rows.codeValuesSpec.post enc Try.prog Try.f4 false true false false) := by
  refine returnsInHanded_of_change (C := Try.checked) ownCodeValues started (by kernel_rfl) Try.func4
    (ChangeSpec.witness6 (enc := enc) (C := Try.checked) false ⟨#[], #[.slice none 0 0, .agg #[.int .i64 0, .slice none 0 0, .slice none 0 0, .slice none 0 0]], []⟩ 8 (by kernel_rfl) (by kernel_rfl) (by kernel_rfl) (by kernel_rfl)) ?_
  intro W base args ds gs before hval0 hW hcnd _
  have hval : ∀ (j : Nat) t v, Try.f4.params[j]? = some t → args[j]? = some v → Value.okWide Try.prog W .any base t v := hval0
  have hW' := hW
  obtain ⟨p, q, hA0, hV, rfl, hfz, hnd⟩ := hW
  have hA : DataW.TrodAll enc Try.prog W 0 (fun _ => true) true Try.f4.params.toList args.toList ds p := hA0
  rw [Try.params4] at hA hval
  obtain ⟨v0, vs0, d0, ds0, p0, q0, hargs, rfl, rfl, h0, r0⟩ := trodAll_cons hA
  obtain ⟨v1, vs1, d1, ds1, p1, q1, rfl, rfl, rfl, h1, r1⟩ := trodAll_cons r0
  obtain ⟨rfl, rfl, rfl⟩ := trodAll_nil r1
  obtain rfl : args = #[v0, v1] := by cases args; simp_all
  obtain ⟨rfl, rfl⟩ := trodVars_none hV
  have k0 := h0
  have lt0 : ∀ x ∈ p0, x.block < W.heap.size := by obtain ⟨m, hm⟩ := k0; exact DataW.trod_lt m _ _ _ hm
  have o0 := hval 0 32 v0 rfl rfl
  have k1 := h1
  have lt1 : ∀ x ∈ p1, x.block < W.heap.size := by obtain ⟨m, hm⟩ := k1; exact DataW.trod_lt m _ _ _ hm
  have o1 := hval 1 41 v1 rfl rfl
  clear hA0 hval0
  refine (codeValues_walk v0 v1 o0 h0 o1 h1).mono fun e W' ⟨he, bel⟩ => ?_
  subst he
  exact ⟨_, rfl, _, _, _, [], _, [], hW', trodAll_mk1 (shut_bool Try.underlying4 _), (trodAll_cons_mk (Below.trod laidCodeValues (by kernel_rfl) (of_decide_eq_true (by kernel_rfl)) k0 bel lt0) (trodAll_cons_mk (Below.trod laidCodeValues (by kernel_rfl) (of_decide_eq_true (by kernel_rfl)) k1 bel lt1) trodAll_mk0)), rfl, bel.frame _, fun h => by cases h⟩

theorem codeValues_holds : Rows.CodeValuesSaid :=
  OpenClaim.holds_of_wide 4 Try.f4 rfl rfl rfl rfl rfl rfl rfl ⟨rfl, rfl, rfl, rfl, rfl⟩ rfl rfl rfl rfl rfl (by kernel_rfl) Try.func4 (by kernel_rfl)
    (of_decide_eq_true (by kernel_rfl)) (by unfold Func.isWrapper; first | (rw [if_pos (by decide +kernel)]; kernel_rfl) | (rw [if_neg (by decide +kernel)]; exact ⟨rfl, rfl⟩))
    (fun os started H enc _ => codeValues_lifted os started H enc)


end Go.Proofs.Ytpidodeekogcfaa
