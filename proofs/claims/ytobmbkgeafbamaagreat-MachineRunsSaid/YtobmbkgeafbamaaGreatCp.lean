/- MachineRuns holds: whichever agents act, one behind the other, from the beginning on, what comes of it is right. -/
import Derived.Test.YtobmbkgeafbamaaGreatCo
import Derived.Test.YtobmbkgeafbamaaGreatCm
import Derived.Test.YtobmbkgeafbamaaGreatZd
namespace Go.Proofs.YtobmbkgeafbamaaGreat
open Go.ChangeShapes Go.WideShapes Go.ChangeAt Go.RowKit
set_option maxRecDepth 100000
set_option linter.unusedSimpArgs false
set_option linter.unusedVariables false
open Go.ChangeMaps (open_string shut_string)

theorem c_u8 : Tryz.prog.cellsOf 5 = 1 := by kernel_rfl
theorem u8_in {n : Int} (h : (Lit.int .u8 n).wf = true) : 0 ≤ n ∧ n < 256 := by
  simp [Lit.wf, IntKind.min, IntKind.max, IntKind.signed, IntKind.bits] at h
  omega
theorem okWide_arr2 {P : Program} {w : World} {r : Reach} {base : Nat} {t e : TypeId} {n : Nat} {v : Value} (ht : P.underlying t = some (.array n e)) (h : Value.okWide P w r base t v) : ∃ cs, v = .agg cs ∧ cs.size = P.cellsOf t := by
  simp only [Value.okWide, ht] at h
  obtain ⟨cs, h1, h2, _⟩ := h
  exact ⟨cs, h1, h2⟩
theorem open_two {H : Type} {enc : TypeId × Value → H} {W : World} {base : Nat} {v : Value} {d : DataW H} {p : List MemPlace} (hv : Value.okWide Tryz.prog W .any base 59 v) (h : DataW.Trod enc Tryz.prog W 0 (fun _ => true) true 59 v d p) :
    ∃ a b : Int, v = .agg #[.int .u8 a, .int .u8 b] ∧ (0 ≤ a ∧ a < 256) ∧ 0 ≤ b ∧ b < 256 := by
  obtain ⟨cs, rfl, hsz⟩ := okWide_arr2 Tryz.underlying59 hv
  obtain ⟨fuel, hf⟩ := h
  have hs : Tryz.prog.cellsOf 59 = 2 := by kernel_rfl
  rw [hs] at hsz
  obtain ⟨l⟩ := cs
  have hl : l.length = 2 := hsz
  have hf : DataW.trod enc Tryz.prog W 0 (fun _ => true) true fuel 59 l = some (d, p) := hf
  obtain ⟨xs, m, rfl, hx, hl2, hxl, hel⟩ := DataW.trod_array Tryz.underlying59 hf
  match l, hl with
  | [c0, c1], _ =>
    match xs, hxl with
    | [x0, x1], _ =>
      have f0 := hel 0 (by decide)
      have f1 := hel 1 (by decide)
      rw [c_u8] at f0 f1
      have f0 : DataW.trod enc Tryz.prog W 0 (fun _ => true) true m 5 [c0] = some x0 := f0
      have f1 : DataW.trod enc Tryz.prog W 0 (fun _ => true) true m 5 [c1] = some x1 := f1
      obtain ⟨n0, e0, _, b0⟩ := DataW.trod_int Tryz.underlying5 f0
      obtain ⟨n1, e1, _, b1⟩ := DataW.trod_int Tryz.underlying5 f1
      have e0' : c0 = _ := (List.cons.inj e0).1
      have e1' : c1 = _ := (List.cons.inj e1).1
      subst e0' e1'
      exact ⟨n0, n1, rfl, u8_in b0, u8_in b1⟩
theorem open_bytes {H : Type} {enc : TypeId × Value → H} {W : World} {base : Nat} {v : Value} {d : DataW H} {p : List MemPlace} (hv : Value.okWide Tryz.prog W .any base 60 v) (h : DataW.Trod enc Tryz.prog W 0 (fun _ => true) true 60 v d p) : ∃ l, BytesD W v l := by
  obtain ⟨fuel, hf⟩ := h
  obtain ⟨a0, n, cap, rfl⟩ := okWide_slice Tryz.underlying60 hv
  have hf : DataW.trod enc Tryz.prog W 0 (fun _ => true) true fuel 60 [.slice a0 n cap] = some (d, p) := hf
  exact open_sl (0 : Int) Tryz.underlying60 c_u8 (by decide) ByAt (fun n cs y b off hy hl hc _ => by
    match cs, hl with
    | [c0], _ =>
      obtain ⟨n0, e0, _, b0⟩ := DataW.trod_int Tryz.underlying5 hy
      have e0' : c0 = _ := (List.cons.inj e0).1
      subst e0'
      exact ⟨n0, hc 0 (by decide), u8_in b0⟩) hf

theorem machineRuns_walk (v0 v1 v2 : Value) {H : Type} {enc : TypeId × Value → H} {base : Nat} {d0 d1 d2 : DataW H} {p0 p1 p2 : List MemPlace} (w : World) (o0 : Value.okWide Tryz.prog w .any base 25 v0) (h0 : DataW.Trod enc Tryz.prog w 0 (fun _ => true) true 25 v0 d0 p0)
    (o1 : Value.okWide Tryz.prog w .any base 59 v1) (h1 : DataW.Trod enc Tryz.prog w 0 (fun _ => true) true 59 v1 d1 p1) (o2 : Value.okWide Tryz.prog w .any base 60 v2) (h2 : DataW.Trod enc Tryz.prog w 0 (fun _ => true) true 60 v2 d2 p2) :
    Calls Tryz.prog 8 #[v0, v1, v2] w fun e w' => e = .returned (.bool true) ∧ Below w.heap.size w w' := by
  obtain ⟨u, vi, vr, vc, rfl, hu⟩ := open_unit o0 h0
  obtain ⟨a, b, rfl, ha, hb⟩ := open_two o1 h1
  obtain ⟨l, hl⟩ := open_bytes o2 h2
  exact mruns_in known11_any u a b ha hb l vi vr vc v2 w hu hl

theorem ownMachineRuns : ownKnob Tryz.prog.godebug = none := by kernel_rfl
theorem laidMachineRuns : laidOutB Tryz.prog = true := by kernel_rfl

set_option linter.unusedVariables false in
set_option maxRecDepth 100000 in
theorem machineRuns_lifted (os : Os) (started : os.Started) (H : Type) (enc : TypeId × Value → H) :
    ReturnsInHanded {} Tryz.checked os 8 .any (Rows.machineRunsSpec.pre6 enc Tryz.prog Tryz.f8 Rows.machineRunsRow.domain false) (Rows.machineRunsSpec.post enc Tryz.prog Tryz.f8 false true false false) := by
  refine returnsInHanded_of_change (C := Tryz.checked) ownMachineRuns started (by kernel_rfl) Tryz.func8
    (ChangeSpec.witness6 (enc := enc) (C := Tryz.checked) false ⟨#[], #[.agg #[.int .i64 0, .slice none 0 0, .slice none 0 0, .slice none 0 0], .agg #[.int .u8 0, .int .u8 0], .slice none 0 0], []⟩ 8 (by kernel_rfl) (by kernel_rfl) (by kernel_rfl) (by kernel_rfl)) ?_
  intro W base args ds gs before hval0 hW hcnd _
  have hval : ∀ (j : Nat) t v, Tryz.f8.params[j]? = some t → args[j]? = some v → Value.okWide Tryz.prog W .any base t v := hval0
  have hW' := hW
  obtain ⟨p, q, hA0, hV, rfl, hfz, hnd⟩ := hW
  have hA : DataW.TrodAll enc Tryz.prog W 0 (fun _ => true) true Tryz.f8.params.toList args.toList ds p := hA0
  rw [Tryz.params8] at hA hval
  obtain ⟨v0, vs0, d0, ds0, p0, q0, hargs, rfl, rfl, h0, r0⟩ := trodAll_cons hA
  obtain ⟨v1, vs1, d1, ds1, p1, q1, rfl, rfl, rfl, h1, r1⟩ := trodAll_cons r0
  obtain ⟨v2, vs2, d2, ds2, p2, q2, rfl, rfl, rfl, h2, r2⟩ := trodAll_cons r1
  obtain ⟨rfl, rfl, rfl⟩ := trodAll_nil r2
  obtain rfl : args = #[v0, v1, v2] := by cases args; simp_all
  obtain ⟨rfl, rfl⟩ := trodVars_none hV
  have k0 := h0
  have lt0 : ∀ x ∈ p0, x.block < W.heap.size := by obtain ⟨m, hm⟩ := k0; exact DataW.trod_lt m _ _ _ hm
  have o0 := hval 0 25 v0 rfl rfl
  have k1 := h1
  have lt1 : ∀ x ∈ p1, x.block < W.heap.size := by obtain ⟨m, hm⟩ := k1; exact DataW.trod_lt m _ _ _ hm
  have o1 := hval 1 59 v1 rfl rfl
  have k2 := h2
  have lt2 : ∀ x ∈ p2, x.block < W.heap.size := by obtain ⟨m, hm⟩ := k2; exact DataW.trod_lt m _ _ _ hm
  have o2 := hval 2 60 v2 rfl rfl
  clear hA0 hval0
  refine (machineRuns_walk v0 v1 v2 W o0 h0 o1 h1 o2 h2).mono fun e W' ⟨he, bel⟩ => ?_
  subst he
  exact ⟨_, rfl, _, _, _, [], _, [], hW', trodAll_mk1 (shut_bool Tryz.underlying4 _), (trodAll_cons_mk (Below.trod laidMachineRuns (by kernel_rfl) (of_decide_eq_true (by kernel_rfl)) k0 bel lt0) (trodAll_cons_mk (Below.trod laidMachineRuns (by kernel_rfl) (of_decide_eq_true (by kernel_rfl)) k1 bel lt1) (trodAll_cons_mk (Below.trod laidMachineRuns (by kernel_rfl) (of_decide_eq_true (by kernel_rfl)) k2 bel lt2) trodAll_mk0))), rfl, bel.frame _, fun h => by cases h⟩

theorem machineRuns_holds : Rows.MachineRunsSaid :=
  OpenClaim.holds_of_wide 8 Tryz.f8 rfl rfl rfl rfl rfl rfl rfl ⟨rfl, rfl, rfl, rfl, rfl⟩ rfl rfl rfl rfl rfl (by kernel_rfl) Tryz.func8 (by kernel_rfl)
    (of_decide_eq_true (by kernel_rfl)) (by unfold Func.isWrapper; first | (rw [if_pos (by decide +kernel)]; kernel_rfl) | (rw [if_neg (by decide +kernel)]; exact ⟨rfl, rfl⟩))
    (fun os started H enc _ => machineRuns_lifted os started H enc)


end Go.Proofs.YtobmbkgeafbamaaGreat
