/- What the row's condition on the tables gives; a slice of nodes that came in. -/
import Derived.Test.YtifbhlgingaahaaDoorTj
import Derived.Test.YtifbhlgingaahaaDoorRows
import Derived.Test.YtifbhlgingaahaaDoorTie
import Derived.ProofKit
import Derived.LaidMore
import Derived.OpenShut
import Derived.ShutString
import Derived.Stop.Joined
import Derived.Deep.Slices
import Derived.WalkSmall
import Derived.MakeChecks
namespace Go.Proofs.YtifbhlgingaahaaDoor
open Go.ChangeShapes Go.WideShapes Go.ChangeAt Go.RowKit
open Go.ChangeMaps (open_string shut_string)

abbrev laid4 : List (String × DataW Unit) := [("math/bits.deBruijn32tab", Rows.laid_math_bits_deBruijn32tab), ("math/bits.deBruijn64tab", Rows.laid_math_bits_deBruijn64tab), ("internal/strconv.uint64pow10", Rows.laid_internal_strconv_uint64pow10), ("spinnaker/expr.signs", Rows.laid_spinnaker_expr_signs)]

theorem gSigns : Tryd.prog.globalNamed "spinnaker/expr.signs" = some 0 := by kernel_rfl
theorem gPow : Tryd.prog.globalNamed powName = some 1 := by kernel_rfl
theorem tPow : (Tryd.prog.globals[1]?).map (·.type) = some 82 := by kernel_rfl
theorem uPow : Tryd.prog.underlying 82 = some (.array 20 75) := by kernel_rfl
theorem u75 : Tryd.prog.underlying 75 = some (.int .u64) := by kernel_rfl
theorem c75 : Tryd.prog.cellsOf 75 = 1 := by kernel_rfl
theorem cPow : Tryd.prog.cellsOf 82 = 20 := by kernel_rfl
theorem tSigns : (Tryd.prog.globals[0]?).map (·.type) = some 56 := by kernel_rfl
theorem uSigns : Tryd.prog.underlying 56 = some (.array 15 9) := by kernel_rfl
theorem cSigns : Tryd.prog.cellsOf 56 = 15 := by kernel_rfl
theorem c9 : Tryd.prog.cellsOf 9 = 1 := by kernel_rfl

theorem tabs_of_laid {W : World} (h : laidMetH Tryd.prog laid4 W) : Tabs W := by
  rw [MakeChecks.laidMetH_plain _ _ _ (by kernel_rfl)] at h
  obtain ⟨ps, ⟨g0, t0, cs0, f0, p0, q0, hg0, ht0, hv0, hd0, ⟨g1, t1, cs1, f1, p1, q1, hg1, ht1, hv1, hd1, ⟨g2, t2, cs2, f2, p2, q2, hg2, ht2, hv2, hd2, ⟨g3, t3, cs3, f3, p3, q3, hg3, ht3, hv3, hd3, _, _⟩, _⟩, _⟩, _⟩, _, _⟩ := h
  obtain rfl := Option.some.inj (gSigns.symm.trans hg3)
  obtain rfl := Option.some.inj (tSigns.symm.trans ht3)
  obtain rfl := Option.some.inj (gPow.symm.trans hg2)
  obtain rfl := Option.some.inj (tPow.symm.trans ht2)
  have hp : Lib.TabIs Tryd.prog W powName .u64 Lib.pow10Tab := by
    unfold Lib.TabIs powName
    rw [hv2, ← Lib.cells_of_tab (zs := Lib.pow10Tab) uPow u75 c75 cPow hd2]
  have hsz : 1 < W.heap.size := by
    have := hp.cell gPow 0 (by decide)
    exact World.block_lt_of_cell? W ⟨1, 0, none⟩ this
  refine ⟨⟨by omega, fun i hi => ?_⟩, fun w' hb => ?_⟩
  · obtain ⟨xs, m, rfl, hx, hl, hxl, hel⟩ := DataW.trod_array uSigns hd3
    have hi' := hel i hi
    rw [c9, Nat.mul_one] at hi'
    rw [cSigns] at hl
    rw [World.var?_cell hg3 hv3 i]
    simp only [Prod.mk.injEq] at hx
    have hxi : i < xs.length := by omega
    rw [List.getElem?_eq_getElem hxi] at hi'
    obtain ⟨sb, e1, e2, _⟩ := DataW.trod_string Tryd.underlying9 hi'
    have hci : i < cs3.toList.length := by omega
    have e3 : cs3.toList[i] = .string sb := by
      have := congrArg (·[0]?) e1
      simpa [List.getElem?_take, List.getElem?_drop, List.getElem?_eq_getElem hci] using this
    have e4 : (Rows.laid_spinnaker_expr_signs : DataW Unit) = .agg (sgT.map fun l => .lit (.string l)) := rfl
    rw [e4, DataW.agg.injEq] at hx
    have e5 := congrArg (·[i]?) hx.1
    simp only [List.getElem?_map, List.getElem?_eq_getElem hxi, Option.map_some, e2] at e5
    have hti : i < sgT.length := hi
    rw [List.getElem?_eq_getElem hti, Option.map_some, Option.some.injEq, DataW.lit.injEq, Lit.string.injEq] at e5
    have e6 : cs3[i]? = some (.string sb) := by
      rw [← e3, ← Array.getElem?_toList, List.getElem?_eq_getElem hci]
    rw [e6]
    refine congrArg some (congrArg Value.string ?_)
    refine ByteArray.ext ?_
    unfold sgV sgO
    rw [List.getD_eq_getElem?_getD, List.getElem?_eq_getElem hti, Option.getD_some, e5]
  · exact var?_below hb gPow hsz hp

theorem cell_spot {w : World} {b off : Nat} {sp : Option Nat} {x : Value} (h : w.cell? ⟨b, off, sp⟩ = some x) : sp = none ∧ b < w.heap.size := by
  unfold World.cell? at h
  constructor
  · cases sp with
    | none => rfl
    | some k => split at h <;> simp at h
  · rcases Nat.lt_or_ge b w.heap.size with h' | h'
    · exact h'
    · simp [Array.getElem?_eq_none h'] at h

theorem cell_node {H : Type} {enc : TypeId × Value → H} {W : World} {n : Nat} {cs : List Value} {x : DataW H × List MemPlace} (h : DataW.trod enc Tryd.prog W 0 (fun _ => true) true n 32 cs = some x) (hl : cs.length = 5) :
    ∃ t : Nd, cs = t.cells := by
  obtain ⟨xs, m, _, _, _, hxl, hf⟩ := DataW.trod_struct Tryd.underlying32 h
  match cs, hl with
  | [c0, c1, c2, c3, c4], _ =>
    match xs, hxl with
    | [x0, x1, x2, x3, x4], _ =>
      have s3 : Tryd.prog.cellsOf 3 = 1 := by kernel_rfl
      have f0 : DataW.trod enc Tryd.prog W 0 (fun _ => true) true m 3 (([c0, c1, c2, c3, c4].drop 0).take (Tryd.prog.cellsOf 3)) = some x0 := hf 0 _ rfl
      have f1 : DataW.trod enc Tryd.prog W 0 (fun _ => true) true m 3 (([c0, c1, c2, c3, c4].drop 1).take (Tryd.prog.cellsOf 3)) = some x1 := hf 1 _ rfl
      have f2 : DataW.trod enc Tryd.prog W 0 (fun _ => true) true m 9 (([c0, c1, c2, c3, c4].drop 2).take (Tryd.prog.cellsOf 9)) = some x2 := hf 2 _ rfl
      have f3 : DataW.trod enc Tryd.prog W 0 (fun _ => true) true m 9 (([c0, c1, c2, c3, c4].drop 3).take (Tryd.prog.cellsOf 9)) = some x3 := hf 3 _ rfl
      have f4 : DataW.trod enc Tryd.prog W 0 (fun _ => true) true m 3 (([c0, c1, c2, c3, c4].drop 4).take (Tryd.prog.cellsOf 3)) = some x4 := hf 4 _ rfl
      rw [s3] at f0 f1 f4
      rw [c9] at f2 f3
      obtain ⟨n0, e0, _⟩ := DataW.trod_int Tryd.underlying3 f0
      obtain ⟨n1, e1, _⟩ := DataW.trod_int Tryd.underlying3 f1
      obtain ⟨n2, e2, _⟩ := DataW.trod_string Tryd.underlying9 f2
      obtain ⟨n3, e3, _⟩ := DataW.trod_string Tryd.underlying9 f3
      obtain ⟨n4, e4, _⟩ := DataW.trod_int Tryd.underlying3 f4
      have e0' : c0 = _ := (List.cons.inj e0).1
      have e1' : c1 = _ := (List.cons.inj e1).1
      have e2' : c2 = _ := (List.cons.inj e2).1
      have e3' : c3 = _ := (List.cons.inj e3).1
      have e4' : c4 = _ := (List.cons.inj e4).1
      subst e0' e1' e2' e3' e4'
      exact ⟨⟨n0, n1, n2, n3, n4⟩, rfl⟩

instance : Inhabited Nd := ⟨⟨0, 0, ⟨#[]⟩, ⟨#[]⟩, 0⟩⟩

/-- A slice of nodes that came in, as it lies in memory. -/
theorem open_nds {H : Type} {enc : TypeId × Value → H} {W : World} {base : Nat} {v : Value} {d : DataW H} {p : List MemPlace} (hv : Value.okWide Tryd.prog W .any base 22 v) (h : DataW.Trod enc Tryd.prog W 0 (fun _ => true) true 22 v d p) :
    ∃ ts : List Nd, NdsC W v ts ∧ ts.length ≤ maxLen := by
  obtain ⟨a0, len, cap, rfl⟩ := okWide_slice Tryd.underlying22 hv
  obtain ⟨fuel, hf⟩ := h
  rcases Deep.open_slice Tryd.underlying22 hf with ⟨hcs, _⟩ | ⟨a, len', cap', m, n, D, Pl, hcs, _, hl, hm, hmm, _, hx⟩
  · simp [Value.cells] at hcs
    obtain ⟨rfl, rfl, rfl⟩ := hcs
    exact ⟨[], ⟨none, 0, rfl, Nat.zero_le _, by omega, fun _ hi => absurd hi (Nat.not_lt_zero _)⟩, by unfold maxLen; simp⟩
  · simp [Value.cells] at hcs
    obtain ⟨rfl, rfl, rfl⟩ := hcs
    have h29 : Tryd.prog.cellsOf 32 = 5 := by kernel_rfl
    rw [h29] at hx
    simp only [if_true] at hmm
    have hc : ∀ i, i < len → ∃ t : Nd, ∀ j, (hj : j < 5) → W.cell? (a.add (i * 5 + j)) = t.cells[j]? := by
      intro i hi
      obtain ⟨cs', h1, h2⟩ := hx i (by omega)
      obtain ⟨_, hcl, hat⟩ := World.cells?_some h1
      obtain ⟨t, rfl⟩ := cell_node h2 hcl
      refine ⟨t, fun j hj => ?_⟩
      have k := hat j hj
      rw [Deep.add_add] at k
      exact k
    obtain ⟨V, hV⟩ := Deep.choose_lt (α := Nd) (p := fun i t => ∀ j, (hj : j < 5) → W.cell? (a.add (i * 5 + j)) = t.cells[j]?) hc
    refine ⟨(List.range len).map V, ?_, by simp; omega⟩
    refine ⟨some a, cap, by simp, by simp; omega, by unfold maxLen at hm; omega, fun i hi => ?_⟩
    have hi' : i < len := by simpa using hi
    obtain ⟨b, off, sp⟩ := a
    have e0 : (⟨b, off, sp⟩ : Addr).add (0 * 5 + 0) = ⟨b, off, sp⟩ := by simp [Addr.add]
    obtain ⟨rfl, hb⟩ := cell_spot ((e0 ▸ hV 0 (by omega) 0 (by omega)).trans rfl)
    have e : ∀ j, (⟨b, off, none⟩ : Addr).add j = ⟨b, off + j, none⟩ := by
      intro j; unfold Addr.add; split <;> simp_all
    have k := hV i hi'
    have k0 := k 0 (by omega)
    have k1 := k 1 (by omega)
    have k2 := k 2 (by omega)
    have k3 := k 3 (by omega)
    have k4 := k 4 (by omega)
    rw [e] at k0 k1 k2 k3 k4
    refine ⟨b, off, rfl, hb, ?_⟩
    simp only [List.getElem_map, List.getElem_range]
    exact ⟨k0, k1, k2, k3, k4⟩

end Go.Proofs.YtifbhlgingaahaaDoor
