/- legal: what the laid memory tells. LegalNames: the walk. -/
import Derived.Test.YtlpgafgiljffhaaGreatDoorIj
import Derived.Test.YtlpgafgiljffhaaGreatDoorGk
import Derived.Test.YtlpgafgiljffhaaGreatDoorRows
import Derived.Test.YtlpgafgiljffhaaGreatDoorTie
import Derived.Test.YtlpgafgiljffhaaGreatDoorCards
import Derived.ProofKit
import Derived.LaidMore
import Derived.OpenShut
import Derived.ShutString
import Derived.Stop.Joined
import Derived.Deep.Slices
import Derived.WalkSmall
import Derived.MakeChecks
import Derived.ChangeOld
import Derived.Below
import Derived.OneCell
import Derived.SevenTiedAt
import Derived.SevenBuild
import Derived.BigQuiet
namespace Go.Proofs.YtlpgafgiljffhaaGreatDoor
open Go.ChangeShapes Go.WideShapes Go.ChangeAt Go.RowKit
open Go.ChangeMaps (open_string shut_string)
abbrev laid1 : List (String × DataW Unit) := [("spinnaker/stmt.fields", Rows.laid_spinnaker_stmt_fields)]
theorem gFields : Tryz.prog.globalNamed "spinnaker/stmt.fields" = some 0 := by kernel_rfl
theorem tFields : (Tryz.prog.globals[0]?).map (·.type) = some 143 := by kernel_rfl
theorem c82 : Tryz.prog.cellsOf 143 = 98 := by kernel_rfl
theorem c81 : Tryz.prog.cellsOf 142 = 7 := by kernel_rfl
theorem c4 : Tryz.prog.cellsOf 4 = 1 := by kernel_rfl

set_option maxRecDepth 100000 in
theorem cell_has {H : Type} {enc : TypeId × Value → H} {W : World} {n : Nat} {hd : Bool} {cs : List Value} {x : DataW H × List MemPlace} (h : DataW.trod enc Tryz.prog W 0 (fun _ => true) hd n 142 cs = some x) (hl : cs.length = 7) :
    ∃ bs : List Bool, bs.length = 7 ∧ cs = bs.map Value.bool ∧ x.1 = .agg (bs.map fun b => .lit (.bool b)) := by
  obtain ⟨xs, m, _, hx, _, hxl, hf⟩ := DataW.trod_struct Tryz.underlying142 h
  match cs, hl with
  | [c0, c1, c2, c3, c4v, c5, c6], _ =>
    match xs, hxl with
    | [x0, x1, x2, x3, x4, x5, x6], _ =>
      have f0 : DataW.trod enc Tryz.prog W 0 (fun _ => true) hd m 4 (([c0, c1, c2, c3, c4v, c5, c6].drop 0).take (Tryz.prog.cellsOf 4)) = some x0 := hf 0 _ rfl
      have f1 : DataW.trod enc Tryz.prog W 0 (fun _ => true) hd m 4 (([c0, c1, c2, c3, c4v, c5, c6].drop 1).take (Tryz.prog.cellsOf 4)) = some x1 := hf 1 _ rfl
      have f2 : DataW.trod enc Tryz.prog W 0 (fun _ => true) hd m 4 (([c0, c1, c2, c3, c4v, c5, c6].drop 2).take (Tryz.prog.cellsOf 4)) = some x2 := hf 2 _ rfl
      have f3 : DataW.trod enc Tryz.prog W 0 (fun _ => true) hd m 4 (([c0, c1, c2, c3, c4v, c5, c6].drop 3).take (Tryz.prog.cellsOf 4)) = some x3 := hf 3 _ rfl
      have f4 : DataW.trod enc Tryz.prog W 0 (fun _ => true) hd m 4 (([c0, c1, c2, c3, c4v, c5, c6].drop 4).take (Tryz.prog.cellsOf 4)) = some x4 := hf 4 _ rfl
      have f5 : DataW.trod enc Tryz.prog W 0 (fun _ => true) hd m 4 (([c0, c1, c2, c3, c4v, c5, c6].drop 5).take (Tryz.prog.cellsOf 4)) = some x5 := hf 5 _ rfl
      have f6 : DataW.trod enc Tryz.prog W 0 (fun _ => true) hd m 4 (([c0, c1, c2, c3, c4v, c5, c6].drop 6).take (Tryz.prog.cellsOf 4)) = some x6 := hf 6 _ rfl
      rw [c4] at f0 f1 f2 f3 f4 f5 f6
      obtain ⟨b0, e0, rfl⟩ := DataW.trod_bool Tryz.underlying4 f0
      obtain ⟨b1, e1, rfl⟩ := DataW.trod_bool Tryz.underlying4 f1
      obtain ⟨b2, e2, rfl⟩ := DataW.trod_bool Tryz.underlying4 f2
      obtain ⟨b3, e3, rfl⟩ := DataW.trod_bool Tryz.underlying4 f3
      obtain ⟨b4, e4, rfl⟩ := DataW.trod_bool Tryz.underlying4 f4
      obtain ⟨b5, e5, rfl⟩ := DataW.trod_bool Tryz.underlying4 f5
      obtain ⟨b6, e6, rfl⟩ := DataW.trod_bool Tryz.underlying4 f6
      have e0' : c0 = _ := (List.cons.inj e0).1
      have e1' : c1 = _ := (List.cons.inj e1).1
      have e2' : c2 = _ := (List.cons.inj e2).1
      have e3' : c3 = _ := (List.cons.inj e3).1
      have e4' : c4v = _ := (List.cons.inj e4).1
      have e5' : c5 = _ := (List.cons.inj e5).1
      have e6' : c6 = _ := (List.cons.inj e6).1
      subst e0' e1' e2' e3' e4' e5' e6'
      subst hx
      exact ⟨[b0, b1, b2, b3, b4, b5, b6], rfl, rfl, rfl⟩

theorem fields_is : (Rows.laid_spinnaker_stmt_fields : DataW Unit) = .agg ((List.range 14).map fun k => .agg (((List.range 7).map fun j => hasB k j).map fun b => .lit (.bool b))) := rfl

theorem bool_agg {H : Type} {a b : List Bool} (h : (DataW.agg (a.map fun b => .lit (.bool b)) : DataW H) = .agg (b.map fun b => .lit (.bool b))) : a = b := by
  rw [DataW.agg.injEq] at h
  induction a generalizing b with
  | nil => cases b with
    | nil => rfl
    | cons y b => cases h
  | cons x a ih => cases b with
    | nil => cases h
    | cons y b =>
      rw [List.map_cons, List.map_cons, List.cons.injEq] at h
      have h1 := h.1
      rw [DataW.lit.injEq, Lit.bool.injEq] at h1
      rw [h1, ih h.2]

theorem flds_of_laid {W : World} (h : laidMetH Tryz.prog laid1 W) : Flds W := by
  rw [MakeChecks.laidMetH_plain _ _ _ (by kernel_rfl)] at h
  obtain ⟨ps, ⟨g4, t4, cs4, f4, p4, q4, hg4, ht4, hv4, hd4, _, _⟩, _, _⟩ := h
  obtain rfl := Option.some.inj (gFields.symm.trans hg4)
  obtain rfl := Option.some.inj (tFields.symm.trans ht4)
  obtain ⟨xs, m, rfl, hx, hl, hxl, hel⟩ := DataW.trod_array Tryz.underlying143 hd4
  rw [c82] at hl
  simp only [Prod.mk.injEq] at hx
  have hxs := hx.1
  rw [fields_is, DataW.agg.injEq] at hxs
  have hall : ∀ k, k < 14 → ∀ j, j < 7 → W.cell? ⟨0, k * 7 + j, none⟩ = some (.bool (hasB k j)) := by
    intro k hk j hj
    have hi := hel k hk
    rw [c81] at hi
    have hkx : k < xs.length := by omega
    rw [List.getElem?_eq_getElem hkx] at hi
    obtain ⟨bs, hbl, hb, hxb⟩ := cell_has (cs := (cs4.toList.drop (k * 7)).take 7) hi (by rw [List.length_take, List.length_drop]; omega)
    have e5 := congrArg (·[k]?) hxs
    simp only [List.getElem?_map, List.getElem?_eq_getElem hkx, Option.map_some, List.getElem?_range hk] at e5
    rw [Option.some.injEq, hxb] at e5
    have e6 := bool_agg e5
    have hcs : cs4[k * 7 + j]? = some (.bool (hasB k j)) := by
      have e7 := congrArg (·[j]?) hb
      simp only [List.getElem?_take, List.getElem?_drop, List.getElem?_map, hj, if_true] at e7
      rw [← e6] at e7
      simp only [List.getElem?_map, List.getElem?_range hj, Option.map_some] at e7
      rw [← Array.getElem?_toList]
      exact e7
    rw [World.var?_cell hg4 hv4 (k * 7 + j)]
    exact hcs
  exact ⟨World.block_lt_of_cell? W ⟨0, 0, none⟩ (hall 0 (by decide) 0 (by decide)), hall⟩


theorem door_met (os : Os) (args : Array Value) : laidMetH Tryz.prog laid1 ((World.doorLaid Tryz.prog 400 os).forCall (fun _ _ => 0) ⟨#[], args, []⟩).memory :=
  laidMetH_of_parts3 (fuel := 8) (laidMet_of_run' 8 (by kernel_rfl) (by kernel_rfl)) (by kernel_rfl) (by kernel_rfl)
set_option maxRecDepth 100000 in
theorem open_strs {H : Type} {enc : TypeId × Value → H} {W : World} {base : Nat} {v : Value} {d : DataW H} {p : List MemPlace} (hv : Value.okWide Tryz.prog W .any base 34 v) (h : DataW.Trod enc Tryz.prog W 0 (fun _ => true) true 34 v d p) : ∃ l, StrsD W v l ∧ l.length ≤ maxLen := by
  obtain ⟨fuel, hf⟩ := h
  obtain ⟨a, len, cap, rfl⟩ := okWide_slice Tryz.underlying34 hv
  exact open_strsF hf
theorem pgl_below {w w' : World} {pv : Value} {m : Int} {vs : List Vr} {ts : List TI} {cs : List CI} (h : PgL w pv m vs ts cs) (hb : Below w.heap.size w w') : PgL w' pv m vs ts cs := by
  obtain ⟨⟨lv, tv, cv, e, h1, h2, h3⟩, n1, n2, n3, n4, n5⟩ := h
  exact ⟨⟨lv, tv, cv, e, VrsD.below h1 hb, ThsD.below h2 hb, ClsD.below h3 hb⟩, n1, n2, n3, n4, n5⟩

end Go.Proofs.YtlpgafgiljffhaaGreatDoor

namespace Go.Proofs.YtlpgafgiljffhaaGreatDoor
open Go.RowKit
set_option linter.unusedSimpArgs false
set_option linter.unusedVariables false
theorem strs_at {w : World} {l : List ByteArray} {ad : Option Addr} {n cap : Nat} (h : StrsD w (.slice ad n cap) l) (k : Nat) (hk : k < l.length) : ∃ b off, ad = some ⟨b, off, none⟩ ∧ b < w.heap.size ∧ w.cell? ⟨b, off + k, none⟩ = some (.string l[k]) := by
  obtain ⟨ad', cap', hve, _, _, hcc⟩ := h
  obtain ⟨bb, off, hba, hbl, x0⟩ := hcc k hk
  have he1 : ad = ad' := by injection hve
  refine ⟨bb, off, he1.trans hba, hbl, ?_⟩
  have x0 : w.cell? ⟨bb, off + k * 1, none⟩ = some (.string l[k]) := x0
  rw [Nat.mul_one] at x0
  exact x0
section
variable {w : World}
set_option maxRecDepth 100000 in
set_option maxHeartbeats 8000000 in
theorem legalNames_walk (pv : Value) (m : Int) (vs : List Vr) (ts : List TI) (cs : List CI) (l : List ByteArray) (lv : Value) (s : ByteArray) (w : World) (hp : PgL w pv m vs ts cs) (hl : StrsD w lv l) (hll : l.length ≤ maxLen) (hs : s.size ≤ maxLen) (hf : Flds w) :
    Calls Tryz.prog 5 #[pv, lv, .string s] w fun e w' => e = .returned (.bool true) ∧ Below w.heap.size w w' := by
  obtain ⟨R, hR⟩ : ∃ R, lightP vs ts cs = R := ⟨_, rfl⟩
  have HL := Lib.hid (fun (W : World) (hb : Below w.heap.size w W) => light4_any pv m vs ts cs W (pgl_below hp hb) R hR)
  have HK := Lib.hid (fun (W : World) (hb : Below w.heap.size w W) => known_any W (flds_below hf hb))
  have hv20 : R = true → vs.length ≤ 20 := fun h => by
    rw [h] at hR
    unfold lightP at hR
    rw [Bool.and_eq_true, decide_eq_true_eq] at hR
    exact hR.1.1
  obtain ⟨v1, v2, v3, rfl, h1, h2, h3⟩ := hp.v
  obtain ⟨a1, c1, rfl⟩ := SlD.shape h1
  obtain ⟨a2, c2, rfl⟩ := SlD.shape h2
  obtain ⟨a3, c3, rfl⟩ := SlD.shape h3
  obtain ⟨al, cl, rfl⟩ := SlD.shape hl
  obtain ⟨n1, hn1⟩ : ∃ n, n = vs.length := ⟨_, rfl⟩
  obtain ⟨n2, hn2⟩ : ∃ n, n = ts.length := ⟨_, rfl⟩
  obtain ⟨n3, hn3⟩ : ∃ n, n = cs.length := ⟨_, rfl⟩
  obtain ⟨nl, hnl⟩ : ∃ n, n = l.length := ⟨_, rfl⟩
  rw [← hn1, ← hn2, ← hn3] at HL
  rw [← hn1] at h1 hv20
  rw [← hnl] at hl hll
  rw [← hn1, ← hn2, ← hn3, ← hnl]
  have H1 := Lib.hid h1
  have HLS := Lib.hid hl
  have HNL := Lib.hid hnl
  have HN1 := Lib.hid hn1
  have HAL := Lib.hid (bel_al w (.cells #[.int .i64 m, .slice a1 n1 c1, .slice a2 n2 c2, .slice a3 n3 c3] 26))
  have HB := Lib.hid (Bk.new w 26 #[.int .i64 m, .slice a1 n1 c1, .slice a2 n2 c2, .slice a3 n3 c3])
  clear hp hf h1 h2 h3 hl hnl hn1 hn2 hn3 hR
  go_enter Tryz.func5, Tryz.ntmps5
  go_upto_region 1 with fail
  generalize World.alloc _ _ = w1 at HAL HB ⊢
  have b0 : w1.cell? ⟨w.heap.size, 0, none⟩ = some (.int .i64 m) := HB.out.cell 0
  have b1 : w1.cell? ⟨w.heap.size, 1, none⟩ = some (.slice a1 n1 c1) := HB.out.cell 1
  have b2 : w1.cell? ⟨w.heap.size, 2, none⟩ = some (.slice a2 n2 c2) := HB.out.cell 2
  have b3 : w1.cell? ⟨w.heap.size, 3, none⟩ = some (.slice a3 n3 c3) := HB.out.cell 3
  have bl := HB.out.lt
  go_wp2_with fail
  refine (HL.out _ HAL.out).mono ?_
  rintro e w2 ⟨rfl, l2⟩
  have HB2 := Lib.hid (HB.out.below l2)
  have HW2 := Lib.hid (HAL.out.trans (l2.mono HAL.out.size))
  clear l2 b0 b1 b2 b3 bl HB HAL HL
  cases R
  · go_wp2_with fail
    refine (HK.out _ HW2.out).mono ?_
    rintro e w3 ⟨rfl, l3⟩
    go_wp2_with fail
    go_ret
    exact ⟨rfl, HW2.out.trans (l3.mono HW2.out.size)⟩
  · by_cases h60 : 60 < nl
    · have e60 : (60 : Int) < (nl : Int) := by omega
      clear h60 hv20
      go_wp2_with fail
      refine (HK.out _ HW2.out).mono ?_
      rintro e w3 ⟨rfl, l3⟩
      go_wp2_with fail
      go_ret
      exact ⟨rfl, HW2.out.trans (l3.mono HW2.out.size)⟩
    · have e60 : ¬ (60 : Int) < (nl : Int) := by omega
      by_cases h300 : 300 < s.size
      · have e300 : (300 : Int) < (s.size : Int) := by omega
        clear h60 h300 hv20
        go_wp2_with fail
        refine (HK.out _ HW2.out).mono ?_
        rintro e w3 ⟨rfl, l3⟩
        go_wp2_with fail
        go_ret
        exact ⟨rfl, HW2.out.trans (l3.mono HW2.out.size)⟩
      · have e300 : ¬ (300 : Int) < (s.size : Int) := by omega
        have hv := hv20 rfl
        have b0 : w2.cell? ⟨w.heap.size, 0, none⟩ = some (.int .i64 m) := HB2.out.cell 0
        have b1 : w2.cell? ⟨w.heap.size, 1, none⟩ = some (.slice a1 n1 c1) := HB2.out.cell 1
        have b2 : w2.cell? ⟨w.heap.size, 2, none⟩ = some (.slice a2 n2 c2) := HB2.out.cell 2
        have b3 : w2.cell? ⟨w.heap.size, 3, none⟩ = some (.slice a3 n3 c3) := HB2.out.cell 3
        have bl := HB2.out.lt
        have HV := Lib.hid hv
        have HNS : Hid (nl ≤ 60) := Lib.hid (by omega)
        clear h60 h300 hv20 hv
        go_wp2_with fail
        refine (locs_any vs m _ _ _ w2 (VrsD.below H1.out HW2.out) (by have := HV.out; have := HN1.out; omega) ⟨_, _, _, rfl⟩ ⟨_, _, _, rfl⟩).mono ?_
        rintro e w3 ⟨u3, rfl, o3, l3⟩
        have HB3 := Lib.hid (HB2.out.below l3)
        have HW3 := Lib.hid (HW2.out.trans (l3.mono HW2.out.size))
        have HS3 := Lib.hid (strsD_of_own o3)
        obtain ⟨ad3, cap3, rfl, _⟩ := own_shape o3
        clear l3 o3 b0 b1 b2 b3 bl HB2 HW2
        have b0 : w3.cell? ⟨w.heap.size, 0, none⟩ = some (.int .i64 m) := HB3.out.cell 0
        have b1 : w3.cell? ⟨w.heap.size, 1, none⟩ = some (.slice a1 n1 c1) := HB3.out.cell 1
        have b2 : w3.cell? ⟨w.heap.size, 2, none⟩ = some (.slice a2 n2 c2) := HB3.out.cell 2
        have b3 : w3.cell? ⟨w.heap.size, 3, none⟩ = some (.slice a3 n3 c3) := HB3.out.cell 3
        have bl := HB3.out.lt
        go_wp2_with fail
        refine (rlocs_any vs m _ _ _ w3 (VrsD.below H1.out HW3.out) (by have := HV.out; have := HN1.out; omega) ⟨_, _, _, rfl⟩ ⟨_, _, _, rfl⟩).mono ?_
        rintro e w4 ⟨u4, rfl, o4, l4⟩
        have HW4 := Lib.hid (HW3.out.trans (l4.mono HW3.out.size))
        have HS4 := Lib.hid (strsD_of_own o4)
        have HS34 := Lib.hid (StrsD.below HS3.out l4)
        obtain ⟨ad4, cap4, rfl, _⟩ := own_shape o4
        clear l4 o4 b0 b1 b2 b3 bl HB3 HW3 HS3
        obtain ⟨L, hL⟩ : ∃ L, L = nms vs := ⟨_, rfl⟩
        rw [← hL] at HS4 HS34 ⊢
        obtain ⟨n, hn⟩ : ∃ n, n = L.length := ⟨_, rfl⟩
        have HNN : Hid (n ≤ 20) := Lib.hid (by have := HV.out; rw [hn, hL]; unfold nms; rw [List.length_map]; have := HN1.out; omega)
        rw [← hn] at HS4 HS34 ⊢
        have HNE := Lib.hid hn
        clear hL hn
        go_wp2_with fail
        go_loopg [9] n (fun fuel i' wr => ∃ k : Nat, i' = .int .i64 k ∧ k ≤ n ∧ n - k ≤ fuel ∧ Hid (Below w4.heap.size w4 wr))
        case atStart => exact ⟨0, rfl, Nat.zero_le _, Nat.le_refl _, Lib.hid (Below.refl _ _)⟩
        case round =>
          obtain ⟨k, rfl, hk, hf, hb⟩ := hrel
          by_cases hlt : k < n
          · have hky : k < L.length := by have := HNE.out; omega
            obtain ⟨b5, o5, hb5, hbl5, x5⟩ := strs_at (StrsD.below HS34.out hb.out) k hky
            obtain ⟨b6, o6, hb6, hbl6, x6⟩ := strs_at (StrsD.below HS4.out hb.out) k hky
            obtain ⟨x, hx⟩ : ∃ x, x = L[k] := ⟨_, rfl⟩
            rw [← hx] at x5 x6
            have hm1 : k + 1 ≤ n := hlt
            have hm2 : n - (k + 1) ≤ gk - 1 := by omega
            have hm3 : gk - 1 < gk := by omega
            have e20 : n ≤ 20 := HNN.out
            clear hx
            subst hb5
            subst hb6
            go_wp2_with fail
            go_quiet (fail)
            have HBB := Lib.hid (hb.out.trans ((below_drewN (Below.refl _ wr) nq).mono hb.out.size))
            generalize wr.drewN nq = w5 at HBB ⊢
            clear x5 x6 hb hbl5 hbl6
            go_wp2_with fail
            go_roundg (gk - 1)
            case measure => exact hm3
            case rel => exact ⟨k + 1, by go_num, hm1, hm2, HBB⟩
          · obtain rfl : k = n := by omega
            have HW5 := Lib.hid (HW4.out.trans (hb.out.mono HW4.out.size))
            have HI := Lib.hid (lidx_any l (.slice al nl cl) s wr (StrsD.below HLS.out HW5.out) (by have := HNL.out; have := HNS.out; omega))
            have HJ := Lib.hid (ridx_any l (.slice al nl cl) s wr (StrsD.below HLS.out HW5.out) (by have := HNL.out; have := HNS.out; omega))
            generalize idxF s l 0 = r at HI HJ
            clear hb
            go_wp2_with fail
            refine HI.out.mono ?_
            rintro e w6 ⟨rfl, rfl⟩
            go_wp2_with fail
            refine HJ.out.mono ?_
            rintro e w6 ⟨rfl, rfl⟩
            go_wp2_with fail
            refine (HK.out _ HW5.out).mono ?_
            rintro e w6 ⟨rfl, l6⟩
            go_wp2_with fail
            go_ret
            exact ⟨rfl, HW5.out.trans (l6.mono HW5.out.size)⟩
end

end Go.Proofs.YtlpgafgiljffhaaGreatDoor
