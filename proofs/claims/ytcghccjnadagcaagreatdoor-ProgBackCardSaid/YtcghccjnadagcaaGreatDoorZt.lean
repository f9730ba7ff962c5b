/- Facts. -/
import Derived.Test.YtcghccjnadagcaaGreatDoorZn
import Derived.Test.YtcghccjnadagcaaGreatDoorRows
import Derived.Test.YtcghccjnadagcaaGreatDoorTie
import Derived.ProofKit
import Derived.LaidMore
import Derived.OpenShut
import Derived.ShutString
import Derived.Stop.Joined
import Derived.Deep.Slices
import Derived.WalkSmall
import Derived.MakeChecks
set_option maxRecDepth 100000
set_option maxHeartbeats 32000000
namespace Go.Proofs.YtcghccjnadagcaaGreatDoor
open Go.ChangeShapes Go.WideShapes Go.ChangeAt Go.RowKit
open Go.ChangeMaps (open_string shut_string)
abbrev laid6 : List (String × DataW Unit) := [("math/bits.deBruijn32tab", Rows.laid_math_bits_deBruijn32tab), ("math/bits.deBruijn64tab", Rows.laid_math_bits_deBruijn64tab), ("internal/strconv.uint64pow10", Rows.laid_internal_strconv_uint64pow10), ("spinnaker/expr.signs", Rows.laid_spinnaker_expr_signs), ("spinnaker/stmt.fields", Rows.laid_spinnaker_stmt_fields), ("spinnaker/prog.words", Rows.laid_spinnaker_prog_words)]
theorem gSigns : Tryz.prog.globalNamed "spinnaker/expr.signs" = some 1 := by kernel_rfl
theorem gPow : Tryz.prog.globalNamed powName = some 3:=by kernel_rfl
theorem tPow : (Tryz.prog.globals[3]?).map (·.type) = some 205:=by kernel_rfl
theorem uPow : Tryz.prog.underlying 205 = some (.array 20 184):=by kernel_rfl
theorem u75 : Tryz.prog.underlying 184 = some (.int .u64):=by kernel_rfl
theorem c75 : Tryz.prog.cellsOf 184 = 1:=by kernel_rfl
theorem cPow : Tryz.prog.cellsOf 205 = 20:=by kernel_rfl
theorem tSigns : (Tryz.prog.globals[1]?).map (·.type) = some 167:=by kernel_rfl
theorem uSigns : Tryz.prog.underlying 167 = some (.array 15 9):=by kernel_rfl
theorem cSigns : Tryz.prog.cellsOf 167 = 15:=by kernel_rfl
theorem c9 : Tryz.prog.cellsOf 9 = 1:=by kernel_rfl
theorem tabs_of_laid {W : World} (h : laidMetH Tryz.prog laid6 W) : Tabs W:=by
 rw [MakeChecks.laidMetH_plain _ _ _ (by kernel_rfl)] at h
 obtain ⟨ps,⟨g0,t0,cs0,f0,p0,q0,hg0,ht0,hv0,hd0,⟨g1,t1,cs1,f1,p1,q1,hg1,ht1,hv1,hd1,⟨g2,t2,cs2,f2,p2,q2,hg2,ht2,hv2,hd2,⟨g3,t3,cs3,f3,p3,q3,hg3,ht3,hv3,hd3,⟨g4,t4,cs4,f4,p4,q4,hg4,ht4,hv4,hd4,_,_⟩,_⟩,_⟩,_⟩,_⟩,_,_⟩:=h
 obtain rfl:=Option.some.inj (gSigns.symm.trans hg3)
 obtain rfl:=Option.some.inj (tSigns.symm.trans ht3)
 obtain rfl:=Option.some.inj (gPow.symm.trans hg2)
 obtain rfl:=Option.some.inj (tPow.symm.trans ht2)
 have hp : Lib.TabIs Tryz.prog W powName .u64 Lib.pow10Tab:=by
  unfold Lib.TabIs powName
  rw [hv2,← Lib.cells_of_tab (zs:=Lib.pow10Tab) uPow u75 c75 cPow hd2]
 have hsz : 3 < W.heap.size:=by
  have:=hp.cell gPow 0 (by decide)
  exact World.block_lt_of_cell? W ⟨3,0,none⟩ this
 refine ⟨⟨by omega,fun i hi => ?_⟩,fun w' hb => ?_⟩
 ·obtain ⟨xs,m,rfl,hx,hl,hxl,hel⟩:=DataW.trod_array uSigns hd3
  have hi':=hel i hi
  rw [c9,Nat.mul_one] at hi'
  rw [cSigns] at hl
  rw [World.var?_cell hg3 hv3 i]
  simp only [Prod.mk.injEq] at hx
  have hxi : i < xs.length:=by omega
  rw [List.getElem?_eq_getElem hxi] at hi'
  obtain ⟨sb,e1,e2,_⟩:=DataW.trod_string Tryz.underlying9 hi'
  have hci : i < cs3.toList.length:=by omega
  have e3 : cs3.toList[i] = .string sb:=by
   have:=congrArg (·[0]?) e1
   simpa [List.getElem?_take,List.getElem?_drop,List.getElem?_eq_getElem hci] using this
  have e4 : (Rows.laid_spinnaker_expr_signs : DataW Unit) = .agg (sgT.map fun l => .lit (.string l)):=rfl
  rw [e4,DataW.agg.injEq] at hx
  have e5:=congrArg (·[i]?) hx.1
  simp only [List.getElem?_map,List.getElem?_eq_getElem hxi,Option.map_some,e2] at e5
  have hti : i < sgT.length:=hi
  rw [List.getElem?_eq_getElem hti,Option.map_some,Option.some.injEq,DataW.lit.injEq,Lit.string.injEq] at e5
  have e6 : cs3[i]? = some (.string sb):=by
   rw [← e3,← Array.getElem?_toList,List.getElem?_eq_getElem hci]
  rw [e6]
  refine congrArg some (congrArg Value.string ?_)
  refine ByteArray.ext ?_
  unfold sgV sgO
  rw [List.getD_eq_getElem?_getD,List.getElem?_eq_getElem hti,Option.getD_some,e5]
 ·exact var?_below hb gPow hsz hp
theorem gFields : Tryz.prog.globalNamed "spinnaker/stmt.fields" = some 2 := by kernel_rfl
theorem tFields : (Tryz.prog.globals[2]?).map (·.type) = some 180:=by kernel_rfl
theorem c82 : Tryz.prog.cellsOf 180 = 98:=by kernel_rfl
theorem c81 : Tryz.prog.cellsOf 179 = 7:=by kernel_rfl
theorem c4 : Tryz.prog.cellsOf 4 = 1:=by kernel_rfl
theorem cell_has {H : Type} {enc : TypeId × Value → H} {W : World} {n : Nat} {hd : Bool} {cs : List Value} {x : DataW H × List MemPlace} (h : DataW.trod enc Tryz.prog W 0 (fun _ => true) hd n 179 cs = some x) (hl : cs.length = 7) :
  ∃ bs : List Bool,bs.length = 7 ∧ cs = bs.map Value.bool ∧ x.1 = .agg (bs.map fun b => .lit (.bool b)):=by
 obtain ⟨xs,m,_,hx,_,hxl,hf⟩:=DataW.trod_struct Tryz.underlying179 h
 match cs,hl with
 | [c0,c1,c2,c3,c4v,c5,c6],_ =>
  match xs,hxl with
  | [x0,x1,x2,x3,x4,x5,x6],_ =>
   have f0 : DataW.trod enc Tryz.prog W 0 (fun _ => true) hd m 4 (([c0,c1,c2,c3,c4v,c5,c6].drop 0).take (Tryz.prog.cellsOf 4)) = some x0:=hf 0 _ rfl
   have f1 : DataW.trod enc Tryz.prog W 0 (fun _ => true) hd m 4 (([c0,c1,c2,c3,c4v,c5,c6].drop 1).take (Tryz.prog.cellsOf 4)) = some x1:=hf 1 _ rfl
   have f2 : DataW.trod enc Tryz.prog W 0 (fun _ => true) hd m 4 (([c0,c1,c2,c3,c4v,c5,c6].drop 2).take (Tryz.prog.cellsOf 4)) = some x2:=hf 2 _ rfl
   have f3 : DataW.trod enc Tryz.prog W 0 (fun _ => true) hd m 4 (([c0,c1,c2,c3,c4v,c5,c6].drop 3).take (Tryz.prog.cellsOf 4)) = some x3:=hf 3 _ rfl
   have f4 : DataW.trod enc Tryz.prog W 0 (fun _ => true) hd m 4 (([c0,c1,c2,c3,c4v,c5,c6].drop 4).take (Tryz.prog.cellsOf 4)) = some x4:=hf 4 _ rfl
   have f5 : DataW.trod enc Tryz.prog W 0 (fun _ => true) hd m 4 (([c0,c1,c2,c3,c4v,c5,c6].drop 5).take (Tryz.prog.cellsOf 4)) = some x5:=hf 5 _ rfl
   have f6 : DataW.trod enc Tryz.prog W 0 (fun _ => true) hd m 4 (([c0,c1,c2,c3,c4v,c5,c6].drop 6).take (Tryz.prog.cellsOf 4)) = some x6:=hf 6 _ rfl
   rw [c4] at f0 f1 f2 f3 f4 f5 f6
   obtain ⟨b0,e0,rfl⟩:=DataW.trod_bool Tryz.underlying4 f0
   obtain ⟨b1,e1,rfl⟩:=DataW.trod_bool Tryz.underlying4 f1
   obtain ⟨b2,e2,rfl⟩:=DataW.trod_bool Tryz.underlying4 f2
   obtain ⟨b3,e3,rfl⟩:=DataW.trod_bool Tryz.underlying4 f3
   obtain ⟨b4,e4,rfl⟩:=DataW.trod_bool Tryz.underlying4 f4
   obtain ⟨b5,e5,rfl⟩:=DataW.trod_bool Tryz.underlying4 f5
   obtain ⟨b6,e6,rfl⟩:=DataW.trod_bool Tryz.underlying4 f6
   have e0' : c0 = _:=(List.cons.inj e0).1
   have e1' : c1 = _:=(List.cons.inj e1).1
   have e2' : c2 = _:=(List.cons.inj e2).1
   have e3' : c3 = _:=(List.cons.inj e3).1
   have e4' : c4v = _:=(List.cons.inj e4).1
   have e5' : c5 = _:=(List.cons.inj e5).1
   have e6' : c6 = _:=(List.cons.inj e6).1
   subst e0' e1' e2' e3' e4' e5' e6'
   subst hx
   exact ⟨[b0,b1,b2,b3,b4,b5,b6],rfl,rfl,rfl⟩
theorem fields_is : (Rows.laid_spinnaker_stmt_fields : DataW Unit) = .agg ((List.range 14).map fun k => .agg (((List.range 7).map fun j => hasB k j).map fun b => .lit (.bool b))):=rfl
theorem bool_agg {H : Type} {a b : List Bool} (h : (DataW.agg (a.map fun b => .lit (.bool b)) : DataW H) = .agg (b.map fun b => .lit (.bool b))) : a = b:=by
 rw [DataW.agg.injEq] at h
 induction a generalizing b with
 | nil => cases b with
  | nil => rfl
  | cons y b => cases h
 | cons x a ih => cases b with
  | nil => cases h
  | cons y b =>
   rw [List.map_cons,List.map_cons,List.cons.injEq] at h
   have h1:=h.1
   rw [DataW.lit.injEq,Lit.bool.injEq] at h1
   rw [h1,ih h.2]
theorem flds_of_laid {W : World} (h : laidMetH Tryz.prog laid6 W) : Flds W:=by
 rw [MakeChecks.laidMetH_plain _ _ _ (by kernel_rfl)] at h
 obtain ⟨ps,⟨g0,t0,cs0,f0,p0,q0,hg0,ht0,hv0,hd0,⟨g1,t1,cs1,f1,p1,q1,hg1,ht1,hv1,hd1,⟨g2,t2,cs2,f2,p2,q2,hg2,ht2,hv2,hd2,⟨g3,t3,cs3,f3,p3,q3,hg3,ht3,hv3,hd3,⟨g4,t4,cs4,f4,p4,q4,hg4,ht4,hv4,hd4,_,_⟩,_⟩,_⟩,_⟩,_⟩,_,_⟩:=h
 obtain rfl:=Option.some.inj (gFields.symm.trans hg4)
 obtain rfl:=Option.some.inj (tFields.symm.trans ht4)
 obtain ⟨xs,m,rfl,hx,hl,hxl,hel⟩:=DataW.trod_array Tryz.underlying180 hd4
 rw [c82] at hl
 simp only [Prod.mk.injEq] at hx
 have hxs:=hx.1
 rw [fields_is,DataW.agg.injEq] at hxs
 have hall : ∀ k,k < 14 → ∀ j,j < 7 → W.cell? ⟨2,k * 7 + j,none⟩ = some (.bool (hasB k j)):=by
  intro k hk j hj
  have hi:=hel k hk
  rw [c81] at hi
  have hkx : k < xs.length:=by omega
  rw [List.getElem?_eq_getElem hkx] at hi
  obtain ⟨bs,hbl,hb,hxb⟩:=cell_has (cs:=(cs4.toList.drop (k * 7)).take 7) hi (by rw [List.length_take,List.length_drop]; omega)
  have e5:=congrArg (·[k]?) hxs
  simp only [List.getElem?_map,List.getElem?_eq_getElem hkx,Option.map_some,List.getElem?_range hk] at e5
  rw [Option.some.injEq,hxb] at e5
  have e6:=bool_agg e5
  have hcs : cs4[k * 7 + j]? = some (.bool (hasB k j)):=by
   have e7:=congrArg (·[j]?) hb
   simp only [List.getElem?_take,List.getElem?_drop,List.getElem?_map,hj,if_true] at e7
   rw [← e6] at e7
   simp only [List.getElem?_map,List.getElem?_range hj,Option.map_some] at e7
   rw [← Array.getElem?_toList]
   exact e7
  rw [World.var?_cell hg4 hv4 (k * 7 + j)]
  exact hcs
 exact ⟨World.block_lt_of_cell? W ⟨2,0,none⟩ (hall 0 (by decide) 0 (by decide)),hall⟩
end Go.Proofs.YtcghccjnadagcaaGreatDoor
