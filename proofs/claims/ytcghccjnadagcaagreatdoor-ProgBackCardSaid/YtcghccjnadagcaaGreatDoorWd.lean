/- Facts. -/
import Derived.Test.YtcghccjnadagcaaGreatDoorWa
import Derived.ProofKit
import Derived.LaidMore
import Derived.OpenShut
import Derived.ShutString
import Derived.Stop.Joined
import Derived.Deep.Slices
import Derived.WalkSmall
import Derived.MakeChecks
import Derived.Test.YtcghccjnadagcaaGreatDoorZn
import Derived.Test.YtcghccjnadagcaaGreatDoorWb
set_option maxRecDepth 100000
set_option maxHeartbeats 32000000
namespace Go.Proofs.YtcghccjnadagcaaGreatDoor
open Go.ChangeShapes Go.WideShapes Go.ChangeAt Go.RowKit
theorem cell_spot {w : World} {b off : Nat} {sp : Option Nat} {x : Value} (h : w.cell? ⟨b,off,sp⟩ = some x) : sp = none ∧ b < w.heap.size:=by
 unfold World.cell? at h
 constructor
 ·cases sp with
  | none => rfl
  | some k => split at h <;> simp at h
 ·rcases Nat.lt_or_ge b w.heap.size with h' | h'
  ·exact h'
  ·simp [Array.getElem?_eq_none h'] at h
def NilOK (v : Value) : Prop:=v = .slice none 0 0 ∨ ∃ a n c,v = .slice (some a) n c
theorem open_gen {α H : Type} {enc : TypeId × Value → H} {W : World} {fuel T E S : Nat} {c : Value} {x : DataW H × List MemPlace} (z : α) (hT : Tryz.prog.underlying T = some (.slice E)) (hS : Tryz.prog.cellsOf E = S) (h0 : 0 < S) (R : Nat → Nat → α → Prop)
  (hR : ∀ n cs y b off,DataW.trod enc Tryz.prog W 0 (fun _ => true) true n E cs = some y → cs.length = S → (∀ j,j < S → W.cell? ⟨b,off + j,none⟩ = cs[j]?) → b < W.heap.size → ∃ t,R b off t)
  (h : DataW.trod enc Tryz.prog W 0 (fun _ => true) true fuel T [c] = some x) :
  ∃ (ts : List α) (ad : Option Addr) (cap : Nat),c = .slice ad ts.length cap ∧ NilOK c ∧ ts.length ≤ cap ∧ cap ≤ maxLen ∧ ∀ i,(hi : i < ts.length) → ∃ b off,ad = some ⟨b,off,none⟩ ∧ b < W.heap.size ∧ R b (off + i * S) ts[i]:=by
 haveI : Inhabited α:=⟨z⟩
 rcases Deep.open_slice hT h with ⟨hcs,_⟩ | ⟨a,len,cap,m,n,D,Pl,hcs,_,hl,hm,hmm,_,hx⟩
 ·obtain rfl : c = .slice none 0 0:=(List.cons.inj hcs).1
  exact ⟨[],none,0,rfl,.inl rfl,Nat.zero_le _,Nat.zero_le _,fun i hi => absurd hi (Nat.not_lt_zero _)⟩
 ·obtain rfl : c = .slice (some a) len cap:=(List.cons.inj hcs).1
  rw [hS] at hx
  simp only [if_true] at hmm
  by_cases hz : len = 0
  ·subst hz
   exact ⟨[],some a,cap,rfl,.inr ⟨_,_,_,rfl⟩,Nat.zero_le _,hm,fun i hi => absurd hi (Nat.not_lt_zero _)⟩
  ·obtain ⟨b,off,sp⟩:=a
   obtain ⟨rfl,hb⟩ : sp = none ∧ b < W.heap.size:=by
    obtain ⟨cs',h1,_⟩:=hx 0 (by omega)
    obtain ⟨_,hcl,hat⟩:=World.cells?_some h1
    have k:=hat 0 h0
    have e0 : ((⟨b,off,sp⟩ : Addr).add (0 * S)).add 0 = ⟨b,off,sp⟩:=by simp [Addr.add]
    rw [e0,List.getElem?_eq_getElem (by omega)] at k
    exact cell_spot k
   have e : ∀ j,(⟨b,off,none⟩ : Addr).add j = ⟨b,off + j,none⟩:=by
    intro j; unfold Addr.add; split <;> simp_all
   have hc : ∀ i,i < len → ∃ t : α,R b (off + i * S) t:=by
    intro i hi
    obtain ⟨cs',h1,h2⟩:=hx i (by omega)
    obtain ⟨_,hcl,hat⟩:=World.cells?_some h1
    refine hR n cs' _ b (off + i * S) h2 hcl (fun j hj => ?_) hb
    have k:=hat j hj
    rw [Deep.add_add,e,← Nat.add_assoc] at k
    exact k
   obtain ⟨V,hV⟩:=Deep.choose_lt (α:=α) (p:=fun i t => R b (off + i * S) t) hc
   refine ⟨(List.range len).map V,some ⟨b,off,none⟩,cap,by simp,.inr ⟨_,_,_,rfl⟩,by simpa using hl,hm,fun i hi => ?_⟩
   have hi' : i < len:=by simpa using hi
   refine ⟨b,off,rfl,hb,?_⟩
   simp only [List.getElem_map,List.getElem_range]
   exact hV i hi'
theorem c_int : Tryz.prog.cellsOf 3 = 1:=by kernel_rfl
theorem c_str : Tryz.prog.cellsOf 9 = 1:=by kernel_rfl
theorem c_bool : Tryz.prog.cellsOf 4 = 1:=by kernel_rfl
theorem c_nds : Tryz.prog.cellsOf 40 = 1:=by kernel_rfl
theorem cell_node {H : Type} {enc : TypeId × Value → H} {W : World} {n : Nat} {cs : List Value} {x : DataW H × List MemPlace} (h : DataW.trod enc Tryz.prog W 0 (fun _ => true) true n 46 cs = some x) (hl : cs.length = 5) :
  ∃ t : Nd,cs = t.cells:=by
 obtain ⟨xs,m,_,_,_,hxl,hf⟩:=DataW.trod_struct Tryz.underlying46 h
 match cs,hl with
 | [c0,c1,c2,c3,c4],_ =>
  match xs,hxl with
  | [x0,x1,x2,x3,x4],_ =>
   have f0 : DataW.trod enc Tryz.prog W 0 (fun _ => true) true m 3 (([c0,c1,c2,c3,c4].drop 0).take (Tryz.prog.cellsOf 3)) = some x0:=hf 0 _ rfl
   have f1 : DataW.trod enc Tryz.prog W 0 (fun _ => true) true m 3 (([c0,c1,c2,c3,c4].drop 1).take (Tryz.prog.cellsOf 3)) = some x1:=hf 1 _ rfl
   have f2 : DataW.trod enc Tryz.prog W 0 (fun _ => true) true m 9 (([c0,c1,c2,c3,c4].drop 2).take (Tryz.prog.cellsOf 9)) = some x2:=hf 2 _ rfl
   have f3 : DataW.trod enc Tryz.prog W 0 (fun _ => true) true m 9 (([c0,c1,c2,c3,c4].drop 3).take (Tryz.prog.cellsOf 9)) = some x3:=hf 3 _ rfl
   have f4 : DataW.trod enc Tryz.prog W 0 (fun _ => true) true m 3 (([c0,c1,c2,c3,c4].drop 4).take (Tryz.prog.cellsOf 3)) = some x4:=hf 4 _ rfl
   rw [c_int] at f0 f1 f4
   rw [c_str] at f2 f3
   obtain ⟨n0,e0,_⟩:=DataW.trod_int Tryz.underlying3 f0
   obtain ⟨n1,e1,_⟩:=DataW.trod_int Tryz.underlying3 f1
   obtain ⟨n2,e2,_⟩:=DataW.trod_string Tryz.underlying9 f2
   obtain ⟨n3,e3,_⟩:=DataW.trod_string Tryz.underlying9 f3
   obtain ⟨n4,e4,_⟩:=DataW.trod_int Tryz.underlying3 f4
   have e0' : c0 = _:=(List.cons.inj e0).1
   have e1' : c1 = _:=(List.cons.inj e1).1
   have e2' : c2 = _:=(List.cons.inj e2).1
   have e3' : c3 = _:=(List.cons.inj e3).1
   have e4' : c4 = _:=(List.cons.inj e4).1
   subst e0' e1' e2' e3' e4'
   exact ⟨⟨n0,n1,n2,n3,n4⟩,rfl⟩
theorem open_ndsF {H : Type} {enc : TypeId × Value → H} {W : World} {fuel : Nat} {c : Value} {x : DataW H × List MemPlace} (h : DataW.trod enc Tryz.prog W 0 (fun _ => true) true fuel 40 [c] = some x) :
  ∃ ts : List Nd,NdsC W c ts ∧ ts.length ≤ maxLen:=by
 obtain ⟨ts,ad,cap,rfl,_,h1,h2,h3⟩:=open_gen (α:=Nd) (S:=5) ⟨0,0,⟨#[]⟩,⟨#[]⟩,0⟩ Tryz.underlying40 (by kernel_rfl) (by decide)
  (fun b off t => W.cell? ⟨b,off,none⟩ = some (.int .i64 t.op) ∧ W.cell? ⟨b,off + 1,none⟩ = some (.int .i64 t.n) ∧ W.cell? ⟨b,off + 2,none⟩ = some (.string t.nm) ∧ W.cell? ⟨b,off + 3,none⟩ = some (.string t.inn) ∧ W.cell? ⟨b,off + 4,none⟩ = some (.int .i64 t.pl))
  (fun n cs y b off hy hl hc hb => by
   obtain ⟨t,rfl⟩:=cell_node hy hl
   exact ⟨t,hc 0 (by decide),hc 1 (by decide),hc 2 (by decide),hc 3 (by decide),hc 4 (by decide)⟩) h
 exact ⟨ts,⟨ad,cap,rfl,h1,by unfold maxLen at h2; omega,h3⟩,by omega⟩
def BigOK (ts : List SI) : Prop:=ts.length ≤ maxLen ∧ ∀ t ∈ ts,t.1.e.length ≤ maxLen ∧ t.1.f.length ≤ maxLen
theorem cell_stmt {H : Type} {enc : TypeId × Value → H} {W : World} {n : Nat} {cs : List Value} {x : DataW H × List MemPlace} (h : DataW.trod enc Tryz.prog W 0 (fun _ => true) true n 42 cs = some x) (hl : cs.length = 9) :
  ∃ t : SI,cs = cellsI t ∧ NdsC W t.2.1 t.1.e ∧ NdsC W t.2.2 t.1.f ∧ t.1.e.length ≤ maxLen ∧ t.1.f.length ≤ maxLen:=by
 obtain ⟨xs,m,_,_,_,hxl,hf⟩:=DataW.trod_struct Tryz.underlying42 h
 match cs,hl with
 | [c0,c1,c2,c3,c4,c5,c6,c7,c8],_ =>
  match xs,hxl with
  | [x0,x1,x2,x3,x4,x5,x6,x7,x8],_ =>
   have f0 : DataW.trod enc Tryz.prog W 0 (fun _ => true) true m 3 (([c0,c1,c2,c3,c4,c5,c6,c7,c8].drop 0).take (Tryz.prog.cellsOf 3)) = some x0:=hf 0 _ rfl
   have f1 : DataW.trod enc Tryz.prog W 0 (fun _ => true) true m 9 (([c0,c1,c2,c3,c4,c5,c6,c7,c8].drop 1).take (Tryz.prog.cellsOf 9)) = some x1:=hf 1 _ rfl
   have f2 : DataW.trod enc Tryz.prog W 0 (fun _ => true) true m 9 (([c0,c1,c2,c3,c4,c5,c6,c7,c8].drop 2).take (Tryz.prog.cellsOf 9)) = some x2:=hf 2 _ rfl
   have f3 : DataW.trod enc Tryz.prog W 0 (fun _ => true) true m 40 (([c0,c1,c2,c3,c4,c5,c6,c7,c8].drop 3).take (Tryz.prog.cellsOf 40)) = some x3:=hf 3 _ rfl
   have f4 : DataW.trod enc Tryz.prog W 0 (fun _ => true) true m 40 (([c0,c1,c2,c3,c4,c5,c6,c7,c8].drop 4).take (Tryz.prog.cellsOf 40)) = some x4:=hf 4 _ rfl
   have f5 : DataW.trod enc Tryz.prog W 0 (fun _ => true) true m 4 (([c0,c1,c2,c3,c4,c5,c6,c7,c8].drop 5).take (Tryz.prog.cellsOf 4)) = some x5:=hf 5 _ rfl
   have f6 : DataW.trod enc Tryz.prog W 0 (fun _ => true) true m 3 (([c0,c1,c2,c3,c4,c5,c6,c7,c8].drop 6).take (Tryz.prog.cellsOf 3)) = some x6:=hf 6 _ rfl
   have f7 : DataW.trod enc Tryz.prog W 0 (fun _ => true) true m 3 (([c0,c1,c2,c3,c4,c5,c6,c7,c8].drop 7).take (Tryz.prog.cellsOf 3)) = some x7:=hf 7 _ rfl
   have f8 : DataW.trod enc Tryz.prog W 0 (fun _ => true) true m 3 (([c0,c1,c2,c3,c4,c5,c6,c7,c8].drop 8).take (Tryz.prog.cellsOf 3)) = some x8:=hf 8 _ rfl
   rw [c_int] at f0 f6 f7 f8
   rw [c_str] at f1 f2
   rw [c_nds] at f3 f4
   rw [c_bool] at f5
   obtain ⟨n0,e0,_⟩:=DataW.trod_int Tryz.underlying3 f0
   obtain ⟨n1,e1,_⟩:=DataW.trod_string Tryz.underlying9 f1
   obtain ⟨n2,e2,_⟩:=DataW.trod_string Tryz.underlying9 f2
   obtain ⟨l3,g3,i3⟩:=open_ndsF f3
   obtain ⟨l4,g4,i4⟩:=open_ndsF f4
   obtain ⟨n5,e5,_⟩:=DataW.trod_bool Tryz.underlying4 f5
   obtain ⟨n6,e6,_⟩:=DataW.trod_int Tryz.underlying3 f6
   obtain ⟨n7,e7,_⟩:=DataW.trod_int Tryz.underlying3 f7
   obtain ⟨n8,e8,_⟩:=DataW.trod_int Tryz.underlying3 f8
   have e0' : c0 = _:=(List.cons.inj e0).1
   have e1' : c1 = _:=(List.cons.inj e1).1
   have e2' : c2 = _:=(List.cons.inj e2).1
   have e5' : c5 = _:=(List.cons.inj e5).1
   have e6' : c6 = _:=(List.cons.inj e6).1
   have e7' : c7 = _:=(List.cons.inj e7).1
   have e8' : c8 = _:=(List.cons.inj e8).1
   subst e0' e1' e2' e5' e6' e7' e8'
   exact ⟨(⟨n0,n1,n2,l3,l4,n5,n6,n7,n8⟩,c3,c4),rfl,g3,g4,i3,i4⟩
theorem open_stsF {H : Type} {enc : TypeId × Value → H} {W : World} {fuel : Nat} {c : Value} {x : DataW H × List MemPlace} (h : DataW.trod enc Tryz.prog W 0 (fun _ => true) true fuel 37 [c] = some x) :
  ∃ ts : List SI,StsD W c ts ∧ BigOK ts ∧ NilOK c:=by
 obtain ⟨ts,ad,cap,rfl,h0,h1,h2,h3⟩:=open_gen (α:=SI) (S:=9) (⟨0,⟨#[]⟩,⟨#[]⟩,[],[],false,0,0,0⟩,.bool false,.bool false) Tryz.underlying37 (by kernel_rfl) (by decide)
  (fun b off t => StAt W b off t ∧ NdsC W t.2.1 t.1.e ∧ NdsC W t.2.2 t.1.f ∧ t.1.e.length ≤ maxLen ∧ t.1.f.length ≤ maxLen)
  (fun n cs y b off hy hl hc hb => by
   obtain ⟨t,rfl,g⟩:=cell_stmt hy hl
   exact ⟨t,⟨hc 0 (by decide),hc 1 (by decide),hc 2 (by decide),hc 3 (by decide),hc 4 (by decide),hc 5 (by decide),hc 6 (by decide),hc 7 (by decide),hc 8 (by decide)⟩,g⟩) h
 refine ⟨ts,⟨ad,cap,rfl,h1,by unfold maxLen at h2; omega,fun i hi => ?_⟩,⟨by omega,fun t ht => ?_⟩,h0⟩
 ·obtain ⟨b,off,g1,g2,g3,g4,g5,_⟩:=h3 i hi
  exact ⟨b,off,g1,g2,g3,g4,g5⟩
 ·obtain ⟨i,hi,rfl⟩:=List.mem_iff_getElem.1 ht
  obtain ⟨b,off,g1,g2,g3,g4,g5,g6⟩:=h3 i hi
  exact g6
open Go.RowKit
def lightSt (x : St) : Bool:=decide (x.reg.size ≤ 100 ∧ x.loc.size ≤ 100) && (lightB x.e && lightB x.f)
def lightS (l : List SI) : Bool:=decide (l.length ≤ 60) && l.all fun t => lightSt t.1
theorem all_atS (p : SI → Bool) (l : List SI) (k : Nat) (h : k < l.length) : (l.drop k).all p = (p l[k] && (l.drop (k + 1)).all p):=by
 rw [List.drop_eq_getElem_cons h,List.all_cons]
theorem all_overS (p : SI → Bool) (l : List SI) (k : Nat) (h : ¬ k < l.length) : (l.drop k).all p = true:=by
 rw [List.drop_eq_nil_of_le (by omega)]; rfl
theorem lightS_big (ts : List SI) (v : Value) (w : World) (hv : StsD w v ts) (hn : BigOK ts) (h : 60 < ts.length) :
  Calls Tryz.prog 33 #[v] w fun e w' => e = .returned (.bool (lightS ts)) ∧ w = w':=by
 have hb : lightS ts = false:=by simp [lightS]; omega
 rw [hb]
 obtain ⟨ad,cap,rfl,_⟩:=hv
 obtain ⟨hn,_⟩:=hn
 unfold maxLen at hn
 clear hb
 go_enter Tryz.func33,Tryz.ntmps33
 go_wp2
 go_ret
 exact ⟨rfl,rfl⟩
theorem lightS_small (ts : List SI) (v : Value) (w : World) (hv : StsD w v ts) (hn : BigOK ts) (h : ts.length ≤ 60) :
  Calls Tryz.prog 33 #[v] w fun e w' => e = .returned (.bool (lightS ts)) ∧ w = w':=by
 have hb : lightS ts = (ts.drop 0).all fun t => lightSt t.1:=by simp [lightS,h]
 rw [hb]
 obtain ⟨R,hR⟩ : ∃ R,((ts.drop 0).all fun t => lightSt t.1) = R:=⟨_,rfl⟩
 rw [hR]
 have HR:=Lib.hid hR
 have HM:=Lib.hid hn.2
 clear hR hn
 obtain ⟨ad,cap,rfl,_,_,hc⟩:=hv
 obtain ⟨n,hN⟩ : ∃ n,n = ts.length:=⟨_,rfl⟩
 rw [← hN] at h ⊢
 have HC:=Lib.hid hc
 have HN:=Lib.hid hN
 clear hc hN hb
 go_enter Tryz.func33,Tryz.ntmps33
 go_wp2
 go_loopg [3] n (fun fuel i' wr => ∃ k : Nat,i' = .int .i64 k ∧ k ≤ n ∧ n - k ≤ fuel ∧ R = ((ts.drop k).all fun t => lightSt t.1) ∧ w = wr)
 case atStart => exact ⟨0,rfl,Nat.zero_le _,Nat.le_refl _,HR.out.symm,rfl⟩
 case round =>
  obtain ⟨k,rfl,hk,hf,ha,rfl⟩:=hrel
  have HA:=Lib.hid ha; clear ha
  by_cases hlt : k < n
  ·have hk' : k < ts.length:=by have:=HN.out; omega
   have HE:=Lib.hid (all_atS (fun t => lightSt t.1) ts k hk')
   obtain ⟨b,off,rfl,hbl,⟨c0,c1,c2,c3,c4,c5,c6,c7,c8⟩,hE,hF⟩:=HC.out k hk'
   have hmm:=HM.out _ (List.getElem_mem hk')
   obtain ⟨t,ht⟩ : ∃ t,t = ts[k]:=⟨_,rfl⟩
   have HT:=Lib.hid ht
   rw [← ht] at c1 c2 c3 c4 hE hF hmm
   clear ht c0 c5 c6 c7 c8
   have HCE:=Lib.hid (fun w' (hw : w = w') => light_any t.1.e t.2.1 w (hE.nds) hmm.1 _ rfl)
   have HCF:=Lib.hid (fun w' (hw : w = w') => light_any t.1.f t.2.2 w (hF.nds) hmm.2 _ rfl)
   obtain ⟨x,ve,vf⟩:=t
   obtain ⟨xk,xr,xl,xe,xf,xn,xb,xq,xp⟩:=x
   simp only [] at c1 c2 c3 c4 HCE HCF hE hF
   obtain ⟨a1,p1,rfl,_⟩:=hE
   obtain ⟨a2,p2,rfl,_⟩:=hF
   clear hmm
   by_cases h1 : 100 < xr.size
   ·go_wp2
    go_ret
    exact ⟨ret_bool (by rw [HA.out,HE.out,← HT.out]; simp [lightSt]; omega),rfl⟩
   ·by_cases h2 : 100 < xl.size
    ·go_wp2
     go_ret
     exact ⟨ret_bool (by rw [HA.out,HE.out,← HT.out]; simp [lightSt]; omega),rfl⟩
    ·obtain ⟨bE,hbE⟩ : ∃ bE,bE = lightB xe:=⟨_,rfl⟩
     obtain ⟨bF,hbF⟩ : ∃ bF,bF = lightB xf:=⟨_,rfl⟩
     rw [← hbE] at HCE
     rw [← hbF] at HCF
     have HRS : Hid (lightSt ⟨xk,xr,xl,xe,xf,xn,xb,xq,xp⟩ = (bE && bF)):=by
      refine Lib.hid ?_
      rw [hbE,hbF]
      unfold lightSt
      simp only []
      rw [show decide (xr.size ≤ 100 ∧ xl.size ≤ 100) = true by simp; omega,Bool.true_and]
     clear hbE hbF
     cases bE with
     | false =>
      go_wp2_with fail
      refine (HCE.out _ rfl).mono ?_
      rintro e w2 ⟨rfl,rfl⟩
      go_wp2
      go_ret
      exact ⟨ret_bool (by rw [HA.out,HE.out,← HT.out]; simp only []; rw [HRS.out]; rfl),rfl⟩
     | true =>
      cases bF with
      | false =>
       go_wp2_with fail
       refine (HCE.out _ rfl).mono ?_
       rintro e w2 ⟨rfl,rfl⟩
       go_wp2_with fail
       refine (HCF.out _ rfl).mono ?_
       rintro e w2 ⟨rfl,rfl⟩
       go_wp2
       go_ret
       exact ⟨ret_bool (by rw [HA.out,HE.out,← HT.out]; simp only []; rw [HRS.out]; rfl),rfl⟩
      | true =>
       go_wp2_with fail
       refine (HCE.out _ rfl).mono ?_
       rintro e w2 ⟨rfl,rfl⟩
       go_wp2_with fail
       refine (HCF.out _ rfl).mono ?_
       rintro e w2 ⟨rfl,rfl⟩
       go_wp2
       go_roundg (gk - 1)
       case measure => omega
       case rel => exact ⟨k + 1,by go_num,by omega,by omega,by rw [HA.out,HE.out,← HT.out]; simp only []; rw [HRS.out]; rfl,rfl⟩
  ·have HE:=Lib.hid (all_overS (fun t => lightSt t.1) ts k (by have:=HN.out; omega))
   go_wp2
   go_ret
   exact ⟨ret_bool (by rw [HA.out,HE.out]),rfl⟩
theorem lightS_any (ts : List SI) (v : Value) (w : World) (hv : StsD w v ts) (hn : BigOK ts) (b : Bool) (hb : lightS ts = b) :
  Calls Tryz.prog 33 #[v] w fun e w' => e = .returned (.bool b) ∧ Below w.heap.size w w':=by
 subst hb
 have h : Calls Tryz.prog 33 #[v] w fun e w' => e = .returned (.bool (lightS ts)) ∧ w = w':=by
  by_cases h : 60 < ts.length
  ·exact lightS_big ts v w hv hn h
  ·exact lightS_small ts v w hv hn (by omega)
 refine h.mono ?_
 rintro e w' ⟨h1,rfl⟩
 exact ⟨h1,Below.refl _ _⟩
end Go.Proofs.YtcghccjnadagcaaGreatDoor
