/- Facts. -/
import Derived.Test.YtcghccjnadagcaaGreatDoorPn
import Derived.Laws.AppendOwnNone
set_option maxRecDepth 100000
set_option maxHeartbeats 32000000
namespace Go.Proofs.YtcghccjnadagcaaGreatDoor
open Go.RowKit
def bareN (x : Nd) : Nd:={ x with pl:=0 }
def bareV (x : Vr) : Vr:={ x with pl:=0 }
def bareSt (x : St) : St:={ x with e:=x.e.map bareN,f:=x.f.map bareN,pl:=0 }
def bareT (x : Th) : Th:={ x with body:=x.body.map bareSt,pl:=0 }
def bareC (x : Cl) : Cl:={ x with e:=x.e.map bareN,pl:=0 }
def bareP (g : Pg) : Pg:=⟨g.mod,g.locs.map bareV,g.ths.map bareT,g.cls.map bareC⟩
theorem info_nod : (Tryz.prog.info? 46).map (fun i => (i.zero,i.size,i.bytes)) = some (some (.agg #[.int .i64 0,.int .i64 0,.string ⟨#[]⟩,.string ⟨#[]⟩,.int .i64 0]),5,56):=by kernel_rfl
theorem take_snoc {α : Type} (l : List α) (k : Nat) (h : k < l.length) : l.take (k + 1) = l.take k ++ [l[k]]:=by rw [List.take_add_one,List.getElem?_eq_getElem h]; rfl
theorem SIn.snoc {w : World} {ts : List SI} {t : SI} (h : SIn w ts) (h1 : w.ownsRow 0 46 5 t.2.1 t.1.e.length (rowN t.1.e)) (h2 : w.ownsRow 0 46 5 t.2.2 t.1.f.length (rowN t.1.f)) : SIn w (ts ++ [t]):=fun s hs => by
 rcases List.mem_append.1 hs with h0 | h0
 ·exact h s h0
 ·obtain rfl:=List.mem_singleton.1 h0; exact ⟨h1,h2⟩
theorem eachV_any (xs : List Vr) (v : Value) (w : World) (hv : VrsD w v xs) (hn : xs.length ≤ 100000)
   (hF : ∀ w' i,(hi : i < xs.length) → Below w.heap.size w w' → Calls Tryz.prog 36 #[.agg (cellsV xs[i]).toArray] w' fun e w'' => e = .returned (.agg (cellsV (bareV xs[i])).toArray) ∧ Below w'.heap.size w' w'') :
   Calls Tryz.prog 35 #[v,.func (.func 36) #[] #[]] w fun e w' => ∃ v',e = .returned v' ∧ w'.ownsRow w.heap.size 49 3 v' (xs.map bareV).length (rowV (xs.map bareV)) ∧ Below w.heap.size w w':=by
 obtain ⟨ad,cap,rfl,hcap1,hcap2,hc⟩:=hv
 have HC:=Lib.hid hc
 have HF:=Lib.hid hF
 obtain ⟨n,hN⟩ : ∃ n,n = xs.length:=⟨_,rfl⟩
 rw [← hN] at hn ⊢
 have HN:=Lib.hid hN
 clear hN hc hF hcap1 hcap2
 go_enter Tryz.func35,Tryz.ntmps35
 go_wp2_with fail
 go_loopg [5,10] n (fun fuel m' i' wr => ∃ (k : Nat) (v' : Value),m' = v' ∧ i' = .int .i64 k ∧ k ≤ n ∧ n - k ≤ fuel ∧ wr.ownsRow w.heap.size 49 3 v' k (rowV ((xs.take k).map bareV)) ∧ Below w.heap.size w wr)
 case atStart => exact ⟨0,_,rfl,rfl,Nat.zero_le _,Nat.le_refl _,World.ownsRow_nil _ _ _ _,Below.refl _ _⟩
 case round =>
   obtain ⟨k,v9,rfl,rfl,hk,hf,ho,hb⟩:=hrel
   have HB:=Lib.hid hb
   have HO:=Lib.hid ho
   have hww:=hb.size
   clear hb ho
   by_cases hlt : k < n
   · have hk' : k < xs.length:=by have:=HN.out; omega
     obtain ⟨b,off,rfl,hbl,x0,x1,x2⟩:=HC.out k hk'
     have HFE:=Lib.hid (fun w' hb => HF.out w' k hk' hb)
     obtain ⟨x9,hx⟩ : ∃ x,x = xs[k]:=⟨_,rfl⟩
     have HX:=Lib.hid hx
     rw [← hx] at x0 x1 x2 HFE
     obtain ⟨xn,xv,xp⟩:=x9
     simp only [cellsV,bareV] at x0 x1 x2 HFE
     have c0 : wr.cell? ⟨b,off + k * 3,none⟩ = some (.string xn):=(HB.out.cell (p:=⟨b,_,none⟩) hbl).trans x0
     have c1 : wr.cell? ⟨b,off + k * 3 + 1,none⟩ = some (.int .i64 xv):=(HB.out.cell (p:=⟨b,_,none⟩) hbl).trans x1
     have c2 : wr.cell? ⟨b,off + k * 3 + 2,none⟩ = some (.int .i64 xp):=(HB.out.cell (p:=⟨b,_,none⟩) hbl).trans x2
     clear x0 x1 x2 hx
     have HBA:=Lib.hid (HB.out.alloc (o:=(.cells #[.string xn,.int .i64 xv,.int .i64 xp] 49)) hww)
     go_wp2_with fail
     refine (HFE.out _ HBA.out).mono ?_
     rintro e w2 ⟨rfl,hb2⟩
     have HB2:=Lib.hid (HBA.out.trans (hb2.mono HBA.out.size))
     have HO2:=Lib.hid (own_below HO.out (((Below.refl wr.heap.size wr).alloc (Nat.le_refl _) (.cells #[.string xn,.int .i64 xv,.int .i64 xp] 49)).trans (hb2.mono (by rw [alloc_size]; omega))))
     clear c0 c1 c2 hb2
     have hal:=(Below.refl w2.heap.size w2).alloc (Nat.le_refl _) (.cells #[.string xn,.int .i64 xv,.int .i64 0] 49)
     have hown2:=own_below HO2.out hal
     have hsz2 : w.heap.size ≤ (w2.alloc (.cells #[.string xn,.int .i64 xv,.int .i64 0] 49)).heap.size:=by have:=HB2.out.size; rw [alloc_size]; omega
     go_wp2_with (at_builtin; refine append_oneG 23 49 3 32 (.agg #[.string ⟨#[]⟩,.int .i64 0,.int .i64 0]) Tryz.underlying23 info_var rfl (by decide) (by decide) rfl (.tmp 14) (.tmp 18) rfl w.heap.size k _ _ [.string xn,.int .i64 xv,.int .i64 0] rfl w2.heap.size rfl hown2 rfl (fun j _ => by simp) (fun u hu => by simp only [List.mem_cons,List.not_mem_nil,or_false] at hu; rcases hu with rfl | rfl | rfl; (· rfl); (· rfl); (· rfl)) (by omega) hsz2 ?_)
     intro v3 w3 ho3 hb3 hg3
     have HO3:=Lib.hid ho3
     have HB4:=Lib.hid ((HB2.out.alloc (o:=(.cells #[.string xn,.int .i64 xv,.int .i64 0] 49)) HB2.out.size).trans hb3)
     clear ho3 hb3 hg3 hown2 hal
     go_wp2
     go_roundg (gk - 1)
     case measure => omega
     case rel =>
         refine ⟨k + 1,_,rfl,by go_num,by omega,by omega,?_,HB4.out⟩
         have h3:=HO3.out
         rw [take_snoc xs k (by have:=HN.out; omega),List.map_append,rowV_append]
         have e9 : rowV ([xs[k]].map bareV) = [.string xn,.int .i64 xv,.int .i64 0]:=by rw [← HX.out]; rfl
         rw [e9,List.map_take]
         exact h3
   · go_wp2
     go_ret
     have hkn : k = n:=by omega
     subst hkn
     refine ⟨_,rfl,?_,HB.out⟩
     have h3:=HO.out
     rw [List.take_of_length_le (by have:=HN.out; omega)] at h3
     rw [List.length_map,← HN.out]
     exact h3
theorem eachN_any (xs : List Nd) (v : Value) (w : World) (hv : NdsC w v xs) (hn : xs.length ≤ 100000)
   (hF : ∀ w' i,(hi : i < xs.length) → Below w.heap.size w w' → Calls Tryz.prog 88 #[.agg xs[i].cells.toArray] w' fun e w'' => e = .returned (.agg (bareN xs[i]).cells.toArray) ∧ Below w'.heap.size w' w'') :
   Calls Tryz.prog 87 #[v,.func (.func 88) #[] #[]] w fun e w' => ∃ v',e = .returned v' ∧ w'.ownsRow w.heap.size 46 5 v' (xs.map bareN).length (rowN (xs.map bareN)) ∧ Below w.heap.size w w':=by
 obtain ⟨ad,cap,rfl,hcap1,hcap2,hc⟩:=hv
 have HC:=Lib.hid hc
 have HF:=Lib.hid hF
 obtain ⟨n,hN⟩ : ∃ n,n = xs.length:=⟨_,rfl⟩
 rw [← hN] at hn ⊢
 have HN:=Lib.hid hN
 clear hN hc hF hcap1 hcap2
 go_enter Tryz.func87,Tryz.ntmps87
 go_wp2_with fail
 go_loopg [5,10] n (fun fuel m' i' wr => ∃ (k : Nat) (v' : Value),m' = v' ∧ i' = .int .i64 k ∧ k ≤ n ∧ n - k ≤ fuel ∧ wr.ownsRow w.heap.size 46 5 v' k (rowN ((xs.take k).map bareN)) ∧ Below w.heap.size w wr)
 case atStart => exact ⟨0,_,rfl,rfl,Nat.zero_le _,Nat.le_refl _,World.ownsRow_nil _ _ _ _,Below.refl _ _⟩
 case round =>
   obtain ⟨k,v9,rfl,rfl,hk,hf,ho,hb⟩:=hrel
   have HB:=Lib.hid hb
   have HO:=Lib.hid ho
   have hww:=hb.size
   clear hb ho
   by_cases hlt : k < n
   · have hk' : k < xs.length:=by have:=HN.out; omega
     obtain ⟨b,off,rfl,hbl,x0,x1,x2,x3,x4⟩:=HC.out k hk'
     have HFE:=Lib.hid (fun w' hb => HF.out w' k hk' hb)
     obtain ⟨x9,hx⟩ : ∃ x,x = xs[k]:=⟨_,rfl⟩
     have HX:=Lib.hid hx
     rw [← hx] at x0 x1 x2 x3 x4 HFE
     obtain ⟨xo,xn,xm,xi,xp⟩:=x9
     simp only [Nd.cells,bareN] at x0 x1 x2 x3 x4 HFE
     have c0 : wr.cell? ⟨b,off + k * 5,none⟩ = some (.int .i64 xo):=(HB.out.cell (p:=⟨b,_,none⟩) hbl).trans x0
     have c1 : wr.cell? ⟨b,off + k * 5 + 1,none⟩ = some (.int .i64 xn):=(HB.out.cell (p:=⟨b,_,none⟩) hbl).trans x1
     have c2 : wr.cell? ⟨b,off + k * 5 + 2,none⟩ = some (.string xm):=(HB.out.cell (p:=⟨b,_,none⟩) hbl).trans x2
     have c3 : wr.cell? ⟨b,off + k * 5 + 3,none⟩ = some (.string xi):=(HB.out.cell (p:=⟨b,_,none⟩) hbl).trans x3
     have c4 : wr.cell? ⟨b,off + k * 5 + 4,none⟩ = some (.int .i64 xp):=(HB.out.cell (p:=⟨b,_,none⟩) hbl).trans x4
     clear x0 x1 x2 x3 x4 hx
     have HBA:=Lib.hid (HB.out.alloc (o:=(.cells #[.int .i64 xo,.int .i64 xn,.string xm,.string xi,.int .i64 xp] 46)) hww)
     go_wp2_with fail
     refine (HFE.out _ HBA.out).mono ?_
     rintro e w2 ⟨rfl,hb2⟩
     have HB2:=Lib.hid (HBA.out.trans (hb2.mono HBA.out.size))
     have HO2:=Lib.hid (own_below HO.out (((Below.refl wr.heap.size wr).alloc (Nat.le_refl _) (.cells #[.int .i64 xo,.int .i64 xn,.string xm,.string xi,.int .i64 xp] 46)).trans (hb2.mono (by rw [alloc_size]; omega))))
     clear c0 c1 c2 c3 c4 hb2
     have hal:=(Below.refl w2.heap.size w2).alloc (Nat.le_refl _) (.cells #[.int .i64 xo,.int .i64 xn,.string xm,.string xi,.int .i64 0] 46)
     have hown2:=own_below HO2.out hal
     have hsz2 : w.heap.size ≤ (w2.alloc (.cells #[.int .i64 xo,.int .i64 xn,.string xm,.string xi,.int .i64 0] 46)).heap.size:=by have:=HB2.out.size; rw [alloc_size]; omega
     go_wp2_with (at_builtin; refine append_oneG 40 46 5 56 (.agg #[.int .i64 0,.int .i64 0,.string ⟨#[]⟩,.string ⟨#[]⟩,.int .i64 0]) Tryz.underlying40 info_nod rfl (by decide) (by decide) rfl (.tmp 14) (.tmp 18) rfl w.heap.size k _ _ [.int .i64 xo,.int .i64 xn,.string xm,.string xi,.int .i64 0] rfl w2.heap.size rfl hown2 rfl (fun j _ => by simp) (fun u hu => by simp only [List.mem_cons,List.not_mem_nil,or_false] at hu; rcases hu with rfl | rfl | rfl | rfl | rfl; (· rfl); (· rfl); (· rfl); (· rfl); (· rfl)) (by omega) hsz2 ?_)
     intro v3 w3 ho3 hb3 hg3
     have HO3:=Lib.hid ho3
     have HB4:=Lib.hid ((HB2.out.alloc (o:=(.cells #[.int .i64 xo,.int .i64 xn,.string xm,.string xi,.int .i64 0] 46)) HB2.out.size).trans hb3)
     clear ho3 hb3 hg3 hown2 hal
     go_wp2
     go_roundg (gk - 1)
     case measure => omega
     case rel =>
         refine ⟨k + 1,_,rfl,by go_num,by omega,by omega,?_,HB4.out⟩
         have h3:=HO3.out
         rw [take_snoc xs k (by have:=HN.out; omega),List.map_append,rowN_app]
         have e9 : rowN ([xs[k]].map bareN) = [.int .i64 xo,.int .i64 xn,.string xm,.string xi,.int .i64 0]:=by rw [← HX.out]; rfl
         rw [e9,List.map_take]
         exact h3
   · go_wp2
     go_ret
     have hkn : k = n:=by omega
     subst hkn
     refine ⟨_,rfl,?_,HB.out⟩
     have h3:=HO.out
     rw [List.take_of_length_le (by have:=HN.out; omega)] at h3
     rw [List.length_map,← HN.out]
     exact h3
theorem eachS_any (xs : List SI) (v : Value) (w : World) (hv : StsD w v xs) (hn : xs.length ≤ 100000)
   (hF : ∀ w' i,(hi : i < xs.length) → Below w.heap.size w w' → Calls Tryz.prog 86 #[.agg (cellsI xs[i]).toArray] w' fun e w'' => ∃ u1 u2,e = .returned (.agg (cellsI (bareSt xs[i].1,u1,u2)).toArray) ∧ w''.ownsRow 0 46 5 u1 (bareSt xs[i].1).e.length (rowN (bareSt xs[i].1).e) ∧ w''.ownsRow 0 46 5 u2 (bareSt xs[i].1).f.length (rowN (bareSt xs[i].1).f) ∧ Below w'.heap.size w' w'') :
   Calls Tryz.prog 85 #[v,.func (.func 86) #[] #[]] w fun e w' => ∃ v',e = .returned v' ∧ SOwn w' w.heap.size v' ((xs.map (·.1)).map bareSt) ∧ Below w.heap.size w w':=by
 obtain ⟨ad,cap,rfl,hcap1,hcap2,hc⟩:=hv
 have HC:=Lib.hid hc
 have HF:=Lib.hid hF
 obtain ⟨n,hN⟩ : ∃ n,n = xs.length:=⟨_,rfl⟩
 rw [← hN] at hn ⊢
 have HN:=Lib.hid hN
 clear hN hc hF hcap1 hcap2
 go_enter Tryz.func85,Tryz.ntmps85
 go_wp2_with fail
 go_loopg [5,10] n (fun fuel m' i' wr => ∃ (k : Nat) (v' : Value) (ts : List SI),m' = v' ∧ i' = .int .i64 k ∧ k ≤ n ∧ n - k ≤ fuel ∧ ts.map (·.1) = ((xs.take k).map (·.1)).map bareSt ∧ wr.ownsRow w.heap.size 42 9 v' k (rowS ts) ∧ SIn wr ts ∧ Below w.heap.size w wr)
 case atStart => exact ⟨0,_,[],rfl,rfl,Nat.zero_le _,Nat.le_refl _,rfl,World.ownsRow_nil _ _ _ _,(fun _ h => by cases h),Below.refl _ _⟩
 case round =>
   obtain ⟨k,v9,ts,rfl,rfl,hk,hf,hmp,ho,hI,hb⟩:=hrel
   have HB:=Lib.hid hb
   have HO:=Lib.hid ho
   have HI:=Lib.hid hI
   have HMP:=Lib.hid hmp
   have hww:=hb.size
   clear hb ho hI hmp
   by_cases hlt : k < n
   · have hk' : k < xs.length:=by have:=HN.out; omega
     obtain ⟨b,off,rfl,hbl,⟨x0,x1,x2,x3,x4,x5,x6,x7,x8⟩,hE,hF2⟩:=HC.out k hk'
     have HFE:=Lib.hid (fun w' hb => HF.out w' k hk' hb)
     obtain ⟨x9,hx⟩ : ∃ x,x = xs[k]:=⟨_,rfl⟩
     have HX:=Lib.hid hx
     rw [← hx] at x0 x1 x2 x3 x4 x5 x6 x7 x8 HFE hE hF2
     obtain ⟨⟨tk,tr,tl,te,tf,tn,tb,tq,tp⟩,v1,v2⟩:=x9
     simp only [cellsI,bareSt] at x0 x1 x2 x3 x4 x5 x6 x7 x8 HFE hE hF2
     obtain ⟨a1,n1,p1,rfl⟩ : ∃ a n c,v1 = .slice a n c:=by obtain ⟨a,c,h,_⟩:=hE; exact ⟨a,_,c,h⟩
     obtain ⟨a2,n2,p2,rfl⟩ : ∃ a n c,v2 = .slice a n c:=by obtain ⟨a,c,h,_⟩:=hF2; exact ⟨a,_,c,h⟩
     clear hE hF2
     have c0 : wr.cell? ⟨b,off + k * 9,none⟩ = some (.int .i64 tk):=(HB.out.cell (p:=⟨b,_,none⟩) hbl).trans x0
     have c1 : wr.cell? ⟨b,off + k * 9 + 1,none⟩ = some (.string tr):=(HB.out.cell (p:=⟨b,_,none⟩) hbl).trans x1
     have c2 : wr.cell? ⟨b,off + k * 9 + 2,none⟩ = some (.string tl):=(HB.out.cell (p:=⟨b,_,none⟩) hbl).trans x2
     have c3 : wr.cell? ⟨b,off + k * 9 + 3,none⟩ = some (.slice a1 n1 p1):=(HB.out.cell (p:=⟨b,_,none⟩) hbl).trans x3
     have c4 : wr.cell? ⟨b,off + k * 9 + 4,none⟩ = some (.slice a2 n2 p2):=(HB.out.cell (p:=⟨b,_,none⟩) hbl).trans x4
     have c5 : wr.cell? ⟨b,off + k * 9 + 5,none⟩ = some (.bool tn):=(HB.out.cell (p:=⟨b,_,none⟩) hbl).trans x5
     have c6 : wr.cell? ⟨b,off + k * 9 + 6,none⟩ = some (.int .i64 tb):=(HB.out.cell (p:=⟨b,_,none⟩) hbl).trans x6
     have c7 : wr.cell? ⟨b,off + k * 9 + 7,none⟩ = some (.int .i64 tq):=(HB.out.cell (p:=⟨b,_,none⟩) hbl).trans x7
     have c8 : wr.cell? ⟨b,off + k * 9 + 8,none⟩ = some (.int .i64 tp):=(HB.out.cell (p:=⟨b,_,none⟩) hbl).trans x8
     clear x0 x1 x2 x3 x4 x5 x6 x7 x8 hx
     have HBA:=Lib.hid (HB.out.alloc (o:=(.cells #[.int .i64 tk,.string tr,.string tl,.slice a1 n1 p1,.slice a2 n2 p2,.bool tn,.int .i64 tb,.int .i64 tq,.int .i64 tp] 42)) hww)
     go_wp2_with fail
     refine (HFE.out _ HBA.out).mono ?_
     rintro e w2 ⟨u1,u2,rfl,i1,i2,hb2⟩
     have hI:=HI.out.below (((Below.refl wr.heap.size wr).alloc (Nat.le_refl _) (.cells #[.int .i64 tk,.string tr,.string tl,.slice a1 n1 p1,.slice a2 n2 p2,.bool tn,.int .i64 tb,.int .i64 tq,.int .i64 tp] 42)).trans (hb2.mono (by rw [alloc_size]; omega)))
     have HB2:=Lib.hid (HBA.out.trans (hb2.mono HBA.out.size))
     have HO2:=Lib.hid (own_below HO.out (((Below.refl wr.heap.size wr).alloc (Nat.le_refl _) (.cells #[.int .i64 tk,.string tr,.string tl,.slice a1 n1 p1,.slice a2 n2 p2,.bool tn,.int .i64 tb,.int .i64 tq,.int .i64 tp] 42)).trans (hb2.mono (by rw [alloc_size]; omega))))
     clear c0 c1 c2 c3 c4 c5 c6 c7 c8 hb2
     have hal:=(Below.refl w2.heap.size w2).alloc (Nat.le_refl _) (.cells #[.int .i64 tk,.string tr,.string tl,u1,u2,.bool tn,.int .i64 tb,.int .i64 tq,.int .i64 0] 42)
     have hown2:=own_below HO2.out hal
     have hsz2 : w.heap.size ≤ (w2.alloc (.cells #[.int .i64 tk,.string tr,.string tl,u1,u2,.bool tn,.int .i64 tb,.int .i64 tq,.int .i64 0] 42)).heap.size:=by have:=HB2.out.size; rw [alloc_size]; omega
     go_wp2_with (at_builtin; refine append_oneG 37 42 9 120 (.agg #[.int .i64 0,.string ⟨#[]⟩,.string ⟨#[]⟩,.slice none 0 0,.slice none 0 0,.bool false,.int .i64 0,.int .i64 0,.int .i64 0]) Tryz.underlying37 info49 rfl (by decide) (by decide) rfl (.tmp 14) (.tmp 18) rfl w.heap.size k _ _ [.int .i64 tk,.string tr,.string tl,u1,u2,.bool tn,.int .i64 tb,.int .i64 tq,.int .i64 0] rfl w2.heap.size rfl hown2 rfl (fun j _ => by simp) (fun u hu => by simp only [List.mem_cons,List.not_mem_nil,or_false] at hu; rcases hu with rfl | rfl | rfl | rfl | rfl | rfl | rfl | rfl | rfl; (· rfl); (· rfl); (· rfl); (· exact own_one i1); (· exact own_one i2); (· rfl); (· rfl); (· rfl); (· rfl)) (by omega) hsz2 ?_)
     intro v3 w3 ho3 hb3 hg3
     have HO3:=Lib.hid ho3
     have HB4:=Lib.hid ((HB2.out.alloc (o:=(.cells #[.int .i64 tk,.string tr,.string tl,u1,u2,.bool tn,.int .i64 tb,.int .i64 tq,.int .i64 0] 42)) HB2.out.size).trans hb3)
     have HIN3:=Lib.hid ((((hI.below hal).grown hown2 hg3).snoc (t:=(((⟨tk,tr,tl,te.map bareN,tf.map bareN,tn,tb,tq,0⟩ : St),u1,u2))) ((own_below i1 hal).kept hg3 (own_apartE (own_below i1 hal) hown2 (by decide))) ((own_below i2 hal).kept hg3 (own_apartE (own_below i2 hal) hown2 (by decide)))))
     clear ho3 hb3 hg3 hown2 hal hI i1 i2
     go_wp2
     go_roundg (gk - 1)
     case measure => omega
     case rel =>
         refine ⟨k + 1,_,ts ++ [((⟨tk,tr,tl,te.map bareN,tf.map bareN,tn,tb,tq,0⟩ : St),u1,u2)],rfl,by go_num,by omega,by omega,?_,?_,HIN3.out,HB4.out⟩
         · rw [List.map_append,HMP.out,take_snoc xs k (by have:=HN.out; omega),List.map_append,List.map_append,← HX.out]
           rfl
         · rw [rowS_append]
           exact HO3.out
   · go_wp2
     go_ret
     have hkn : k = n:=by omega
     subst hkn
     refine ⟨_,rfl,⟨ts,?_,?_,HI.out⟩,HB.out⟩
     · exact HMP.out.trans (by rw [List.take_of_length_le (show xs.length ≤ k by have:=HN.out; omega),List.map_map])
     · have hl : ts.length = k:=by have h:=congrArg List.length HMP.out; rw [List.length_map,List.length_map,List.length_map,List.length_take] at h; have:=HN.out; omega
       rw [hl]
       exact HO.out
theorem eachT_any (xs : List TI) (v : Value) (w : World) (hv : ThsD w v xs) (hn : xs.length ≤ 100000)
   (hF : ∀ w' i,(hi : i < xs.length) → Below w.heap.size w w' → Calls Tryz.prog 38 #[.agg (cellsT xs[i]).toArray] w' fun e w'' => ∃ u1 u2,e = .returned (.agg (cellsT (bareT xs[i].1,u1,u2)).toArray) ∧ w''.ownsRow 0 9 1 u1 (bareT xs[i].1).regs.length (rowB (bareT xs[i].1).regs) ∧ SOwn w'' 0 u2 (bareT xs[i].1).body ∧ Below w'.heap.size w' w'') :
   Calls Tryz.prog 37 #[v,.func (.func 38) #[] #[]] w fun e w' => ∃ v',e = .returned v' ∧ TOwn w' w.heap.size v' ((xs.map (·.1)).map bareT) ∧ Below w.heap.size w w':=by
 obtain ⟨ad,cap,rfl,hcap1,hcap2,hc⟩:=hv
 have HC:=Lib.hid hc
 have HF:=Lib.hid hF
 obtain ⟨n,hN⟩ : ∃ n,n = xs.length:=⟨_,rfl⟩
 rw [← hN] at hn ⊢
 have HN:=Lib.hid hN
 clear hN hc hF hcap1 hcap2
 go_enter Tryz.func37,Tryz.ntmps37
 go_wp2_with fail
 go_loopg [5,10] n (fun fuel m' i' wr => ∃ (k : Nat) (v' : Value) (ts : List TI),m' = v' ∧ i' = .int .i64 k ∧ k ≤ n ∧ n - k ≤ fuel ∧ ts.map (·.1) = ((xs.take k).map (·.1)).map bareT ∧ wr.ownsRow w.heap.size 39 4 v' k (rowT ts) ∧ TIn wr ts ∧ Below w.heap.size w wr)
 case atStart => exact ⟨0,_,[],rfl,rfl,Nat.zero_le _,Nat.le_refl _,rfl,World.ownsRow_nil _ _ _ _,(fun _ h => by cases h),Below.refl _ _⟩
 case round =>
   obtain ⟨k,v9,ts,rfl,rfl,hk,hf,hmp,ho,hI,hb⟩:=hrel
   have HB:=Lib.hid hb
   have HO:=Lib.hid ho
   have HI:=Lib.hid hI
   have HMP:=Lib.hid hmp
   have hww:=hb.size
   clear hb ho hI hmp
   by_cases hlt : k < n
   · have hk' : k < xs.length:=by have:=HN.out; omega
     obtain ⟨b,off,rfl,hbl,⟨x0,x1,x2,x3⟩,hR,ss,hs1,hS⟩:=HC.out k hk'
     have HFE:=Lib.hid (fun w' hb => HF.out w' k hk' hb)
     obtain ⟨x9,hx⟩ : ∃ x,x = xs[k]:=⟨_,rfl⟩
     have HX:=Lib.hid hx
     rw [← hx] at x0 x1 x2 x3 HFE hR hs1 hS
     obtain ⟨⟨xn,xr,xb,xp⟩,v1,v2⟩:=x9
     simp only [cellsT,bareT] at x0 x1 x2 x3 HFE hR hs1 hS
     obtain ⟨a1,n1,p1,rfl⟩ : ∃ a n c,v1 = .slice a n c:=by obtain ⟨a,c,h⟩:=hR.shape; exact ⟨a,_,c,h⟩
     obtain ⟨a2,n2,p2,rfl⟩ : ∃ a n c,v2 = .slice a n c:=by obtain ⟨a,c,h,_⟩:=hS; exact ⟨a,_,c,h⟩
     clear hR hs1 hS
     have c0 : wr.cell? ⟨b,off + k * 4,none⟩ = some (.string xn):=(HB.out.cell (p:=⟨b,_,none⟩) hbl).trans x0
     have c1 : wr.cell? ⟨b,off + k * 4 + 1,none⟩ = some (.slice a1 n1 p1):=(HB.out.cell (p:=⟨b,_,none⟩) hbl).trans x1
     have c2 : wr.cell? ⟨b,off + k * 4 + 2,none⟩ = some (.slice a2 n2 p2):=(HB.out.cell (p:=⟨b,_,none⟩) hbl).trans x2
     have c3 : wr.cell? ⟨b,off + k * 4 + 3,none⟩ = some (.int .i64 xp):=(HB.out.cell (p:=⟨b,_,none⟩) hbl).trans x3
     clear x0 x1 x2 x3 hx
     have HBA:=Lib.hid (HB.out.alloc (o:=(.cells #[.string xn,.slice a1 n1 p1,.slice a2 n2 p2,.int .i64 xp] 39)) hww)
     go_wp2_with fail
     refine (HFE.out _ HBA.out).mono ?_
     rintro e w2 ⟨u1,u2,rfl,i1,i2,hb2⟩
     have hI:=HI.out.below (((Below.refl wr.heap.size wr).alloc (Nat.le_refl _) (.cells #[.string xn,.slice a1 n1 p1,.slice a2 n2 p2,.int .i64 xp] 39)).trans (hb2.mono (by rw [alloc_size]; omega)))
     have HB2:=Lib.hid (HBA.out.trans (hb2.mono HBA.out.size))
     have HO2:=Lib.hid (own_below HO.out (((Below.refl wr.heap.size wr).alloc (Nat.le_refl _) (.cells #[.string xn,.slice a1 n1 p1,.slice a2 n2 p2,.int .i64 xp] 39)).trans (hb2.mono (by rw [alloc_size]; omega))))
     clear c0 c1 c2 c3 hb2
     have hal:=(Below.refl w2.heap.size w2).alloc (Nat.le_refl _) (.cells #[.string xn,u1,u2,.int .i64 0] 39)
     have hown2:=own_below HO2.out hal
     have hsz2 : w.heap.size ≤ (w2.alloc (.cells #[.string xn,u1,u2,.int .i64 0] 39)).heap.size:=by have:=HB2.out.size; rw [alloc_size]; omega
     go_wp2_with (at_builtin; refine append_oneG 24 39 4 72 (.agg #[.string ⟨#[]⟩,.slice none 0 0,.slice none 0 0,.int .i64 0]) Tryz.underlying24 info_thr rfl (by decide) (by decide) rfl (.tmp 14) (.tmp 18) rfl w.heap.size k _ _ [.string xn,u1,u2,.int .i64 0] rfl w2.heap.size rfl hown2 rfl (fun j _ => by simp) (fun u hu => by simp only [List.mem_cons,List.not_mem_nil,or_false] at hu; rcases hu with rfl | rfl | rfl | rfl; (· rfl); (· exact own_one i1); (· exact sown_one i2); (· rfl)) (by omega) hsz2 ?_)
     intro v3 w3 ho3 hb3 hg3
     have HO3:=Lib.hid ho3
     have HB4:=Lib.hid ((HB2.out.alloc (o:=(.cells #[.string xn,u1,u2,.int .i64 0] 39)) HB2.out.size).trans hb3)
     have HIN3:=Lib.hid ((((hI.below hal).apart hown2 (by decide) (by decide) (by decide) hg3).snoc (t:=(((⟨xn,xr,xb.map bareSt,0⟩ : Th),u1,u2))) ((own_below i1 hal).kept hg3 (own_apartE (own_below i1 hal) hown2 (by decide))) ((i2.below hal).apart hown2 (by decide) (by decide) hg3)))
     clear ho3 hb3 hg3 hown2 hal hI i1 i2
     go_wp2
     go_roundg (gk - 1)
     case measure => omega
     case rel =>
         refine ⟨k + 1,_,ts ++ [((⟨xn,xr,xb.map bareSt,0⟩ : Th),u1,u2)],rfl,by go_num,by omega,by omega,?_,?_,HIN3.out,HB4.out⟩
         · rw [List.map_append,HMP.out,take_snoc xs k (by have:=HN.out; omega),List.map_append,List.map_append,← HX.out]
           rfl
         · rw [rowT_append]
           exact HO3.out
   · go_wp2
     go_ret
     have hkn : k = n:=by omega
     subst hkn
     refine ⟨_,rfl,⟨ts,?_,?_,HI.out⟩,HB.out⟩
     · exact HMP.out.trans (by rw [List.take_of_length_le (show xs.length ≤ k by have:=HN.out; omega),List.map_map])
     · have hl : ts.length = k:=by have h:=congrArg List.length HMP.out; rw [List.length_map,List.length_map,List.length_map,List.length_take] at h; have:=HN.out; omega
       rw [hl]
       exact HO.out
theorem eachC_any (xs : List CI) (v : Value) (w : World) (hv : ClsD w v xs) (hn : xs.length ≤ 100000)
   (hF : ∀ w' i,(hi : i < xs.length) → Below w.heap.size w w' → Calls Tryz.prog 40 #[.agg (cellsC xs[i]).toArray] w' fun e w'' => ∃ u1,e = .returned (.agg (cellsC (bareC xs[i].1,u1)).toArray) ∧ w''.ownsRow 0 46 5 u1 (bareC xs[i].1).e.length (rowN (bareC xs[i].1).e) ∧ Below w'.heap.size w' w'') :
   Calls Tryz.prog 39 #[v,.func (.func 40) #[] #[]] w fun e w' => ∃ v',e = .returned v' ∧ COwn w' w.heap.size v' ((xs.map (·.1)).map bareC) ∧ Below w.heap.size w w':=by
 obtain ⟨ad,cap,rfl,hcap1,hcap2,hc⟩:=hv
 have HC:=Lib.hid hc
 have HF:=Lib.hid hF
 obtain ⟨n,hN⟩ : ∃ n,n = xs.length:=⟨_,rfl⟩
 rw [← hN] at hn ⊢
 have HN:=Lib.hid hN
 clear hN hc hF hcap1 hcap2
 go_enter Tryz.func39,Tryz.ntmps39
 go_wp2_with fail
 go_loopg [5,10] n (fun fuel m' i' wr => ∃ (k : Nat) (v' : Value) (ts : List CI),m' = v' ∧ i' = .int .i64 k ∧ k ≤ n ∧ n - k ≤ fuel ∧ ts.map (·.1) = ((xs.take k).map (·.1)).map bareC ∧ wr.ownsRow w.heap.size 44 3 v' k (rowC ts) ∧ CIn wr ts ∧ Below w.heap.size w wr)
 case atStart => exact ⟨0,_,[],rfl,rfl,Nat.zero_le _,Nat.le_refl _,rfl,World.ownsRow_nil _ _ _ _,(fun _ h => by cases h),Below.refl _ _⟩
 case round =>
   obtain ⟨k,v9,ts,rfl,rfl,hk,hf,hmp,ho,hI,hb⟩:=hrel
   have HB:=Lib.hid hb
   have HO:=Lib.hid ho
   have HI:=Lib.hid hI
   have HMP:=Lib.hid hmp
   have hww:=hb.size
   clear hb ho hI hmp
   by_cases hlt : k < n
   · have hk' : k < xs.length:=by have:=HN.out; omega
     obtain ⟨b,off,rfl,hbl,⟨x0,x1,x2⟩,hE⟩:=HC.out k hk'
     have HFE:=Lib.hid (fun w' hb => HF.out w' k hk' hb)
     obtain ⟨x9,hx⟩ : ∃ x,x = xs[k]:=⟨_,rfl⟩
     have HX:=Lib.hid hx
     rw [← hx] at x0 x1 x2 HFE hE
     obtain ⟨⟨xk,xe,xp⟩,v1⟩:=x9
     simp only [cellsC,bareC] at x0 x1 x2 HFE hE
     obtain ⟨a1,n1,p1,rfl⟩ : ∃ a n c,v1 = .slice a n c:=by obtain ⟨a,c,h,_⟩:=hE; exact ⟨a,_,c,h⟩
     clear hE
     have c0 : wr.cell? ⟨b,off + k * 3,none⟩ = some (.int .i64 xk):=(HB.out.cell (p:=⟨b,_,none⟩) hbl).trans x0
     have c1 : wr.cell? ⟨b,off + k * 3 + 1,none⟩ = some (.slice a1 n1 p1):=(HB.out.cell (p:=⟨b,_,none⟩) hbl).trans x1
     have c2 : wr.cell? ⟨b,off + k * 3 + 2,none⟩ = some (.int .i64 xp):=(HB.out.cell (p:=⟨b,_,none⟩) hbl).trans x2
     clear x0 x1 x2 hx
     have HBA:=Lib.hid (HB.out.alloc (o:=(.cells #[.int .i64 xk,.slice a1 n1 p1,.int .i64 xp] 44)) hww)
     go_wp2_with fail
     refine (HFE.out _ HBA.out).mono ?_
     rintro e w2 ⟨u1,rfl,i1,hb2⟩
     have hI:=HI.out.below (((Below.refl wr.heap.size wr).alloc (Nat.le_refl _) (.cells #[.int .i64 xk,.slice a1 n1 p1,.int .i64 xp] 44)).trans (hb2.mono (by rw [alloc_size]; omega)))
     have HB2:=Lib.hid (HBA.out.trans (hb2.mono HBA.out.size))
     have HO2:=Lib.hid (own_below HO.out (((Below.refl wr.heap.size wr).alloc (Nat.le_refl _) (.cells #[.int .i64 xk,.slice a1 n1 p1,.int .i64 xp] 44)).trans (hb2.mono (by rw [alloc_size]; omega))))
     clear c0 c1 c2 hb2
     have hal:=(Below.refl w2.heap.size w2).alloc (Nat.le_refl _) (.cells #[.int .i64 xk,u1,.int .i64 0] 44)
     have hown2:=own_below HO2.out hal
     have hsz2 : w.heap.size ≤ (w2.alloc (.cells #[.int .i64 xk,u1,.int .i64 0] 44)).heap.size:=by have:=HB2.out.size; rw [alloc_size]; omega
     go_wp2_with (at_builtin; refine append_oneG 25 44 3 40 (.agg #[.int .i64 0,.slice none 0 0,.int .i64 0]) Tryz.underlying25 info_clm rfl (by decide) (by decide) rfl (.tmp 14) (.tmp 18) rfl w.heap.size k _ _ [.int .i64 xk,u1,.int .i64 0] rfl w2.heap.size rfl hown2 rfl (fun j _ => by simp) (fun u hu => by simp only [List.mem_cons,List.not_mem_nil,or_false] at hu; rcases hu with rfl | rfl | rfl; (· rfl); (· exact own_one i1); (· rfl)) (by omega) hsz2 ?_)
     intro v3 w3 ho3 hb3 hg3
     have HO3:=Lib.hid ho3
     have HB4:=Lib.hid ((HB2.out.alloc (o:=(.cells #[.int .i64 xk,u1,.int .i64 0] 44)) HB2.out.size).trans hb3)
     have HIN3:=Lib.hid ((((hI.below hal).apart hown2 (by decide) hg3).snoc (t:=(((⟨xk,xe.map bareN,0⟩ : Cl),u1))) ((own_below i1 hal).kept hg3 (own_apartE (own_below i1 hal) hown2 (by decide)))))
     clear ho3 hb3 hg3 hown2 hal hI i1
     go_wp2
     go_roundg (gk - 1)
     case measure => omega
     case rel =>
         refine ⟨k + 1,_,ts ++ [((⟨xk,xe.map bareN,0⟩ : Cl),u1)],rfl,by go_num,by omega,by omega,?_,?_,HIN3.out,HB4.out⟩
         · rw [List.map_append,HMP.out,take_snoc xs k (by have:=HN.out; omega),List.map_append,List.map_append,← HX.out]
           rfl
         · rw [rowC_append]
           exact HO3.out
   · go_wp2
     go_ret
     have hkn : k = n:=by omega
     subst hkn
     refine ⟨_,rfl,⟨ts,?_,?_,HI.out⟩,HB.out⟩
     · exact HMP.out.trans (by rw [List.take_of_length_le (show xs.length ≤ k by have:=HN.out; omega),List.map_map])
     · have hl : ts.length = k:=by have h:=congrArg List.length HMP.out; rw [List.length_map,List.length_map,List.length_map,List.length_take] at h; have:=HN.out; omega
       rw [hl]
       exact HO.out
theorem bareNode_any (x : Nd) (w : World) : Calls Tryz.prog 88 #[.agg x.cells.toArray] w fun e w' => e = .returned (.agg (bareN x).cells.toArray) ∧ Below w.heap.size w w':=by
 obtain ⟨xo,xn,xm,xi,xp⟩:=x
 have hc : (Nd.cells ⟨xo,xn,xm,xi,xp⟩).toArray = #[.int .i64 xo,.int .i64 xn,.string xm,.string xi,.int .i64 xp]:=rfl
 have hc2 : (Nd.cells (bareN ⟨xo,xn,xm,xi,xp⟩)).toArray = #[.int .i64 xo,.int .i64 xn,.string xm,.string xi,.int .i64 0]:=rfl
 rw [hc,hc2]
 go_enter Tryz.func88,Tryz.ntmps88
 go_wp2
 exact bodyPost_ret (v:=.agg #[.int .i64 xo,.int .i64 xn,.string xm,.string xi,.int .i64 0]) (by simp [results,Tryz.results88,go_sem]) rfl ⟨rfl,below_al2 w _ _⟩
theorem bareLoc_any (x : Vr) (w : World) : Calls Tryz.prog 36 #[.agg (cellsV x).toArray] w fun e w' => e = .returned (.agg (cellsV (bareV x)).toArray) ∧ Below w.heap.size w w':=by
 obtain ⟨nm,n,p⟩:=x
 have hc : (cellsV ⟨nm,n,p⟩).toArray = #[.string nm,.int .i64 n,.int .i64 p]:=rfl
 have hc2 : (cellsV (bareV ⟨nm,n,p⟩)).toArray = #[.string nm,.int .i64 n,.int .i64 0]:=rfl
 rw [hc,hc2]
 go_enter Tryz.func36,Tryz.ntmps36
 go_wp2
 exact bodyPost_ret (v:=.agg #[.string nm,.int .i64 n,.int .i64 0]) (by simp [results,Tryz.results36,go_sem]) rfl ⟨rfl,below_al2 w _ _⟩
theorem bareNds_any (xs : List Nd) (v : Value) (w : World) (hv : NdsC w v xs) (hn : xs.length ≤ 100000) :
  Calls Tryz.prog 87 #[v,.func (.func 88) #[] #[]] w fun e w' => ∃ v',e = .returned v' ∧ w'.ownsRow w.heap.size 46 5 v' (xs.map bareN).length (rowN (xs.map bareN)) ∧ Below w.heap.size w w':=
 eachN_any xs v w hv hn fun w' i _ _ => bareNode_any xs[i] w'
theorem bk_two (w : World) (T T' : Nat) (cs cs' : Array Value) : Bk ((w.alloc (.cells cs T)).alloc (.cells cs' T')) w.heap.size T cs ∧ Bk ((w.alloc (.cells cs T)).alloc (.cells cs' T')) (w.heap.size + 1) T' cs':=by
 refine ⟨(Bk.new w T cs).below ((Below.refl _ _).alloc (Nat.le_refl _) _),?_⟩
 have:=Bk.new (w.alloc (.cells cs T)) T' cs'
 rw [alloc_size] at this
 exact this
theorem size_two (w : World) (o o' : Obj) : ((w.alloc o).alloc o').heap.size = w.heap.size + 1 + 1:=by rw [alloc_size,alloc_size]
theorem bareClaim_any (t : CI) (w : World) (hE : NdsC w t.2 t.1.e) (h1 : t.1.e.length ≤ 100000) : Calls Tryz.prog 40 #[.agg (cellsC t).toArray] w fun e w' => ∃ u1,e = .returned (.agg (cellsC (bareC t.1,u1)).toArray) ∧ w'.ownsRow 0 46 5 u1 (bareC t.1).e.length (rowN (bareC t.1).e) ∧ Below w.heap.size w w':=by
 obtain ⟨⟨k,es,p⟩,v1⟩:=t
 have hc : (cellsC ⟨⟨k,es,p⟩,v1⟩).toArray = #[.int .i64 k,v1,.int .i64 p]:=rfl
 rw [hc]
 simp only [] at hE h1
 have HC:=Lib.hid (fun (W : World) (h : Below w.heap.size w W) => bareNds_any es v1 W (hE.below h) h1)
 obtain ⟨a1,n1,p1,rfl⟩ : ∃ ad n cap,v1 = .slice ad n cap:=by obtain ⟨ad,cap,h,_⟩:=hE; exact ⟨ad,_,cap,h⟩
 have HB:=Lib.hid (bk_two w 44 44 #[.int .i64 k,.slice a1 n1 p1,.int .i64 p] #[.int .i64 0,.slice none 0 0,.int .i64 0])
 have HZ:=Lib.hid (size_two w (.cells #[.int .i64 k,.slice a1 n1 p1,.int .i64 p] 44) (.cells #[.int .i64 0,.slice none 0 0,.int .i64 0] 44))
 clear hc hE h1
 go_enter Tryz.func40,Tryz.ntmps40
 go_wp2_with fail
 refine (HC.out _ (below_al2 w _ _)).mono ?_
 rintro e w2 ⟨u1,rfl,o1,k2⟩
 rw [HZ.out] at o1
 have A2:=HB.out.1.below k2
 have R2:=HB.out.2.below k2
 have K2:=Lib.hid ((below_al2 w _ _).trans (k2.mono (by rw [HZ.out]; omega)))
 obtain ⟨b1,d1,rfl,_⟩:=own_shape o1
 obtain ⟨m,hm⟩ : ∃ m,m = (es.map bareN).length:=⟨_,rfl⟩
 rw [← hm] at o1 ⊢
 have HM:=Lib.hid hm
 clear hm
 have x0 : w2.cell? ⟨w.heap.size,0,none⟩ = some (.int .i64 k):=A2.cell 0
 have x1 : w2.cell? ⟨w.heap.size,1,none⟩ = some (.slice a1 n1 p1):=A2.cell 1
 have x2 : w2.cell? ⟨w.heap.size,2,none⟩ = some (.int .i64 p):=A2.cell 2
 have f1:=A2.fz 1
 have f2:=A2.fz 2
 have lA:=A2.lt
 have e0 : w2.cell? ⟨w.heap.size + 1,0,none⟩ = some (.int .i64 0):=R2.cell 0
 have e1 : w2.cell? ⟨w.heap.size + 1,1,none⟩ = some (.slice none 0 0):=R2.cell 1
 have e2 : w2.cell? ⟨w.heap.size + 1,2,none⟩ = some (.int .i64 0):=R2.cell 2
 have g0:=R2.fz 0
 have g1:=R2.fz 1
 have g2:=R2.fz 2
 have lR:=R2.lt
 have AA:=Lib.hid A2
 have RR:=Lib.hid R2
 have O1:=Lib.hid o1
 clear A2 R2 o1 k2
 go_wp2
 have r1:=(RR.out.other (g:=w.heap.size) (by omega) 1 (.slice b1 m d1)).other (g:=w.heap.size) (by omega) 2 (.int .i64 0)
 refine bodyPost_ret (v:=.agg #[.int .i64 k,.slice b1 m d1,.int .i64 0]) (results_cl rfl _ _ _ _ _ _ rfl (r1.set3 _ _ _)) rfl ⟨_,rfl,?_,?_⟩
 ·have o:=own_mono (ownsRow_setCell_below (a:=⟨w.heap.size,2,none⟩) (ownsRow_setCell_below (a:=⟨w.heap.size,1,none⟩) O1.out (by show w.heap.size < _; omega) (.slice b1 m d1)) (by show w.heap.size < _; omega) (.int .i64 0)) (Nat.le_refl (w.heap.size + 1 + 1))
  have o2:=own_mono (own_set3 o (by omega : w.heap.size + 1 < w.heap.size + 1 + 1) (.int .i64 k) (.slice b1 m d1) (.int .i64 0)) (Nat.zero_le _)
  have e : (bareC ⟨k,es,p⟩).e.length = m:=HM.out.symm
  rw [e]
  exact o2
 ·have b:=(K2.out.setCell (p:=⟨w.heap.size,1,none⟩) (Nat.le_refl _) (.slice b1 m d1)).setCell (p:=⟨w.heap.size,2,none⟩) (Nat.le_refl _) (.int .i64 0)
  exact ((b.setCell (p:=⟨w.heap.size + 1,0,none⟩) (Nat.le_succ _) _).setCell (p:=⟨w.heap.size + 1,1,none⟩) (Nat.le_succ _) _).setCell (p:=⟨w.heap.size + 1,2,none⟩) (Nat.le_succ _) _
theorem results_stk {fn : Func} {p : Tmp} (h : fn.results = #[.cell p 42]) (tmps : Array Value) (w : World) (b : Nat) (u0 u1 u2 u3 u4 u5 u6 u7 u8 : Value) (hp : tmps.getD p undef = .pointer (some ⟨b,0,none⟩)) (hb : Bk w b 42 #[u0,u1,u2,u3,u4,u5,u6,u7,u8]) :
  (results fn tmps).run Tryz.prog w = .ok (.agg #[u0,u1,u2,u3,u4,u5,u6,u7,u8]) w:=by
 have y0:=hb.cell 0
 have y1:=hb.cell 1
 have y2:=hb.cell 2
 have y3:=hb.cell 3
 have y4:=hb.cell 4
 have y5:=hb.cell 5
 have y6:=hb.cell 6
 have y7:=hb.cell 7
 have y8:=hb.cell 8
 have hp2 : tmps[p]?.getD undef = .pointer (some ⟨b,0,none⟩):=by simpa using hp
 simp only [results,h]
 simp [hp2,go_sem,y0,y1,y2,y3,y4,y5,y6,y7,y8]
theorem Bk.setNine {w : World} {b T : Nat} {y0 y1 y2 y3 y4 y5 y6 y7 y8 : Value} (h : Bk w b T #[y0,y1,y2,y3,y4,y5,y6,y7,y8]) (x0 x1 x2 x3 x4 x5 x6 x7 x8 : Value) : Bk (set9 w b x0 x1 x2 x3 x4 x5 x6 x7 x8) b T #[x0,x1,x2,x3,x4,x5,x6,x7,x8]:=by
 have:=((((((((h.set 0 x0).set 1 x1).set 2 x2).set 3 x3).set 4 x4).set 5 x5).set 6 x6).set 7 x7).set 8 x8
 unfold set9
 simpa using this
theorem bareStmt_any (t : SI) (w : World) (hE : NdsC w t.2.1 t.1.e) (hF : NdsC w t.2.2 t.1.f) (h1 : t.1.e.length ≤ 100000) (h2 : t.1.f.length ≤ 100000) : Calls Tryz.prog 86 #[.agg (cellsI t).toArray] w fun e w' => ∃ u1 u2,e = .returned (.agg (cellsI (bareSt t.1,u1,u2)).toArray) ∧ w'.ownsRow 0 46 5 u1 (bareSt t.1).e.length (rowN (bareSt t.1).e) ∧ w'.ownsRow 0 46 5 u2 (bareSt t.1).f.length (rowN (bareSt t.1).f) ∧ Below w.heap.size w w':=by
 obtain ⟨⟨tk,tr,tl,es,fs,tn,tb,tq,tp⟩,v1,v2⟩:=t
 have hc : (cellsI ⟨⟨tk,tr,tl,es,fs,tn,tb,tq,tp⟩,v1,v2⟩).toArray = #[.int .i64 tk,.string tr,.string tl,v1,v2,.bool tn,.int .i64 tb,.int .i64 tq,.int .i64 tp]:=rfl
 rw [hc]
 simp only [] at hE hF h1 h2
 have HE:=Lib.hid (fun (W : World) (h : Below w.heap.size w W) => bareNds_any es v1 W (hE.below h) h1)
 have HF:=Lib.hid (fun (W : World) (h : Below w.heap.size w W) => bareNds_any fs v2 W (hF.below h) h2)
 obtain ⟨a1,n1,p1,rfl⟩ : ∃ ad n cap,v1 = .slice ad n cap:=by obtain ⟨ad,cap,h,_⟩:=hE; exact ⟨ad,_,cap,h⟩
 obtain ⟨a2,n2,p2,rfl⟩ : ∃ ad n cap,v2 = .slice ad n cap:=by obtain ⟨ad,cap,h,_⟩:=hF; exact ⟨ad,_,cap,h⟩
 obtain ⟨W1,hW1⟩ : ∃ W1,W1 = (w.alloc (.cells #[.int .i64 tk,.string tr,.string tl,.slice a1 n1 p1,.slice a2 n2 p2,.bool tn,.int .i64 tb,.int .i64 tq,.int .i64 tp] 42)).alloc (.cells #[.int .i64 0,.string ⟨#[]⟩,.string ⟨#[]⟩,.slice none 0 0,.slice none 0 0,.bool false,.int .i64 0,.int .i64 0,.int .i64 0] 42):=⟨_,rfl⟩
 have hb:=bk_two w 42 42 #[.int .i64 tk,.string tr,.string tl,.slice a1 n1 p1,.slice a2 n2 p2,.bool tn,.int .i64 tb,.int .i64 tq,.int .i64 tp] #[.int .i64 0,.string ⟨#[]⟩,.string ⟨#[]⟩,.slice none 0 0,.slice none 0 0,.bool false,.int .i64 0,.int .i64 0,.int .i64 0]
 have hz : W1.heap.size = w.heap.size + 1 + 1:=by rw [hW1]; exact size_two w _ _
 have hbw : Below w.heap.size w W1:=by rw [hW1]; exact below_al2 w _ _
 rw [← hW1] at hb
 obtain ⟨m1,hm1⟩ : ∃ m,m = (es.map bareN).length:=⟨_,rfl⟩
 obtain ⟨m2,hm2⟩ : ∃ m,m = (fs.map bareN).length:=⟨_,rfl⟩
 have HM1:=Lib.hid hm1
 have HM2:=Lib.hid hm2
 rw [← hm1] at HE
 rw [← hm2] at HF
 have HB:=Lib.hid hb
 have HZ:=Lib.hid hz
 have HW:=Lib.hid hbw
 have hd : Below w.heap.size w W1.drew:=hbw.drew
 have x3 : W1.cell? ⟨w.heap.size,3,none⟩ = some (.slice a1 n1 p1):=hb.1.cell 3
 have x4 : W1.cell? ⟨w.heap.size,4,none⟩ = some (.slice a2 n2 p2):=hb.1.cell 4
 have lA:=hb.1.lt
 have HAD : Hid (∀ w2,Below W1.drew.heap.size W1.drew w2 → Below w.heap.size w w2 ∧ Bk w2 w.heap.size 42 #[.int .i64 tk,.string tr,.string tl,.slice a1 n1 p1,.slice a2 n2 p2,.bool tn,.int .i64 tb,.int .i64 tq,.int .i64 tp] ∧ Bk w2 (w.heap.size + 1) 42 #[.int .i64 0,.string ⟨#[]⟩,.string ⟨#[]⟩,.slice none 0 0,.slice none 0 0,.bool false,.int .i64 0,.int .i64 0,.int .i64 0]):=by
  refine Lib.hid fun w2 h => ?_
  have h' : Below W1.heap.size W1 w2:=((Below.refl W1.heap.size W1).drew).trans h
  exact ⟨hbw.trans (h'.mono hbw.size),hb.1.below h',hb.2.below h'⟩
 clear hc hE hF h1 h2 hm1 hm2 hb hz hbw
 go_enter Tryz.func86,Tryz.ntmps86
 go_upto_region 1 with fail
 rw [← hW1]
 clear hW1
 go_cut [3,4,5,6,7,8,9,10] (fun s3 s4 s5 s6 s7 s8 s9 s10 wx => ∃ b1 d1 b2 d2,Bk wx w.heap.size 42 #[.int .i64 tk,.string tr,.string tl,.slice b1 m1 d1,.slice b2 m2 d2,.bool tn,.int .i64 tb,.int .i64 tq,.int .i64 tp] ∧ Bk wx (w.heap.size + 1) 42 #[.int .i64 0,.string ⟨#[]⟩,.string ⟨#[]⟩,.slice none 0 0,.slice none 0 0,.bool false,.int .i64 0,.int .i64 0,.int .i64 0] ∧
  wx.ownsRow (w.heap.size + 1 + 1) 46 5 (.slice b1 m1 d1) m1 (rowN (es.map bareN)) ∧ wx.ownsRow (w.heap.size + 1 + 1) 46 5 (.slice b2 m2 d2) m2 (rowN (fs.map bareN)) ∧ Below w.heap.size w wx)
 case first =>
  go_region_law (first
   | (go_simp; go_at_call 87; (with_reducible refine Calls.mono (HE.out _ hd) ?_); rintro e w2 ⟨u1,rfl,o1,k2⟩; obtain ⟨hb2,A2,R2⟩:=HAD.out w2 k2; obtain ⟨b1,d1,rfl,_⟩:=own_shape o1; have y4 : w2.cell? ⟨w.heap.size,4,none⟩ = some (.slice a2 n2 p2):=A2.cell 4; have l2:=A2.lt)
   | (go_simp; go_at_call 87; (with_reducible refine Calls.mono (HF.out _ hb2) ?_); rintro e w3 ⟨u2,rfl,o2,k3⟩; obtain ⟨b2,d2,rfl,_⟩:=own_shape o2; have A3:=A2.below k3; have R3:=R2.below k3; have z3 : w3.cell? ⟨w.heap.size,3,none⟩ = some (.slice a1 n1 p1):=A3.cell 3; have z4 : w3.cell? ⟨w.heap.size,4,none⟩ = some (.slice a2 n2 p2):=A3.cell 4; have f3:=A3.fz 3; have f4:=A3.fz 4; have l3:=A3.lt))
  all_goals
   go_wp2_with fail
   go_meet
   have h1:=own_mono (own_below o1 k3) (show w.heap.size + 1 + 1 ≤ W1.drew.heap.size from Nat.le_of_eq HZ.out.symm)
   have h2:=own_mono o2 (show w.heap.size + 1 + 1 ≤ w2.heap.size from R2.lt)
   have hA:=(A3.set 3 (.slice b1 m1 d1)).set 4 (.slice b2 m2 d2)
   refine ⟨b1,d1,b2,d2,by simpa using hA,(R3.other (g:=w.heap.size) (by omega) 3 _).other (g:=w.heap.size) (by omega) 4 _,?_,?_,((hb2.trans (k3.mono hb2.size)).setCell (p:=⟨w.heap.size,3,none⟩) (Nat.le_refl _) _).setCell (p:=⟨w.heap.size,4,none⟩) (Nat.le_refl _) _⟩
   ·exact ownsRow_setCell_below (ownsRow_setCell_below h1 (by show w.heap.size < _; omega) _) (by show w.heap.size < _; omega) _
   ·exact ownsRow_setCell_below (ownsRow_setCell_below h2 (by show w.heap.size < _; omega) _) (by show w.heap.size < _; omega) _
 case rest =>
  obtain ⟨b1,d1,b2,d2,A,R,o1,o2,hbx⟩:=hcut
  have x3 : wc.cell? ⟨w.heap.size,3,none⟩ = some (.slice b1 m1 d1):=A.cell 3
  have x4 : wc.cell? ⟨w.heap.size,4,none⟩ = some (.slice b2 m2 d2):=A.cell 4
  have x0 : wc.cell? ⟨w.heap.size,0,none⟩ = some (.int .i64 tk):=A.cell 0
  have x1 : wc.cell? ⟨w.heap.size,1,none⟩ = some (.string tr):=A.cell 1
  have x2 : wc.cell? ⟨w.heap.size,2,none⟩ = some (.string tl):=A.cell 2
  have x5 : wc.cell? ⟨w.heap.size,5,none⟩ = some (.bool tn):=A.cell 5
  have x6 : wc.cell? ⟨w.heap.size,6,none⟩ = some (.int .i64 tb):=A.cell 6
  have x7 : wc.cell? ⟨w.heap.size,7,none⟩ = some (.int .i64 tq):=A.cell 7
  have x8 : wc.cell? ⟨w.heap.size,8,none⟩ = some (.int .i64 tp):=A.cell 8
  have f8:=A.fz 8
  have lx:=A.lt
  have e0 : wc.cell? ⟨w.heap.size + 1,0,none⟩ = some (.int .i64 0):=R.cell 0
  have e1 : wc.cell? ⟨w.heap.size + 1,1,none⟩ = some (.string ⟨#[]⟩):=R.cell 1
  have e2 : wc.cell? ⟨w.heap.size + 1,2,none⟩ = some (.string ⟨#[]⟩):=R.cell 2
  have e3 : wc.cell? ⟨w.heap.size + 1,3,none⟩ = some (.slice none 0 0):=R.cell 3
  have e4 : wc.cell? ⟨w.heap.size + 1,4,none⟩ = some (.slice none 0 0):=R.cell 4
  have e5 : wc.cell? ⟨w.heap.size + 1,5,none⟩ = some (.bool false):=R.cell 5
  have e6 : wc.cell? ⟨w.heap.size + 1,6,none⟩ = some (.int .i64 0):=R.cell 6
  have e7 : wc.cell? ⟨w.heap.size + 1,7,none⟩ = some (.int .i64 0):=R.cell 7
  have e8 : wc.cell? ⟨w.heap.size + 1,8,none⟩ = some (.int .i64 0):=R.cell 8
  have g0:=R.fz 0
  have g1:=R.fz 1
  have g2:=R.fz 2
  have g3:=R.fz 3
  have g4:=R.fz 4
  have g5:=R.fz 5
  have g6:=R.fz 6
  have g7:=R.fz 7
  have g8:=R.fz 8
  have lR:=R.lt
  have RR:=Lib.hid R
  have O1:=Lib.hid o1
  have O2:=Lib.hid o2
  have HX:=Lib.hid hbx
  clear A R o1 o2 hbx
  go_wp2
  have r1:=RR.out.other (g:=w.heap.size) (by omega) 8 (.int .i64 0)
  refine bodyPost_ret (v:=.agg #[.int .i64 tk,.string tr,.string tl,.slice b1 m1 d1,.slice b2 m2 d2,.bool tn,.int .i64 tb,.int .i64 tq,.int .i64 0]) (results_stk rfl _ _ _ _ _ _ _ _ _ _ _ _ rfl (r1.setNine _ _ _ _ _ _ _ _ _)) rfl ⟨_,_,rfl,?_,?_,?_⟩
  ·have o:=own_mono (own_set9 (ownsRow_setCell_below (a:=⟨w.heap.size,8,none⟩) O1.out (by show w.heap.size < _; omega) (.int .i64 0)) (by omega : w.heap.size + 1 < w.heap.size + 1 + 1) (.int .i64 tk) (.string tr) (.string tl) (.slice b1 m1 d1) (.slice b2 m2 d2) (.bool tn) (.int .i64 tb) (.int .i64 tq) (.int .i64 0)) (Nat.zero_le _)
   have e : (bareSt ⟨tk,tr,tl,es,fs,tn,tb,tq,tp⟩).e.length = m1:=HM1.out.symm
   rw [e]
   exact o
  ·have o:=own_mono (own_set9 (ownsRow_setCell_below (a:=⟨w.heap.size,8,none⟩) O2.out (by show w.heap.size < _; omega) (.int .i64 0)) (by omega : w.heap.size + 1 < w.heap.size + 1 + 1) (.int .i64 tk) (.string tr) (.string tl) (.slice b1 m1 d1) (.slice b2 m2 d2) (.bool tn) (.int .i64 tb) (.int .i64 tq) (.int .i64 0)) (Nat.zero_le _)
   have e : (bareSt ⟨tk,tr,tl,es,fs,tn,tb,tq,tp⟩).f.length = m2:=HM2.out.symm
   rw [e]
   exact o
  ·exact below_set9 (HX.out.setCell (p:=⟨w.heap.size,8,none⟩) (Nat.le_refl _) _) (Nat.le_succ _) _ _ _ _ _ _ _ _ _
theorem bareSts_any (ts : List SI) (v : Value) (w : World) (hv : StsD w v ts) (hn : ts.length ≤ 100000) (hz : SmOK (ts.map (·.1))) :
  Calls Tryz.prog 85 #[v,.func (.func 86) #[] #[]] w fun e w' => ∃ v',e = .returned v' ∧ SOwn w' w.heap.size v' ((ts.map (·.1)).map bareSt) ∧ Below w.heap.size w w':=
 eachS_any ts v w hv hn fun w' i hi hb => by
  obtain ⟨ad,cap,_,_,_,hc⟩:=hv.below hb
  obtain ⟨b,off,_,hl,_,hE,hF⟩:=hc i hi
  have hm:=hz ts[i].1 (List.mem_map_of_mem (List.getElem_mem hi))
  exact bareStmt_any ts[i] w' hE hF hm.2.2.1 hm.2.2.2.1
theorem append_strs {w : World} {ops : Array Oper} {rest : List Oper} {o : Oper} {a : Act} {Q : Exit → Act → World → Prop} (hgd : o.guard = none) (s x : Operand)
  (ho : o.op = .call { callee:=.builtin .append,args:=#[s,x],argTypes:=#[36,36] }) (B : Nat) (v : Value) (rs : List ByteArray) (hs : a.eval s = .slice none 0 0) (hx : a.eval x = v) (hR : StrsD w v rs) (hn : rs.length ≤ 100000) (hB : B ≤ w.heap.size)
  (h : ∀ v' w',w'.ownsRow B 9 1 v' rs.length (rowB rs) → Below B w w' → wpList Tryz.prog ops Q rest (a.put o.dst v') w') : wpList Tryz.prog ops Q (o :: rest) a w:=by
 obtain ⟨i0,hi,hz0,hz1,hz2⟩:=info_parts info_str
 obtain ⟨ad,cap,rfl,⟨hle,hnil⟩,hm,hc⟩:=hR
 cases ad with
 | none =>
  have hc0:=hnil rfl
  subst hc0
  obtain rfl:=List.eq_nil_of_length_eq_zero (by omega : rs.length = 0)
  refine wpList_append_own_none hgd s x 36 ho B 9 i0 1 Tryz.underlying36 hi (.slice none 0 0) 0 [] hs (World.ownsRow_nil _ _ _ _) hx ?_
  exact h _ _ (World.ownsRow_nil _ _ _ _) (Below.refl _ _)
 | some a0 =>
  refine wpList_append_own _ hgd s x 36 ho B 9 i0 _ 1 16 Tryz.underlying36 hi hz0 hz1 hz2 rfl (by decide) (.slice none 0 0) 0 [] hs (World.ownsRow_nil _ _ _ _) a0 rs.length cap (rowB rs) hx (by simp [rowB]) ?_ (fun u hu => by obtain ⟨y,_,rfl⟩:=List.mem_map.1 hu; rfl) (by unfold maxLen; omega) (by omega) hB ?_
  ·intro j u hj
   obtain ⟨hjl,hju⟩:=List.getElem?_eq_some_iff.1 hj
   have hjr : j < rs.length:=by simpa [rowB] using hjl
   obtain ⟨b,off,hab,hb,hat⟩:=hc j hjr
   rw [Option.some.injEq] at hab
   subst hab
   have hat2 : w.cell? ⟨b,off + j * 1,none⟩ = some (.string rs[j]):=hat
   rw [Nat.mul_one] at hat2
   have ea : (⟨b,off,none⟩ : Addr).add j = ⟨b,off + j,none⟩:=by unfold Addr.add; split <;> simp_all
   rw [ea,hat2,← hju]
   simp [rowB]
  ·intro v' w' h1 h2 _
   have h1' : w'.ownsRow B 9 1 v' rs.length (rowB rs):=by simpa using h1
   exact h v' w' h1' ((Below.refl B w).grown h2 hB (fun k hk => by cases hk))
theorem bareThr_any (t : TI) (w : World) (hR : StrsD w t.2.1 t.1.regs) (ss : List SI) (hss : ss.map (·.1) = t.1.body) (hS : StsD w t.2.2 ss) (hz : TmOK t.1) : Calls Tryz.prog 38 #[.agg (cellsT t).toArray] w fun e w' => ∃ u1 u2,e = .returned (.agg (cellsT (bareT t.1,u1,u2)).toArray) ∧ w'.ownsRow 0 9 1 u1 (bareT t.1).regs.length (rowB (bareT t.1).regs) ∧ SOwn w' 0 u2 (bareT t.1).body ∧ Below w.heap.size w w':=by
 obtain ⟨⟨nm,rs,bd,p⟩,v1,v2⟩:=t
 have hc : (cellsT ⟨⟨nm,rs,bd,p⟩,v1,v2⟩).toArray = #[.string nm,v1,v2,.int .i64 p]:=rfl
 rw [hc]
 obtain ⟨z1,z2,z3,z4,z5⟩:=hz
 simp only [] at hR hss hS z1 z2 z3 z4 z5
 subst hss
 have hl : ss.length ≤ 100000:=by simpa using z4
 have HS:=Lib.hid (fun (W : World) (h : Below w.heap.size w W) => bareSts_any ss v2 W (hS.below h) hl z5)
 have HR:=Lib.hid (fun (W : World) (h : Below w.heap.size w W) => StrsD.below hR h)
 obtain ⟨a1,n1,p1,rfl⟩ : ∃ ad n cap,v1 = .slice ad n cap:=by obtain ⟨ad,cap,h⟩:=hR.shape; exact ⟨ad,_,cap,h⟩
 obtain ⟨a2,n2,p2,rfl⟩ : ∃ ad n cap,v2 = .slice ad n cap:=by obtain ⟨ad,cap,h,_⟩:=hS; exact ⟨ad,_,cap,h⟩
 have HB:=Lib.hid (bk_two w 39 39 #[.string nm,.slice a1 n1 p1,.slice a2 n2 p2,.int .i64 p] #[.string ⟨#[]⟩,.slice none 0 0,.slice none 0 0,.int .i64 0])
 have HZ:=Lib.hid (size_two w (.cells #[.string nm,.slice a1 n1 p1,.slice a2 n2 p2,.int .i64 p] 39) (.cells #[.string ⟨#[]⟩,.slice none 0 0,.slice none 0 0,.int .i64 0] 39))
 have HN:=Lib.hid z2
 clear hc hR hS z1 z2 z3 z4 z5 hl
 have hbase : w.heap.size + 1 + 1 ≤ ((w.alloc (.cells #[.string nm,.slice a1 n1 p1,.slice a2 n2 p2,.int .i64 p] 39)).alloc (.cells #[.string ⟨#[]⟩,.slice none 0 0,.slice none 0 0,.int .i64 0] 39)).heap.size:=Nat.le_of_eq HZ.out.symm
 go_enter Tryz.func38,Tryz.ntmps38
 go_wp2_with (at_builtin; refine append_strs rfl _ (.tmp 4) rfl (w.heap.size + 1 + 1) _ rs rfl rfl (HR.out _ (below_al2 w _ _)) HN.out hbase ?_)
 intro u1 w2 o1 k2
 have k2' : Below w.heap.size w w2:=(below_al2 w _ _).trans (k2.mono (by omega))
 rw [← HZ.out] at k2
 have A2:=HB.out.1.below k2
 have R2:=HB.out.2.below k2
 obtain ⟨b1,d1,rfl,_⟩:=own_shape o1
 obtain ⟨m1,hm1⟩ : ∃ m,m = rs.length:=⟨_,rfl⟩
 rw [← hm1] at o1 ⊢
 have HM1:=Lib.hid hm1
 have y1 : w2.cell? ⟨w.heap.size,1,none⟩ = some (.slice a1 n1 p1):=A2.cell 1
 have y2 : w2.cell? ⟨w.heap.size,2,none⟩ = some (.slice a2 n2 p2):=A2.cell 2
 have f1:=A2.fz 1
 have l2:=A2.lt
 have A2h:=Lib.hid A2
 have R2h:=Lib.hid R2
 have O1:=Lib.hid o1
 have K2:=Lib.hid k2'
 clear k2 k2' A2 R2 o1 hm1 hbase
 go_wp2_with fail
 obtain ⟨u,hu⟩ : ∃ u,u = w2.setCell ⟨w.heap.size,1,none⟩ (.slice b1 m1 d1):=⟨_,rfl⟩
 have Ku : Below w.heap.size w u:=by rw [hu]; exact K2.out.setCell (p:=⟨w.heap.size,1,none⟩) (Nat.le_refl _) _
 have Au : Bk u w.heap.size 39 #[.string nm,.slice b1 m1 d1,.slice a2 n2 p2,.int .i64 p]:=by rw [hu]; have:=A2h.out.set 1 (.slice b1 m1 d1); simpa using this
 have Ru:=R2h.out.other (g:=w.heap.size) (by omega) 1 (.slice b1 m1 d1)
 have Ou:=ownsRow_setCell_below (a:=⟨w.heap.size,1,none⟩) O1.out (by show w.heap.size < _; omega) (.slice b1 m1 d1)
 rw [← hu] at Ru Ou
 rw [← hu]
 refine (HS.out u Ku).mono ?_
 rintro e w3 ⟨u2,rfl,o2,k3⟩
 have A3:=Au.below k3
 have R3:=Ru.below k3
 have O3:=own_below Ou k3
 have P3:=o2.mono (show w.heap.size + 1 + 1 ≤ u.heap.size from Ru.lt)
 have K3:=Lib.hid (Ku.trans (k3.mono Ku.size))
 obtain ⟨b2,d2,rfl⟩:=sown_shape o2
 obtain ⟨m2,hm2⟩ : ∃ m,m = (List.map bareSt (List.map (fun x => x.1) ss)).length:=⟨_,rfl⟩
 rw [← hm2] at P3 ⊢
 have x0 : w3.cell? ⟨w.heap.size,0,none⟩ = some (.string nm):=A3.cell 0
 have x1 : w3.cell? ⟨w.heap.size,1,none⟩ = some (.slice b1 m1 d1):=A3.cell 1
 have x2 : w3.cell? ⟨w.heap.size,2,none⟩ = some (.slice a2 n2 p2):=A3.cell 2
 have x3 : w3.cell? ⟨w.heap.size,3,none⟩ = some (.int .i64 p):=A3.cell 3
 have h2:=A3.fz 2
 have h3:=A3.fz 3
 have l3:=A3.lt
 have e0 : w3.cell? ⟨w.heap.size + 1,0,none⟩ = some (.string ⟨#[]⟩):=R3.cell 0
 have e1 : w3.cell? ⟨w.heap.size + 1,1,none⟩ = some (.slice none 0 0):=R3.cell 1
 have e2 : w3.cell? ⟨w.heap.size + 1,2,none⟩ = some (.slice none 0 0):=R3.cell 2
 have e3 : w3.cell? ⟨w.heap.size + 1,3,none⟩ = some (.int .i64 0):=R3.cell 3
 have g0:=R3.fz 0
 have g1:=R3.fz 1
 have g2:=R3.fz 2
 have g3:=R3.fz 3
 have r3:=R3.lt
 have RR:=Lib.hid R3
 have AA:=Lib.hid A3
 have OO:=Lib.hid O3
 have PP:=Lib.hid P3
 have HM2:=Lib.hid hm2
 clear A3 R3 O3 P3 Au Ru Ou Ku o2 k3 hu hm2 y1 y2 f1 l2
 go_wp2
 have hr:=(RR.out.other (g:=w.heap.size) (by omega) 2 (.slice b2 m2 d2)).other (g:=w.heap.size) (by omega) 3 (.int .i64 0)
 refine bodyPost_ret (v:=.agg #[.string nm,.slice b1 m1 d1,.slice b2 m2 d2,.int .i64 0]) (results_th rfl _ _ _ _ _ _ _ rfl (hr.set4 _ _ _ _)) rfl ⟨_,_,rfl,?_,?_,?_⟩
 ·have o:=ownsRow_setCell_below (a:=⟨w.heap.size,3,none⟩) (ownsRow_setCell_below (a:=⟨w.heap.size,2,none⟩) OO.out (by show w.heap.size < _; omega) (.slice b2 m2 d2)) (by show w.heap.size < _; omega) (.int .i64 0)
  have o4:=own_mono (ownsRow_setCell_below (a:=⟨w.heap.size + 1,3,none⟩) (own_set3 o (by omega : w.heap.size + 1 < w.heap.size + 1 + 1) (.string nm) (.slice b1 m1 d1) (.slice b2 m2 d2)) (by show w.heap.size + 1 < _; omega) (.int .i64 0)) (Nat.zero_le _)
  have e : (bareT ⟨nm,rs,List.map (fun x => x.1) ss,p⟩).regs.length = m1:=HM1.out.symm
  rw [e]
  exact o4
 ·have i0:=(PP.out.setBk (o:=2) (u:=.slice b2 m2 d2) AA.out (by decide) (by decide)).setBk (o:=3) (u:=.int .i64 0) (AA.out.set 2 (.slice b2 m2 d2)) (by decide) (by decide)
  have j1:=hr.set 0 (.string nm)
  have j2:=j1.set 1 (.slice b1 m1 d1)
  have j3:=j2.set 2 (.slice b2 m2 d2)
  exact ((((i0.setBk (o:=0) (u:=.string nm) hr (by decide) (by decide)).setBk (o:=1) (u:=.slice b1 m1 d1) j1 (by decide) (by decide)).setBk (o:=2) (u:=.slice b2 m2 d2) j2 (by decide) (by decide)).setBk (o:=3) (u:=.int .i64 0) j3 (by decide) (by decide)).mono (Nat.zero_le _)
 ·exact below_set4' ((K3.out.setCell (p:=⟨w.heap.size,2,none⟩) (Nat.le_refl _) _).setCell (p:=⟨w.heap.size,3,none⟩) (Nat.le_refl _) _) (Nat.le_succ _) _ _ _ _
end Go.Proofs.YtcghccjnadagcaaGreatDoor
