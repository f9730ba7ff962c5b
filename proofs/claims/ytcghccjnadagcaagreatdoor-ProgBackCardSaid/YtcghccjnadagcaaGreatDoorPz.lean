/- Facts. -/
import Derived.Test.YtcghccjnadagcaaGreatDoorPt
import Derived.Test.YtcghccjnadagcaaGreatDoorVm
import Derived.Test.YtcghccjnadagcaaGreatDoorQd
import Derived.Test.YtcghccjnadagcaaGreatDoorL
import Derived.Test.YtcghccjnadagcaaGreatDoorWb
import Derived.Test.YtcghccjnadagcaaGreatDoorQa
set_option maxRecDepth 100000
set_option maxHeartbeats 32000000
namespace Go.Proofs.YtcghccjnadagcaaGreatDoor
open Go.RowKit
def alikeV (p : Bool) (a b : Vr) : Prop:=a.nm = b.nm ∧ a.n = b.n ∧ (p = true → a.pl = b.pl)
def StsAlike (p : Bool) (a b : List St) : Prop:=b.length = a.length ∧ ∀ i,(h1 : i < a.length) → (h2 : i < b.length) → alikeS p a[i] b[i]
def alikeT (p : Bool) (a b : Th) : Prop:=a.nm = b.nm ∧ a.regs = b.regs ∧ StsAlike p a.body b.body ∧ (p = true → a.pl = b.pl) ∧ a.regs.length ≤ 100000 ∧ a.body.length ≤ 100000
def alikeC (p : Bool) (a b : Cl) : Prop:=a.kind = b.kind ∧ NodesAlike p a.e b.e ∧ (p = true → a.pl = b.pl) ∧ a.e.length ≤ 100000
structure AlikeP (p : Bool) (g h : Pg) : Prop where
 mod : g.mod = h.mod
 l : h.locs.length = g.locs.length ∧ g.locs.length ≤ 100000 ∧ ∀ i,(h1 : i < g.locs.length) → (h2 : i < h.locs.length) → alikeV p g.locs[i] h.locs[i]
 t : h.ths.length = g.ths.length ∧ g.ths.length ≤ 100000 ∧ ∀ i,(h1 : i < g.ths.length) → (h2 : i < h.ths.length) → alikeT p g.ths[i] h.ths[i]
 c : h.cls.length = g.cls.length ∧ g.cls.length ≤ 100000 ∧ ∀ i,(h1 : i < g.cls.length) → (h2 : i < h.cls.length) → alikeC p g.cls[i] h.cls[i]
theorem rsame_nodesQ (p : Bool) (a b : List Nd) (u v : Value) (w : World) (hu : NdsC w u a) (hv : NdsC w v b) (hn : a.length ≤ 100000) (h : NodesAlike p a b) :
  Calls Tryz.prog 32 #[u,v,.bool p] w fun e w' => e = .returned (.bool true) ∧ ∃ d,w' = w.drewN d:=by
 cases p with
 | true => exact same_trueQ a b u v w hu.nds hv.nds hn h.1 (fun i hi => h.2 i hi _)
 | false => exact same_falseQ a b u v w hu.nds hv.nds hn h.1 (fun i hi => h.2 i hi _)
theorem rsame_rows (p : Bool) (xs ys : List SI) (u v : Value) (w : World) (hu : StsD w u xs) (hv : StsD w v ys) (hn : (xs.map (·.1)).length ≤ 100000) (h : StsAlike p (xs.map (·.1)) (ys.map (·.1))) :
  Calls Tryz.prog 31 #[u,v,.bool p] w fun e w' => e = .returned (.bool true) ∧ Below w.heap.size w w':=
 rsame_sts p xs ys u v w (stsC_of_D hu) (stsC_of_D hv) (by simpa using hn) (by simpa using h.1) fun i h1 h2 => by
  have:=h.2 i (by simpa using h1) (by simpa using h2)
  simpa using this
theorem rpsame_any (p : Bool) (g h : Pg) (x1 y1 z1 x2 y2 z2 : Value) (w : World) (hg : PgD w x1 y1 z1 g) (hh : PgD w x2 y2 z2 h) (ha : AlikeP p g h) :
  Calls Tryz.prog 11 #[.agg #[.int .i64 g.mod,x1,y1,z1],.agg #[.int .i64 h.mod,x2,y2,z2],.bool p] w fun e w' => e = .returned (.bool true) ∧ Below w.heap.size w w':=by
 obtain ⟨m,ls,hs,cs⟩:=g
 obtain ⟨m2,ls2,hs2,cs2⟩:=h
 obtain ⟨dl,⟨ts,rfl,dt⟩,us,rfl,dc⟩:=hg
 obtain ⟨dl2,⟨ts2,rfl,dt2⟩,us2,rfl,dc2⟩:=hh
 obtain ⟨am,⟨al1,al2,al3⟩,⟨at1,at2,at3⟩,ac1,ac2,ac3⟩:=ha
 simp only [] at dl dt dc dl2 dt2 dc2 am al1 al2 al3 at1 at2 at3 ac1 ac2 ac3 ⊢
 subst am
 rw [List.length_map,List.length_map] at at1 ac1
 rw [List.length_map] at at2 ac2
 have HL:=Lib.hid dl
 have HL2:=Lib.hid dl2
 have HT:=Lib.hid dt
 have HT2:=Lib.hid dt2
 have HC:=Lib.hid dc
 have HC2:=Lib.hid dc2
 have AL:=Lib.hid al3
 have AT:=Lib.hid at3
 have AC:=Lib.hid ac3
 obtain ⟨a1,p1,rfl⟩:=dl.shape
 obtain ⟨a2,p2,rfl⟩:=dt.shape
 obtain ⟨a3,p3,rfl⟩:=dc.shape
 obtain ⟨b1,q1,rfl⟩:=dl2.shape
 obtain ⟨b2,q2,rfl⟩:=dt2.shape
 obtain ⟨b3,q3,rfl⟩:=dc2.shape
 rw [al1] at HL2 ⊢
 rw [at1] at HT2 ⊢
 rw [ac1] at HC2 ⊢
 obtain ⟨n1,hn1⟩ : ∃ n,n = ls.length:=⟨_,rfl⟩
 obtain ⟨n2,hn2⟩ : ∃ n,n = ts.length:=⟨_,rfl⟩
 obtain ⟨n3,hn3⟩ : ∃ n,n = us.length:=⟨_,rfl⟩
 rw [← hn1] at HL HL2 al2 al1 ⊢
 rw [← hn2] at HT HT2 at2 at1 ⊢
 rw [← hn3] at HC HC2 ac2 ac1 ⊢
 have HN1:=Lib.hid hn1
 have HN2:=Lib.hid hn2
 have HN3:=Lib.hid hn3
 have HM1:=Lib.hid al1
 have HM2:=Lib.hid at1
 have HM3:=Lib.hid ac1
 have HB:=Lib.hid (bk_two w 27 27 #[.int .i64 m,.slice a1 n1 p1,.slice a2 n2 p2,.slice a3 n3 p3] #[.int .i64 m,.slice b1 n1 q1,.slice b2 n2 q2,.slice b3 n3 q3])
 have HZ:=Lib.hid (size_two w (.cells #[.int .i64 m,.slice a1 n1 p1,.slice a2 n2 p2,.slice a3 n3 p3] 27) (.cells #[.int .i64 m,.slice b1 n1 q1,.slice b2 n2 q2,.slice b3 n3 q3] 27))
 clear dl dt dc dl2 dt2 dc2 al1 al3 at1 at3 ac1 ac3 hn1 hn2 hn3
 go_enter Tryz.func11,Tryz.ntmps11
 go_wp2_with fail
 obtain ⟨W1,hW1⟩ : ∃ W,W = (w.alloc (.cells #[.int .i64 m,.slice a1 n1 p1,.slice a2 n2 p2,.slice a3 n3 p3] 27)).alloc (.cells #[.int .i64 m,.slice b1 n1 q1,.slice b2 n2 q2,.slice b3 n3 q3] 27):=⟨_,rfl⟩
 have hbw : Below w.heap.size w W1:=by rw [hW1]; exact below_al2 w _ _
 rw [← hW1] at HB HZ ⊢
 have HBW:=Lib.hid hbw
 clear hW1 hbw
 go_loopg [7] n1 (fun fuel i' wr => ∃ k : Nat,i' = .int .i64 k ∧ k ≤ n1 ∧ n1 - k ≤ fuel ∧ Below W1.heap.size W1 wr)
 case atStart => exact ⟨0,rfl,Nat.zero_le _,Nat.le_refl _,Below.refl _ _⟩
 case round =>
  obtain ⟨k,rfl,hk,hfu,bb⟩:=hrel
  have BB:=Lib.hid bb
  have A1:=HB.out.1.below bb
  have B1:=HB.out.2.below bb
  have hww:=HBW.out.trans (bb.mono HBW.out.size)
  have c1 : wr.cell? ⟨w.heap.size,1,none⟩ = some (.slice a1 n1 p1):=A1.cell 1
  have d1 : wr.cell? ⟨w.heap.size + 1,1,none⟩ = some (.slice b1 n1 q1):=B1.cell 1
  have lA:=A1.lt
  have lB:=B1.lt
  clear A1 B1 bb
  by_cases hlt : k < n1
  ·have hk1 : k < ls.length:=by have:=HN1.out; omega
   have hk2 : k < ls2.length:=by have:=HM1.out; omega
   obtain ⟨ad,cap,hv0,_,_,hc⟩:=HL.out
   rw [Value.slice.injEq] at hv0
   obtain ⟨b,off,hab,hbl,x0,x1,x2⟩:=hc k hk1
   obtain ⟨ad2,cap2,hv2,_,_,hc2⟩:=HL2.out
   rw [Value.slice.injEq] at hv2
   obtain ⟨b',off',hab2,hbl2,y0,y1,y2⟩:=hc2 k hk2
   have hal:=AL.out k hk1 hk2
   obtain ⟨⟨nm,vn,vp⟩,hx⟩ : ∃ x,x = ls[k]:=⟨_,rfl⟩
   obtain ⟨⟨nm2,vn2,vp2⟩,hy⟩ : ∃ x,x = ls2[k]:=⟨_,rfl⟩
   rw [← hx] at x0 x1 x2 hal
   rw [← hy] at y0 y1 y2 hal
   obtain ⟨e1,e2,e3⟩:=hal
   simp only [] at x0 x1 x2 y0 y1 y2 e1 e2 e3
   subst e1 e2
   have hA:=hv0.1.trans hab
   have hB:=hv2.1.trans hab2
   subst hA hB
   have u0 : wr.cell? ⟨b,off + k * 3,none⟩ = some (.string nm):=(hww.cell (p:=⟨b,_,none⟩) hbl).trans x0
   have u1 : wr.cell? ⟨b,off + k * 3 + 1,none⟩ = some (.int .i64 vn):=(hww.cell (p:=⟨b,_,none⟩) hbl).trans x1
   have u2 : wr.cell? ⟨b,off + k * 3 + 2,none⟩ = some (.int .i64 vp):=(hww.cell (p:=⟨b,_,none⟩) hbl).trans x2
   have v0 : wr.cell? ⟨b',off' + k * 3,none⟩ = some (.string nm):=(hww.cell (p:=⟨b',_,none⟩) hbl2).trans y0
   have v1 : wr.cell? ⟨b',off' + k * 3 + 1,none⟩ = some (.int .i64 vn):=(hww.cell (p:=⟨b',_,none⟩) hbl2).trans y1
   have v2 : wr.cell? ⟨b',off' + k * 3 + 2,none⟩ = some (.int .i64 vp2):=(hww.cell (p:=⟨b',_,none⟩) hbl2).trans y2
   have l1 : b < wr.heap.size:=Nat.lt_of_lt_of_le hbl hww.size
   have l2 : b' < wr.heap.size:=Nat.lt_of_lt_of_le hbl2 hww.size
   have E3:=Lib.hid e3
   clear hc hc2 x0 x1 x2 y0 y1 y2 hx hy hv0 hv2 hab hab2 e3 hk1 hk2
   cases p with
   | false =>
    go_wp2
    go_quiet (fail)
    go_wp2
    go_roundg (gk - 1)
    case measure => omega
    case rel => exact ⟨k + 1,by go_num,by omega,by omega,BB.out.trans (below_end _)⟩
   | true =>
    have e:=E3.out rfl
    subst e
    go_wp2
    go_quiet (fail)
    go_wp2
    go_roundg (gk - 1)
    case measure => omega
    case rel => exact ⟨k + 1,by go_num,by omega,by omega,BB.out.trans (below_end _)⟩
  ·have hkn : k = n1:=by omega
   subst hkn
   have c2 : wr.cell? ⟨w.heap.size,2,none⟩ = some (.slice a2 n2 p2):=(HB.out.1.below BB.out).cell 2
   go_wp2_with fail
   clear c2 c1 d1
   go_loopg [8] n2 (fun fuel i' wy => ∃ k : Nat,i' = .int .i64 k ∧ k ≤ n2 ∧ n2 - k ≤ fuel ∧ Below W1.heap.size W1 wy)
   case atStart => exact ⟨0,rfl,Nat.zero_le _,Nat.le_refl _,BB.out⟩
   case round =>
    obtain ⟨k,rfl,hk,hfu,bb⟩:=hrel
    have BC:=Lib.hid bb
    have A1:=HB.out.1.below bb
    have B1:=HB.out.2.below bb
    have hww:=HBW.out.trans (bb.mono HBW.out.size)
    have c2 : wr.cell? ⟨w.heap.size,2,none⟩ = some (.slice a2 n2 p2):=A1.cell 2
    have d2 : wr.cell? ⟨w.heap.size + 1,2,none⟩ = some (.slice b2 n2 q2):=B1.cell 2
    have lA:=A1.lt
    have lB:=B1.lt
    clear A1 B1 bb
    by_cases hlt : k < n2
    ·have hk1 : k < ts.length:=by have:=HN2.out; omega
     have hk2 : k < ts2.length:=by have:=HM2.out; omega
     obtain ⟨ad,cap,hv0,_,_,hc⟩:=HT.out
     rw [Value.slice.injEq] at hv0
     obtain ⟨b,off,hab,hbl,⟨x0,x1,x2,x3⟩,hR,ss,hss,hS⟩:=hc k hk1
     obtain ⟨ad2,cap2,hv2,_,_,hc2⟩:=HT2.out
     rw [Value.slice.injEq] at hv2
     obtain ⟨b',off',hab2,hbl2,⟨y0,y1,y2,y3⟩,hR2,ss2,hss2,hS2⟩:=hc2 k hk2
     have hal:=AT.out k (by simpa using hk1) (by simpa using hk2)
     rw [List.getElem_map,List.getElem_map] at hal
     obtain ⟨⟨⟨nm,rs,bd,vp⟩,f1,f2⟩,hx⟩ : ∃ x,x = ts[k]:=⟨_,rfl⟩
     obtain ⟨⟨⟨nm2,rs2,bd2,vp2⟩,g1,g2⟩,hy⟩ : ∃ x,x = ts2[k]:=⟨_,rfl⟩
     rw [← hx] at x0 x1 x2 x3 hR hss hS hal
     rw [← hy] at y0 y1 y2 y3 hR2 hss2 hS2 hal
     obtain ⟨e1,e2,e3,e4,e5,e6⟩:=hal
     simp only [] at x0 x1 x2 x3 y0 y1 y2 y3 e1 e2 e3 e4 e5 e6 hR hR2 hss hss2 hS hS2
     subst e1 e2 hss hss2
     obtain ⟨aR,cR,rfl⟩:=hR.shape
     obtain ⟨aR2,cR2,rfl⟩:=hR2.shape
     obtain ⟨aS,nS,cS,rfl⟩ : ∃ ad n cap,f2 = .slice ad n cap:=by obtain ⟨ad,cap,h,_⟩:=hS; exact ⟨ad,_,cap,h⟩
     obtain ⟨aS2,nS2,cS2,rfl⟩ : ∃ ad n cap,g2 = .slice ad n cap:=by obtain ⟨ad,cap,h,_⟩:=hS2; exact ⟨ad,_,cap,h⟩
     obtain ⟨nr,hnr⟩ : ∃ n,n = rs.length:=⟨_,rfl⟩
     rw [← hnr] at x1 y1 hR hR2 e5
     have HNR:=Lib.hid hnr
     have hA:=hv0.1.trans hab
     have hB:=hv2.1.trans hab2
     subst hA hB
     have u0 : wr.cell? ⟨b,off + k * 4,none⟩ = some (.string nm):=(hww.cell (p:=⟨b,_,none⟩) hbl).trans x0
     have u1 : wr.cell? ⟨b,off + k * 4 + 1,none⟩ = some (.slice aR nr cR):=(hww.cell (p:=⟨b,_,none⟩) hbl).trans x1
     have u2 : wr.cell? ⟨b,off + k * 4 + 2,none⟩ = some (.slice aS nS cS):=(hww.cell (p:=⟨b,_,none⟩) hbl).trans x2
     have u3 : wr.cell? ⟨b,off + k * 4 + 3,none⟩ = some (.int .i64 vp):=(hww.cell (p:=⟨b,_,none⟩) hbl).trans x3
     have v0 : wr.cell? ⟨b',off' + k * 4,none⟩ = some (.string nm):=(hww.cell (p:=⟨b',_,none⟩) hbl2).trans y0
     have v1 : wr.cell? ⟨b',off' + k * 4 + 1,none⟩ = some (.slice aR2 nr cR2):=(hww.cell (p:=⟨b',_,none⟩) hbl2).trans y1
     have v2 : wr.cell? ⟨b',off' + k * 4 + 2,none⟩ = some (.slice aS2 nS2 cS2):=(hww.cell (p:=⟨b',_,none⟩) hbl2).trans y2
     have v3 : wr.cell? ⟨b',off' + k * 4 + 3,none⟩ = some (.int .i64 vp2):=(hww.cell (p:=⟨b',_,none⟩) hbl2).trans y3
     have l1 : b < wr.heap.size:=Nat.lt_of_lt_of_le hbl hww.size
     have l2 : b' < wr.heap.size:=Nat.lt_of_lt_of_le hbl2 hww.size
     have hSM : Hid (∀ W,Below w.heap.size w W → Calls Tryz.prog 31 #[.slice aS nS cS,.slice aS2 nS2 cS2,.bool p] W fun e w' => e = .returned (.bool true) ∧ Below W.heap.size W w'):=Lib.hid fun W h => rsame_rows p ss ss2 _ _ W (hS.below h) (hS2.below h) e6 e3
     have HRR:=Lib.hid (show StrsD w (.slice aR nr cR) rs from hR)
     have HRR2:=Lib.hid (show StrsD w (.slice aR2 nr cR2) rs from hR2)
     have E4:=Lib.hid e4
     have HWW:=Lib.hid hww
     have hb2:=bk_two wr 39 39 #[.string nm,.slice aR nr cR,.slice aS nS cS,.int .i64 vp] #[.string nm,.slice aR2 nr cR2,.slice aS2 nS2 cS2,.int .i64 vp2]
     have hz2:=size_two wr (.cells #[.string nm,.slice aR nr cR,.slice aS nS cS,.int .i64 vp] 39) (.cells #[.string nm,.slice aR2 nr cR2,.slice aS2 nS2 cS2,.int .i64 vp2] 39)
     have HB2:=Lib.hid hb2
     have HZ2:=Lib.hid hz2
     clear hc hc2 x0 x1 x2 x3 y0 y1 y2 y3 hx hy hv0 hv2 hab hab2 e4 hk1 hk2 e3 e6 hR hR2 hS hS2 hnr hww hb2 hz2
     have FIN : Hid (∀ w3,Below ((wr.alloc (.cells #[.string nm,.slice aR nr cR,.slice aS nS cS,.int .i64 vp] 39)).alloc (.cells #[.string nm,.slice aR2 nr cR2,.slice aS2 nS2 cS2,.int .i64 vp2] 39)).heap.size ((wr.alloc (.cells #[.string nm,.slice aR nr cR,.slice aS nS cS,.int .i64 vp] 39)).alloc (.cells #[.string nm,.slice aR2 nr cR2,.slice aS2 nS2 cS2,.int .i64 vp2] 39)) w3 → Below wr.heap.size wr w3 ∧ (w3.cell? ⟨wr.heap.size,1,none⟩ = some (.slice aR nr cR) ∧ w3.cell? ⟨wr.heap.size,3,none⟩ = some (.int .i64 vp) ∧ wr.heap.size < w3.heap.size) ∧ (w3.cell? ⟨wr.heap.size + 1,1,none⟩ = some (.slice aR2 nr cR2) ∧ w3.cell? ⟨wr.heap.size + 1,3,none⟩ = some (.int .i64 vp2) ∧ wr.heap.size + 1 < w3.heap.size)):=Lib.hid fun w3 h3 => by
      have a:=HB2.out.1.below h3
      have b:=HB2.out.2.below h3
      exact ⟨(below_al2 wr _ _).trans (h3.mono (by rw [HZ2.out]; omega)),⟨a.cell 1,a.cell 3,a.lt⟩,⟨b.cell 1,b.cell 3,b.lt⟩⟩
     go_wp2_with fail
     refine (hSM.out _ (HWW.out.trans ((below_al2 wr _ _).mono HWW.out.size))).mono ?_
     rintro e w3 ⟨rfl,k3⟩
     obtain ⟨h3,⟨s1,s3,s9⟩,t1,t3,t9⟩:=FIN.out w3 k3
     have H3:=Lib.hid (BC.out.trans (h3.mono BC.out.size))
     have H4:=Lib.hid (HWW.out.trans (h3.mono HWW.out.size))
     clear k3 h3 u0 u1 u2 u3 v0 v1 v2 v3
     have hlp : ∀ j,j < nr → ∃ s B O B' O',aR = some ⟨B,O,none⟩ ∧ aR2 = some ⟨B',O',none⟩ ∧ B < w.heap.size ∧ B' < w.heap.size ∧ w.cell? ⟨B,O + j,none⟩ = some (.string s) ∧ w.cell? ⟨B',O' + j,none⟩ = some (.string s):=by
      intro j hj
      have hj1 : j < rs.length:=by have:=HNR.out; omega
      obtain ⟨ad,cap,h0,_,_,hc⟩:=HRR.out
      rw [Value.slice.injEq] at h0
      obtain ⟨B,O,e,hl,hat⟩:=hc j hj1
      obtain ⟨ad',cap',h0',_,_,hc'⟩:=HRR2.out
      rw [Value.slice.injEq] at h0'
      obtain ⟨B',O',e',hl',hat'⟩:=hc' j hj1
      have g1 : w.cell? ⟨B,O + j * 1,none⟩ = some (.string rs[j]):=hat
      have g2 : w.cell? ⟨B',O' + j * 1,none⟩ = some (.string rs[j]):=hat'
      rw [Nat.mul_one] at g1 g2
      exact ⟨rs[j],B,O,B',O',h0.1.trans e,h0'.1.trans e',hl,hl',g1,g2⟩
     have HLP:=Lib.hid hlp
     clear hlp
     have E5 : p = true → vp = vp2:=E4.out
     have EP : Hid (p = true → vp = vp2):=Lib.hid E5
     clear E5
     obtain ⟨wO,hwO⟩ : ∃ x,x = wr:=⟨_,rfl⟩
     subst hwO
     cases p with
     | false =>
      go_wp2_with fail
      obtain ⟨g0,hg0⟩ : ∃ g,g = gk:=⟨_,rfl⟩
      go_loopg [11] nr (fun fuel i' wz => ∃ j : Nat,i' = .int .i64 j ∧ j ≤ nr ∧ nr - j ≤ fuel ∧ Below w3.heap.size w3 wz)
      case atStart => exact ⟨0,rfl,Nat.zero_le _,Nat.le_refl _,Below.refl _ _⟩
      case round =>
       obtain ⟨j,rfl,hj,hfj,bz⟩:=hrel
       have BZ:=Lib.hid bz
       have z1 : wr.cell? ⟨wO.heap.size,1,none⟩ = some (.slice aR nr cR):=(bz.cell (p:=⟨_,_,none⟩) s9).trans s1
       have z2 : wr.cell? ⟨wO.heap.size + 1,1,none⟩ = some (.slice aR2 nr cR2):=(bz.cell (p:=⟨_,_,none⟩) t9).trans t1
       have m1:=Nat.lt_of_lt_of_le s9 bz.size
       have m2:=Nat.lt_of_lt_of_le t9 bz.size
       have hwz:=H4.out.trans (bz.mono H4.out.size)
       clear bz
       by_cases hjl : j < nr
       ·obtain ⟨sj,B,O,B',O',hA,hB,hbl,hbl2,g1,g2⟩:=HLP.out j hjl
        subst hA hB
        have i1 : wr.cell? ⟨B,O + j,none⟩ = some (.string sj):=(hwz.cell (p:=⟨_,_,none⟩) hbl).trans g1
        have i2 : wr.cell? ⟨B',O' + j,none⟩ = some (.string sj):=(hwz.cell (p:=⟨_,_,none⟩) hbl2).trans g2
        have i3:=Nat.lt_of_lt_of_le hbl hwz.size
        have i4:=Nat.lt_of_lt_of_le hbl2 hwz.size
        clear g1 g2 hwz
        go_wp2
        go_quiet (fail)
        go_wp2
        go_roundg (gk - 1)
        case measure => omega
        case rel => exact ⟨j + 1,by go_num,by omega,by omega,BZ.out.trans (below_end _)⟩
       ·go_wp2
        go_roundg (g0 - 1)
        case measure => omega
        case rel => exact ⟨k + 1,by go_num,by omega,by omega,H3.out.trans (BZ.out.mono H3.out.size)⟩
     | true =>
      have e:=EP.out rfl
      subst e
      go_wp2_with fail
      obtain ⟨g0,hg0⟩ : ∃ g,g = gk:=⟨_,rfl⟩
      go_loopg [11] nr (fun fuel i' wz => ∃ j : Nat,i' = .int .i64 j ∧ j ≤ nr ∧ nr - j ≤ fuel ∧ Below w3.heap.size w3 wz)
      case atStart => exact ⟨0,rfl,Nat.zero_le _,Nat.le_refl _,Below.refl _ _⟩
      case round =>
       obtain ⟨j,rfl,hj,hfj,bz⟩:=hrel
       have BZ:=Lib.hid bz
       have z1 : wr.cell? ⟨wO.heap.size,1,none⟩ = some (.slice aR nr cR):=(bz.cell (p:=⟨_,_,none⟩) s9).trans s1
       have z2 : wr.cell? ⟨wO.heap.size + 1,1,none⟩ = some (.slice aR2 nr cR2):=(bz.cell (p:=⟨_,_,none⟩) t9).trans t1
       have m1:=Nat.lt_of_lt_of_le s9 bz.size
       have m2:=Nat.lt_of_lt_of_le t9 bz.size
       have hwz:=H4.out.trans (bz.mono H4.out.size)
       clear bz
       by_cases hjl : j < nr
       ·obtain ⟨sj,B,O,B',O',hA,hB,hbl,hbl2,g1,g2⟩:=HLP.out j hjl
        subst hA hB
        have i1 : wr.cell? ⟨B,O + j,none⟩ = some (.string sj):=(hwz.cell (p:=⟨_,_,none⟩) hbl).trans g1
        have i2 : wr.cell? ⟨B',O' + j,none⟩ = some (.string sj):=(hwz.cell (p:=⟨_,_,none⟩) hbl2).trans g2
        have i3:=Nat.lt_of_lt_of_le hbl hwz.size
        have i4:=Nat.lt_of_lt_of_le hbl2 hwz.size
        clear g1 g2 hwz
        go_wp2
        go_quiet (fail)
        go_wp2
        go_roundg (gk - 1)
        case measure => omega
        case rel => exact ⟨j + 1,by go_num,by omega,by omega,BZ.out.trans (below_end _)⟩
       ·go_wp2
        go_roundg (g0 - 1)
        case measure => omega
        case rel => exact ⟨k + 1,by go_num,by omega,by omega,H3.out.trans (BZ.out.mono H3.out.size)⟩
    ·have hkn : k = n2:=by omega
     subst hkn
     have c3 : wr.cell? ⟨w.heap.size,3,none⟩ = some (.slice a3 n3 p3):=(HB.out.1.below BC.out).cell 3
     go_wp2_with fail
     clear c3 c2 d2
     go_loopg [12] n3 (fun fuel i' wy => ∃ k : Nat,i' = .int .i64 k ∧ k ≤ n3 ∧ n3 - k ≤ fuel ∧ Below W1.heap.size W1 wy)
     case atStart => exact ⟨0,rfl,Nat.zero_le _,Nat.le_refl _,BC.out⟩
     case round =>
      obtain ⟨k,rfl,hk,hfu,bb⟩:=hrel
      have BD:=Lib.hid bb
      have A1:=HB.out.1.below bb
      have B1:=HB.out.2.below bb
      have hww:=HBW.out.trans (bb.mono HBW.out.size)
      have c3 : wr.cell? ⟨w.heap.size,3,none⟩ = some (.slice a3 n3 p3):=A1.cell 3
      have d3 : wr.cell? ⟨w.heap.size + 1,3,none⟩ = some (.slice b3 n3 q3):=B1.cell 3
      have lA:=A1.lt
      have lB:=B1.lt
      clear A1 B1 bb
      by_cases hlt : k < n3
      ·have hk1 : k < us.length:=by have:=HN3.out; omega
       have hk2 : k < us2.length:=by have:=HM3.out; omega
       obtain ⟨ad,cap,hv0,_,_,hc⟩:=HC.out
       rw [Value.slice.injEq] at hv0
       obtain ⟨b,off,hab,hbl,⟨x0,x1,x2⟩,hE⟩:=hc k hk1
       obtain ⟨ad2,cap2,hv2,_,_,hc2⟩:=HC2.out
       rw [Value.slice.injEq] at hv2
       obtain ⟨b',off',hab2,hbl2,⟨y0,y1,y2⟩,hE2⟩:=hc2 k hk2
       have hal:=AC.out k (by simpa using hk1) (by simpa using hk2)
       rw [List.getElem_map,List.getElem_map] at hal
       obtain ⟨⟨⟨kd,es,vp⟩,f1⟩,hx⟩ : ∃ x,x = us[k]:=⟨_,rfl⟩
       obtain ⟨⟨⟨kd2,es2,vp2⟩,g1⟩,hy⟩ : ∃ x,x = us2[k]:=⟨_,rfl⟩
       rw [← hx] at x0 x1 x2 hE hal
       rw [← hy] at y0 y1 y2 hE2 hal
       obtain ⟨e1,e3,e4,e5⟩:=hal
       simp only [] at x0 x1 x2 y0 y1 y2 e1 e3 e4 e5 hE hE2
       subst e1
       obtain ⟨aE,nE,cE,rfl⟩ : ∃ ad n cap,f1 = .slice ad n cap:=by obtain ⟨ad,cap,h,_⟩:=hE; exact ⟨ad,_,cap,h⟩
       obtain ⟨aE2,nE2,cE2,rfl⟩ : ∃ ad n cap,g1 = .slice ad n cap:=by obtain ⟨ad,cap,h,_⟩:=hE2; exact ⟨ad,_,cap,h⟩
       have hA:=hv0.1.trans hab
       have hB:=hv2.1.trans hab2
       subst hA hB
       have u0 : wr.cell? ⟨b,off + k * 3,none⟩ = some (.int .i64 kd):=(hww.cell (p:=⟨b,_,none⟩) hbl).trans x0
       have u1 : wr.cell? ⟨b,off + k * 3 + 1,none⟩ = some (.slice aE nE cE):=(hww.cell (p:=⟨b,_,none⟩) hbl).trans x1
       have u2 : wr.cell? ⟨b,off + k * 3 + 2,none⟩ = some (.int .i64 vp):=(hww.cell (p:=⟨b,_,none⟩) hbl).trans x2
       have v0 : wr.cell? ⟨b',off' + k * 3,none⟩ = some (.int .i64 kd):=(hww.cell (p:=⟨b',_,none⟩) hbl2).trans y0
       have v1 : wr.cell? ⟨b',off' + k * 3 + 1,none⟩ = some (.slice aE2 nE2 cE2):=(hww.cell (p:=⟨b',_,none⟩) hbl2).trans y1
       have v2 : wr.cell? ⟨b',off' + k * 3 + 2,none⟩ = some (.int .i64 vp2):=(hww.cell (p:=⟨b',_,none⟩) hbl2).trans y2
       have l1 : b < wr.heap.size:=Nat.lt_of_lt_of_le hbl hww.size
       have l2 : b' < wr.heap.size:=Nat.lt_of_lt_of_le hbl2 hww.size
       have hSM : Hid (∀ n,Calls Tryz.prog 32 #[.slice aE nE cE,.slice aE2 nE2 cE2,.bool p] (wr.drewN n) fun e w' => e = .returned (.bool true) ∧ ∃ d,w' = (wr.drewN n).drewN d):=Lib.hid fun n => rsame_nodesQ p es es2 _ _ _ (hE.below (hww.trans ((below_end n).mono hww.size))) (hE2.below (hww.trans ((below_end n).mono hww.size))) e5 e3
       have EP:=Lib.hid e4
       clear hc hc2 x0 x1 x2 y0 y1 y2 hx hy hv0 hv2 hab hab2 e4 hk1 hk2 e3 hE hE2 hww
       cases p with
       | false =>
        go_wp2
        go_quiet ((go_at_call 32; exact Calls.quiet_of (hSM.out _)))
        go_wp2
        go_roundg (gk - 1)
        case measure => omega
        case rel => exact ⟨k + 1,by go_num,by omega,by omega,BD.out.trans (below_end _)⟩
       | true =>
        have e:=EP.out rfl
        subst e
        go_wp2
        go_quiet ((go_at_call 32; exact Calls.quiet_of (hSM.out _)))
        go_wp2
        go_roundg (gk - 1)
        case measure => omega
        case rel => exact ⟨k + 1,by go_num,by omega,by omega,BD.out.trans (below_end _)⟩
      ·have hkn : k = n3:=by omega
       subst hkn
       go_wp2
       go_ret
       exact ⟨rfl,HBW.out.trans (BD.out.mono HBW.out.size)⟩
theorem map_at {α β : Type} {f : α → β} {a b : List α} (h : a.map f = b.map f) : b.length = a.length ∧ ∀ i,(h1 : i < a.length) → (h2 : i < b.length) → f a[i] = f b[i]:=by
 have hl : b.length = a.length:=by simpa using (congrArg List.length h).symm
 refine ⟨hl,fun i h1 h2 => ?_⟩
 have e1 : (a.map f)[i]? = (b.map f)[i]?:=by rw [h]
 rw [List.getElem?_map,List.getElem?_map,List.getElem?_eq_getElem h1,List.getElem?_eq_getElem h2] at e1
 exact Option.some.inj e1
theorem nodes_alike {a b : List Nd} (h : a.map Nd.er = b.map Nd.er) : NodesAlike false a b:=by
 obtain ⟨h1,h2⟩:=map_at h
 refine ⟨h1,fun i i1 i2 => ?_⟩
 have:=h2 i i1 i2
 simp only [Nd.er,Nd.mk.injEq] at this
 obtain ⟨g1,g2,g3,g4,_⟩:=this
 exact ⟨g1,g2,g3,g4,fun h => by cases h⟩
structure BdP (g : Pg) : Prop where
 l : g.locs.length ≤ 100000
 t : g.ths.length ≤ 100000
 c : g.cls.length ≤ 100000
 tt : ∀ x ∈ g.ths,x.regs.length ≤ 100000 ∧ x.body.length ≤ 100000 ∧ ∀ s ∈ x.body,s.e.length ≤ 100000 ∧ s.f.length ≤ 100000
 cc : ∀ x ∈ g.cls,x.e.length ≤ 100000
theorem alike_er {g h : Pg} (hb : BdP g) (he : g.er = h.er) : AlikeP false g h:=by
 simp only [Pg.er,Pg.mk.injEq] at he
 obtain ⟨h0,h1,h2,h3⟩:=he
 obtain ⟨l1,l2⟩:=map_at h1
 obtain ⟨t1,t2⟩:=map_at h2
 obtain ⟨c1,c2⟩:=map_at h3
 refine ⟨h0,⟨l1,hb.l,fun i i1 i2 => ?_⟩,⟨t1,hb.t,fun i i1 i2 => ?_⟩,⟨c1,hb.c,fun i i1 i2 => ?_⟩⟩
 ·have:=l2 i i1 i2
  simp only [Vr.er,Vr.mk.injEq] at this
  exact ⟨this.1,this.2.1,fun h => by cases h⟩
 ·have:=t2 i i1 i2
  simp only [Th.er,Th.mk.injEq] at this
  obtain ⟨b1,b2,b3⟩:=hb.tt _ (List.getElem_mem i1)
  obtain ⟨s1,s2⟩:=map_at this.2.2.1
  refine ⟨this.1,this.2.1,⟨s1,fun j j1 j2 => ?_⟩,(fun h => by cases h),b1,b2⟩
  obtain ⟨d1,d2⟩:=b3 _ (List.getElem_mem j1)
  obtain ⟨k1,k2,k3,k4,k5,k6,k7,k8⟩:=St.ext' (s2 j j1 j2)
  exact ⟨k1,k2,k3,nodes_alike k4,nodes_alike k5,k6,k7,k8,(fun h => by cases h),d1,d2⟩
 ·have:=c2 i i1 i2
  simp only [Cl.er,Cl.mk.injEq] at this
  exact ⟨this.1,nodes_alike this.2.1,(fun h => by cases h),hb.cc _ (List.getElem_mem i1)⟩
theorem seq_inv {α : Type} (l : List Tok) (bg : List UInt8 → Bool) (h0 : bg [] = false) (stp : Nat → Pq → α → Pq × α) (P : Nat → α → Prop) (hA : ∀ i q a,Adv l.length q (stp i q a).1)
  (hs : ∀ i q a n,q.n ≤ l.length → P n a → P (n + 1) (stp i q a).2) : ∀ f q a n,q.n ≤ l.length → P n a → ∃ m,m ≤ n + f ∧ P m (seqP l bg stp f q a).2:=by
 intro f
 induction f with
 | zero => intro q a n _ h; exact ⟨n,Nat.le_refl _,h⟩
 | succ f ih =>
  intro q a n hq h
  unfold seqP
  split
  ·rename_i hb
   have hlt : q.n < l.length:=by
    by_cases hlt : q.n < l.length
    ·exact hlt
    ·rw [tokO_over l q.n hlt] at hb
     have h1 : bg [] = true:=hb
     rw [h0] at h1; cases h1
   obtain ⟨m,h1,h2⟩:=ih _ _ (n + 1) (hA q.n ⟨q.n + 1,q.k,q.a⟩ a hlt).2 (hs q.n ⟨q.n + 1,q.k,q.a⟩ a n hlt h)
   exact ⟨m,by omega,h2⟩
  ·exact ⟨n,by omega,h⟩
theorem gexr_few (l : List Tok) (q : Pq) : (gexrP l q).1.length ≤ 200:=by
 unfold gexrP parseR
 generalize (run l (7 * l.length + 6) (.lv 0) 0 q.n).getD (.err 0 0) = A
 cases A with
 | err k a => exact Nat.zero_le _
 | ok e j =>
  rw [finR_ok]
  by_cases h1 : 30 < e.depth
  ·rw [if_pos h1]; exact Nat.zero_le _
  ·rw [if_neg h1]
   by_cases h2 : 200 < e.size
   ·rw [if_pos h2]; exact Nat.zero_le _
   ·rw [if_neg h2]
    show (e.flat.map clm).length ≤ 200
    rw [List.length_map,Ex.flat_length]; omega
theorem gst_few (l : List Tok) (hok : TokOK l) (q : Pq) (hq : q.n ≤ l.length) : (gstP l q).1.length ≤ 200 ∧ SmOK (gstP l q).1:=by
 have hp : ∀ i,(tokO l i).2.2.2 + (tokO l i).2.1.length ≤ 200000:=fun i => by have:=hok i; omega
 unfold gstP
 cases hR : stmtR l q.n with
 | err k a => exact ⟨Nat.zero_le _,fun x hx => by cases hx⟩
 | ok xs j =>
  obtain ⟨⟨h1,t,h2,h3,h4⟩,_⟩:=stmt_good l hp xs j q.n hq hR
  exact ⟨h1,smOK_of xs h3⟩
theorem greg_few (l : List Tok) (q : Pq) : (gregP l q).1.length ≤ l.length + 2:=by
 unfold gregP
 split
 ·rename_i h
  have h2:=adv_nm l ⟨q.n + 1,q.k,q.a⟩ (txB_lt h (by simp))
  obtain ⟨m,h1,h3⟩:=seq_inv l comB rfl (gregS l) (fun n a => a.length ≤ n) (fun i q a => adv_nm l q) (fun i q a n _ h => by
   show (a ++ [(gnmP l q).1]).length ≤ n + 1
   rw [List.length_append]; simp only [List.length_cons,List.length_nil]; omega) (l.length + 1) (gnmP l ⟨q.n + 1,q.k,q.a⟩).2 [(gnmP l ⟨q.n + 1,q.k,q.a⟩).1] 1 h2.2 (by simp)
  show (seqP l comB (gregS l) (l.length + 1) _ _).2.length ≤ _
  omega
 ·exact Nat.zero_le _
def TB (x : Th) : Prop:=x.regs.length ≤ 100000 ∧ x.body.length ≤ 100000 ∧ ∀ s ∈ x.body,s.e.length ≤ 100000 ∧ s.f.length ≤ 100000
theorem gth_few (l : List Tok) (hok : TokOK l) (hl : l.length ≤ 90000) (q : Pq) (hq : q.n ≤ l.length) (pl : Int) : TB (gthP l q pl).1:=by
 have h1:=((adv_nm l q).trans (adv_ex l _ [123] (by simp))) hq
 have h2:=adv_reg l _ h1.2
 have h3:=greg_few l (gexP l (gnmP l q).2 [123])
 have h4:=gst_few l hok _ h2.2
 unfold gthP
 exact ⟨by show (gregP l _).1.length ≤ _; omega,by show (gstP l _).1.length ≤ _; omega,fun s hs => ⟨(h4.2 s hs).2.2.1,(h4.2 s hs).2.2.2.1⟩⟩
theorem gpr_few (l : List Tok) (hok : TokOK l) (hl : l.length ≤ 90000) : BdP (gprP l ⟨0,0,0⟩).1:=by
 have h1:=((adv_ex l ⟨0,0,0⟩ [109,111,100] (by simp)).trans ((adv_nu l _).trans (adv_ex l _ [59] (by simp)))) (Nat.zero_le _)
 obtain ⟨m1,a1,b1⟩:=seq_inv l locB rfl (gLocS l) (fun n g => g.locs.length ≤ n ∧ g.ths = [] ∧ g.cls = []) (fun i q a => adv_loc l q (tokO l i).2.2.2) (fun i q a n _ h => by
  refine ⟨?_,h.2⟩
  show (a.locs ++ [_]).length ≤ n + 1
  rw [List.length_append]; simp only [List.length_cons,List.length_nil]; omega) (l.length + 1) (gexP l (gnuP l (gexP l ⟨0,0,0⟩ [109,111,100])).2 [59]) ⟨(gnuP l (gexP l ⟨0,0,0⟩ [109,111,100])).1,[],[],[]⟩ 0 h1.2 ⟨Nat.le_refl _,rfl,rfl⟩
 have h2:=adv_seq l locB rfl (gLocS l) (fun i q a => adv_loc l q (tokO l i).2.2.2) (l.length + 1) (gexP l (gnuP l (gexP l ⟨0,0,0⟩ [109,111,100])).2 [59]) ⟨(gnuP l (gexP l ⟨0,0,0⟩ [109,111,100])).1,[],[],[]⟩ h1.2
 unfold gprP
 simp only []
 generalize seqP l locB (gLocS l) (l.length + 1) (gexP l (gnuP l (gexP l ⟨0,0,0⟩ [109,111,100])).2 [59]) ⟨(gnuP l (gexP l ⟨0,0,0⟩ [109,111,100])).1,[],[],[]⟩ = A at b1 h2 ⊢
 obtain ⟨m2,a2,b2⟩:=seq_inv l thrB rfl (gThS l) (fun n g => g.locs.length ≤ m1 ∧ g.ths.length ≤ n ∧ (∀ x ∈ g.ths,TB x) ∧ g.cls = []) (fun i q a => adv_th l hok q (tokO l i).2.2.2) (fun i q a n hq h => by
  refine ⟨h.1,?_,?_,h.2.2.2⟩
  ·show (a.ths ++ [_]).length ≤ n + 1
   have:=h.2.1
   rw [List.length_append]; simp only [List.length_cons,List.length_nil]; omega
  ·intro x hx
   rcases List.mem_append.1 hx with hx | hx
   ·exact h.2.2.1 x hx
   ·rw [List.mem_singleton.1 hx]; exact gth_few l hok hl q hq _) (l.length + 1) A.1 A.2 0 h2.2 ⟨b1.1,by rw [b1.2.1]; exact Nat.le_refl _,(by rw [b1.2.1]; intro x hx; cases hx),b1.2.2⟩
 have h3:=adv_seq l thrB rfl (gThS l) (fun i q a => adv_th l hok q (tokO l i).2.2.2) (l.length + 1) A.1 A.2 h2.2
 generalize seqP l thrB (gThS l) (l.length + 1) A.1 A.2 = B at b2 h3 ⊢
 obtain ⟨m3,a3,b3⟩:=seq_inv l clB (by decide) (gClS l) (fun n g => g.locs.length ≤ m1 ∧ g.ths.length ≤ m2 ∧ (∀ x ∈ g.ths,TB x) ∧ g.cls.length ≤ n ∧ ∀ x ∈ g.cls,x.e.length ≤ 100000) (fun i q a => adv_cl l hok q (kdW (tokO l i).2.1) (tokO l i).2.2.2) (fun i q a n hq h => by
  refine ⟨h.1,h.2.1,h.2.2.1,?_,?_⟩
  ·show (a.cls ++ [_]).length ≤ n + 1
   have:=h.2.2.2.1
   rw [List.length_append]; simp only [List.length_cons,List.length_nil]; omega
  ·intro x hx
   rcases List.mem_append.1 hx with hx | hx
   ·exact h.2.2.2.2 x hx
   ·rw [List.mem_singleton.1 hx]
    have:=gexr_few l q
    show (gexrP l q).1.length ≤ _
    omega) (l.length + 1) B.1 B.2 0 h3.2 ⟨b2.1,b2.2.1,b2.2.2.1,by rw [b2.2.2.2]; exact Nat.le_refl _,by rw [b2.2.2.2]; intro x hx; cases hx⟩
 exact ⟨by omega,by omega,by omega,b3.2.2.1,b3.2.2.2.2⟩
theorem parse_few (s : List UInt8) (h : s.length ≤ 20000) : BdP (parseG s).1:=by
 unfold parseG
 split
 ·exact ⟨Nat.zero_le _,Nat.zero_le _,Nat.zero_le _,(fun x hx => by cases hx),fun x hx => by cases hx⟩
 ·split
  ·exact ⟨Nat.zero_le _,Nat.zero_le _,Nat.zero_le _,(fun x hx => by cases hx),fun x hx => by cases hx⟩
  ·exact gpr_few _ (scan_tokOK s h) (by have:=scan_few s h; omega)
theorem parse_outI {N : Nat} {l : List Tok} (h : PlOK N l) (i : Nat) (hi : i ≤ l.length) : (∀ k a,parseR l i = .err k a → k ≠ 0 ∧ a ≤ N) ∧ ∀ e j,parseR l i = .ok e j → Fit e ∧ e.depth ≤ 30 ∧ e.size ≤ 200:=by
 obtain ⟨r,hr,_⟩:=run_total l (7 * l.length + 6) (.lv 0) 0 i hi (fun n h => by cases h; omega) (fun n e h => by cases h) (by simp only [need]; omega)
 have hg:=run_good h _ _ _ _ _ (fun n e hh => by cases hh) hr
 rw [parse_of l i _ r hi hr]
 cases r with
 | err k a => exact ⟨fun k' a' h => by cases h; exact hg,fun e j h => by cases h⟩
 | ok e j =>
  rw [finR_ok]
  by_cases h1 : 30 < e.depth
  ·rw [if_pos h1]; exact ⟨fun k' a' hh => by cases hh; exact ⟨by decide,plc_good h i⟩,fun e j h => by cases h⟩
  ·rw [if_neg h1]
   by_cases h2 : 200 < e.size
   ·rw [if_pos h2]; exact ⟨fun k' a' hh => by cases hh; exact ⟨by decide,plc_good h i⟩,fun e j h => by cases h⟩
   ·rw [if_neg h2]
    exact ⟨fun k' a' hh => (by cases hh),fun e' j' hh => (by cases hh; exact ⟨hg,by omega,by omega⟩)⟩
theorem clm_ar (x : Nd) : ar (clm x).op = ar x.op:=by
 unfold clm
 by_cases h : x.op = 2
 ·rw [if_pos h,h]; rfl
 ·rw [if_neg h]
theorem clm_big (x : Nd) (h : ar x.op ≠ 0) : clm x = x:=by
 unfold clm
 rw [if_neg (fun h3 => h (by rw [h3]; rfl))]
theorem clm_ok (x : Nd) (h : okN x = true) : okN (clm x) = true ∧ (clm x).op ≠ 2:=by
 unfold clm
 by_cases h3 : x.op = 2
 ·rw [if_pos h3]
  refine ⟨?_,by show (3 : Int) ≠ 2; decide⟩
  unfold okN at h ⊢
  simp only [h3] at h
  simpa using h
 ·rw [if_neg h3]; exact ⟨h,h3⟩
def Ex.clm : Ex → Ex
 | .leaf x => .leaf (Go.Proofs.YtcghccjnadagcaaGreatDoor.clm x)
 | .un x a => .un x a.clm
 | .bin x a b => .bin x a.clm b.clm
theorem Ex.clm_flat (e : Ex) (h : e.wf) : e.clm.flat = e.flat.map Go.Proofs.YtcghccjnadagcaaGreatDoor.clm:=by
 induction e with
 | leaf x => rfl
 | un x a ih => rw [Ex.clm,Ex.flat,Ex.flat,List.map_cons,ih h.2,clm_big x (by rw [h.1]; decide)]
 | bin x a b iha ihb => rw [Ex.clm,Ex.flat,Ex.flat,List.map_cons,List.map_append,iha h.2.1,ihb h.2.2,clm_big x (by rw [h.1]; decide)]
theorem Ex.clm_wf (e : Ex) (h : e.wf) : e.clm.wf:=by
 induction e with
 | leaf x => exact (clm_ar x).trans h
 | un x a ih => exact ⟨h.1,ih h.2⟩
 | bin x a b iha ihb => exact ⟨h.1,iha h.2.1,ihb h.2.2⟩
theorem Ex.clm_depth (e : Ex) : e.clm.depth = e.depth:=by
 induction e with
 | leaf x => rfl
 | un x a ih => simp only [Ex.clm,Ex.depth,ih]
 | bin x a b iha ihb => simp only [Ex.clm,Ex.depth,iha,ihb]
theorem clm_right {e : Ex} (h : Fit e) (hd : e.depth ≤ 30) (hs : e.size ≤ 200) : rightP (e.flat.map clm) ∧ ∀ y ∈ e.flat.map clm,y.op ≠ 2:=by
 refine ⟨⟨e.clm,e.clm_wf h.1,e.clm_flat h.1,by rw [List.length_map,e.flat_length]; exact hs,List.all_eq_true.2 fun x hx => ?_,by rw [e.clm_depth]; exact hd⟩,fun y hy => ?_⟩
 ·obtain ⟨z,hz,rfl⟩:=List.mem_map.1 hx
  exact (clm_ok z (h.2 z hz).1).1
 ·obtain ⟨z,hz,rfl⟩:=List.mem_map.1 hy
  exact (clm_ok z (h.2 z hz).1).2
def Wk (N : Nat) (l : List Tok) (q q' : Pq) (P : Prop) : Prop:=q.n ≤ l.length → q'.n ≤ l.length ∧ ((q.k ≠ 0 → q.a ≤ N) → q'.k ≠ 0 → q'.a ≤ N) ∧ (q'.k = 0 → q.k = 0 ∧ P)
section
variable {N : Nat} {l : List Tok} {q q1 q2 : Pq} {P Q : Prop}
theorem Wk.trans (h : Wk N l q q1 P) (h2 : Wk N l q1 q2 Q) : Wk N l q q2 (P ∧ Q):=fun hn => by
 obtain ⟨a1,a2,a3⟩:=h hn
 obtain ⟨b1,b2,b3⟩:=h2 a1
 exact ⟨b1,fun ha => b2 (a2 ha),fun hk => ⟨(a3 (b3 hk).1).1,(a3 (b3 hk).1).2,(b3 hk).2⟩⟩
theorem Wk.mono (h : Wk N l q q1 P) (f : P → Q) : Wk N l q q1 Q:=fun hn => by
 obtain ⟨a1,a2,a3⟩:=h hn
 exact ⟨a1,a2,fun hk => ⟨(a3 hk).1,f (a3 hk).2⟩⟩
theorem Wk.refl (h : P) : Wk N l q q P:=fun hn => ⟨hn,fun ha => ha,fun hk => ⟨hk,h⟩⟩
theorem wk_fail (k a : Nat) (hk : k ≠ 0) (ha : a ≤ N) : Wk N l q (failP l.length q k a) P:=fun _ => by
 unfold failP
 by_cases h : q.k = 0
 ·rw [if_pos h]; exact ⟨Nat.le_refl _,fun _ _ => ha,fun h' => absurd h' hk⟩
 ·rw [if_neg h]; exact ⟨Nat.le_refl _,fun h' hq => h' h,fun h' => absurd h' h⟩
theorem wk_ref (hp : PlOK N l) : Wk N l q (refP l q) P:=wk_fail _ _ (refK_good hp q.n).1 (refK_good hp q.n).2
theorem wk_next (h : q.n < l.length) : Wk N l q ⟨q.n + 1,q.k,q.a⟩ True:=fun _ => ⟨h,fun ha => ha,fun hk => ⟨hk,trivial⟩⟩
theorem wk_ex (hp : PlOK N l) (s : List UInt8) (hs : s ≠ []) : Wk N l q (gexP l q s) True:=by
 unfold gexP
 by_cases h : txB l q.n s = true
 ·rw [if_pos h]; exact wk_next (txB_lt h hs)
 ·rw [if_neg h]; exact wk_ref hp
theorem wk_nm (hp : PlOK N l) : Wk N l q (gnmP l q).2 (nameB (gnmP l q).1 = true):=by
 unfold gnmP
 by_cases h : nameB (txt l q.n) = true
 ·rw [if_pos h]; exact (wk_next (txt_lt h)).mono fun _ => h
 ·rw [if_neg h]; exact wk_ref hp
theorem wk_nu (hp : PlOK N l) (hv : ∀ i,(tokO l i).1 = 2 → (tokO l i).2.2.1 ≤ 9999) : Wk N l q (gnuP l q).2 ((gnuP l q).1 ≤ 9999):=by
 unfold gnuP
 by_cases h : (tokO l q.n).1 = 2
 ·rw [if_pos h]
  have hlt : q.n < l.length:=by
   rcases Nat.lt_or_ge q.n l.length with h' | h'
   ·exact h'
   ·rw [tokO_over l q.n (by omega)] at h; cases h
  exact (wk_next hlt).mono fun _ => hv _ h
 ·rw [if_neg h]; exact wk_ref hp
theorem wk_st (hp : PlOK N l) (hN : N ≤ 200000) : Wk N l q (gstP l q).2 (rightS (gstP l q).1):=by
 have hp2 : ∀ i,(tokO l i).2.2.2 + (tokO l i).2.1.length ≤ 200000:=fun i => by have:=hp i; omega
 unfold gstP
 intro hn
 cases hR : stmtR l (q.n : Nat) with
 | err k a =>
  obtain ⟨h1,h2⟩:=stmt_err l hp hp2 q.n k a hn hR
  simp only []
  unfold gresP
  rw [if_neg h1]
  exact wk_fail k a h1 h2 hn
 | ok xs j =>
  obtain ⟨h1,_,h3⟩:=stmt_good l hp2 xs j q.n hn hR
  simp only []
  unfold gresP
  rw [if_pos rfl]
  exact ⟨h3,fun ha => ha,fun hk => ⟨hk,h1⟩⟩
theorem wk_exr (hp : PlOK N l) (hok : TokOK l) : Wk N l q (gexrP l q).2 (rightP (gexrP l q).1 ∧ ∀ y ∈ (gexrP l q).1,y.op ≠ 2):=by
 intro hn
 have hadv:=(adv_exr l hok q hn).2
 obtain ⟨o1,o2⟩:=parse_outI hp q.n hn
 unfold gexrP at hadv ⊢
 cases hR : parseR l q.n with
 | err k a =>
  obtain ⟨h1,h2⟩:=o1 k a hR
  simp only []
  unfold gresP
  rw [if_neg h1]
  exact wk_fail k a h1 h2 hn
 | ok y j =>
  obtain ⟨h1,h2,h3⟩:=o2 y j hR
  rw [hR] at hadv
  simp only [] at hadv ⊢
  unfold gresP at hadv ⊢
  rw [if_pos rfl] at hadv ⊢
  exact ⟨hadv,fun ha => ha,fun hk => ⟨hk,clm_right h1 h2 h3⟩⟩
theorem seq_wk {α : Type} (bg : List UInt8 → Bool) (h0 : bg [] = false) (stp : Nat → Pq → α → Pq × α) (Inv : α → Prop) (hs : ∀ i q a,bg (tokO l i).2.1 = true → Wk N l q (stp i q a).1 (Inv a → Inv (stp i q a).2)) : ∀ f q a,Wk N l q (seqP l bg stp f q a).1 (Inv a → Inv (seqP l bg stp f q a).2):=by
 intro f
 induction f with
 | zero => intro q a; exact Wk.refl id
 | succ f ih =>
  intro q a
  rw [seqP]
  by_cases h : bg (tokO l q.n).2.1 = true
  ·rw [if_pos h]
   have hlt : q.n < l.length:=by
    rcases Nat.lt_or_ge q.n l.length with h' | h'
    ·exact h'
    ·rw [tokO_over l q.n (by omega)] at h; rw [h0] at h; cases h
   exact ((wk_next hlt).trans ((hs q.n ⟨q.n + 1,q.k,q.a⟩ a h).trans (ih _ _))).mono fun ⟨_,h1,h2⟩ hi => h2 (h1 hi)
  ·rw [if_neg h]; exact Wk.refl id
theorem wk_reg (hp : PlOK N l) : Wk N l q (gregP l q).2 (∀ s ∈ (gregP l q).1,nameB s = true):=by
 unfold gregP
 by_cases h : txB l q.n [114,101,103] = true
 ·rw [if_pos h]
  simp only []
  refine ((wk_next (txB_lt h (by simp))).trans ((wk_nm (q:=⟨q.n + 1,q.k,q.a⟩) hp).trans ((seq_wk comB (by decide) (gregS l) (fun a => ∀ s ∈ a,nameB s = true) (fun i q a _ => ?_) (l.length + 1) (gnmP l ⟨q.n + 1,q.k,q.a⟩).2 [(gnmP l ⟨q.n + 1,q.k,q.a⟩).1]).trans (wk_ex hp [59] (by simp))))).mono fun ⟨_,h1,h2,_⟩ => h2 fun s hs => by rw [List.mem_singleton.1 hs]; exact h1
  exact (wk_nm hp).mono fun h1 hi s hs => by
   rcases List.mem_append.1 hs with hs | hs
   ·exact hi s hs
   ·rw [List.mem_singleton.1 hs]; exact h1
 ·rw [if_neg h]; exact Wk.refl fun s hs => by cases hs
theorem wk_loc (hp : PlOK N l) (hv : ∀ i,(tokO l i).1 = 2 → (tokO l i).2.2.1 ≤ 9999) (pl : Nat) : Wk N l q (glocP l q pl).2 (okV (glocP l q pl).1):=by
 unfold glocP
 exact ((wk_nm hp).trans ((wk_ex hp [61] (by simp)).trans ((wk_nu hp hv).trans (wk_ex hp [59] (by simp))))).mono fun ⟨h1,_,h2,_⟩ => ⟨h1,Int.natCast_nonneg _,Int.ofNat_le.2 h2,Int.natCast_nonneg _⟩
theorem wk_th (hp : PlOK N l) (hN : N ≤ 200000) (pl : Nat) : Wk N l q (gthP l q pl).2 (okT (gthP l q pl).1):=by
 unfold gthP
 exact ((wk_nm hp).trans ((wk_ex hp [123] (by simp)).trans ((wk_reg hp).trans ((wk_st hp hN).trans (wk_ex hp [125] (by simp)))))).mono fun ⟨h1,_,h2,h3,_⟩ => ⟨h1,h2,h3,Int.natCast_nonneg _⟩
theorem kdW_le (s : List UInt8) : kdW s ≤ 3:=by
 unfold kdW
 split
 ·omega
 ·split
  ·omega
  ·split <;> omega
theorem wk_cl (hp : PlOK N l) (hok : TokOK l) (kd pl : Nat) (h1 : 1 ≤ kd) (h3 : kd ≤ 3) : Wk N l q (gclP l q kd pl).2 (okC (gclP l q kd pl).1):=by
 unfold gclP
 exact ((wk_exr hp hok).trans (wk_ex hp [59] (by simp))).mono fun ⟨h,_⟩ => ⟨by show 1 ≤ (kd : Int); omega,by show (kd : Int) ≤ 3; omega,h.1,h.2,Int.natCast_nonneg _⟩
theorem wk_prog (hp : PlOK N l) (hN : N ≤ 200000) (hok : TokOK l) (hv : ∀ i,(tokO l i).1 = 2 → (tokO l i).2.2.1 ≤ 9999) : Wk N l q (gprP l q).2 (okP (gprP l q).1):=by
 unfold gprP
 simp only []
 have s1:=fun f q a => seq_wk (N:=N) (l:=l) locB (by decide) (gLocS l) (fun g : Pg => okP g) (fun i q a _ => (wk_loc (q:=q) hp hv (tokO l i).2.2.2).mono fun h hi => ⟨hi.m0,hi.m1,fun x hx => by
  rcases List.mem_append.1 hx with hx | hx
  ·exact hi.l x hx
  ·rw [List.mem_singleton.1 hx]; exact h,hi.t,hi.c⟩) f q a
 have s2:=fun f q a => seq_wk (N:=N) (l:=l) thrB (by decide) (gThS l) (fun g : Pg => okP g) (fun i q a _ => (wk_th (q:=q) hp hN (tokO l i).2.2.2).mono fun h hi => ⟨hi.m0,hi.m1,hi.l,fun x hx => by
  rcases List.mem_append.1 hx with hx | hx
  ·exact hi.t x hx
  ·rw [List.mem_singleton.1 hx]; exact h,hi.c⟩) f q a
 have s3:=fun f q a => seq_wk (N:=N) (l:=l) clB (by decide) (gClS l) (fun g : Pg => okP g) (fun i q a hb => (wk_cl (q:=q) hp hok (kdW (tokO l i).2.1) (tokO l i).2.2.2 (of_decide_eq_true hb) (kdW_le _)).mono fun h hi => ⟨hi.m0,hi.m1,hi.l,hi.t,fun x hx => by
  rcases List.mem_append.1 hx with hx | hx
  ·exact hi.c x hx
  ·rw [List.mem_singleton.1 hx]; exact h⟩) f q a
 have hfin : ∀ q' : Pq,Wk N l q' (if q'.n < l.length then refP l q' else q') True:=fun q' => by
  by_cases h : q'.n < l.length
  ·rw [if_pos h]; exact wk_ref hp
  ·rw [if_neg h]; exact Wk.refl trivial
 exact ((wk_ex hp [109,111,100] (by simp)).trans ((wk_nu hp hv).trans ((wk_ex hp [59] (by simp)).trans ((s1 _ _ _).trans ((s2 _ _ _).trans ((s3 _ _ _).trans (hfin _))))))).mono fun ⟨_,h1,_,h2,h3,h4,_⟩ => h4 (h3 (h2 ⟨Int.natCast_nonneg _,Int.ofNat_le.2 h1,fun x hx => (by cases hx),fun x hx => (by cases hx),fun x hx => (by cases hx)⟩))
end
theorem parse_good (s : List UInt8) : ((parseG s).2.1 = 0 → okP (parseG s).1 ∧ (parseG s).2.2 = 0) ∧ ((parseG s).2.1 ≠ 0 → (parseG s).1 = ⟨0,[],[],[]⟩ ∧ (s.length ≤ 20000 → (parseG s).2.2 ≤ s.length)):=by
 unfold parseG
 by_cases h1 : (scanL s).2.1 = 0
 ·rw [if_neg (by simpa using h1)]
  have h20 : s.length ≤ 20000:=by
   rcases Nat.lt_or_ge 20000 s.length with h | h
   ·have e : scanL s = ([],2,20000):=if_pos h
    rw [e] at h1; cases h1
   ·exact h
  obtain ⟨_,w2,w3⟩:=wk_prog (q:=⟨0,0,0⟩) (scan_plOK s h20) (by omega) (scan_tokOK s h20) (fun i _ => scan_num s i) (Nat.zero_le _)
  by_cases h2 : (gprP (scanL s).1 ⟨0,0,0⟩).2.k = 0
  ·rw [if_neg (by simpa using h2)]
   exact ⟨fun _ => ⟨(w3 h2).2,rfl⟩,fun h => absurd rfl h⟩
  ·rw [if_pos h2]
   exact ⟨fun h => absurd h h2,fun _ => ⟨rfl,fun _ => w2 (fun h => absurd rfl h) h2⟩⟩
 ·rw [if_pos h1]
  exact ⟨fun h => absurd h h1,fun _ => ⟨rfl,fun h20 => (scanL_place s h20).2.2.1⟩⟩
theorem Nd.er_ok {x : Nd} (h : okN x = true) : okN x.er = true:=by
 obtain ⟨o,n,a,b,p⟩:=x
 unfold okN at h ⊢
 simp only [Nd.er] at h ⊢
 rw [Bool.and_eq_true] at h ⊢
 exact ⟨decide_eq_true (Int.le_refl _),h.2⟩
theorem Ex.er_wf (e : Ex) (h : e.wf) : e.er.wf:=by
 induction e with
 | leaf x => exact h
 | un x a ih => exact ⟨h.1,ih h.2⟩
 | bin x a b iha ihb => exact ⟨h.1,iha h.2.1,ihb h.2.2⟩
theorem right_er {l : List Nd} (h : rightP l) : rightP (l.map Nd.er):=by
 obtain ⟨e,h1,h2,h3,h4,h5⟩:=h
 subst h2
 refine ⟨e.er,e.er_wf h1,e.er_flat,by rw [List.length_map]; exact h3,List.all_eq_true.2 fun x hx => ?_,by rw [e.er_depth]; exact h5⟩
 obtain ⟨y,hy,rfl⟩:=List.mem_map.1 hx
 exact Nd.er_ok (List.all_eq_true.1 h4 y hy)
theorem St.er_ok {x : St} (h : okSt x) : okSt x.er:=by
 refine ⟨h.k1,h.k13,Int.le_refl _,h.reg,h.loc,?_,?_,h.ne,h.body,h.els⟩
 ·have:=h.e
  show if hasE x.kind = true then rightP (x.e.map Nd.er) ∧ regsO (x.e.map Nd.er) = true else x.e.map Nd.er = []
  by_cases hk : hasE x.kind = true
  ·rw [if_pos hk] at this ⊢
   exact ⟨right_er this.1,by rw [regsO_er]; exact this.2⟩
  ·rw [if_neg hk] at this ⊢
   rw [this]; rfl
 ·have:=h.f
  show if hasF x.kind = true then rightP (x.f.map Nd.er) ∧ regsO (x.f.map Nd.er) = true else x.f.map Nd.er = []
  by_cases hk : hasF x.kind = true
  ·rw [if_pos hk] at this ⊢
   exact ⟨right_er this.1,by rw [regsO_er]; exact this.2⟩
  ·rw [if_neg hk] at this ⊢
   rw [this]; rfl
def Tr.er : Tr → Tr
 | .nil => .nil
 | .node s b o r => .node s.er b.er o.er r.er
theorem Tr.er_flat (t : Tr) : t.er.flat = t.flat.map St.er:=by
 induction t with
 | nil => rfl
 | node s b o r ib io ir =>
  have hb : b.er.flat.length = b.flat.length:=by rw [ib,List.length_map]
  have ho : o.er.flat.length = o.flat.length:=by rw [io,List.length_map]
  rw [Tr.er,Tr.flat,Tr.flat,hb,ho,ib,io,ir,List.map_cons,List.map_append,List.map_append]
  rfl
theorem Tr.er_hgt (t : Tr) : t.er.hgt = t.hgt:=by
 induction t with
 | nil => rfl
 | node s b o r ib io ir =>
  rw [Tr.er,Tr.hgt,Tr.hgt,ib,io,ir]
  rfl
theorem rightS_er {l : List St} (h : rightS l) : rightS (l.map St.er):=by
 obtain ⟨h1,t,h2,h3,h4⟩:=h
 subst h2
 refine ⟨by rw [List.length_map]; exact h1,t.er,t.er_flat,fun x hx => ?_,by rw [t.er_hgt]; exact h4⟩
 obtain ⟨y,hy,rfl⟩:=List.mem_map.1 hx
 exact St.er_ok (h3 y hy)
theorem okP_er {g : Pg} (h : okP g) : okP g.er:=by
 refine ⟨h.m0,h.m1,fun x hx => ?_,fun x hx => ?_,fun x hx => ?_⟩
 ·obtain ⟨y,hy,rfl⟩:=List.mem_map.1 hx
  have:=h.l y hy
  exact ⟨this.nm,this.n0,this.n1,Int.le_refl _⟩
 ·obtain ⟨y,hy,rfl⟩:=List.mem_map.1 hx
  have:=h.t y hy
  exact ⟨this.nm,this.rg,rightS_er this.bd,Int.le_refl _⟩
 ·obtain ⟨y,hy,rfl⟩:=List.mem_map.1 hx
  have:=h.c y hy
  refine ⟨this.k1,this.k3,right_er this.e,fun z hz => ?_,Int.le_refl _⟩
  obtain ⟨u,hu,rfl⟩:=List.mem_map.1 hz
  exact this.ow u hu
theorem nameB_small {s : ByteArray} (h : nameB s = true) : s.size ≤ 16:=by
 rcases Nat.lt_or_ge 16 s.size with h' | h'
 ·rw [nameB_big s h'] at h; cases h
 ·exact h'
theorem pmOK_of {g : Pg} (hb : BdP g) (h : okP g) : PmOK g:=by
 refine ⟨⟨hb.l,fun x hx => ?_⟩,⟨hb.t,fun x hx => ?_⟩,⟨hb.c,fun x hx => ?_⟩⟩
 ·have:=nameB_small (h.l x hx).nm; omega
 ·have h1:=h.t x hx
  obtain ⟨b1,b2,_⟩:=hb.tt x hx
  have hnm:=nameB_small h1.nm
  obtain ⟨_,t,_,hok,_⟩:=h1.bd
  exact ⟨by omega,b1,fun s hs => by have:=nameB_small (h1.rg s hs); omega,b2,smOK_of x.body hok⟩
 ·exact ⟨hb.cc x hx,nmOK_of (h.c x hx).e⟩
theorem flat_le {α : Type} (f : α → List UInt8) (B : Nat) : ∀ xs : List α,(∀ x ∈ xs,(f x).length ≤ B) → (xs.flatMap f).length ≤ xs.length * B:=by
 intro xs
 induction xs with
 | nil => intro _; simp
 | cons x xs ih =>
  intro h
  have h1:=h x (List.mem_cons_self ..)
  have h2:=ih fun y hy => h y (List.mem_cons_of_mem _ hy)
  simp only [List.flatMap_cons,List.length_append,List.length_cons,Nat.succ_mul]
  omega
theorem text_le {g : Pg} (hb : BdP g) (h : okP g) : (textP g).length ≤ 1000000000000000000:=by
 unfold textP
 rw [if_pos ((rightPB_ok g).2 h)]
 have d1:=dg_len g.mod h.m1
 have h1:=flat_le showV 100 g.locs fun x hx => by
  have hx:=h.l x hx
  have:=nameB_small hx.nm
  have h4:=dg_len x.n hx.n1
  simp only [showV,List.length_append,List.length_cons,List.length_nil,← Lib.size_eq]
  omega
 have h2:=flat_le showT 10100000000 g.ths fun x hx => by
  have ht:=hb.tt x hx
  have hx:=h.t x hx
  have:=nameB_small hx.nm
  have h4:=textS_le x.body
  have h5:=regT_le x.regs ht.1 fun s hs => by have:=nameB_small (hx.rg s hs); omega
  simp only [showT,List.length_append,List.length_cons,List.length_nil,← Lib.size_eq]
  omega
 have h3:=flat_le showC 10000 g.cls fun x hx => by
  have hx:=h.c x hx
  have h4:=textOf_len (l:=x.e)
  have h5 : (wdsL.getD x.kind.toNat []).length ≤ 6:=by
   have:=hx.k1
   have:=hx.k3
   rcases (by omega : x.kind = 1 ∨ x.kind = 2 ∨ x.kind = 3) with h | h | h <;> rw [h] <;> decide
  simp only [showC,List.length_append,List.length_cons,List.length_nil]
  omega
 have n1:=hb.l
 have n2:=hb.t
 have n3:=hb.c
 have m1 : g.locs.length * 100 ≤ 100000 * 100:=Nat.mul_le_mul_right _ n1
 have m2 : g.ths.length * 10100000000 ≤ 100000 * 10100000000:=Nat.mul_le_mul_right _ n2
 have m3 : g.cls.length * 10000 ≤ 100000 * 10000:=Nat.mul_le_mul_right _ n3
 simp only [List.length_append,List.length_cons,List.length_nil]
 omega
end Go.Proofs.YtcghccjnadagcaaGreatDoor
