/- Facts. -/
import Derived.Test.YtcghccjnadagcaaGreatDoorYo
import Derived.Test.YtcghccjnadagcaaGreatDoorWa
set_option maxRecDepth 100000
set_option maxHeartbeats 32000000
namespace Go.Proofs.YtcghccjnadagcaaGreatDoor
open Go.RowKit
def zSt : St:=⟨0,⟨#[]⟩,⟨#[]⟩,[],[],false,0,0,0⟩
theorem eq_fn (F : Nat) (cap : Array Value) (w : World) : (binOp .eql 223 (.func (.func F) #[] cap) .nilFunc).run Tryz.prog w = .ok (.bool false) w:=by
 simp [binOp,go_sem]
 unfold Op.equal
 rw [show Op.maxDepth = 9999 + 1 from rfl]
 unfold Op.equalIn
 simp [run_underlying Tryz.underlying223,Result.andThen]
theorem eq_nil (w : World) : (binOp .eql 223 .nilFunc .nilFunc).run Tryz.prog w = .ok (.bool true) w:=by
 simp [binOp,go_sem]
 unfold Op.equal
 rw [show Op.maxDepth = 9999 + 1 from rfl]
 unfold Op.equalIn
 simp [run_underlying Tryz.underlying223,Result.andThen]
theorem nests_any (k : Nat) (w : World) : Calls Tryz.prog 159 #[.int .i64 k] w fun e w' => e = .returned (.bool (blkB k)) ∧ w = w':=by
 by_cases h0 : k = 10
 ·subst h0
  go_enter Tryz.func159,Tryz.ntmps159
  go_wp2
  go_ret
  exact ⟨rfl,rfl⟩
 ·by_cases h1 : k = 11
  ·subst h1
   go_enter Tryz.func159,Tryz.ntmps159
   go_wp2
   go_ret
   exact ⟨rfl,rfl⟩
  ·by_cases h2 : k = 12
   ·subst h2
    go_enter Tryz.func159,Tryz.ntmps159
    go_wp2
    go_ret
    exact ⟨rfl,rfl⟩
   ·have hb : blkB k = false:=by simp [blkB,h0,h1,h2]
    rw [hb]
    have q0 : ((k : Int) == 10) = false:=by simp; omega
    have q1 : ((k : Int) == 11) = false:=by simp; omega
    have q2 : ((k : Int) == 12) = false:=by simp; omega
    clear hb h0 h1 h2
    go_enter Tryz.func159,Tryz.ntmps159
    go_wp2
    go_ret
    exact ⟨rfl,rfl⟩
theorem stm_walk {w0 : World} {l : List Tok} {lv : Value} {r bx m : Nat} {q : Pq} {o : Nat} {dv : Value} {xs : List St} (x : Ty w0 l lv) (w : World) (h : Stb w0 w r bx m l lv q o dv xs) (hlt : q.n < l.length) (F : Nat) (cap : Array Value) (hE : ∀ args w,(callFunc F args).run Tryz.prog w = .ok (.enter F args) w)
  (h1 : (tokO l q.n).1 = 1) (hfn : fnV bx (kindF (tokO l q.n).2.1 1 13) = .func (.func F) #[] cap) (kk : Nat) (RR : St → Pq → List St → Prop)
  (HR : ∀ w' dv1,Stb w0 w' r bx m l lv ⟨q.n + 1,q.k,q.a⟩ o dv1 (xs ++ [zSt]) → Calls Tryz.prog F cap w' fun e w'' => ∃ y q2 dv2 xs2,ToR w0 r bx m l lv q2 o dv1 dv2 xs2 w' y e w'' ∧ y.kind = kk ∧ xs.length < xs2.length ∧ RR y q2 xs2) :
  Calls Tryz.prog 228 #[.pointer (some ⟨r,0,none⟩)] w fun e w' => e = .returned (.tuple #[]) ∧ ∃ y q2 dv2 xs2,Out w0 w w' r bx m l lv (if blkB kk = true then q2 else sgP l q2 [59]) o dv dv2 (xs2.set xs.length { y with pl:=((plc l q.n : Nat) : Int) }) ∧ RR y q2 xs2:=by
 have HX:=Lib.hid x
 have HH:=Lib.hid h
 have HRR:=Lib.hid HR
 have HQ:=Lib.hid (Pq.step h.sta.ok hlt)
 have HLN : Hid (l.length ≤ 100000):=x.x.hn
 have HN : Hid (q.n ≤ 100000):=by have:=x.x.hn; show q.n ≤ 100000; omega
 have HL1 : Hid (xs.length ≤ 100000):=Nat.le_trans h.len (Nat.le_trans h.sta.ok.1 x.x.hn)
 have HM:=Lib.hid (fun (w' : World) (h' : Mp w' m (entsR bx)) => run_look h' ⟨(tokO l q.n).2.1.toArray⟩)
 obtain ⟨add,capd,rfl⟩:=h.own.shape
 obtain ⟨ad,cp,rfl,hct⟩:=x.x.ht.below h.sta.bel
 obtain ⟨⟨c0,c1,c2,c3,c4,_,_⟩,f1,f2,f3,_⟩:=h.sta.prs.facts
 have hr:=h.sta.prs.lt
 obtain ⟨g,rfl,hg,k0,k1,k2,k3⟩:=hct q.n hlt
 rw [tokO_in l q.n hlt] at h1 hfn HM
 have HPL : Hid (plc l q.n = l[q.n].2.2.2):=by show plc l q.n = _; unfold plc; rw [tokO_in l q.n hlt]
 obtain ⟨⟨tk,tx,tn,tp⟩,htk⟩ : ∃ t,t = l[q.n]:=⟨_,rfl⟩
 rw [← htk] at h1 hfn HM k0 k1 k2 k3 HPL
 simp only [] at h1 hfn HM k0 k1 k2 k3 HPL
 subst h1
 obtain ⟨y,hy⟩ : ∃ y : ByteArray,y = ⟨tx.toArray⟩:=⟨_,rfl⟩
 have hyd : y.data.toList = tx:=by rw [hy]
 rw [← hy] at k1 HM
 rw [hfn] at HM
 have k0 : w.cell? ⟨g,q.n * 4,none⟩ = some (.int .i64 1):=k0
 obtain ⟨L,hL⟩ : ∃ L,L = l.length:=⟨_,rfl⟩
 obtain ⟨n,hn⟩ : ∃ n,n = q.n:=⟨_,rfl⟩
 have hlt' : n < L:=by omega
 rw [← hn] at c1 k0 k1 k2 k3
 rw [← hL] at c0
 have HNN:=Lib.hid hn
 have HLL:=Lib.hid hL
 have HE:=Lib.hid hE
 have m0:=HH.out.mp
 clear hct htk hy hyd hfn hlt hn hL h x HR hE f1 f2 f3
 go_enter Tryz.func228,Tryz.ntmps228
 go_wp2_with fail
 go_region
 have HW1 : Hid (Stb w0 (w.alloc (.cells #[.int .i64 1,.string y,.int .i64 tn,.int .i64 tp] 62)).drew r bx m l (.slice (some ⟨g,0,none⟩) l.length cp) q o (.slice add xs.length capd) xs):=(HH.out.alloc _).drew
 have hB1 : (w.alloc (.cells #[.int .i64 1,.string y,.int .i64 tn,.int .i64 tp] 62)).drew.heap[w.heap.size]? = some (.cells #[.int .i64 1,.string y,.int .i64 tn,.int .i64 tp] 62 (0,0)):=heap_alloc_new w _
 have HK1 : Hid (Keep r w (w.alloc (.cells #[.int .i64 1,.string y,.int .i64 tn,.int .i64 tp] 62)).drew):=((Keep.refl r w).alloc _).drew
 have HTR : Hid (w.heap.size ≠ r):=by show w.heap.size ≠ r; omega
 have HTD : Hid ((Value.slice add xs.length capd).ownBlock ≠ some w.heap.size):=fun e => by have:=(HH.out.own.blk _ e).2.1; omega
 clear c0 c1 c2 c3 c4 k0 k1 k2 k3 m0 hr hg hlt'
 generalize (w.alloc (.cells #[.int .i64 1,.string y,.int .i64 tn,.int .i64 tp] 62)).drew = w1 at HW1 hB1 HK1 ⊢
 obtain ⟨⟨e0,e1,e2,e3⟩,_⟩:=Blk4.facts (show Blk4 w1 w.heap.size (.int .i64 1) (.string y) (.int .i64 tn) (.int .i64 tp) from hB1)
 have HB1 : Hid (Blk4 w1 w.heap.size (.int .i64 1) (.string y) (.int .i64 tn) (.int .i64 tp)):=hB1
 obtain ⟨⟨c0,c1,c2,c3,c4,_,_⟩,_⟩:=HW1.out.sta.prs.facts
 have hl1:=HM.out w1 HW1.out.mp
 have hl2:=HM.out w1.drew HW1.out.mp
 have hr1:=HW1.out.sta.prs.lt
 have hE:=HE.out
 have q1 : decide ((tp : Int) < 0) = false:=by simp
 clear hB1
 go_wp2
 go_region
 have HW2 : Hid (Stb w0 w1.drew r bx m l (.slice (some ⟨g,0,none⟩) l.length cp) q o (.slice add xs.length capd) xs):=HW1.out.drew
 have HK2 : Hid (Keep r w w1.drew):=HK1.out.drew
 have HB2 : Hid (Blk4 w1.drew w.heap.size (.int .i64 1) (.string y) (.int .i64 tn) (.int .i64 tp)):=HB1.out
 clear e0 e1 e2 e3 c0 c1 c2 c3 c4 hl1 hl2 hr1 HW1 HB1 HK1
 generalize w1.drew = w2 at HW2 HK2 HB2 ⊢
 obtain ⟨⟨e0,e1,e2,e3⟩,_⟩:=Blk4.facts HB2.out
 obtain ⟨⟨c0,c1,c2,c3,c4,_,_⟩,f1,_,f3,_⟩:=HW2.out.sta.prs.facts
 have hr2:=HW2.out.sta.prs.lt
 have hn1:=HN.out
 rw [← HNN.out] at c1 hn1
 have hs3 : Sta w0 (w2.setCell ⟨r,1,none⟩ (.int .i64 ((n : Int) + 1))) r l (.slice (some ⟨g,0,none⟩) l.length cp) ⟨q.n + 1,q.k,q.a⟩ o (.slice add xs.length capd) (.map (some m)):=by rw [HNN.out]; exact HW2.out.sta.setN ⟨q.n + 1,q.k,q.a⟩ rfl rfl HQ.out
 have HW3:=Lib.hid ((HW2.out.move hs3 ((Keep.refl r w2).setCell 1 _) (Nat.le_succ _)).alloc (.cells #[.int .i64 0,.string ⟨#[]⟩,.string ⟨#[]⟩,.slice none 0 0,.slice none 0 0,.bool false,.int .i64 0,.int .i64 0,.int .i64 0] 42))
 have HK3:=Lib.hid ((HK2.out.setCell 1 (.int .i64 ((n : Int) + 1))).alloc (.cells #[.int .i64 0,.string ⟨#[]⟩,.string ⟨#[]⟩,.slice none 0 0,.slice none 0 0,.bool false,.int .i64 0,.int .i64 0,.int .i64 0] 42))
 have HB3 : Hid (Blk4 ((w2.setCell ⟨r,1,none⟩ (.int .i64 ((n : Int) + 1))).alloc (.cells #[.int .i64 0,.string ⟨#[]⟩,.string ⟨#[]⟩,.slice none 0 0,.slice none 0 0,.bool false,.int .i64 0,.int .i64 0,.int .i64 0] 42)) w.heap.size (.int .i64 1) (.string y) (.int .i64 tn) (.int .i64 tp)):=HB2.out.keepD HW2.out (((Keep.refl r w2).setCell 1 _).alloc _).toD
 obtain ⟨ts,u1,u2,u3⟩:=HW3.out.own
 have hlen : ts.length = xs.length:=by rw [← u1,List.length_map]
 rw [hlen] at u2
 have HU1:=Lib.hid u1
 have HU2:=Lib.hid u2
 have HU3:=Lib.hid u3
 have HNEW : Hid (((w2.setCell ⟨r,1,none⟩ (.int .i64 ((n : Int) + 1))).alloc (.cells #[.int .i64 0,.string ⟨#[]⟩,.string ⟨#[]⟩,.slice none 0 0,.slice none 0 0,.bool false,.int .i64 0,.int .i64 0,.int .i64 0] 42)).ownsRow w2.heap.size 42 9 (.slice (some ⟨w2.heap.size,0,none⟩) 1 1) 1 (rowS [(zSt,.slice none 0 0,.slice none 0 0)])):=by
  have:=own_newS (w2.setCell ⟨r,1,none⟩ (.int .i64 ((n : Int) + 1))) zSt (.slice none 0 0) (.slice none 0 0)
  rw [show (w2.setCell ⟨r,1,none⟩ (.int .i64 ((n : Int) + 1))).heap.size = w2.heap.size by simp [World.setCell]] at this
  exact this
 have HSZ : Hid (SIn ((w2.setCell ⟨r,1,none⟩ (.int .i64 ((n : Int) + 1))).alloc (.cells #[.int .i64 0,.string ⟨#[]⟩,.string ⟨#[]⟩,.slice none 0 0,.slice none 0 0,.bool false,.int .i64 0,.int .i64 0,.int .i64 0] 42)) [(zSt,.slice none 0 0,.slice none 0 0)]):=by
  intro t ht
  obtain rfl:=List.mem_singleton.1 ht
  exact ⟨World.ownsRow_nil _ _ _ _,World.ownsRow_nil _ _ _ _⟩
 have hl1:=HL1.out
 have hwle:=HW3.out.sta.bel.size
 have hE:=HE.out
 have heq:=eq_fn F cap
 clear hs3 hlen u1 u2 u3 HW2 HB2 HK2
 go_wp2_with (at_builtin; refine append_sts2 rfl (.tmp 53) (.tmp 55) rfl w0.heap.size w2.heap.size xs.length 1 _ _ (rowS ts) [(zSt,.slice none 0 0,.slice none 0 0)] rfl rfl HU2.out HNEW.out HSZ.out rfl (by omega) hwle ?_)
 intro v4 w4 o4 g4 p4
 obtain ⟨ad4,cap4,rfl,hj4⟩:=own_shape o4
 clear hj4
 have hll:=HH.out.len
 obtain ⟨hp4,hs5,hk5,hpl5⟩:=HW3.out.push (z0:=zSt) HU1.out HU3.out o4 ⟨rfl,rfl⟩ g4 (by simpa [World.setCell] using p4) (by show xs.length + 1 ≤ q.n + 1; omega)
 have HO5 : Hid (Out w0 w (w4.setCell ⟨r,3,none⟩ (.slice ad4 (xs.length + 1) cap4)) r bx m l (.slice (some ⟨g,0,none⟩) l.length cp) ⟨q.n + 1,q.k,q.a⟩ o (.slice add xs.length capd) (.slice ad4 (xs.length + 1) cap4) (xs ++ [zSt])):=⟨hs5,HK3.out.toD.trans (Plw.refl _ _) hk5,(Plw.refl _ _).trans HK3.out.size hpl5⟩
 have HB5 : Hid (Blk4 (w4.setCell ⟨r,3,none⟩ (.slice ad4 (xs.length + 1) cap4)) w.heap.size (.int .i64 1) (.string y) (.int .i64 tn) (.int .i64 tp)):=HB3.out.keepD HW3.out hk5
 obtain ⟨⟨d0,d1,d2,d3,d4,_,_⟩,_,_,fd3,_⟩:=hp4.facts
 have hr4:=hp4.lt
 clear o4 g4 p4 hp4 hs5 hk5 hpl5 HW3 HK3 HB3 HU1 HU2 HU3 HNEW HSZ e0 e1 e2 e3 c0 c1 c2 c3 c4 f1 f3 hr2 hwle
 go_wp2_with fail
 refine (HRR.out _ _ HO5.out.st).mono ?_
 rintro e w6 ⟨y6,q2,dv2,xs2,⟨ve,vf,rfl,hve,hvf,hout⟩,hkk,hlt2,hrr⟩
 have HO6:=Lib.hid (HO5.out.trans hout)
 have HB6:=Lib.hid (HB5.out.keepD HO5.out.st hout.kd)
 obtain ⟨yk,yr,yl,ye,yf,yn,yb,yo,yp⟩:=y6
 simp only [] at hve hvf hkk
 obtain ⟨a1,p1,rfl,hj1⟩:=own_shape hve
 obtain ⟨a2,p2,rfl,hj2⟩:=own_shape hvf
 have HVE:=Lib.hid (own_mono hve (Nat.zero_le _))
 have HVF:=Lib.hid (own_mono hvf (Nat.zero_le _))
 have HRY:=Lib.hid hrr
 have HLT2:=Lib.hid hlt2
 subst hkk
 obtain ⟨⟨e0,e1,e2,e3⟩,_⟩:=Blk4.facts HB6.out
 have htb6 : w.heap.size < w6.heap.size:=(Array.getElem?_eq_some_iff.1 HB6.out).1
 clear hj1 hj2 hve hvf hrr hout HO5 HB5 d0 d1 d2 d3 d4 fd3 hr4 hlt2 HRR hll
 simp only [St.cells]
 go_wp2_with fail
 refine (nests_any kk _).mono ?_
 rintro e w7 ⟨rfl,rfl⟩
 have HO7 : Hid (Out w0 w (w6.alloc (.cells #[.int .i64 kk,.string yr,.string yl,.slice a1 ye.length p1,.slice a2 yf.length p2,.bool yn,.int .i64 yb,.int .i64 yo,.int .i64 tp] 42)) r bx m l (.slice (some ⟨g,0,none⟩) l.length cp) q2 o (.slice add xs.length capd) dv2 xs2):=HO6.out.move (HO6.out.st.sta.alloc _) ((Keep.refl _ _).alloc _) (Nat.le_refl _)
 have HS7 : Hid (BlkS (w6.alloc (.cells #[.int .i64 kk,.string yr,.string yl,.slice a1 ye.length p1,.slice a2 yf.length p2,.bool yn,.int .i64 yb,.int .i64 yo,.int .i64 tp] 42)) w6.heap.size ⟨kk,yr,yl,ye,yf,yn,yb,yo,tp⟩ (.slice a1 ye.length p1) (.slice a2 yf.length p2)):=heap_alloc_new w6 _
 have HVE7:=Lib.hid (row_alloc HVE.out (.cells #[.int .i64 kk,.string yr,.string yl,.slice a1 ye.length p1,.slice a2 yf.length p2,.bool yn,.int .i64 yb,.int .i64 yo,.int .i64 tp] 42))
 have HVF7:=Lib.hid (row_alloc HVF.out (.cells #[.int .i64 kk,.string yr,.string yl,.slice a1 ye.length p1,.slice a2 yf.length p2,.bool yn,.int .i64 yb,.int .i64 yo,.int .i64 tp] 42))
 have HSR : Hid (w6.heap.size ≠ r):=by have:=HO6.out.st.sta.prs.lt; show w6.heap.size ≠ r; omega
 clear HVE HVF HO6 HB6 e0 e1 e2 e3 htb6
 generalize (w6.alloc (.cells #[.int .i64 kk,.string yr,.string yl,.slice a1 ye.length p1,.slice a2 yf.length p2,.bool yn,.int .i64 yb,.int .i64 yo,.int .i64 tp] 42)) = w7 at HO7 HS7 HVE7 HVF7 ⊢
 obtain ⟨sb,hsb⟩ : ∃ sb,sb = w6.heap.size:=⟨_,rfl⟩
 rw [← hsb] at HS7 HSR ⊢
 clear hsb
 obtain ⟨bb,hbb⟩ : ∃ bb,blkB kk = bb:=⟨_,rfl⟩
 rw [hbb]
 cases bb with
 | true =>
  have HO8:=HO7
  have HS8:=HS7
  have HVE8:=HVE7
  have HVF8:=HVF7
  clear HO7 HS7 HVE7 HVF7
  obtain ⟨add8,cap8,hdv8⟩:=HO8.out.st.own.shape
  subst hdv8
  have hlt8:=HLT2.out
  obtain ⟨g8,hg8⟩ : ∃ g8,add8 = some ⟨g8,0,none⟩:=by
   obtain ⟨ts8,z1,z2,_⟩:=HO8.out.st.own
   rcases z2.2 with ⟨hv,h0⟩ | ⟨g8,c8,cu8,hv,_⟩
   ·rw [← z1,List.length_map] at hlt8; omega
   ·injection hv with j1; exact ⟨g8,j1⟩
  subst hg8
  have hcs:=HO8.out.st.own.cells xs.length hlt8
  obtain ⟨ii,hii⟩ : ∃ ii,ii = xs.length:=⟨_,rfl⟩
  obtain ⟨nn,hnn⟩ : ∃ nn,nn = xs2.length:=⟨_,rfl⟩
  obtain ⟨⟨c0,c1,c2,c3,c4,_,_⟩,_⟩:=HO8.out.st.sta.prs.facts
  rw [← hii] at hlt8 hcs ⊢
  rw [← hnn] at c3 hlt8
  have HNN2:=Lib.hid hnn
  have HII:=Lib.hid hii
  obtain ⟨x0,k0⟩:=Option.isSome_iff_exists.1 (hcs.1 0 (by omega))
  obtain ⟨x1,k1⟩:=Option.isSome_iff_exists.1 (hcs.1 1 (by omega))
  obtain ⟨x2,k2⟩:=Option.isSome_iff_exists.1 (hcs.1 2 (by omega))
  obtain ⟨x3,k3⟩:=Option.isSome_iff_exists.1 (hcs.1 3 (by omega))
  obtain ⟨x4,k4⟩:=Option.isSome_iff_exists.1 (hcs.1 4 (by omega))
  obtain ⟨x5,k5⟩:=Option.isSome_iff_exists.1 (hcs.1 5 (by omega))
  obtain ⟨x6,k6⟩:=Option.isSome_iff_exists.1 (hcs.1 6 (by omega))
  obtain ⟨x7,k7⟩:=Option.isSome_iff_exists.1 (hcs.1 7 (by omega))
  obtain ⟨x8,k8⟩:=Option.isSome_iff_exists.1 (hcs.1 8 (by omega))
  have f0:=hcs.2 (ii * 9)
  have f1:=hcs.2 (ii * 9 + 1)
  have f2:=hcs.2 (ii * 9 + 2)
  have f3:=hcs.2 (ii * 9 + 3)
  have f4:=hcs.2 (ii * 9 + 4)
  have f5:=hcs.2 (ii * 9 + 5)
  have f6:=hcs.2 (ii * 9 + 6)
  have f7:=hcs.2 (ii * 9 + 7)
  have f8:=hcs.2 (ii * 9 + 8)
  rw [Nat.add_zero] at k0
  obtain ⟨⟨b0,b1,b2,b3,b4,b5,b6,b7,b8⟩,_⟩:=HS8.out.facts
  simp only [] at b0 b1 b2 b3 b4 b5 b6 b7 b8
  have hi1 : (ii : Int) < (nn : Int):=by omega
  have hi2 : (0 : Int) ≤ (ii : Int):=by omega
  have hr8:=HO8.out.st.sta.prs.lt
  clear hcs hii hnn
  go_wp2_with fail
  go_region
  clear k0 k1 k2 k3 k4 k5 k6 k7 k8 f0 f1 f2 f3 f4 f5 f6 f7 f8 b0 b1 b2 b3 b4 b5 b6 b7 b8 c0 c1 c2 c3 c4 hi1 hi2
  obtain rfl:=HII.out
  obtain rfl:=HNN2.out
  have hst0:=HO8.out
  have hst:=hst0.store xs.length HLT2.out ⟨kk,yr,yl,ye,yf,yn,yb,yo,tp⟩ _ _ HVE8.out HVF8.out
  have HFIN:=Lib.hid (hst.move hst.st.sta.drew (Keep.refl _ _).drew (Nat.le_refl _))
  clear hst hst0
  go_wp2
  refine bodyPost_end (v:=.tuple #[]) (by simp [results,Tryz.results228,go_sem]) rfl ⟨rfl,⟨kk,yr,yl,ye,yf,yn,yb,yo,yp⟩,q2,.slice (some ⟨g8,0,none⟩) xs2.length cap8,xs2,by rw [HPL.out]; exact HFIN.out,HRY.out⟩
 | false =>
  go_wp2_with fail
  refine (ssign_any HX.out.x _ HO7.out.st.sta ⟨#[59]⟩).mono ?_
  rintro e w8 ⟨rfl,s1,s2⟩
  have HO8:=Lib.hid (HO7.out.move s1 s2 (sgP_le HO7.out.st.sta.ok _))
  have HS8:=Lib.hid (HS7.out.keep s2 HSR.out)
  have HVE8:=Lib.hid (own_keep2 HVE7.out HO7.out.st.sta.prs s2)
  have HVF8:=Lib.hid (own_keep2 HVF7.out HO7.out.st.sta.prs s2)
  clear HO7 HS7 HVE7 HVF7 s1 s2
  obtain ⟨add8,cap8,hdv8⟩:=HO8.out.st.own.shape
  subst hdv8
  have hlt8:=HLT2.out
  obtain ⟨g8,hg8⟩ : ∃ g8,add8 = some ⟨g8,0,none⟩:=by
   obtain ⟨ts8,z1,z2,_⟩:=HO8.out.st.own
   rcases z2.2 with ⟨hv,h0⟩ | ⟨g8,c8,cu8,hv,_⟩
   ·rw [← z1,List.length_map] at hlt8; omega
   ·injection hv with j1; exact ⟨g8,j1⟩
  subst hg8
  have hcs:=HO8.out.st.own.cells xs.length hlt8
  obtain ⟨ii,hii⟩ : ∃ ii,ii = xs.length:=⟨_,rfl⟩
  obtain ⟨nn,hnn⟩ : ∃ nn,nn = xs2.length:=⟨_,rfl⟩
  obtain ⟨⟨c0,c1,c2,c3,c4,_,_⟩,_⟩:=HO8.out.st.sta.prs.facts
  rw [← hii] at hlt8 hcs ⊢
  rw [← hnn] at c3 hlt8
  have HNN2:=Lib.hid hnn
  have HII:=Lib.hid hii
  obtain ⟨x0,k0⟩:=Option.isSome_iff_exists.1 (hcs.1 0 (by omega))
  obtain ⟨x1,k1⟩:=Option.isSome_iff_exists.1 (hcs.1 1 (by omega))
  obtain ⟨x2,k2⟩:=Option.isSome_iff_exists.1 (hcs.1 2 (by omega))
  obtain ⟨x3,k3⟩:=Option.isSome_iff_exists.1 (hcs.1 3 (by omega))
  obtain ⟨x4,k4⟩:=Option.isSome_iff_exists.1 (hcs.1 4 (by omega))
  obtain ⟨x5,k5⟩:=Option.isSome_iff_exists.1 (hcs.1 5 (by omega))
  obtain ⟨x6,k6⟩:=Option.isSome_iff_exists.1 (hcs.1 6 (by omega))
  obtain ⟨x7,k7⟩:=Option.isSome_iff_exists.1 (hcs.1 7 (by omega))
  obtain ⟨x8,k8⟩:=Option.isSome_iff_exists.1 (hcs.1 8 (by omega))
  have f0:=hcs.2 (ii * 9)
  have f1:=hcs.2 (ii * 9 + 1)
  have f2:=hcs.2 (ii * 9 + 2)
  have f3:=hcs.2 (ii * 9 + 3)
  have f4:=hcs.2 (ii * 9 + 4)
  have f5:=hcs.2 (ii * 9 + 5)
  have f6:=hcs.2 (ii * 9 + 6)
  have f7:=hcs.2 (ii * 9 + 7)
  have f8:=hcs.2 (ii * 9 + 8)
  rw [Nat.add_zero] at k0
  obtain ⟨⟨b0,b1,b2,b3,b4,b5,b6,b7,b8⟩,_⟩:=HS8.out.facts
  simp only [] at b0 b1 b2 b3 b4 b5 b6 b7 b8
  have hi1 : (ii : Int) < (nn : Int):=by omega
  have hi2 : (0 : Int) ≤ (ii : Int):=by omega
  have hr8:=HO8.out.st.sta.prs.lt
  clear hcs hii hnn
  go_wp2_with fail
  go_region
  clear k0 k1 k2 k3 k4 k5 k6 k7 k8 f0 f1 f2 f3 f4 f5 f6 f7 f8 b0 b1 b2 b3 b4 b5 b6 b7 b8 c0 c1 c2 c3 c4 hi1 hi2
  obtain rfl:=HII.out
  obtain rfl:=HNN2.out
  have hst0:=HO8.out
  have hst:=hst0.store xs.length HLT2.out ⟨kk,yr,yl,ye,yf,yn,yb,yo,tp⟩ _ _ HVE8.out HVF8.out
  have HFIN:=Lib.hid (hst.move hst.st.sta.drew (Keep.refl _ _).drew (Nat.le_refl _))
  clear hst hst0
  go_wp2
  refine bodyPost_end (v:=.tuple #[]) (by simp [results,Tryz.results228,go_sem]) rfl ⟨rfl,⟨kk,yr,yl,ye,yf,yn,yb,yo,yp⟩,q2,.slice (some ⟨g8,0,none⟩) xs2.length cap8,xs2,by rw [HPL.out]; exact HFIN.out,HRY.out⟩
def Cpl (xs : List St) : Prop:=∃ t : Tr,t.flat = xs
open Classical in
noncomputable def cplB (xs : List St) : Bool:=decide (Cpl xs)
open Classical in
theorem cplB_yes {xs : List St} (h : Cpl xs) : cplB xs = true:=by unfold cplB; exact decide_eq_true h
open Classical in
theorem cplB_no {xs : List St} (h : ¬ Cpl xs) : cplB xs = false:=by unfold cplB; exact decide_eq_false h
theorem cpl_nil : Cpl []:=⟨.nil,rfl⟩
theorem cpl_cons {s : St} {bs os rs : List St} (hb : s.body = (bs.length : Nat)) (ho : s.els = (os.length : Nat)) : Cpl (s :: (bs ++ (os ++ rs))) ↔ Cpl bs ∧ Cpl os ∧ Cpl rs:=by
 constructor
 ·rintro ⟨t,ht⟩
  cases t with
  | nil => cases ht
  | node s0 b o r =>
   rw [Tr.flat,List.append_assoc] at ht
   injection ht with e1 e2
   have g1 : b.flat.length = bs.length:=by have:=congrArg St.body e1; rw [hb] at this; exact Int.ofNat_inj.1 this
   have g2 : o.flat.length = os.length:=by have:=congrArg St.els e1; rw [ho] at this; exact Int.ofNat_inj.1 this
   obtain ⟨h1,h2⟩:=List.append_inj e2 g1
   obtain ⟨h3,h4⟩:=List.append_inj h2 g2
   exact ⟨⟨b,h1⟩,⟨o,h3⟩,⟨r,h4⟩⟩
 ·rintro ⟨⟨b,rfl⟩,⟨o,rfl⟩,⟨r,rfl⟩⟩
  refine ⟨.node s b o r,?_⟩
  rw [Tr.flat,List.append_assoc,← hb,← ho]
theorem cpl_fit {s : St} {r : List St} (h : Cpl (s :: r)) : fitB s r.length = true:=by
 obtain ⟨t,ht⟩:=h
 cases t with
 | nil => cases ht
 | node s0 b o r0 =>
  rw [Tr.flat] at ht
  injection ht with e1 e2
  have g1 : s.body = (b.flat.length : Nat):=by rw [← e1]
  have g2 : s.els = (o.flat.length : Nat):=by rw [← e1]
  have g3 : r.length = b.flat.length + o.flat.length + r0.flat.length:=by rw [← e2]; simp; omega
  unfold fitB
  rw [g1,g2,g3]
  simp
  omega
theorem fit_part {s : St} {r : List SI} (h : fitB s r.length = true) : ∃ bs os rs,r = bs ++ (os ++ rs) ∧ s.body = (bs.length : Nat) ∧ s.els = (os.length : Nat):=by
 unfold fitB at h
 simp only [Bool.and_eq_true,decide_eq_true_eq] at h
 obtain ⟨h1,h2,h3,h4⟩:=h
 refine ⟨r.take s.body.toNat,(r.drop s.body.toNat).take s.els.toNat,(r.drop s.body.toNat).drop s.els.toNat,by rw [List.take_append_drop,List.take_append_drop],?_,?_⟩
 ·rw [List.length_take]; omega
 ·rw [List.length_take,List.length_drop]; omega
theorem StsD.shape {w : World} {v : Value} {ts : List SI} (h : StsD w v ts) : ∃ ad cap,v = .slice ad ts.length cap:=by
 obtain ⟨ad,cap,hv,_⟩:=h; exact ⟨ad,cap,hv⟩
theorem complete_any : ∀ (N : Nat) (ts : List SI) (v : Value) (w : World),ts.length ≤ N → ts.length ≤ 100000 → StsD w v ts → Calls Tryz.prog 137 #[v] w fun e w' => e = .returned (.bool (cplB (ts.map (·.1)))) ∧ Below w.heap.size w w':=by
 intro N
 induction N using Nat.strongRecOn with
 | _ N ih =>
  intro ts v w hN hn h
  have HIH : Hid (∀ (us : List SI) (u : Value) (W : World),us.length < ts.length → StsD W u us → Calls Tryz.prog 137 #[u] W fun e w' => e = .returned (.bool (cplB (us.map (·.1)))) ∧ Below W.heap.size W w'):=
   fun us u W hu hW => ih us.length (by omega) us u W (Nat.le_refl _) (by omega) hW
  have HN : Hid (ts.length ≤ 100000):=hn
  have HH:=Lib.hid h
  obtain ⟨ad0,cap0,rfl⟩:=h.shape
  obtain ⟨B,hB⟩ : ∃ B,B = cplB (ts.map (·.1)):=⟨_,rfl⟩
  have HB:=Lib.hid hB
  rw [← hB]
  obtain ⟨n0,hn0⟩ : ∃ n0,n0 = ts.length:=⟨_,rfl⟩
  have HN0:=Lib.hid hn0
  rw [← hn0] at HH ⊢
  clear ih hN hn h hB hn0
  go_enter Tryz.func137,Tryz.ntmps137
  go_wp2_with fail
  go_loopg [0] n0 (fun fuel v' wr => ∃ rs : List SI,StsD wr v' rs ∧ rs.length ≤ fuel ∧ rs.length ≤ ts.length ∧ (Cpl (ts.map (·.1)) ↔ Cpl (rs.map (·.1))) ∧ Below w.heap.size w wr)
  case atStart => exact ⟨ts,HH.out,by rw [HN0.out]; exact Nat.le_refl _,Nat.le_refl _,Iff.rfl,Below.refl _ _⟩
  case round =>
   obtain ⟨rs,hs,hf,hrl,hiff,hbl⟩:=hrel
   have HS:=Lib.hid hs
   have HI:=Lib.hid hiff
   have HBL:=Lib.hid hbl
   have HRL:=Lib.hid hrl
   have hn9:=HN.out
   clear hs hiff hbl hrl
   cases rs with
   | nil =>
    obtain ⟨ad,cap,rfl⟩:=HS.out.shape
    go_wp2
    go_ret
    refine ⟨ret_bool ?_,HBL.out⟩
    rw [HB.out]
    exact (cplB_yes (HI.out.2 cpl_nil)).symm
   | cons t r =>
    have hlr : r.length ≤ 100000:=by have:=HRL.out; simp at this; omega
    have HFT:=Lib.hid (fun (W : World) (hW : Below wr.heap.size wr W) => fits_any t r _ W (HS.out.below hW) hlr)
    obtain ⟨b,hb⟩ : ∃ b,fitB t.1 r.length = b:=⟨_,rfl⟩
    rw [hb] at HFT
    have HFB:=Lib.hid hb
    obtain ⟨ad,cap,rfl⟩:=HS.out.shape
    obtain ⟨m,hm⟩ : ∃ m,m = (t :: r).length:=⟨_,rfl⟩
    have hm0 : 0 < m:=by rw [hm]; simp
    have q1 : decide ((0 : Int) < (m : Int)) = true:=by simp; omega
    have HM:=Lib.hid hm
    rw [← hm] at HFT HS hf ⊢
    clear hm hb
    cases b with
    | false =>
     go_wp2_with fail
     refine (HFT.out _ (Below.refl _ _)).mono ?_
     rintro e w2 ⟨rfl,hb2⟩
     go_wp2
     go_ret
     refine ⟨ret_bool ?_,HBL.out.trans (hb2.mono HBL.out.size)⟩
     rw [HB.out]
     refine (cplB_no fun hc => ?_).symm
     have h1:=cpl_fit (HI.out.1 hc)
     rw [List.length_map,HFB.out] at h1
     cases h1
    | true =>
     obtain ⟨bs,os,rr,hr,e1,e2⟩:=fit_part HFB.out
     have HR:=Lib.hid hr
     have HE1:=Lib.hid e1
     have HE2:=Lib.hid e2
     have HS2 : Hid (∀ W,Below wr.heap.size wr W → StsD W (.slice ad m cap) (t :: (bs ++ (os ++ rr)))):=fun W hW => by rw [← hr]; exact HS.out.below hW
     have hlb : bs.length < ts.length ∧ os.length < ts.length ∧ rr.length < ts.length ∧ rr.length ≤ gk - 1 ∧ 0 < gk:=by
      have h1:=HRL.out
      rw [hr] at h1
      have h2:=HM.out
      rw [hr] at h2
      simp at h1 h2
      omega
     have HLB:=Lib.hid hlb
     clear hr e1 e2 hlb
     go_wp2_with fail
     refine (HFT.out _ (Below.refl _ _)).mono ?_
     rintro e w2 ⟨rfl,hb2⟩
     go_wp2_with fail
     refine (cut_any t bs os rr _ _ (HS2.out _ hb2) HE1.out HE2.out).mono ?_
     rintro e w3 ⟨v1,v2,v3,rfl,d1,d2,d3,hb3⟩
     have HB3:=Lib.hid (hb2.trans (hb3.mono hb2.size))
     have D2:=Lib.hid d2
     have D3:=Lib.hid d3
     have D1:=Lib.hid d1
     obtain ⟨g1,k1,rfl⟩:=d1.shape
     obtain ⟨g2,k2,rfl⟩:=d2.shape
     obtain ⟨g3,k3,rfl⟩:=d3.shape
     have HIF : Hid (Cpl (ts.map (·.1)) ↔ Cpl (bs.map (·.1)) ∧ Cpl (os.map (·.1)) ∧ Cpl (rr.map (·.1))):=by
      have h1:=HI.out
      rw [HR.out,List.map_cons,List.map_append,List.map_append] at h1
      exact h1.trans (cpl_cons (by rw [List.length_map]; exact HE1.out) (by rw [List.length_map]; exact HE2.out))
     clear d1 d2 d3 hb2 hb3
     obtain ⟨c1,hc1⟩ : ∃ c,cplB (bs.map (·.1)) = c:=⟨_,rfl⟩
     obtain ⟨c2,hc2⟩ : ∃ c,cplB (os.map (·.1)) = c:=⟨_,rfl⟩
     have HC1:=Lib.hid hc1
     have HC2:=Lib.hid hc2
     clear hc1 hc2
     go_wp2_with fail
     refine (HIH.out bs _ _ HLB.out.1 D1.out).mono ?_
     rintro e w4 ⟨rfl,hb4⟩
     have HB4:=Lib.hid (HB3.out.trans (hb4.mono HB3.out.size))
     have D24:=Lib.hid (D2.out.below hb4)
     have D34:=Lib.hid (D3.out.below hb4)
     rw [HC1.out]
     clear hb4
     have hno : c1 = false ∨ c2 = false → ¬ Cpl (ts.map (·.1)):=by
      rintro (rfl | rfl) hc
      ·have:=cplB_yes (HIF.out.1 hc).1; rw [HC1.out] at this; cases this
      ·have:=cplB_yes (HIF.out.1 hc).2.1; rw [HC2.out] at this; cases this
     have HNO:=Lib.hid hno
     clear hno
     cases c1 with
     | false =>
      go_wp2
      go_ret
      refine ⟨ret_bool ?_,HBL.out.trans (HB4.out.mono HBL.out.size)⟩
      rw [HB.out]
      exact (cplB_no (HNO.out (.inl (by simp)))).symm
     | true =>
      go_wp2_with fail
      refine (HIH.out os _ _ HLB.out.2.1 D24.out).mono ?_
      rintro e w5 ⟨rfl,hb5⟩
      have HB5:=Lib.hid (HB4.out.trans (hb5.mono HB4.out.size))
      have D35:=Lib.hid (D34.out.below hb5)
      rw [HC2.out]
      clear hb5
      cases c2 with
      | false =>
       go_wp2
       go_ret
       refine ⟨ret_bool ?_,HBL.out.trans (HB5.out.mono HBL.out.size)⟩
       rw [HB.out]
       exact (cplB_no (HNO.out (.inr (by simp)))).symm
      | true =>
       go_wp2
       go_roundg (gk - 1)
       case measure => have:=HLB.out; omega
       case rel =>
        refine ⟨rr,D35.out,HLB.out.2.2.2.1,Nat.le_of_lt HLB.out.2.2.1,?_,HBL.out.trans (HB5.out.mono HBL.out.size)⟩
        have y1 : Cpl (bs.map (·.1)):=by
         by_cases hy : Cpl (bs.map (·.1))
         ·exact hy
         ·have:=cplB_no hy; rw [HC1.out] at this; cases this
        have y2 : Cpl (os.map (·.1)):=by
         by_cases hy : Cpl (os.map (·.1))
         ·exact hy
         ·have:=cplB_no hy; rw [HC2.out] at this; cases this
        exact HIF.out.trans ⟨fun hh => hh.2.2,fun hh => ⟨y1,y2,hh⟩⟩
theorem nests_int (k : Int) (w : World) : Calls Tryz.prog 159 #[.int .i64 k] w fun e w' => e = .returned (.bool (nestK k)) ∧ w = w':=by
 by_cases h0 : k = 10
 ·subst h0
  exact nests_any 10 w
 ·by_cases h1 : k = 11
  ·subst h1
   exact nests_any 11 w
  ·by_cases h2 : k = 12
   ·subst h2
    exact nests_any 12 w
   ·have hb : nestK k = false:=by simp [nestK,h0,h1,h2]
    rw [hb]
    have q0 : (k == 10) = false:=by simp; omega
    have q1 : (k == 11) = false:=by simp; omega
    have q2 : (k == 12) = false:=by simp; omega
    clear hb h0 h1 h2
    go_enter Tryz.func159,Tryz.ntmps159
    go_wp2
    go_ret
    exact ⟨rfl,rfl⟩
theorem hgt_le (t : Tr) : t.hgt ≤ t.flat.length:=by
 induction t with
 | nil => exact Nat.le_refl _
 | node s b o r hb ho hr =>
  rw [Tr.hgt,Tr.flat]
  simp only [List.length_cons,List.length_append]
  split <;> omega
theorem sheight_any : ∀ (N : Nat) (t : Tr) (ts : List SI) (v : Value) (w : World),ts.length ≤ N → ts.length ≤ 100000 → ts.map (·.1) = t.flat → StsD w v ts → Calls Tryz.prog 140 #[v] w fun e w' => e = .returned (.int .i64 (t.hgt : Int)) ∧ Below w.heap.size w w':=by
 intro N
 induction N using Nat.strongRecOn with
 | _ N ih =>
  intro t ts v w hN hn ht h
  have HIH : Hid (∀ (t' : Tr) (us : List SI) (u : Value) (W : World),us.length < ts.length → us.map (·.1) = t'.flat → StsD W u us → Calls Tryz.prog 140 #[u] W fun e w' => e = .returned (.int .i64 (t'.hgt : Int)) ∧ Below W.heap.size W w'):=
   fun t' us u W hu ht' hW => ih us.length (by omega) t' us u W (Nat.le_refl _) (by omega) ht' hW
  have HN : Hid (ts.length ≤ 100000):=hn
  have HH:=Lib.hid h
  obtain ⟨ad0,cap0,rfl⟩:=h.shape
  have HT:=Lib.hid ht
  obtain ⟨n0,hn0⟩ : ∃ n0,n0 = ts.length:=⟨_,rfl⟩
  have HN0:=Lib.hid hn0
  rw [← hn0] at HH ⊢
  clear ih hN hn h ht hn0
  go_enter Tryz.func140,Tryz.ntmps140
  go_wp2_with fail
  go_loopg [0,3] n0 (fun fuel v' g' wr => ∃ (rs : List SI) (t' : Tr) (gg : Nat),g' = .int .i64 (gg : Nat) ∧ StsD wr v' rs ∧ rs.map (·.1) = t'.flat ∧ rs.length ≤ fuel ∧ rs.length ≤ ts.length ∧ max gg t'.hgt = t.hgt ∧ Below w.heap.size w wr)
  case atStart => exact ⟨ts,t,0,rfl,HH.out,HT.out,by rw [HN0.out]; exact Nat.le_refl _,Nat.le_refl _,by omega,Below.refl _ _⟩
  case round =>
   obtain ⟨rs,t',gg,rfl,hs,htf,hf,hrl,hmx,hbl⟩:=hrel
   have HS:=Lib.hid hs
   have HBL:=Lib.hid hbl
   have HRL:=Lib.hid hrl
   have HMX:=Lib.hid hmx
   have hn9:=HN.out
   clear hs hbl hrl hmx
   cases t' with
   | nil =>
    have hrs : rs = []:=by cases rs with
     | nil => rfl
     | cons a b => cases htf
    subst hrs
    obtain ⟨ad,cap,rfl⟩:=HS.out.shape
    go_wp2
    go_ret
    refine ⟨ret_int ?_,HBL.out⟩
    have:=HMX.out
    rw [Tr.hgt] at this
    omega
   | node s b o r =>
    obtain ⟨t0,r0,hrs⟩ : ∃ t0 r0,rs = t0 :: r0:=by cases rs with
     | nil => cases htf
     | cons a b => exact ⟨a,b,rfl⟩
    subst hrs
    rw [Tr.flat,List.map_cons] at htf
    injection htf with e1 e2
    have hk : t0.1.kind = s.kind:=by rw [e1]
    have g1 : t0.1.body = (b.flat.length : Nat):=by rw [e1]
    have g2 : t0.1.els = (o.flat.length : Nat):=by rw [e1]
    rw [List.append_assoc] at e2
    obtain ⟨bs,br,hr,j1,j2⟩:=List.map_eq_append_iff.1 e2
    obtain ⟨os,rr,hr2,j3,j4⟩:=List.map_eq_append_iff.1 j2
    subst hr hr2
    have lb : bs.length = b.flat.length:=by rw [← j1,List.length_map]
    have lo : os.length = o.flat.length:=by rw [← j3,List.length_map]
    rw [← lb] at g1
    rw [← lo] at g2
    have hlb : bs.length < ts.length ∧ os.length < ts.length ∧ rr.length < ts.length ∧ rr.length ≤ gk - 1 ∧ 0 < gk:=by
     have h1:=HRL.out
     simp at h1 hf
     omega
    have HLB:=Lib.hid hlb
    have HJ1:=Lib.hid j1
    have HJ3:=Lib.hid j3
    have HJ4:=Lib.hid j4
    have HG1:=Lib.hid g1
    have HG2:=Lib.hid g2
    have hh1:=hgt_le b
    have hh2:=hgt_le o
    have hbnd : b.hgt ≤ 100000 ∧ o.hgt ≤ 100000 ∧ gg ≤ 100000:=by
     have h1:=HRL.out
     have h2:=HMX.out
     have h3:=hgt_le t
     have h4 : ts.length = t.flat.length:=by rw [← HT.out,List.length_map]
     simp at h1
     omega
    obtain ⟨hbd1,hbd2,hbd3⟩:=hbnd
    obtain ⟨b0,off,cap,hv0,_,_,hbl0,⟨h0,_⟩,_⟩:=HS.out.head
    subst hv0
    obtain ⟨m,hm⟩ : ∃ m,m = (bs ++ (os ++ rr)).length:=⟨_,rfl⟩
    have q1 : decide ((0 : Int) < ((m + 1 : Nat) : Int)) = true:=by simp
    rw [hk] at h0
    rw [← hm] at HS ⊢
    obtain ⟨kk,hkk⟩ : ∃ kk,kk = s.kind:=⟨_,rfl⟩
    have HKK:=Lib.hid hkk
    rw [← hkk] at h0
    obtain ⟨hb',hhb⟩ : ∃ z,z = b.hgt:=⟨_,rfl⟩
    obtain ⟨ho',hho⟩ : ∃ z,z = o.hgt:=⟨_,rfl⟩
    have HHB:=Lib.hid hhb
    have HHO:=Lib.hid hho
    rw [← hhb] at hbd1
    rw [← hho] at hbd2
    clear hlb j1 j2 j3 j4 g1 g2 e1 e2 hm hkk hk lb lo hh1 hh2 hf hhb hho
    go_wp2_with fail
    refine (cut_any t0 bs os rr _ _ HS.out HG1.out HG2.out).mono ?_
    rintro e w3 ⟨v1,v2,v3,rfl,d1,d2,d3,hb3⟩
    have D2:=Lib.hid d2
    have D3:=Lib.hid d3
    have D1:=Lib.hid d1
    have k0 : w3.cell? ⟨b0,off,none⟩ = some (.int .i64 kk):=(hb3.cell (p:=⟨b0,off,none⟩) hbl0).trans h0
    have HB3:=Lib.hid hb3
    obtain ⟨a1,k1,rfl⟩:=d1.shape
    obtain ⟨a2,k2,rfl⟩:=d2.shape
    obtain ⟨a3,k3,rfl⟩:=d3.shape
    clear d1 d2 d3 hb3 h0
    go_wp2_with fail
    refine (nests_int kk _).mono ?_
    rintro e w4 ⟨rfl,rfl⟩
    obtain ⟨nk,hnk⟩ : ∃ nk,nestK kk = nk:=⟨_,rfl⟩
    have HNK:=Lib.hid hnk
    rw [hnk]
    clear hnk
    cases nk with
    | false =>
     go_wp2
     go_roundg (gk - 1)
     case measure => have:=HLB.out; omega
     case rel =>
      refine ⟨rr,r,gg,rfl,D3.out,HJ4.out,HLB.out.2.2.2.1,Nat.le_of_lt HLB.out.2.2.1,?_,HBL.out.trans (HB3.out.mono HBL.out.size)⟩
      have:=HMX.out
      rw [Tr.hgt,← HKK.out,HNK.out,if_neg (by simp)] at this
      omega
    | true =>
     go_wp2_with fail
     refine (HIH.out b bs _ _ HLB.out.1 HJ1.out D1.out).mono ?_
     rintro e w5 ⟨rfl,hb5⟩
     have HB5:=Lib.hid (HB3.out.trans (hb5.mono HB3.out.size))
     have D25:=Lib.hid (D2.out.below hb5)
     have D35:=Lib.hid (D3.out.below hb5)
     rw [← HHB.out]
     clear hb5
     go_wp2_with fail
     refine (HIH.out o os _ _ HLB.out.2.1 HJ3.out D25.out).mono ?_
     rintro e w6 ⟨rfl,hb6⟩
     have HB6:=Lib.hid (HB5.out.trans (hb6.mono HB5.out.size))
     have D36:=Lib.hid (D35.out.below hb6)
     rw [← HHO.out]
     clear hb6
     go_wp2
     all_goals
      go_roundg (gk - 1)
      case measure => have:=HLB.out; omega
      case rel =>
       refine ⟨rr,r,max gg (max (1 + hb') (1 + ho')),?_,D36.out,HJ4.out,HLB.out.2.2.2.1,Nat.le_of_lt HLB.out.2.2.1,?_,HBL.out.trans (HB6.out.mono HBL.out.size)⟩
       ·congr 1
        omega
       ·have:=HMX.out
        rw [Tr.hgt,← HKK.out,HNK.out,if_pos rfl,← HHB.out,← HHO.out] at this
        omega
def nameW (s : ByteArray) (b : Bool) : Bool:=if b = true then nameB s else decide (s.size = 0)
noncomputable def valW (l : List Nd) (b : Bool) : Bool:=if b = true then (rightB l && regsO l) else decide (l.length = 0)
theorem snameW_any (s : ByteArray) (b : Bool) (w : World) (hs : s.size ≤ 100000) : Calls Tryz.prog 181 #[.string s,.bool b] w fun e w' => e = .returned (.bool (nameW s b)) ∧ Below w.heap.size w w':=by
 cases b with
 | true =>
  have HN:=Lib.hid (name_is2 s w hs (nameB s) rfl)
  show Calls _ _ _ _ fun e w' => e = .returned (.bool (nameB s)) ∧ _
  obtain ⟨z,hz⟩ : ∃ z,nameB s = z:=⟨_,rfl⟩
  rw [hz] at HN ⊢
  clear hz
  go_enter Tryz.func181,Tryz.ntmps181
  go_wp2_with fail
  refine HN.out.mono ?_
  rintro e w2 ⟨rfl,hb⟩
  go_wp2
  go_ret
  exact ⟨rfl,hb⟩
 | false =>
  show Calls _ _ _ _ fun e w' => e = .returned (.bool (decide (s.size = 0))) ∧ _
  by_cases h : s.size = 0
  ·have hs0 : s = ⟨#[]⟩:=empty_of_size s h
   subst hs0
   go_enter Tryz.func181,Tryz.ntmps181
   go_wp2
   go_ret
   exact ⟨rfl,Below.refl _ _⟩
  ·have q : s.toList.isEmpty = false:=by
    rw [Lib.toList_data]
    rw [Lib.size_eq] at h
    cases hd : s.data.toList with
    | nil => rw [hd] at h; exact absurd rfl h
    | cons a r => rfl
   rw [decide_eq_false h]
   clear h
   go_enter Tryz.func181,Tryz.ntmps181
   go_wp2
   go_ret
   exact ⟨rfl,Below.refl _ _⟩
theorem svalue_any (l : List Nd) (v : Value) (b : Bool) (w : World) (hv : NdsC w v l) (hn : l.length ≤ 100000) (hz : NmOK l) : Calls Tryz.prog 182 #[v,.bool b] w fun e w' => e = .returned (.bool (valW l b)) ∧ Below w.heap.size w w':=by
 cases b with
 | true =>
  have HR:=Lib.hid (right_any l v w hv.nds hn hz (rightB l) rfl)
  have HC:=Lib.hid (fun (w' : World) (h : Below w.heap.size w w') => fcontains_any l v w' (hv.below h).nds hn (regsO l) rfl)
  show Calls _ _ _ _ fun e w' => e = .returned (.bool (rightB l && regsO l)) ∧ _
  obtain ⟨z1,h1⟩ : ∃ z,rightB l = z:=⟨_,rfl⟩
  obtain ⟨z2,h2⟩ : ∃ z,regsO l = z:=⟨_,rfl⟩
  rw [h1] at HR ⊢
  rw [h2] at HC ⊢
  obtain ⟨ad,cap,rfl,_⟩:=hv
  clear h1 h2 hz hn
  cases z1 with
  | false =>
   go_enter Tryz.func182,Tryz.ntmps182
   go_wp2_with fail
   refine HR.out.mono ?_
   rintro e w2 ⟨rfl,hb⟩
   go_wp2
   go_ret
   exact ⟨rfl,hb⟩
  | true =>
   go_enter Tryz.func182,Tryz.ntmps182
   go_wp2_with fail
   refine HR.out.mono ?_
   rintro e w2 ⟨rfl,hb⟩
   go_wp2_with fail
   refine (HC.out w2 hb).mono ?_
   rintro e w3 ⟨rfl,hb3⟩
   cases z2 <;>
   ·go_wp2
    go_ret
    exact ⟨rfl,hb.trans (hb3.mono hb.size)⟩
 | false =>
  obtain ⟨ad,cap,rfl,_⟩:=hv
  show Calls _ _ _ _ fun e w' => e = .returned (.bool (decide (l.length = 0))) ∧ _
  obtain ⟨n,hN⟩ : ∃ n,n = l.length:=⟨_,rfl⟩
  rw [← hN] at hn ⊢
  clear hN hz
  by_cases h : n = 0
  ·subst h
   go_enter Tryz.func182,Tryz.ntmps182
   go_wp2
   go_ret
   exact ⟨rfl,Below.refl _ _⟩
  ·rw [decide_eq_false h]
   have q1 : ((n : Int) == 0) = false:=by simp; omega
   have q2 : (n == 0) = false:=by simp; omega
   clear h
   go_enter Tryz.func182,Tryz.ntmps182
   go_wp2
   go_ret
   exact ⟨rfl,Below.refl _ _⟩
def hasB (k j : Nat) : Bool:=
 if j = 0 then hasR k else if j = 1 then hasL k else if j = 2 then hasE k else if j = 3 then hasF k else if j = 4 then decide (k = 9) else if j = 5 then nestK k else decide (k = 10)
def Flds (w : World) : Prop:=2 < w.heap.size ∧ ∀ k,k < 14 → ∀ j,j < 7 → w.cell? ⟨2,k * 7 + j,none⟩ = some (.bool (hasB k j))
theorem Flds.below {w w' : World} (h : Flds w) (hb : Below w.heap.size w w') : Flds w':=⟨Nat.lt_of_lt_of_le h.1 hb.size,fun k hk j hj => (hb.cell (p:=⟨2,k * 7 + j,none⟩) h.1).trans (h.2 k hk j hj)⟩
noncomputable def flawB (x : St) : Bool:=
 if x.kind < 1 ∨ 13 < x.kind ∨ x.pl < 0 then true else
 !(nameW x.reg (hasB x.kind.toNat 0) && (nameW x.loc (hasB x.kind.toNat 1) && (valW x.e (hasB x.kind.toNat 2) && valW x.f (hasB x.kind.toNat 3)))) ||
  ((x.ne && !hasB x.kind.toNat 4) || ((decide (x.body ≠ 0) && !hasB x.kind.toNat 5) || (decide (x.els ≠ 0) && !hasB x.kind.toNat 6)))
end Go.Proofs.YtcghccjnadagcaaGreatDoor
