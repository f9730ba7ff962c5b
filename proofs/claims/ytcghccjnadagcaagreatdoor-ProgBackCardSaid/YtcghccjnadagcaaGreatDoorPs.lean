/- Facts. -/
import Derived.Test.YtcghccjnadagcaaGreatDoorPp
import Derived.Test.YtcghccjnadagcaaGreatDoorA
import Derived.Test.YtcghccjnadagcaaGreatDoorZn
set_option maxRecDepth 100000
set_option maxHeartbeats 32000000
namespace Go.Proofs.YtcghccjnadagcaaGreatDoor
open Go.RowKit
noncomputable def parseG (s : List UInt8) : Pg × Nat × Nat:=
 if (scanL s).2.1 ≠ 0 then (⟨0,[],[],[]⟩,(scanL s).2.1,(scanL s).2.2)
 else if (gprP (scanL s).1 ⟨0,0,0⟩).2.k ≠ 0 then (⟨0,[],[],[]⟩,(gprP (scanL s).1 ⟨0,0,0⟩).2.k,(gprP (scanL s).1 ⟨0,0,0⟩).2.a)
 else ((gprP (scanL s).1 ⟨0,0,0⟩).1,0,0)
def PAns (R : Pg × Nat × Nat) (w : World) (e : Ending) (w' : World) : Prop:=
 ∃ a b c,e = .returned (.tuple #[.agg #[.int .i64 R.1.mod,a,b,c],.int .i64 R.2.1,.int .i64 R.2.2]) ∧ POwn w' w.heap.size a b c R.1 ∧ Below w.heap.size w w'
theorem POwn.mono {w : World} {B B' : Nat} {a b c : Value} {g : Pg} (h : POwn w B a b c g) (hB : B' ≤ B) : POwn w B' a b c g:=⟨own_mono h.l hB,h.t.mono hB,h.c.mono hB⟩
theorem results_parse {fn : Func} {p : Tmp} {e k : Tmp} (h : fn.results = #[.cell p 27,.tmp e,.tmp k]) (tmps : Array Value) (w : World) (b : Nat) (u0 u1 u2 u3 v1 v2 : Value) (hp : tmps.getD p undef = .pointer (some ⟨b,0,none⟩)) (he : tmps.getD e undef = v1) (hk : tmps.getD k undef = v2) (hb : Bk w b 27 #[u0,u1,u2,u3]) :
  (results fn tmps).run Tryz.prog w = .ok (.tuple #[.agg #[u0,u1,u2,u3],v1,v2]) w:=by
 have y0:=hb.cell 0
 have y1:=hb.cell 1
 have y2:=hb.cell 2
 have y3:=hb.cell 3
 have hp2 : tmps[p]?.getD undef = .pointer (some ⟨b,0,none⟩):=by simpa using hp
 have he2 : tmps[e]?.getD undef = v1:=by simpa using he
 have hk2 : tmps[k]?.getD undef = v2:=by simpa using hk
 simp only [results,h]
 simp [hp2,he2,hk2,go_sem,y0,y1,y2,y3]
theorem gparse_any (s : ByteArray) (w : World) (hs : Sgn w) (hw : Wds w) (hl : s.size ≤ maxLen) :
  Calls Tryz.prog 9 #[.string s] w (PAns (parseG s.data.toList) w):=by
 have HSC:=Lib.hid (fun W => scan_any s W hl)
 have HS:=Lib.hid hs
 have HW:=Lib.hid hw
 unfold parseG
 have hbig : (scanL s.data.toList).1.length ≤ 100000 ∧ TokOK (scanL s.data.toList).1:=by
  by_cases h20 : 20000 < s.data.toList.length
  ·have e : scanL s.data.toList = ([],2,20000):=if_pos h20
   rw [e]
   exact ⟨Nat.zero_le _,fun i => by rw [tokO_over [] i (by simp)]; simp⟩
  ·exact ⟨by have:=scan_few s.data.toList (by omega); omega,scan_tokOK s.data.toList (by omega)⟩
 obtain ⟨⟨l,k,a⟩,hR⟩ : ∃ R,R = scanL s.data.toList:=⟨_,rfl⟩
 rw [← hR] at HSC hbig ⊢
 simp only [] at hbig ⊢
 have HBIG:=Lib.hid hbig
 have HB:=Lib.hid (Bk.new w 27 #[.int .i64 0,.slice none 0 0,.slice none 0 0,.slice none 0 0])
 clear hs hw hR hbig hl
 by_cases hk : k = 0
 ·subst hk
  simp only [ne_eq,not_true,if_false]
  obtain ⟨g,hg⟩ : ∃ g,g = (gprP l ⟨0,0,0⟩).1:=⟨_,rfl⟩
  obtain ⟨q,hq⟩ : ∃ q,q = (gprP l ⟨0,0,0⟩).2:=⟨_,rfl⟩
  rw [← hg,← hq]
  have HG:=Lib.hid hg
  have HQ:=Lib.hid hq
  clear hg hq
  obtain ⟨RR,hrr⟩ : ∃ RR : Pg × Nat × Nat,RR = if ¬ q.k = 0 then (⟨0,[],[],[]⟩,q.k,q.a) else (g,0,0):=⟨_,rfl⟩
  rw [← hrr]
  have HRR:=Lib.hid hrr
  clear hrr
  go_enter Tryz.func9,Tryz.ntmps9
  go_wp2_with fail
  refine (HSC.out _).mono ?_
  rintro e w1 ⟨v,rfl,o1,b1⟩
  have ht:=tokC_of_own o1
  obtain ⟨ad,cap,rfl,_⟩:=own_shape o1
  have hx : Tg w1 l (.slice ad l.length cap):=⟨ht,HBIG.out.1,HBIG.out.2⟩
  have KB:=Lib.hid (below_a b1)
  have HP:=gprogram_any hx (HS.out.below KB.out) (HW.out.below KB.out) (w1.alloc (.cells #[.slice ad l.length cap,.int .i64 0,.int .i64 0,.int .i64 0] 54)) (r:=w1.heap.size) (q:=⟨0,0,0⟩)
   ⟨heap_alloc_new w1 _,(Below.refl _ _).alloc (Nat.le_refl _) _,Nat.le_refl _,⟨Nat.zero_le _,fun _ => rfl,fun h => absurd rfl h⟩⟩
  rw [← HG.out,← HQ.out,alloc_size] at HP
  have HPP:=Lib.hid HP
  have HB1:=Lib.hid (HB.out.below b1)
  have hlb : w.heap.size < w1.heap.size:=HB1.out.lt
  clear HP hx ht o1 b1 HB HSC HS HW HBIG HG HQ
  obtain ⟨L,hL⟩ : ∃ L,L = l.length:=⟨_,rfl⟩
  rw [← hL] at HPP ⊢
  clear hL
  go_wp2_with fail
  refine HPP.out.mono ?_
  rintro e w3 ⟨a9,b9,c9,rfl,s3,k3,p3⟩
  obtain ⟨a1,n1,d1,rfl⟩ : ∃ x n y,a9 = .slice x n y:=by obtain ⟨x,y,h,_⟩:=own_shape p3.l; exact ⟨x,_,y,h⟩
  obtain ⟨a2,n2,d2,rfl⟩ : ∃ x n y,b9 = .slice x n y:=by obtain ⟨x,y,h⟩:=p3.t.shape; exact ⟨x,_,y,h⟩
  obtain ⟨a3,n3,d3,rfl⟩ : ∃ x n y,c9 = .slice x n y:=by obtain ⟨x,y,h⟩:=p3.c.shape; exact ⟨x,_,y,h⟩
  obtain ⟨⟨_,_,c2,c3⟩,_⟩:=s3.prs.facts
  have hr3:=s3.prs.lt
  have hbel : Below w.heap.size w w3:=KB.out.trans (s3.bel.mono KB.out.size)
  have hb3:=(HB1.out.below ((Below.refl w1.heap.size w1).alloc (Nat.le_refl _) (.cells #[.slice ad L cap,.int .i64 0,.int .i64 0,.int .i64 0] 54))).keep k3 (by omega)
  have HX1:=Lib.hid (p3.mono (B':=w.heap.size) (by omega))
  have HX2:=Lib.hid hbel
  have HX3:=Lib.hid hb3
  have e0:=hb3.cell 0
  have e1:=hb3.cell 1
  have e2:=hb3.cell 2
  have e3:=hb3.cell 3
  have g0:=hb3.fz 0
  have g1:=hb3.fz 1
  have g2:=hb3.fz 2
  have g3:=hb3.fz 3
  have rl:=hb3.lt
  by_cases hk : q.k = 0
  ·have HIF:=Lib.hid (HRR.out.trans (if_neg (by simpa using hk)))
   have q1 : ((q.k : Int) != 0) = false:=by simp; omega
   clear s3 k3 p3 hbel hb3 hk HPP
   go_wp2
   have j0:=HX3.out
   have j1:=j0.set 0 (.int .i64 g.mod)
   have j2:=j1.set 1 (.slice a1 n1 d1)
   have j3:=j2.set 2 (.slice a2 n2 d2)
   have j4:=j3.set 3 (.slice a3 n3 d3)
   have hal:=(Below.refl (((((w3.setCell ⟨w.heap.size,0,none⟩ (.int .i64 g.mod)).setCell ⟨w.heap.size,1,none⟩ (.slice a1 n1 d1)).setCell ⟨w.heap.size,2,none⟩ (.slice a2 n2 d2)).setCell ⟨w.heap.size,3,none⟩ (.slice a3 n3 d3))).heap.size _).alloc (Nat.le_refl _) (.cells #[.int .i64 g.mod,.slice a1 n1 d1,.slice a2 n2 d2,.slice a3 n3 d3] 27)
   refine bodyPost_ret (v:=.tuple #[.agg #[.int .i64 g.mod,.slice a1 n1 d1,.slice a2 n2 d2,.slice a3 n3 d3],.int .i64 0,.int .i64 0]) (results_parse rfl _ _ _ _ _ _ _ _ _ rfl rfl rfl (j4.below hal)) rfl ?_
   rw [HIF.out]
   refine ⟨_,_,_,rfl,((((HX1.out.setBk j0).setBk j1).setBk j2).setBk j3).below hal,?_⟩
   exact (below_set4' HX2.out (Nat.le_refl _) _ _ _ _).trans (hal.mono (by have:=j0.lt; simp only [World.setCell,Array.size_modify]; omega))
  ·have HIF:=Lib.hid (HRR.out.trans (if_pos (by simpa using hk)))
   have q1 : ((q.k : Int) != 0) = true:=by simp; omega
   clear s3 k3 p3 hbel hb3 hk HPP
   go_wp2
   go_region
   go_wp2
   have j0:=HX3.out
   have j1:=j0.set 0 (.int .i64 0)
   have j2:=j1.set 1 (.slice none 0 0)
   have j3:=j2.set 2 (.slice none 0 0)
   have j4:=j3.set 3 (.slice none 0 0)
   have hal:=((Below.refl (((((w3.setCell ⟨w.heap.size,0,none⟩ (.int .i64 0)).setCell ⟨w.heap.size,1,none⟩ (.slice none 0 0)).setCell ⟨w.heap.size,2,none⟩ (.slice none 0 0)).setCell ⟨w.heap.size,3,none⟩ (.slice none 0 0))).heap.size _).alloc (Nat.le_refl _) (.cells #[.int .i64 g.mod,.slice a1 n1 d1,.slice a2 n2 d2,.slice a3 n3 d3] 27)).drew
   refine bodyPost_ret (v:=.tuple #[.agg #[.int .i64 0,.slice none 0 0,.slice none 0 0,.slice none 0 0],.int .i64 q.k,.int .i64 q.a]) (results_parse rfl _ _ _ _ _ _ _ _ _ rfl rfl rfl (j4.below hal)) rfl ?_
   rw [HIF.out]
   refine ⟨_,_,_,rfl,POwn.nil _ _ _,?_⟩
   exact (below_set4' HX2.out (Nat.le_refl _) _ _ _ _).trans (hal.mono (by have:=j0.lt; simp only [World.setCell,Array.size_modify]; omega))
 ·rw [if_pos hk]
  have q1 : ((k : Int) != 0) = true:=by simp; omega
  clear hk
  go_enter Tryz.func9,Tryz.ntmps9
  go_wp2_with fail
  refine (HSC.out _).mono ?_
  rintro e w1 ⟨v,rfl,o1,b1⟩
  have B1:=HB.out.below b1
  have e0:=B1.cell 0
  have e1:=B1.cell 1
  have e2:=B1.cell 2
  have e3:=B1.cell 3
  have g0:=B1.fz 0
  have g1:=B1.fz 1
  have g2:=B1.fz 2
  have g3:=B1.fz 3
  have rl:=B1.lt
  have KB:=Lib.hid (below_a b1)
  have HB1:=Lib.hid B1
  clear o1 b1 B1
  go_wp2
  refine bodyPost_ret (v:=.tuple #[.agg #[.int .i64 0,.slice none 0 0,.slice none 0 0,.slice none 0 0],.int .i64 k,.int .i64 a]) (results_parse rfl _ _ _ _ _ _ _ _ _ rfl rfl rfl (HB1.out.set4 _ _ _ _)) rfl ⟨_,_,_,rfl,POwn.nil _ _ _,?_⟩
  exact below_set4' KB.out (Nat.le_refl _) _ _ _ _
end Go.Proofs.YtcghccjnadagcaaGreatDoor
