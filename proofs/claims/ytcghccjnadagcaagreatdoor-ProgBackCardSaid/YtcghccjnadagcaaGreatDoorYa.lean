/- Facts. -/
import Derived.Test.YtcghccjnadagcaaGreatDoorKa
import Derived.Test.YtcghccjnadagcaaGreatDoorRa
import Derived.Lib.QuietBelow
import Derived.Test.YtcghccjnadagcaaGreatDoorNh
set_option maxRecDepth 100000
set_option maxHeartbeats 32000000
namespace Go.Proofs.YtcghccjnadagcaaGreatDoor
open Go.RowKit
def Prs (w : World) (r : Nat) (lv : Value) (n o : Int) (dv mv : Value) (k a : Int) : Prop:=
 w.heap[r]? = some (.cells #[lv,.int .i64 n,.int .i64 o,dv,mv,.int .i64 k,.int .i64 a] 196 (0,0))
section
variable {w w' x : World} {r g : Nat} {lv dv mv : Value} {n o k a : Int}
theorem Prs.lt (h : Prs w r lv n o dv mv k a) : r < w.heap.size:=(Array.getElem?_eq_some_iff.1 h).1
theorem Prs.below (h : Prs w r lv n o dv mv k a) (hb : Below w.heap.size w w') : Prs w' r lv n o dv mv k a:=by
 unfold Prs at *; rw [hb.block r (Prs.lt h)]; exact h
theorem Prs.alloc (h : Prs w r lv n o dv mv k a) (u : Obj) : Prs (w.alloc u) r lv n o dv mv k a:=h.below ((Below.refl _ _).alloc (Nat.le_refl _) _)
theorem Prs.drewN (h : Prs w r lv n o dv mv k a) (d : Nat) : Prs (w.drewN d) r lv n o dv mv k a:=h
theorem Prs.drew (h : Prs w r lv n o dv mv k a) : Prs w.drew r lv n o dv mv k a:=h
theorem Prs.keep (h : Prs w r lv n o dv mv k a) (hk : Keep g w w') (hg : r ≠ g) : Prs w' r lv n o dv mv k a:=by
 unfold Prs at *; rw [hk.block r (Prs.lt h) hg]; exact h
theorem Prs.other (h : Prs w r lv n o dv mv k a) (g q : Nat) (hg : g ≠ r) (u : Value) : Prs (w.setCell ⟨g,q,none⟩ u) r lv n o dv mv k a:=by
 unfold Prs at *; rw [Below.heap_setCell _ _ _ _ (by exact Ne.symm hg)]; exact h
theorem Prs.facts (h : Prs w r lv n o dv mv k a) :
  (w.cell? ⟨r,0,none⟩ = some lv ∧ w.cell? ⟨r,1,none⟩ = some (.int .i64 n) ∧ w.cell? ⟨r,2,none⟩ = some (.int .i64 o) ∧ w.cell? ⟨r,3,none⟩ = some dv ∧ w.cell? ⟨r,4,none⟩ = some mv ∧ w.cell? ⟨r,5,none⟩ = some (.int .i64 k) ∧ w.cell? ⟨r,6,none⟩ = some (.int .i64 a)) ∧
  w.frozen? ⟨r,1,none⟩ = false ∧ w.frozen? ⟨r,2,none⟩ = false ∧ w.frozen? ⟨r,3,none⟩ = false ∧ w.frozen? ⟨r,4,none⟩ = false ∧ w.frozen? ⟨r,5,none⟩ = false ∧ w.frozen? ⟨r,6,none⟩ = false:=by
 unfold Prs at h
 simp [World.cell?,World.frozen?,h]
theorem Prs.set (h : Prs w r lv n o dv mv k a) :
  (∀ x,Prs (w.setCell ⟨r,1,none⟩ (.int .i64 x)) r lv x o dv mv k a) ∧ (∀ x,Prs (w.setCell ⟨r,2,none⟩ (.int .i64 x)) r lv n x dv mv k a) ∧ (∀ x,Prs (w.setCell ⟨r,3,none⟩ x) r lv n o x mv k a) ∧ (∀ x,Prs (w.setCell ⟨r,4,none⟩ x) r lv n o dv x k a) ∧
  (∀ x,Prs (w.setCell ⟨r,5,none⟩ (.int .i64 x)) r lv n o dv mv x a) ∧ (∀ x,Prs (w.setCell ⟨r,6,none⟩ (.int .i64 x)) r lv n o dv mv k x):=by
 unfold Prs at h
 have hlt:=(Array.getElem?_eq_some_iff.1 h).1
 have hg:=(Array.getElem?_eq_some_iff.1 h).2
 refine ⟨fun x => ?_,fun x => ?_,fun x => ?_,fun x => ?_,fun x => ?_,fun x => ?_⟩ <;> simp [Prs,World.setCell,Array.getElem?_modify,h]
end
def atB (l : List Tok) (n kd : Nat) (s : List UInt8) : Bool:=decide ((tokO l n).1 = kd) && ((tokO l n).2.1 == s)
theorem tokO_over (l : List Tok) (n : Nat) (h : ¬ n < l.length) : tokO l n = (0,[],0,0):=by
 unfold tokO
 rw [List.getElem?_eq_none (by omega)]
 rfl
theorem sees_any (l : List Tok) (r : Nat) (lv dv mv : Value) (n : Nat) (o k a : Int) (kd : Nat) (x : ByteArray) (w : World) (hp : Prs w r lv n o dv mv k a) (ht : TokC w lv l) (_hn : l.length ≤ 100000) (h0 : kd ≠ 0) (b : Bool) (hb : atB l n kd x.data.toList = b) :
  Calls Tryz.prog 227 #[.pointer (some ⟨r,0,none⟩),.int .i64 kd,.string x] w fun e w' => e = .returned (.bool b) ∧ Below w.heap.size w w':=by
 obtain ⟨ad,cap,rfl,hc⟩:=ht
 obtain ⟨⟨c0,c1,_,_,_,_,_⟩,_⟩:=hp.facts
 have hr:=hp.lt
 clear hp
 unfold atB at hb
 by_cases hlt : n < l.length
 ·obtain ⟨g,rfl,hg,k0,k1,k2,k3⟩:=hc n hlt
  rw [tokO_in l n hlt] at hb
  obtain ⟨⟨tk,tx,tn,tp⟩,htk⟩ : ∃ t,t = l[n]:=⟨_,rfl⟩
  rw [← htk] at k0 k1 hb
  simp only [] at k0 k1 hb
  obtain ⟨m,hN⟩ : ∃ m,m = l.length:=⟨_,rfl⟩
  rw [← hN] at _hn c0
  have hlt' : n < m:=by omega
  have q1 : decide ((n : Int) < (m : Int)) = true:=by simp; omega
  have q2 : decide (n < m) = true:=by simp; omega
  clear hc k2 k3 htk hN hlt
  by_cases h3 : tk = kd
  ·subst h3
   obtain ⟨y,hy⟩ : ∃ y : ByteArray,y = ⟨tx.toArray⟩:=⟨_,rfl⟩
   have hyx : (y.toList == x.toList) = b:=by rw [← hb,Lib.toList_data,Lib.toList_data,hy]; simp
   rw [← hy] at k1
   clear hb hy
   cases b <;>
   ·go_enter Tryz.func227,Tryz.ntmps227
    go_wp2
    go_quiet (fail)
    go_wp2
    go_ret
    exact ⟨rfl,below_end _⟩
  ·have q : ((tk : Int) == (kd : Int)) = false:=by simp; omega
   have hb' : b = false:=by rw [← hb]; simp [h3]
   subst hb'
   clear hb h3
   go_enter Tryz.func227,Tryz.ntmps227
   go_wp2
   go_quiet (fail)
   go_wp2
   go_ret
   exact ⟨rfl,below_end _⟩
 ·have hb' : b = false:=by
   rw [← hb,tokO_over l n hlt]
   simp [Ne.symm h0]
  subst hb'
  obtain ⟨m,hN⟩ : ∃ m,m = l.length:=⟨_,rfl⟩
  rw [← hN] at _hn c0
  have hlt' : m ≤ n:=by omega
  have q1 : decide ((n : Int) < (m : Int)) = false:=by simp; omega
  have q2 : decide (n < m) = false:=by simp; omega
  clear hc hb hN hlt
  go_enter Tryz.func227,Tryz.ntmps227
  go_wp2
  go_quiet (fail)
  go_wp2
  go_ret
  exact ⟨rfl,below_end _⟩
def To (r : Nat) (lv dv mv : Value) (n o k a : Int) (w : World) (e : Ending) (w' : World) : Prop:=e = .returned (.tuple #[]) ∧ Prs w' r lv n o dv mv k a ∧ Keep r w w'
theorem sfail_any (r : Nat) (ad : Option Addr) (L cap : Nat) (dv mv : Value) (n o k a k' a' : Int) (w : World) (hp : Prs w r (.slice ad L cap) n o dv mv k a) (hz : k = 0 → a = 0) :
  Calls Tryz.prog 235 #[.pointer (some ⟨r,0,none⟩),.int .i64 k',.int .i64 a'] w (To r (.slice ad L cap) dv mv L o (fst0 k k') (snd0 k a' a) w):=by
 have hr:=hp.lt
 obtain ⟨⟨c0,c1,c2,c3,c4,c5,c6⟩,f1,f2,f3,f4,f5,f6⟩:=hp.facts
 have HP:=Lib.hid hp
 clear hp
 by_cases h : k = 0
 ·subst h
  obtain rfl:=hz rfl
  have e1 : fst0 0 k' = k':=rfl
  have e2 : snd0 0 a' 0 = a':=rfl
  rw [e1,e2]
  clear e1 e2 hz
  go_enter Tryz.func235,Tryz.ntmps235
  go_wp2
  refine bodyPost_ret (v:=.tuple #[]) (by simp [results,Tryz.results235,go_sem]) rfl ⟨rfl,(((HP.out.set.2.2.2.2.1 k').set.2.2.2.2.2 a').set.1 _),(((Keep.refl r w).setCell 5 _).setCell 6 _).setCell 1 _⟩
 ·have e1 : fst0 k k' = k:=if_neg h
  have e2 : snd0 k a' a = a:=by unfold snd0; rw [if_neg h]
  rw [e1,e2]
  have q : (k == 0) = false:=by simpa using h
  clear e1 e2 hz h
  go_enter Tryz.func235,Tryz.ntmps235
  go_wp2
  refine bodyPost_ret (v:=.tuple #[]) (by simp [results,Tryz.results235,go_sem]) rfl ⟨rfl,HP.out.set.1 _,(Keep.refl r w).setCell 1 _⟩
structure Pq where
 n : Nat
 k : Nat
 a : Nat
def Pq.ok (q : Pq) (L : Nat) : Prop:=q.n ≤ L ∧ (q.k = 0 → q.a = 0) ∧ (q.k ≠ 0 → q.n = L)
def failP (L : Nat) (q : Pq) (k a : Nat) : Pq:=if q.k = 0 then ⟨L,k,a⟩ else ⟨L,q.k,q.a⟩
def refP (l : List Tok) (q : Pq) : Pq:=failP l.length q (refK l q.n).1 (refK l q.n).2
def sgP (l : List Tok) (q : Pq) (s : List UInt8) : Pq:=if sgAt l q.n s = true then ⟨q.n + 1,q.k,q.a⟩ else refP l q
def nmP (l : List Tok) (q : Pq) : ByteArray × Pq:=if nmAt l q.n = true then (txt l q.n,⟨q.n + 1,q.k,q.a⟩) else (⟨#[]⟩,refP l q)
theorem refK_ne (l : List Tok) (i : Nat) : (refK l i).1 ≠ 0:=by unfold refK; split <;> simp
theorem failP_ok {L : Nat} {q : Pq} {k a : Nat} (hk : k ≠ 0) : (failP L q k a).ok L:=by
 unfold failP
 by_cases h0 : q.k = 0
 ·rw [if_pos h0]; exact ⟨Nat.le_refl _,fun h => absurd h hk,fun _ => rfl⟩
 ·rw [if_neg h0]; exact ⟨Nat.le_refl _,fun h => absurd h h0,fun _ => rfl⟩
theorem refP_ok (l : List Tok) (q : Pq) : (refP l q).ok l.length:=failP_ok (refK_ne l q.n)
theorem atB_lt {l : List Tok} {n kd : Nat} {s : List UInt8} (h : atB l n kd s = true) (hk : kd ≠ 0) : n < l.length:=by
 by_cases hlt : n < l.length
 ·exact hlt
 ·unfold atB at h
  rw [tokO_over l n hlt] at h
  simp [Ne.symm hk] at h
theorem sgAt_at (l : List Tok) (n : Nat) (s : List UInt8) : sgAt l n s = atB l n 3 s:=rfl
theorem Pq.step {l : List Tok} {q : Pq} (h : q.ok l.length) (hl : q.n < l.length) : Pq.ok ⟨q.n + 1,q.k,q.a⟩ l.length:=
 ⟨hl,h.2.1,fun hk => by have:=h.2.2 hk; omega⟩
theorem sgP_ok {l : List Tok} {q : Pq} (h : q.ok l.length) (s : List UInt8) : (sgP l q s).ok l.length:=by
 unfold sgP
 by_cases hs : sgAt l q.n s = true
 ·rw [if_pos hs]; exact Pq.step h (atB_lt hs (by decide))
 ·rw [if_neg hs]; exact refP_ok l q
theorem nmAt_in {l : List Tok} {n : Nat} (h : nmAt l n = true) : n < l.length:=by
 by_cases hlt : n < l.length
 ·exact hlt
 ·unfold nmAt at h
  rw [tokO_over l n hlt] at h
  simp at h
theorem nmP_ok {l : List Tok} {q : Pq} (h : q.ok l.length) : (nmP l q).2.ok l.length:=by
 unfold nmP
 by_cases hs : nmAt l q.n = true
 ·rw [if_pos hs]; exact Pq.step h (nmAt_in hs)
 ·rw [if_neg hs]; exact refP_ok l q
structure Tx (w0 : World) (l : List Tok) (lv : Value) : Prop where
 ht : TokC w0 lv l
 hn : l.length ≤ 100000
 ok : TokOK l
 pos : 0 < l.length
structure Sta (w0 w : World) (r : Nat) (l : List Tok) (lv : Value) (q : Pq) (o : Nat) (dv mv : Value) : Prop where
 prs : Prs w r lv q.n o dv mv q.k q.a
 bel : Below w0.heap.size w0 w
 hr : w0.heap.size ≤ r
 ok : q.ok l.length
section
variable {w0 w w' : World} {r : Nat} {l : List Tok} {lv dv mv : Value} {q : Pq} {o : Nat}
theorem Sta.below (h : Sta w0 w r l lv q o dv mv) (hb : Below w.heap.size w w') : Sta w0 w' r l lv q o dv mv:=⟨h.prs.below hb,h.bel.trans (hb.mono h.bel.size),h.hr,h.ok⟩
theorem Sta.alloc (h : Sta w0 w r l lv q o dv mv) (u : Obj) : Sta w0 (w.alloc u) r l lv q o dv mv:=h.below ((Below.refl _ _).alloc (Nat.le_refl _) _)
theorem Sta.drew (h : Sta w0 w r l lv q o dv mv) : Sta w0 w.drew r l lv q o dv mv:=h.below (Below.refl _ _).drew
theorem Sta.drewN (h : Sta w0 w r l lv q o dv mv) (d : Nat) : Sta w0 (w.drewN d) r l lv q o dv mv:=h.below (below_end d)
theorem keep_bel (hb : Below w0.heap.size w0 w) (hr : w0.heap.size ≤ r) (hk : Keep r w w') : Below w0.heap.size w0 w':=
 ⟨hk.os.trans hb.os,hk.tape.trans hb.tape,hk.output.trans hb.output,Nat.le_trans hb.size hk.size,fun k h => (hk.block k (Nat.lt_of_lt_of_le h hb.size) (by omega)).trans (hb.block k h)⟩
theorem Sta.setN (h : Sta w0 w r l lv q o dv mv) (q' : Pq) (hk : q'.k = q.k) (ha : q'.a = q.a) (ho : q'.ok l.length) : Sta w0 (w.setCell ⟨r,1,none⟩ (.int .i64 (q'.n : Int))) r l lv q' o dv mv:=by
 refine ⟨?_,keep_bel h.bel h.hr ((Keep.refl r w).setCell 1 _),h.hr,ho⟩
 rw [hk,ha]
 exact h.prs.set.1 _
end
def ToQ (w0 : World) (r : Nat) (l : List Tok) (lv : Value) (q : Pq) (o : Nat) (dv mv : Value) (w : World) (v : Value) (e : Ending) (w' : World) : Prop:=e = .returned v ∧ Sta w0 w' r l lv q o dv mv ∧ Keep r w w'
theorem sfail_q {w0 : World} {l : List Tok} {lv : Value} {r : Nat} {q : Pq} {o : Nat} {dv mv : Value} (x : Tx w0 l lv) (w : World) (h : Sta w0 w r l lv q o dv mv) (k a : Nat) (hk : k ≠ 0) :
  Calls Tryz.prog 235 #[.pointer (some ⟨r,0,none⟩),.int .i64 k,.int .i64 a] w (ToQ w0 r l lv (failP l.length q k a) o dv mv w (.tuple #[])):=by
 obtain ⟨hp,hb,hr,ho⟩:=h
 obtain ⟨ad,cap,rfl,_⟩:=id x.ht
 refine (sfail_any r ad l.length cap dv mv q.n o q.k q.a k a w hp (by have:=ho.2.1; omega)).mono ?_
 rintro e w' ⟨rfl,h1,h2⟩
 refine ⟨rfl,⟨?_,keep_bel hb hr h2,hr,failP_ok hk⟩,h2⟩
 unfold failP
 by_cases h0 : q.k = 0
 ·rw [if_pos h0]
  have e1 : (fst0 (q.k : Int) (k : Int)) = k:=by rw [h0]; rfl
  have e2 : (snd0 (q.k : Int) (a : Int) (q.a : Int)) = a:=by rw [h0]; rfl
  rw [e1,e2] at h1
  exact h1
 ·rw [if_neg h0]
  have e1 : (fst0 (q.k : Int) (k : Int)) = q.k:=if_neg (by omega)
  have e2 : (snd0 (q.k : Int) (a : Int) (q.a : Int)) = q.a:=by unfold snd0; exact if_neg (by omega)
  rw [e1,e2] at h1
  exact h1
theorem srefuse_any {w0 : World} {l : List Tok} {lv : Value} {r : Nat} {q : Pq} {o : Nat} {dv mv : Value} (x : Tx w0 l lv) (w : World) (h : Sta w0 w r l lv q o dv mv) :
  Calls Tryz.prog 234 #[.pointer (some ⟨r,0,none⟩)] w (ToQ w0 r l lv (refP l q) o dv mv w (.tuple #[])):=by
 have HF:=fun (w' : World) (h' : Sta w0 w' r l lv q o dv mv) => sfail_q x w' h' (refK l q.n).1 (refK l q.n).2 (refK_ne l q.n)
 obtain ⟨ad,cap,rfl,hc⟩:=x.ht.below h.bel
 obtain ⟨⟨c0,c1,_,_,_,_,_⟩,_⟩:=h.prs.facts
 have hr:=h.prs.lt
 have HS:=Lib.hid h
 have hn:=x.hn
 have hpos:=x.pos
 have hok:=x.ok
 obtain ⟨L,hL⟩ : ∃ L,L = l.length:=⟨_,rfl⟩
 obtain ⟨q',hq'⟩ : ∃ q',q' = failP l.length q (refK l q.n).1 (refK l q.n).2:=⟨_,rfl⟩
 show Calls _ _ _ _ (ToQ w0 r l _ (failP l.length q (refK l q.n).1 (refK l q.n).2) o dv mv w _)
 rw [← hq'] at HF ⊢
 by_cases hlt : q.n < l.length
 ·obtain ⟨g,rfl,hg,k0,k1,k2,k3⟩:=hc q.n hlt
  have hr1 : refK l q.n = (5,l[q.n].2.2.2):=refK_in l q.n hlt
  rw [hr1] at HF
  obtain ⟨tp,htp⟩ : ∃ t,t = l[q.n].2.2.2:=⟨_,rfl⟩
  rw [← htp] at k3 HF
  rw [← hL] at c0 hn hlt HF HS ⊢
  obtain ⟨n,hnn⟩ : ∃ n,n = q.n:=⟨_,rfl⟩
  rw [← hnn] at c1 k3 hlt
  have HFF:=Lib.hid HF
  have q1 : decide ((n : Int) < (L : Int)) = true:=by simp; omega
  have q2 : decide (n < L) = true:=by simp; omega
  clear hc k0 k1 k2 htp hr1 hq' hL hnn h x HF hok
  go_enter Tryz.func234,Tryz.ntmps234
  go_wp2
  go_quiet (fail)
  go_wp2
  have HS2 : Hid (Sta w0 (w.drewN nq) r l (.slice (some ⟨g,0,none⟩) L cap) q o dv mv):=HS.out.drewN nq
  have hbb:=below_end (B:=w.heap.size) (w:=w) nq
  have k3' : (w.drewN nq).cell? ⟨g,n * 4 + 3,none⟩ = some (.int .i64 tp):=k3
  have c0' : (w.drewN nq).cell? ⟨r,0,none⟩ = some (.slice (some ⟨g,0,none⟩) L cap):=c0
  have c1' : (w.drewN nq).cell? ⟨r,1,none⟩ = some (.int .i64 n):=c1
  have hr' : r < (w.drewN nq).heap.size:=hr
  clear c0 c1 k3 HS hr
  generalize w.drewN nq = w1 at *
  go_still_tail 12,(by kernel_rfl)
  change wpList _ _ _ _ _ w1.drew
  go_wp2_with fail
  refine (HFF.out _ HS2.out.drew).mono ?_
  rintro e w3 ⟨rfl,h3,h4⟩
  go_wp2
  refine bodyPost_ret (v:=.tuple #[]) (by simp [results,Tryz.results234,go_sem]) rfl ⟨rfl,h3,?_⟩
  exact (Below.keep (hbb.trans (Below.refl _ _).drew)).trans h4
 ·have hl : l.length - 1 < l.length:=by omega
  have hr1 : refK l q.n = (6,l[l.length - 1].2.2.2 + l[l.length - 1].2.1.length):=by unfold refK; rw [if_neg hlt,if_neg (by omega),tokO_in l _ hl]
  obtain ⟨g,rfl,hg,k0,k1,k2,k3⟩:=hc _ hl
  have h1:=hok (l.length - 1)
  rw [tokO_in l _ hl] at h1
  rw [hr1] at HF
  obtain ⟨⟨tk,tx,tn,tp⟩,htk⟩ : ∃ t,t = l[l.length - 1]:=⟨_,rfl⟩
  rw [← htk] at k0 k1 k2 k3 h1 HF
  simp only [] at k0 k1 k2 k3 h1 HF
  obtain ⟨m,hm⟩ : ∃ m,l.length = m + 1:=⟨l.length - 1,by omega⟩
  rw [← hL] at c0 hn hlt HF HS ⊢
  rw [hm] at k0 k1 k2 k3
  simp only [Nat.add_sub_cancel] at k0 k1 k2 k3
  obtain ⟨y,hy⟩ : ∃ y : ByteArray,y = ⟨tx.toArray⟩:=⟨_,rfl⟩
  have hys : tx.length = y.size:=by rw [hy,Lib.size_eq]
  rw [← hy] at k1
  rw [hys] at h1 HF
  obtain ⟨n,hnn⟩ : ∃ n,n = q.n:=⟨_,rfl⟩
  rw [← hnn] at c1 hlt
  have q1 : decide ((n : Int) < (L : Int)) = false:=by simp; omega
  have q2 : decide (n < L) = false:=by simp; omega
  have q3 : decide ((0 : Int) < (L : Int)) = true:=by simp; omega
  have q4 : decide (0 < L) = true:=by simp; omega
  have m1 : IntKind.i64.wrap ((L : Int) - 1) = (L : Int) - 1:=IntWalk.i64_in _ (by omega)
  have m2 : (1 : Int) ≤ (L : Int):=by omega
  have m3 : (0 : Int) ≤ (L : Int) - 1:=by omega
  have m4 : ((L : Int) - 1).toNat = m:=by omega
  have m5 : (L : Int) - 1 < (L : Int):=by omega
  have hlt' : L ≤ n:=by omega
  have hs1:=h1.1
  have hs2:=h1.2.1
  have HFF : Hid (∀ (w' : World),Sta w0 w' r l (.slice (some ⟨g,0,none⟩) L cap) q o dv mv → Calls Tryz.prog 235 #[.pointer (some ⟨r,0,none⟩),.int .i64 6,.int .i64 ((tp : Int) + (y.size : Int))] w' (ToQ w0 r l (.slice (some ⟨g,0,none⟩) L cap) q' o dv mv w' (.tuple #[]))):=by
   intro w' h'
   have:=HF w' h'
   rw [Int.natCast_add] at this
   exact this
  clear hc htk hr1 hq' hnn h x HF hok hy hys h1 hL hm hl hlt hpos
  go_enter Tryz.func234,Tryz.ntmps234
  go_wp2
  go_quiet (fail)
  have HS2 : Hid (Sta w0 (w.drewN nq) r l (.slice (some ⟨g,0,none⟩) L cap) q o dv mv):=HS.out.drewN nq
  have hbb:=below_end (B:=w.heap.size) (w:=w) nq
  have k0' : (w.drewN nq).cell? ⟨g,m * 4,none⟩ = some (.int .i64 tk):=k0
  have k1' : (w.drewN nq).cell? ⟨g,m * 4 + 1,none⟩ = some (.string y):=k1
  have k2' : (w.drewN nq).cell? ⟨g,m * 4 + 2,none⟩ = some (.int .i64 tn):=k2
  have k3' : (w.drewN nq).cell? ⟨g,m * 4 + 3,none⟩ = some (.int .i64 tp):=k3
  have c0' : (w.drewN nq).cell? ⟨r,0,none⟩ = some (.slice (some ⟨g,0,none⟩) L cap):=c0
  have c1' : (w.drewN nq).cell? ⟨r,1,none⟩ = some (.int .i64 n):=c1
  have hr' : r < (w.drewN nq).heap.size:=hr
  have hg' : g < (w.drewN nq).heap.size:=hg
  clear c0 c1 k0 k1 k2 k3 HS hr hg
  generalize w.drewN nq = w1 at *
  go_wp2
  go_region
  have HS3 : Hid (Sta w0 ((w1.alloc (.cells #[.int .i64 tk,.string y,.int .i64 tn,.int .i64 tp] 62)).drew) r l (.slice (some ⟨g,0,none⟩) L cap) q o dv mv):=(HS2.out.alloc _).drew
  have hB2 : ((w1.alloc (.cells #[.int .i64 tk,.string y,.int .i64 tn,.int .i64 tp] 62)).drew).heap[w1.heap.size]? = some (.cells #[.int .i64 tk,.string y,.int .i64 tn,.int .i64 tp] 62 (0,0)):=heap_alloc_new w1 _
  have hK2 : Below w.heap.size w ((w1.alloc (.cells #[.int .i64 tk,.string y,.int .i64 tn,.int .i64 tp] 62)).drew):=(hbb.alloc hbb.size _).drew
  clear HS2 k0' k1' k2' k3' c0' c1' hbb m1 m4
  generalize ((w1.alloc (.cells #[.int .i64 tk,.string y,.int .i64 tn,.int .i64 tp] 62)).drew) = w2 at hK2 HS3 hB2 ⊢
  obtain ⟨⟨e0,e1,e2,e3⟩,_⟩:=Blk4.facts (show Blk4 w2 w1.heap.size (.int .i64 tk) (.string y) (.int .i64 tn) (.int .i64 tp) from hB2)
  clear hB2
  go_wp2_with fail
  refine (HFF.out _ HS3.out).mono ?_
  rintro e w3 ⟨rfl,h3,h4⟩
  go_wp2
  refine bodyPost_ret (v:=.tuple #[]) (by simp [results,Tryz.results234,go_sem]) rfl ⟨rfl,h3,?_⟩
  exact (Below.keep hK2).trans h4
theorem ssign_any {w0 : World} {l : List Tok} {lv : Value} {r : Nat} {q : Pq} {o : Nat} {dv mv : Value} (x : Tx w0 l lv) (w : World) (h : Sta w0 w r l lv q o dv mv) (s : ByteArray) :
  Calls Tryz.prog 236 #[.pointer (some ⟨r,0,none⟩),.string s] w (ToQ w0 r l lv (sgP l q s.data.toList) o dv mv w (.tuple #[])):=by
 obtain ⟨b,hb⟩ : ∃ b,atB l q.n 3 s.data.toList = b:=⟨_,rfl⟩
 have HS:=Lib.hid (sees_any l r lv dv mv q.n o q.k q.a 3 s w h.prs (x.ht.below h.bel) x.hn (by decide) b hb)
 have HR:=Lib.hid (fun w' => srefuse_any (q:=q) (r:=r) (o:=o) (dv:=dv) (mv:=mv) x w')
 have HW:=Lib.hid h
 have HX:=Lib.hid x
 unfold sgP
 rw [sgAt_at,hb]
 cases b with
 | false =>
  clear h hb x
  go_enter Tryz.func236,Tryz.ntmps236
  go_wp2_with (go_at_call 227; refine HS.out.mono ?_; rintro e w1 ⟨rfl,hb1⟩)
  go_wp2_with fail
  refine (HR.out w1 (HW.out.below hb1)).mono ?_
  rintro e w2 ⟨rfl,h2,h3⟩
  go_wp2
  refine bodyPost_ret (v:=.tuple #[]) (by simp [results,Tryz.results236,go_sem]) rfl ⟨rfl,h2,(Below.keep hb1).trans h3⟩
 | true =>
  have hlt:=atB_lt hb (by decide)
  have ho:=Pq.step h.ok hlt
  have HN : Hid (q.n ≤ 100000):=by have:=x.hn; show q.n ≤ 100000; omega
  clear h hb x
  go_enter Tryz.func236,Tryz.ntmps236
  go_wp2_with fail
  refine HS.out.mono ?_
  rintro e w1 ⟨rfl,hb1⟩
  have HW1:=Lib.hid (HW.out.below hb1)
  obtain ⟨⟨c0,c1,_,_,_,_,_⟩,f1,_⟩:=HW1.out.prs.facts
  have hn:=HN.out
  have hr:=HW1.out.prs.lt
  obtain ⟨n,hnn⟩ : ∃ n,n = q.n:=⟨_,rfl⟩
  rw [← hnn] at c1 hn
  have HNN:=Lib.hid hnn
  clear hnn
  go_wp2
  refine bodyPost_ret (v:=.tuple #[]) (by simp [results,Tryz.results236,go_sem]) rfl ?_
  rw [HNN.out]
  refine ⟨rfl,⟨HW1.out.prs.set.1 _,?_,HW1.out.hr,ho⟩,(Below.keep hb1).setCell 1 _⟩
  exact keep_bel HW1.out.bel HW1.out.hr ((Keep.refl r w1).setCell 1 _)
def forN (x : Nd) : Bool:=decide (x.op = 3 ∨ x.op = 4)
def regsO (l : List Nd) : Bool:=l.all fun x => !forN x
theorem foreign_any (x : Nd) (w : World) : Calls Tryz.prog 200 #[.agg x.cells.toArray] w fun e w' => e = .returned (.bool (forN x)) ∧ Below w.heap.size w w':=by
 obtain ⟨xo,xn,xm,xi,xp⟩:=x
 have hc : (Nd.cells ⟨xo,xn,xm,xi,xp⟩).toArray = #[.int .i64 xo,.int .i64 xn,.string xm,.string xi,.int .i64 xp]:=rfl
 rw [hc]
 unfold forN
 simp only []
 by_cases h3 : xo = 3
 ·subst h3
  go_enter Tryz.func200,Tryz.ntmps200
  go_wp2
  go_ret
  exact ⟨rfl,(Below.refl _ _).alloc (Nat.le_refl _) _⟩
 ·by_cases h4 : xo = 4
  ·subst h4
   go_enter Tryz.func200,Tryz.ntmps200
   go_wp2
   go_ret
   exact ⟨rfl,(Below.refl _ _).alloc (Nat.le_refl _) _⟩
  ·rw [decide_eq_false (by omega : ¬ (xo = 3 ∨ xo = 4))]
   have q3 : (xo == 3) = false:=by simp; omega
   have q4 : (xo == 4) = false:=by simp; omega
   clear h3 h4
   go_enter Tryz.func200,Tryz.ntmps200
   go_wp2
   go_ret
   exact ⟨rfl,(Below.refl _ _).alloc (Nat.le_refl _) _⟩
theorem fidx_any (l : List Nd) (v : Value) (w : World) (hv : Nds w v l) (hn : l.length ≤ 100000) :
  Calls Tryz.prog 144 #[v,.func (.func 200) #[] #[]] w (IdxAns (!regsO l) w):=by
 obtain ⟨B,hB⟩ : ∃ B,regsO (l.drop 0) = B:=⟨_,rfl⟩
 rw [show regsO l = B from hB]
 have HB0:=Lib.hid hB
 obtain ⟨ad,cap,rfl,hc⟩:=hv.cases
 obtain ⟨n,hN⟩ : ∃ n,n = l.length:=⟨_,rfl⟩
 rw [← hN] at hn ⊢
 have HC:=Lib.hid hc
 have HN:=Lib.hid hN
 clear hc hN hv hB
 go_enter Tryz.func144,Tryz.ntmps144
 go_wp2_with fail
 go_loopg [8] n (fun fuel i' wr => ∃ k : Nat,i' = .int .i64 k ∧ k ≤ n ∧ n - k ≤ fuel ∧ regsO (l.drop k) = B ∧ Below w.heap.size w wr)
 case atStart => exact ⟨0,rfl,Nat.zero_le _,Nat.le_refl _,HB0.out,Below.refl _ _⟩
 case round =>
  obtain ⟨k,rfl,hk,hf,ha,hb⟩:=hrel
  have HA:=Lib.hid ha
  have HB:=Lib.hid hb
  have hww:=hb.size
  clear ha hb
  by_cases hlt : k < n
  ·have hk' : k < l.length:=by have:=HN.out; omega
   have HE:=Lib.hid (List.all_cons (f:=fun x => !forN x) (a:=l[k]) (l:=l.drop (k + 1)))
   have HD:=Lib.hid (List.drop_eq_getElem_cons hk')
   obtain ⟨b,off,rfl,hbl,x0,x1,x2,x3,x4⟩:=HC.out k hk'
   obtain ⟨⟨xo,xn,xm,xi,xp⟩,hx⟩ : ∃ x,x = l[k]:=⟨_,rfl⟩
   have HX:=Lib.hid hx
   rw [← hx] at x0 x1 x2 x3 x4
   simp only [] at x0 x1 x2 x3 x4
   clear hx
   have c0 : wr.cell? ⟨b,off + k * 5,none⟩ = some (.int .i64 xo):=(HB.out.cell (p:=⟨b,_,none⟩) hbl).trans x0
   have c1 : wr.cell? ⟨b,off + k * 5 + 1,none⟩ = some (.int .i64 xn):=(HB.out.cell (p:=⟨b,_,none⟩) hbl).trans x1
   have c2 : wr.cell? ⟨b,off + k * 5 + 2,none⟩ = some (.string xm):=(HB.out.cell (p:=⟨b,_,none⟩) hbl).trans x2
   have c3 : wr.cell? ⟨b,off + k * 5 + 3,none⟩ = some (.string xi):=(HB.out.cell (p:=⟨b,_,none⟩) hbl).trans x3
   have c4 : wr.cell? ⟨b,off + k * 5 + 4,none⟩ = some (.int .i64 xp):=(HB.out.cell (p:=⟨b,_,none⟩) hbl).trans x4
   obtain ⟨q,hq⟩ : ∃ q,forN ⟨xo,xn,xm,xi,xp⟩ = q:=⟨_,rfl⟩
   have HFL : Hid (∀ w,Calls Tryz.prog 200 #[.agg #[.int .i64 xo,.int .i64 xn,.string xm,.string xi,.int .i64 xp]] w fun e w' => e = .returned (.bool q) ∧ Below w.heap.size w w'):=fun w => by
    rw [← hq]; exact foreign_any ⟨xo,xn,xm,xi,xp⟩ w
   have HQ:=Lib.hid hq
   clear x0 x1 x2 x3 x4 hq
   go_wp2_with fail
   refine (HFL.out _).mono ?_
   rintro e w2 ⟨rfl,hb2⟩
   have HB2:=Lib.hid (HB.out.trans (hb2.mono hww))
   clear hb2 c0 c1 c2 c3 c4
   cases q with
   | false =>
    go_wp2
    go_roundg (gk - 1)
    case measure => omega
    case rel =>
     refine ⟨k + 1,by go_num,by omega,by omega,?_,HB2.out⟩
     have:=HA.out
     unfold regsO at this ⊢
     rw [HD.out,HE.out,← HX.out,HQ.out] at this
     simpa using this
   | true =>
    go_wp2
    go_ret
    refine ⟨k,rfl,?_,HB2.out⟩
    have:=HA.out
    unfold regsO at this
    rw [HD.out,HE.out,← HX.out,HQ.out] at this
    rw [← this]; simp
  ·have HE:=Lib.hid (drop_over l k (by have:=HN.out; omega))
   go_wp2
   go_ret
   refine ⟨-1,rfl,?_,HB.out⟩
   have:=HA.out
   rw [HE.out] at this
   rw [← this]; rfl
theorem fcontains_any (l : List Nd) (v : Value) (w : World) (hv : Nds w v l) (hn : l.length ≤ 100000) (b : Bool) (hb : regsO l = b) :
  Calls Tryz.prog 98 #[v,.func (.func 200) #[] #[]] w fun e w' => e = .returned (.bool (!b)) ∧ Below w.heap.size w w':=by
 have H:=fidx_any l v w hv hn
 rw [hb] at H
 clear hv hn hb
 go_enter Tryz.func98,Tryz.ntmps98
 go_wp2_with fail
 refine H.mono ?_
 rintro e w2 ⟨z,rfl,hz,hb2⟩
 have HZ:=Lib.hid hz
 clear hz
 go_wp2
 go_ret
 exact ⟨ret_bool HZ.out,hb2⟩
def StrR (w : World) (g : Nat) (s : ByteArray) : Prop:=w.heap[g]? = some (.cells #[.string s] 9 (0,0))
theorem StrR.lt {w : World} {g : Nat} {s : ByteArray} (h : StrR w g s) : g < w.heap.size:=(Array.getElem?_eq_some_iff.1 h).1
theorem StrR.keep {w w' : World} {g r : Nat} {s : ByteArray} (h : StrR w g s) (hk : Keep r w w') (hg : g ≠ r) : StrR w' g s:=by
 unfold StrR at *; rw [hk.block g (StrR.lt h) hg]; exact h
theorem StrR.below {w w' : World} {g : Nat} {s : ByteArray} (h : StrR w g s) (hb : Below w.heap.size w w') : StrR w' g s:=by
 unfold StrR at *; rw [hb.block g (StrR.lt h)]; exact h
theorem StrR.cell {w : World} {g : Nat} {s : ByteArray} (h : StrR w g s) : w.cell? ⟨g,0,none⟩ = some (.string s):=by
 unfold StrR at h; simp [World.cell?,h]
theorem StrR.ne {w : World} {g r : Nat} {s : ByteArray} {lv dv mv : Value} {n o k a : Int} (h : StrR w g s) (hp : Prs w r lv n o dv mv k a) : g ≠ r:=by
 rintro rfl
 unfold StrR at h; unfold Prs at hp
 rw [h] at hp
 cases hp
theorem ssigns0_any {w0 : World} {l : List Tok} {lv : Value} {r : Nat} {q : Pq} {o : Nat} {dv mv : Value} (w : World) (h : Sta w0 w r l lv q o dv mv) :
  Calls Tryz.prog 233 #[.pointer (some ⟨r,0,none⟩),.slice none 0 0] w (ToQ w0 r l lv q o dv mv w (.tuple #[])):=by
 have HS:=Lib.hid h
 clear h
 go_enter Tryz.func233,Tryz.ntmps233
 go_wp2_with fail
 go_loopg [8] 0 (fun fuel i' wr => i' = .int .i64 (0 : Int) ∧ wr = w)
 case atStart => exact ⟨rfl,rfl⟩
 case round =>
  obtain ⟨rfl,rfl⟩:=hrel
  go_wp2
  refine bodyPost_ret (v:=.tuple #[]) (by simp [results,Tryz.results233,go_sem]) rfl ⟨rfl,HS.out,Keep.refl _ _⟩
theorem ssigns1_any {w0 : World} {l : List Tok} {lv : Value} {r : Nat} {q : Pq} {o : Nat} {dv mv : Value} (x : Tx w0 l lv) (w : World) (h : Sta w0 w r l lv q o dv mv) (g : Nat) (s : ByteArray) (hs : StrR w g s) :
  Calls Tryz.prog 233 #[.pointer (some ⟨r,0,none⟩),.slice (some ⟨g,0,none⟩) 1 1] w (ToQ w0 r l lv (sgP l q s.data.toList) o dv mv w (.tuple #[])):=by
 have HS:=Lib.hid h
 have HX:=Lib.hid x
 have HR:=Lib.hid hs
 have hgr:=hs.ne h.prs
 clear h x hs
 go_enter Tryz.func233,Tryz.ntmps233
 go_wp2_with fail
 go_loopg [8] 1 (fun fuel i' wr => (i' = .int .i64 (0 : Int) ∧ wr = w ∧ 1 ≤ fuel) ∨ (i' = .int .i64 (1 : Int) ∧ Sta w0 wr r l lv (sgP l q s.data.toList) o dv mv ∧ Keep r w wr))
 case atStart => exact .inl ⟨rfl,rfl,Nat.le_refl _⟩
 case round =>
  rcases hrel with ⟨rfl,rfl,hf⟩ | ⟨rfl,h1,h2⟩
  ·have c0:=HR.out.cell
   go_wp2_with fail
   refine (ssign_any HX.out _ HS.out s).mono ?_
   rintro e w2 ⟨rfl,h2,h3⟩
   have H2:=Lib.hid h2
   have H3:=Lib.hid h3
   clear h2 h3 c0
   go_wp2
   go_roundg (gk - 1)
   case measure => omega
   case rel => exact .inr ⟨rfl,H2.out,H3.out⟩
  ·have H1:=Lib.hid h1
   have H2:=Lib.hid h2
   clear h1 h2
   go_wp2
   refine bodyPost_ret (v:=.tuple #[]) (by simp [results,Tryz.results233,go_sem]) rfl ⟨rfl,H1.out,H2.out⟩
theorem sname_of {w0 : World} {l : List Tok} {lv : Value} {r : Nat} {q : Pq} {o : Nat} {dv mv : Value} (x : Tx w0 l lv) (w : World) (v : Value) (hg0 : Calls Tryz.prog 233 #[.pointer (some ⟨r,0,none⟩),v] w (ToQ w0 r l lv q o dv mv w (.tuple #[]))) :
  Calls Tryz.prog 213 #[.pointer (some ⟨r,0,none⟩),v] w (ToQ w0 r l lv (nmP l q).2 o dv mv w (.string (nmP l q).1)):=by
 have HG:=Lib.hid hg0
 clear hg0
 have HX:=Lib.hid x
 unfold nmP
 have hn:=x.hn
 have hok:=x.ok q.n
 obtain ⟨L,hL⟩ : ∃ L,L = l.length:=⟨_,rfl⟩
 clear x
 by_cases hlt : q.n < l.length
 ·have htok : tokO l q.n = l[q.n]:=tokO_in l q.n hlt
  obtain ⟨⟨tk,tx,tn,tp⟩,htk⟩ : ∃ t,t = l[q.n]:=⟨_,rfl⟩
  rw [htok,← htk] at hok
  simp only [] at hok
  obtain ⟨y,hy⟩ : ∃ y : ByteArray,y = ⟨tx.toArray⟩:=⟨_,rfl⟩
  have hys : y.size ≤ 100000:=by rw [hy,Lib.size_eq]; exact hok.2.1
  have htx : txt l q.n = y:=by unfold txt; rw [htok,← htk,hy]
  rw [htx]
  have HCL:=Lib.hid (fun (w' : World) (h' : Below w0.heap.size w0 w') => (HX.out.ht.below h'))
  have HL:=Lib.hid hL
  have HTK:=Lib.hid htk
  have HY:=Lib.hid hy
  have HLT:=Lib.hid hlt
  by_cases h1 : tk = 1
  ·subst h1
   obtain ⟨b,hb⟩ : ∃ b,nameB y = b:=⟨_,rfl⟩
   have hnm : nmAt l q.n = b:=by unfold nmAt; rw [htok,← htk,← hb,hy]; simp
   rw [hnm]
   have HNM:=Lib.hid (fun w' => name_is2 y w' hys b hb)
   clear hok htok htx hnm hb hL htk hy
   cases b with
   | false =>
    show Calls _ _ _ _ (ToQ w0 r l lv (refP l q) o dv mv w (.string ⟨#[]⟩))
    go_enter Tryz.func213,Tryz.ntmps213
    go_wp2_with fail
    refine HG.out.mono ?_
    rintro e w1 ⟨rfl,h1,h2⟩
    obtain ⟨ad,cap,hlv,hc⟩:=HCL.out w1 h1.bel
    obtain ⟨g,rfl,hg,k0,k1,k2,k3⟩:=hc q.n HLT.out
    rw [← HTK.out] at k0 k1
    simp only [] at k0 k1
    rw [← HY.out] at k1
    subst hlv
    have hgr0 : g ≠ r:=by
     obtain ⟨ad',cap',hlv',hc'⟩:=HX.out.ht
     obtain ⟨g',hg',hlt',_⟩:=hc' q.n HLT.out
     cases hlv'
     cases hg'
     have:=h1.hr
     omega
    have HGR:=Lib.hid hgr0
    clear hgr0
    obtain ⟨⟨c0,c1,_,_,_,_,_⟩,f1,_⟩:=h1.prs.facts
    have hr:=h1.prs.lt
    rw [← HL.out] at c0 hn hlt
    obtain ⟨n,hnn⟩ : ∃ n,n = q.n:=⟨_,rfl⟩
    rw [← hnn] at c1 k0 k1 hlt
    have HNN:=Lib.hid hnn
    have q1 : ((n : Int) == (L : Int)) = false:=by simp; omega
    have q2 : (n == L) = false:=by simp; omega
    have H1:=Lib.hid h1
    have H2:=Lib.hid h2
    clear hc k2 k3 h1 h2 hnn
    go_wp2
    go_region_held3 (fun w' => w'.cell? ⟨r,0,none⟩ = some (.slice (some ⟨g,0,none⟩) L cap) ∧ w'.cell? ⟨r,1,none⟩ = some (.int .i64 n) ∧ w'.cell? ⟨g,n * 4,none⟩ = some (.int .i64 (1 : Int)) ∧ w'.cell? ⟨g,n * 4 + 1,none⟩ = some (.string y) ∧ Below w1.heap.size w1 w')
     (first | exact ⟨c0,c1,k0,k1,Below.refl _ _⟩ | exact ⟨c0,c1,k0,k1,(Below.refl _ _).drew⟩ | assumption | (go_split_ands; exact ⟨(hb3.cell (p:=⟨r,0,none⟩) hr).trans c0,(hb3.cell (p:=⟨r,1,none⟩) hr).trans c1,(hb3.cell (p:=⟨g,_,none⟩) hg).trans k0,(hb3.cell (p:=⟨g,_,none⟩) hg).trans k1,hb3⟩))
     ((go_split_ands; with_reducible refine Calls.mono (HNM.out _) ?_; rintro e w2 ⟨rfl,hb2⟩; have hb3 : Below w1.heap.size w1 w2:=Below.trans (by assumption) (hb2.mono (Below.size (by assumption)))))
    go_split_ands
    rename_i hbz
    have HBZ:=Lib.hid hbz
    clear hbz
    go_wp2_with fail
    refine (srefuse_any HX.out _ (H1.out.below HBZ.out)).mono ?_
    rintro e w4 ⟨rfl,h4,h5⟩
    go_wp2
    go_ret
    exact ⟨rfl,h4,(H2.out.below HBZ.out).trans h5⟩
   | true =>
    show Calls _ _ _ _ (ToQ w0 r l lv ⟨q.n + 1,q.k,q.a⟩ o dv mv w (.string y))
    go_enter Tryz.func213,Tryz.ntmps213
    go_wp2_with fail
    refine HG.out.mono ?_
    rintro e w1 ⟨rfl,h1,h2⟩
    obtain ⟨ad,cap,hlv,hc⟩:=HCL.out w1 h1.bel
    obtain ⟨g,rfl,hg,k0,k1,k2,k3⟩:=hc q.n HLT.out
    rw [← HTK.out] at k0 k1
    simp only [] at k0 k1
    rw [← HY.out] at k1
    subst hlv
    have hgr0 : g ≠ r:=by
     obtain ⟨ad',cap',hlv',hc'⟩:=HX.out.ht
     obtain ⟨g',hg',hlt',_⟩:=hc' q.n HLT.out
     cases hlv'
     cases hg'
     have:=h1.hr
     omega
    have HGR:=Lib.hid hgr0
    clear hgr0
    obtain ⟨⟨c0,c1,_,_,_,_,_⟩,f1,_⟩:=h1.prs.facts
    have hr:=h1.prs.lt
    rw [← HL.out] at c0 hn hlt
    obtain ⟨n,hnn⟩ : ∃ n,n = q.n:=⟨_,rfl⟩
    rw [← hnn] at c1 k0 k1 hlt
    have HNN:=Lib.hid hnn
    have q1 : ((n : Int) == (L : Int)) = false:=by simp; omega
    have q2 : (n == L) = false:=by simp; omega
    have H1:=Lib.hid h1
    have H2:=Lib.hid h2
    clear hc k2 k3 h1 h2 hnn
    go_wp2
    go_region_held3 (fun w' => w'.cell? ⟨r,0,none⟩ = some (.slice (some ⟨g,0,none⟩) L cap) ∧ w'.cell? ⟨r,1,none⟩ = some (.int .i64 n) ∧ w'.cell? ⟨g,n * 4,none⟩ = some (.int .i64 (1 : Int)) ∧ w'.cell? ⟨g,n * 4 + 1,none⟩ = some (.string y) ∧ Below w1.heap.size w1 w')
     (first | exact ⟨c0,c1,k0,k1,Below.refl _ _⟩ | exact ⟨c0,c1,k0,k1,(Below.refl _ _).drew⟩ | assumption | (go_split_ands; exact ⟨(hb3.cell (p:=⟨r,0,none⟩) hr).trans c0,(hb3.cell (p:=⟨r,1,none⟩) hr).trans c1,(hb3.cell (p:=⟨g,_,none⟩) hg).trans k0,(hb3.cell (p:=⟨g,_,none⟩) hg).trans k1,hb3⟩))
     ((go_split_ands; with_reducible refine Calls.mono (HNM.out _) ?_; rintro e w2 ⟨rfl,hb2⟩; have hb3 : Below w1.heap.size w1 w2:=Below.trans (by assumption) (hb2.mono (Below.size (by assumption)))))
    go_split_ands
    rename_i hbz
    have hn9 : n ≤ 100000:=by omega
    have HBZ:=Lib.hid hbz
    have e1:=(H1.out.below HBZ.out).prs.facts.2.1
    have hrz:=(H1.out.below HBZ.out).prs.lt
    have hgz:=Nat.lt_of_lt_of_le hg HBZ.out.size
    have hgr : g ≠ r:=HGR.out
    have hq:=Pq.step H1.out.ok HLT.out
    have HQ:=Lib.hid hq
    clear hbz c0 c1 k0 k1 f1 hr hg hq
    have m0 : IntKind.i64.wrap ((n : Int) + 1 - 1) = (n : Int):=by rw [show (n : Int) + 1 - 1 = (n : Int) by omega]; exact IntWalk.i64_in _ (by omega)
    go_wp2
    go_quiet (fail)
    go_wp2
    go_ret
    rw [HNN.out]
    exact ⟨rfl,((H1.out.below HBZ.out).setN ⟨q.n + 1,q.k,q.a⟩ rfl rfl HQ.out).drewN _,((H2.out.below HBZ.out).setCell 1 _).drewN _⟩
  ·have hnm : nmAt l q.n = false:=by unfold nmAt; rw [htok,← htk]; simp [h1]
   rw [hnm]
   have q0 : ((tk : Int) != 1) = true:=by simp; omega
   have q01 : ((tk : Int) == 1) = false:=by simp; omega
   have q02 : (tk == 1) = false:=by simp; omega
   have q03 : (tk != 1) = true:=by simp; omega
   have q04 : decide (tk = 1) = false:=by simp; omega
   have q05 : ¬ tk = 1:=h1
   have HNM:=Lib.hid (fun w' => name_is2 y w' hys (nameB y) rfl)
   clear hok htok htx hnm hL htk hy
   clear h1
   show Calls _ _ _ _ (ToQ w0 r l lv (refP l q) o dv mv w (.string ⟨#[]⟩))
   go_enter Tryz.func213,Tryz.ntmps213
   go_wp2_with fail
   refine HG.out.mono ?_
   rintro e w1 ⟨rfl,h1,h2⟩
   obtain ⟨ad,cap,hlv,hc⟩:=HCL.out w1 h1.bel
   obtain ⟨g,rfl,hg,k0,k1,k2,k3⟩:=hc q.n HLT.out
   rw [← HTK.out] at k0 k1
   simp only [] at k0 k1
   rw [← HY.out] at k1
   subst hlv
   obtain ⟨⟨c0,c1,_,_,_,_,_⟩,f1,_⟩:=h1.prs.facts
   have hr:=h1.prs.lt
   rw [← HL.out] at c0 hn hlt
   obtain ⟨n,hnn⟩ : ∃ n,n = q.n:=⟨_,rfl⟩
   rw [← hnn] at c1 k0 k1 hlt
   have HNN:=Lib.hid hnn
   have q1 : ((n : Int) == (L : Int)) = false:=by simp; omega
   have q2 : (n == L) = false:=by simp; omega
   have H1:=Lib.hid h1
   have H2:=Lib.hid h2
   clear hc k2 k3 h1 h2 hnn
   go_wp2
   go_quiet (fail)
   have hbz:=below_end (B:=w1.heap.size) (w:=w1) nq
   have HBZ:=Lib.hid hbz
   clear hbz
   go_wp2_with fail
   refine (srefuse_any HX.out _ (H1.out.below HBZ.out)).mono ?_
   rintro e w4 ⟨rfl,h4,h5⟩
   go_wp2
   go_ret
   exact ⟨rfl,h4,(H2.out.below HBZ.out).trans h5⟩
 ·have hnm : nmAt l q.n = false:=by
   unfold nmAt
   rw [tokO_over l q.n hlt]
   rfl
  rw [hnm]
  show Calls _ _ _ _ (ToQ w0 r l lv (refP l q) o dv mv w (.string ⟨#[]⟩))
  have HL:=Lib.hid hL
  have HCL:=Lib.hid (fun (w' : World) (h' : Below w0.heap.size w0 w') => (HX.out.ht.below h'))
  have HNM:=Lib.hid (fun y w' hys => name_is2 y w' hys (nameB y) rfl)
  clear hok hnm hL
  go_enter Tryz.func213,Tryz.ntmps213
  go_wp2_with fail
  refine HG.out.mono ?_
  rintro e w1 ⟨rfl,h1,h2⟩
  obtain ⟨ad,cap,hlv,hc⟩:=HCL.out w1 h1.bel
  subst hlv
  obtain ⟨⟨c0,c1,_,_,_,_,_⟩,f1,_⟩:=h1.prs.facts
  have hr:=h1.prs.lt
  have hqn:=h1.ok.1
  rw [← HL.out] at c0 hn hlt hqn
  obtain ⟨n,hnn⟩ : ∃ n,n = q.n:=⟨_,rfl⟩
  rw [← hnn] at c1 hlt hqn
  have q1 : ((n : Int) == (L : Int)) = true:=by simp; omega
  have q2 : (n == L) = true:=by simp; omega
  have H1:=Lib.hid h1
  have H2:=Lib.hid h2
  clear hc h1 h2 hnn
  go_wp2
  go_quiet (fail)
  have hbz:=below_end (B:=w1.heap.size) (w:=w1) nq
  have HBZ:=Lib.hid hbz
  clear hbz
  go_wp2_with fail
  refine (srefuse_any HX.out _ (H1.out.below HBZ.out)).mono ?_
  rintro e w4 ⟨rfl,h4,h5⟩
  go_wp2
  go_ret
  exact ⟨rfl,h4,(H2.out.below HBZ.out).trans h5⟩
end Go.Proofs.YtcghccjnadagcaaGreatDoor
