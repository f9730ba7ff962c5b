/- Facts. -/
import Derived.Test.YtcghccjnadagcaaGreatDoorYu
set_option maxRecDepth 100000
set_option maxHeartbeats 32000000
namespace Go.Proofs.YtcghccjnadagcaaGreatDoor
open Go.RowKit
def Gp (w : World) (r : Nat) (lv : Value) (n k a : Int) : Prop:=
 w.heap[r]? = some (.cells #[lv,.int .i64 n,.int .i64 k,.int .i64 a] 54 (0,0))
section
variable {w w' : World} {r g : Nat} {lv : Value} {n k a : Int}
theorem Gp.lt (h : Gp w r lv n k a) : r < w.heap.size:=(Array.getElem?_eq_some_iff.1 h).1
theorem Gp.below (h : Gp w r lv n k a) (hb : Below w.heap.size w w') : Gp w' r lv n k a:=by
 unfold Gp at *; rw [hb.block r (Gp.lt h)]; exact h
theorem Gp.keep (h : Gp w r lv n k a) (hk : Keep g w w') (hg : r ≠ g) : Gp w' r lv n k a:=by
 unfold Gp at *; rw [hk.block r (Gp.lt h) hg]; exact h
theorem Gp.facts (h : Gp w r lv n k a) :
  (w.cell? ⟨r,0,none⟩ = some lv ∧ w.cell? ⟨r,1,none⟩ = some (.int .i64 n) ∧ w.cell? ⟨r,2,none⟩ = some (.int .i64 k) ∧ w.cell? ⟨r,3,none⟩ = some (.int .i64 a)) ∧
  w.frozen? ⟨r,1,none⟩ = false ∧ w.frozen? ⟨r,2,none⟩ = false ∧ w.frozen? ⟨r,3,none⟩ = false:=by
 unfold Gp at h
 simp [World.cell?,World.frozen?,h]
theorem Gp.set (h : Gp w r lv n k a) :
  (∀ x,Gp (w.setCell ⟨r,1,none⟩ (.int .i64 x)) r lv x k a) ∧ (∀ x,Gp (w.setCell ⟨r,2,none⟩ (.int .i64 x)) r lv n x a) ∧ (∀ x,Gp (w.setCell ⟨r,3,none⟩ (.int .i64 x)) r lv n k x):=by
 unfold Gp at h
 have hlt:=(Array.getElem?_eq_some_iff.1 h).1
 have hg:=(Array.getElem?_eq_some_iff.1 h).2
 refine ⟨fun x => ?_,fun x => ?_,fun x => ?_⟩ <;> simp [Gp,World.setCell,Array.getElem?_modify,h]
end
structure Tg (w0 : World) (l : List Tok) (lv : Value) : Prop where
 ht : TokC w0 lv l
 hn : l.length ≤ 100000
 ok : TokOK l
structure Sg (w0 w : World) (r : Nat) (l : List Tok) (lv : Value) (q : Pq) : Prop where
 prs : Gp w r lv q.n q.k q.a
 bel : Below w0.heap.size w0 w
 hr : w0.heap.size ≤ r
 ok : q.ok l.length
section
variable {w0 w w' : World} {r : Nat} {l : List Tok} {lv : Value} {q : Pq}
theorem Sg.below (h : Sg w0 w r l lv q) (hb : Below w.heap.size w w') : Sg w0 w' r l lv q:=⟨h.prs.below hb,h.bel.trans (hb.mono h.bel.size),h.hr,h.ok⟩
theorem Sg.alloc (h : Sg w0 w r l lv q) (u : Obj) : Sg w0 (w.alloc u) r l lv q:=h.below ((Below.refl _ _).alloc (Nat.le_refl _) _)
theorem Sg.drew (h : Sg w0 w r l lv q) : Sg w0 w.drew r l lv q:=h.below (Below.refl _ _).drew
theorem Sg.drewN (h : Sg w0 w r l lv q) (d : Nat) : Sg w0 (w.drewN d) r l lv q:=h.below (below_end d)
theorem Sg.setN (h : Sg w0 w r l lv q) (q' : Pq) (hk : q'.k = q.k) (ha : q'.a = q.a) (ho : q'.ok l.length) : Sg w0 (w.setCell ⟨r,1,none⟩ (.int .i64 (q'.n : Int))) r l lv q':=by
 refine ⟨?_,keep_bel h.bel h.hr ((Keep.refl r w).setCell 1 _),h.hr,ho⟩
 rw [hk,ha]
 exact h.prs.set.1 _
end
theorem Sg.setNew {w0 w : World} {r : Nat} {l : List Tok} {lv : Value} {q : Pq} (h : Sg w0 w r l lv q) {g : Nat} (hg : w0.heap.size ≤ g) (hne : g ≠ r) (o : Nat) (u : Value) : Sg w0 (w.setCell ⟨g,o,none⟩ u) r l lv q:=by
 refine ⟨?_,h.bel.setCell (p:=⟨g,o,none⟩) hg _,h.hr,h.ok⟩
 have:=h.prs
 unfold Gp at *
 rw [Below.heap_setCell _ _ _ _ (by exact Ne.symm hne)]
 exact this
theorem results_tok {fn : Func} {p : Tmp} (h : fn.results = #[.cell p 62]) (tmps : Array Value) (w : World) (r : Nat) (u0 u1 u2 u3 : Value) (hp : tmps.getD p undef = .pointer (some ⟨r,0,none⟩)) (hb : Blk4 w r u0 u1 u2 u3) :
  (results fn tmps).run Tryz.prog w = .ok (.agg #[u0,u1,u2,u3]) w:=by
 obtain ⟨⟨y0,y1,y2,y3⟩,_⟩:=hb.facts
 have hp2 : tmps[p]?.getD undef = .pointer (some ⟨r,0,none⟩):=by simpa using hp
 simp only [results,h]
 simp [hp2,go_sem,y0,y1,y2,y3]
theorem Blk4.set4 {w : World} {b : Nat} {y0 y1 y2 y3 : Value} (h : Blk4 w b y0 y1 y2 y3) (x0 x1 x2 x3 : Value) : Blk4 ((((w.setCell ⟨b,0,none⟩ x0).setCell ⟨b,1,none⟩ x1).setCell ⟨b,2,none⟩ x2).setCell ⟨b,3,none⟩ x3) b x0 x1 x2 x3:=by
 unfold Blk4 at h
 have hlt:=(Array.getElem?_eq_some_iff.1 h).1
 have hg:=(Array.getElem?_eq_some_iff.1 h).2
 simp [Blk4,World.setCell,Array.getElem?_modify,h]
theorem cell_other {w : World} {r g o p : Nat} {u : Value} (hne : g ≠ r) : (w.setCell ⟨r,o,none⟩ u).cell? ⟨g,p,none⟩ = w.cell? ⟨g,p,none⟩:=by
 unfold World.cell?
 rw [Below.heap_setCell _ _ _ _ (by exact hne)]
def ToG (w0 : World) (r : Nat) (l : List Tok) (lv : Value) (q : Pq) (w : World) (v : Value) (e : Ending) (w' : World) : Prop:=e = .returned v ∧ Sg w0 w' r l lv q ∧ Keep r w w'
theorem gfail_raw (r : Nat) (ad : Option Addr) (L cap : Nat) (n k a k' a' : Int) (w : World) (hp : Gp w r (.slice ad L cap) n k a) (hz : k = 0 → a = 0) :
  Calls Tryz.prog 129 #[.pointer (some ⟨r,0,none⟩),.int .i64 k',.int .i64 a'] w fun e w' => e = .returned (.tuple #[]) ∧ Gp w' r (.slice ad L cap) L (fst0 k k') (snd0 k a' a) ∧ Keep r w w':=by
 have hr:=hp.lt
 obtain ⟨⟨c0,c1,c2,c3⟩,f1,f2,f3⟩:=hp.facts
 have HP:=Lib.hid hp
 clear hp
 by_cases h : k = 0
 ·subst h
  obtain rfl:=hz rfl
  have e1 : fst0 0 k' = k':=rfl
  have e2 : snd0 0 a' 0 = a':=rfl
  rw [e1,e2]
  clear e1 e2 hz
  go_enter Tryz.func129,Tryz.ntmps129
  go_wp2
  refine bodyPost_end (v:=.tuple #[]) (by simp [results,Tryz.results129,go_sem]) rfl ⟨rfl,(((HP.out.set.2.1 k').set.2.2 a').set.1 _),(((Keep.refl r w).setCell 2 _).setCell 3 _).setCell 1 _⟩
 ·have e1 : fst0 k k' = k:=if_neg h
  have e2 : snd0 k a' a = a:=by unfold snd0; rw [if_neg h]
  rw [e1,e2]
  have q : (k == 0) = false:=by simpa using h
  clear e1 e2 hz h
  go_enter Tryz.func129,Tryz.ntmps129
  go_wp2
  refine bodyPost_end (v:=.tuple #[]) (by simp [results,Tryz.results129,go_sem]) rfl ⟨rfl,HP.out.set.1 _,(Keep.refl r w).setCell 1 _⟩
section
variable {w0 : World} {l : List Tok} {lv : Value} {r : Nat} {q : Pq}
theorem gfail_any (x : Tg w0 l lv) (w : World) (h : Sg w0 w r l lv q) (k a : Nat) (hk : k ≠ 0) :
  Calls Tryz.prog 129 #[.pointer (some ⟨r,0,none⟩),.int .i64 k,.int .i64 a] w (ToG w0 r l lv (failP l.length q k a) w (.tuple #[])):=by
 obtain ⟨hp,hb,hr,ho⟩:=h
 obtain ⟨ad,cap,rfl,_⟩:=id x.ht
 refine (gfail_raw r ad l.length cap q.n q.k q.a k a w hp (by have:=ho.2.1; omega)).mono ?_
 rintro e w' ⟨rfl,h1,h2⟩
 refine ⟨rfl,⟨?_,keep_bel hb hr h2,hr,failP_ok hk⟩,h2⟩
 unfold failP
 by_cases h0 : q.k = 0
 ·rw [if_pos h0]
  have e1 : (fst0 (q.k : Int) (k : Int)) = k:=by rw [h0]; rfl
  have e2 : (snd0 (q.k : Int) (a : Int) (q.a : Int)) = a:=by rw [h0]; rfl
  rw [e1,e2] at h1
  exact h1
 ·rw [if_neg h0]
  have e1 : (fst0 (q.k : Int) (k : Int)) = q.k:=if_neg (by omega)
  have e2 : (snd0 (q.k : Int) (a : Int) (q.a : Int)) = q.a:=by unfold snd0; exact if_neg (by omega)
  rw [e1,e2] at h1
  exact h1
theorem grefuse_any (x : Tg w0 l lv) (w : World) (h : Sg w0 w r l lv q) :
  Calls Tryz.prog 76 #[.pointer (some ⟨r,0,none⟩)] w (ToG w0 r l lv (refP l q) w (.tuple #[])):=by
 have HF:=fun (w' : World) (h' : Sg w0 w' r l lv q) => gfail_any x w' h' (refK l q.n).1 (refK l q.n).2 (refK_ne l q.n)
 obtain ⟨ad,cap,rfl,hc⟩:=x.ht.below h.bel
 obtain ⟨⟨c0,c1,_,_⟩,_⟩:=h.prs.facts
 have hr:=h.prs.lt
 have HS:=Lib.hid h
 have hn:=x.hn
 have hok:=x.ok
 obtain ⟨L,hL⟩ : ∃ L,L = l.length:=⟨_,rfl⟩
 obtain ⟨q',hq'⟩ : ∃ q',q' = failP l.length q (refK l q.n).1 (refK l q.n).2:=⟨_,rfl⟩
 show Calls _ _ _ _ (ToG w0 r l _ (failP l.length q (refK l q.n).1 (refK l q.n).2) w _)
 rw [← hq'] at HF ⊢
 by_cases hlt : q.n < l.length
 ·obtain ⟨g,rfl,hg,k0,k1,k2,k3⟩:=hc q.n hlt
  have hr1 : refK l q.n = (5,l[q.n].2.2.2):=refK_in l q.n hlt
  rw [hr1] at HF
  obtain ⟨tp,htp⟩ : ∃ t,t = l[q.n].2.2.2:=⟨_,rfl⟩
  rw [← htp] at k3 HF
  rw [← hL] at c0 hn hlt HF HS ⊢
  obtain ⟨n,hnn⟩ : ∃ n,n = q.n:=⟨_,rfl⟩
  rw [← hnn] at c1 k3 hlt
  have HFF:=Lib.hid HF
  have q1 : decide ((n : Int) < (L : Int)) = true:=by simp; omega
  have q2 : decide (n < L) = true:=by simp; omega
  clear hc k0 k1 k2 htp hr1 hq' hL hnn h x HF hok
  go_enter Tryz.func76,Tryz.ntmps76
  go_wp2
  go_quiet (fail)
  go_wp2
  have HS2 : Hid (Sg w0 (w.drewN nq) r l (.slice (some ⟨g,0,none⟩) L cap) q):=HS.out.drewN nq
  have hbb:=below_end (B:=w.heap.size) (w:=w) nq
  have k3' : (w.drewN nq).cell? ⟨g,n * 4 + 3,none⟩ = some (.int .i64 tp):=k3
  have c0' : (w.drewN nq).cell? ⟨r,0,none⟩ = some (.slice (some ⟨g,0,none⟩) L cap):=c0
  have c1' : (w.drewN nq).cell? ⟨r,1,none⟩ = some (.int .i64 n):=c1
  have hr' : r < (w.drewN nq).heap.size:=hr
  clear c0 c1 k3 HS hr
  generalize w.drewN nq = w1 at *
  go_still_tail 12,(by kernel_rfl)
  change wpList _ _ _ _ _ w1.drew
  go_wp2_with fail
  refine (HFF.out _ HS2.out.drew).mono ?_
  rintro e w3 ⟨rfl,h3,h4⟩
  go_wp2
  refine bodyPost_ret (v:=.tuple #[]) (by simp [results,Tryz.results76,go_sem]) rfl ⟨rfl,h3,?_⟩
  exact (Below.keep (hbb.trans (Below.refl _ _).drew)).trans h4
 ·have q1 : decide ((q.n : Int) < (l.length : Int)) = false:=by simp; omega
  have q2 : decide (q.n < l.length) = false:=by simp; omega
  by_cases hz : l.length = 0
  ·have hr1 : refK l q.n = (6,0):=by unfold refK; rw [if_neg hlt,if_pos hz]
   rw [hr1] at HF
   have HFF:=Lib.hid HF
   rw [hz] at c0 q1 q2 HFF HS ⊢
   have hq0 : q.n = 0:=by have:=h.ok.1; omega
   rw [hq0] at c1
   clear hc hr1 hq' hL h x HF hok hlt hz q1 q2 hq0 hn
   go_enter Tryz.func76,Tryz.ntmps76
   go_wp2
   go_quiet (fail)
   have HS2 : Hid (Sg w0 (w.drewN nq) r l (.slice ad 0 cap) q):=HS.out.drewN nq
   have hbb:=below_end (B:=w.heap.size) (w:=w) nq
   have c0' : (w.drewN nq).cell? ⟨r,0,none⟩ = some (.slice ad 0 cap):=c0
   have hr' : r < (w.drewN nq).heap.size:=hr
   clear c0 c1 HS hr
   generalize w.drewN nq = w1 at *
   go_wp2_with fail
   refine (HFF.out _ HS2.out).mono ?_
   rintro e w3 ⟨rfl,h3,h4⟩
   go_wp2
   exact bodyPost_end (v:=.tuple #[]) (by simp [results,Tryz.results76,go_sem]) rfl ⟨rfl,h3,(Below.keep hbb).trans h4⟩
  ·have hl : l.length - 1 < l.length:=by omega
   have hr1 : refK l q.n = (6,l[l.length - 1].2.2.2 + l[l.length - 1].2.1.length):=by unfold refK; rw [if_neg hlt,if_neg hz,tokO_in l _ hl]
   obtain ⟨g,rfl,hg,k0,k1,k2,k3⟩:=hc _ hl
   have h1:=hok (l.length - 1)
   rw [tokO_in l _ hl] at h1
   rw [hr1] at HF
   obtain ⟨⟨tk,tx,tn,tp⟩,htk⟩ : ∃ t,t = l[l.length - 1]:=⟨_,rfl⟩
   rw [← htk] at k0 k1 k2 k3 h1 HF
   simp only [] at k0 k1 k2 k3 h1 HF
   obtain ⟨m,hm⟩ : ∃ m,l.length = m + 1:=⟨l.length - 1,by omega⟩
   rw [← hL] at c0 hn hlt HF HS q1 q2 ⊢
   rw [hm] at k0 k1 k2 k3
   simp only [Nat.add_sub_cancel] at k0 k1 k2 k3
   obtain ⟨y,hy⟩ : ∃ y : ByteArray,y = ⟨tx.toArray⟩:=⟨_,rfl⟩
   have hys : tx.length = y.size:=by rw [hy,Lib.size_eq]
   rw [← hy] at k1
   rw [hys] at h1 HF
   obtain ⟨n,hnn⟩ : ∃ n,n = q.n:=⟨_,rfl⟩
   rw [← hnn] at c1 hlt q1 q2
   have q3 : decide ((0 : Int) < (L : Int)) = true:=by simp; omega
   have q4 : decide (0 < L) = true:=by simp; omega
   have m1 : IntKind.i64.wrap ((L : Int) - 1) = (L : Int) - 1:=IntWalk.i64_in _ (by omega)
   have m2 : (1 : Int) ≤ (L : Int):=by omega
   have m3 : (0 : Int) ≤ (L : Int) - 1:=by omega
   have m4 : ((L : Int) - 1).toNat = m:=by omega
   have m5 : (L : Int) - 1 < (L : Int):=by omega
   have hlt' : L ≤ n:=by omega
   have hs1:=h1.1
   have hs2:=h1.2.1
   have HFF : Hid (∀ (w' : World),Sg w0 w' r l (.slice (some ⟨g,0,none⟩) L cap) q → Calls Tryz.prog 129 #[.pointer (some ⟨r,0,none⟩),.int .i64 6,.int .i64 ((tp : Int) + (y.size : Int))] w' (ToG w0 r l (.slice (some ⟨g,0,none⟩) L cap) q' w' (.tuple #[]))):=by
    intro w' h'
    have:=HF w' h'
    rw [Int.natCast_add] at this
    exact this
   clear hc htk hr1 hq' hnn h x HF hok hy hys h1 hL hm hl hlt hz
   go_enter Tryz.func76,Tryz.ntmps76
   go_wp2
   go_quiet (fail)
   have HS2 : Hid (Sg w0 (w.drewN nq) r l (.slice (some ⟨g,0,none⟩) L cap) q):=HS.out.drewN nq
   have hbb:=below_end (B:=w.heap.size) (w:=w) nq
   have k0' : (w.drewN nq).cell? ⟨g,m * 4,none⟩ = some (.int .i64 tk):=k0
   have k1' : (w.drewN nq).cell? ⟨g,m * 4 + 1,none⟩ = some (.string y):=k1
   have k2' : (w.drewN nq).cell? ⟨g,m * 4 + 2,none⟩ = some (.int .i64 tn):=k2
   have k3' : (w.drewN nq).cell? ⟨g,m * 4 + 3,none⟩ = some (.int .i64 tp):=k3
   have c0' : (w.drewN nq).cell? ⟨r,0,none⟩ = some (.slice (some ⟨g,0,none⟩) L cap):=c0
   have c1' : (w.drewN nq).cell? ⟨r,1,none⟩ = some (.int .i64 n):=c1
   have hr' : r < (w.drewN nq).heap.size:=hr
   have hg' : g < (w.drewN nq).heap.size:=hg
   clear c0 c1 k0 k1 k2 k3 HS hr hg
   generalize w.drewN nq = w1 at *
   go_wp2
   go_region
   have HS3 : Hid (Sg w0 ((w1.alloc (.cells #[.int .i64 tk,.string y,.int .i64 tn,.int .i64 tp] 62)).drew) r l (.slice (some ⟨g,0,none⟩) L cap) q):=(HS2.out.alloc _).drew
   have hB2 : ((w1.alloc (.cells #[.int .i64 tk,.string y,.int .i64 tn,.int .i64 tp] 62)).drew).heap[w1.heap.size]? = some (.cells #[.int .i64 tk,.string y,.int .i64 tn,.int .i64 tp] 62 (0,0)):=heap_alloc_new w1 _
   have hK2 : Below w.heap.size w ((w1.alloc (.cells #[.int .i64 tk,.string y,.int .i64 tn,.int .i64 tp] 62)).drew):=(hbb.alloc hbb.size _).drew
   clear HS2 k0' k1' k2' k3' c0' c1' hbb m1 m4
   generalize ((w1.alloc (.cells #[.int .i64 tk,.string y,.int .i64 tn,.int .i64 tp] 62)).drew) = w2 at hK2 HS3 hB2 ⊢
   obtain ⟨⟨e0,e1,e2,e3⟩,_⟩:=Blk4.facts (show Blk4 w2 w1.heap.size (.int .i64 tk) (.string y) (.int .i64 tn) (.int .i64 tp) from hB2)
   clear hB2
   go_wp2_with fail
   refine (HFF.out _ HS3.out).mono ?_
   rintro e w3 ⟨rfl,h3,h4⟩
   go_wp2
   refine bodyPost_ret (v:=.tuple #[]) (by simp [results,Tryz.results76,go_sem]) rfl ⟨rfl,h3,?_⟩
   exact (Below.keep hK2).trans h4
end
section
variable {w0 : World} {l : List Tok} {lv : Value} {r : Nat} {q : Pq}
theorem gtoken_over (x : Tg w0 l lv) (w : World) (h : Sg w0 w r l lv q) (hlt : ¬ q.n < l.length) :
  Calls Tryz.prog 123 #[.pointer (some ⟨r,0,none⟩)] w fun e w' => e = .returned (tokV l q.n) ∧ Below w.heap.size w w':=by
 have hv : tokV l q.n = .agg #[.int .i64 0,.string ⟨#[]⟩,.int .i64 0,.int .i64 0]:=by rw [tokV_eq,tokO_over l q.n hlt]; rfl
 rw [hv]
 obtain ⟨ad,cap,rfl,hc⟩:=x.ht.below h.bel
 obtain ⟨⟨c0,c1,_,_⟩,_⟩:=h.prs.facts
 have hr:=h.prs.lt
 have hn:=x.hn
 have hq : q.n = l.length:=by have:=h.ok.1; omega
 rw [hq] at c1
 obtain ⟨L,hL⟩ : ∃ L,L = l.length:=⟨_,rfl⟩
 rw [← hL] at c0 c1 hn
 clear hv hc h x hq hL hlt
 go_enter Tryz.func123,Tryz.ntmps123
 go_wp2
 go_quiet (fail)
 go_wp2
 refine bodyPost_ret (v:=.agg #[.int .i64 0,.string ⟨#[]⟩,.int .i64 0,.int .i64 0]) (by simp [results,Tryz.results123,go_sem]) rfl ⟨rfl,?_⟩
 exact below_set4 (below_drewN ((Below.refl _ _).alloc (Nat.le_refl _) _) _) _ _ _ _
theorem gtoken_in (x : Tg w0 l lv) (w : World) (h : Sg w0 w r l lv q) (hlt : q.n < l.length) :
  Calls Tryz.prog 123 #[.pointer (some ⟨r,0,none⟩)] w fun e w' => e = .returned (tokV l q.n) ∧ Below w.heap.size w w':=by
 rw [tokV_eq,tokO_in l q.n hlt]
 obtain ⟨ad,cap,rfl,hc⟩:=x.ht.below h.bel
 obtain ⟨⟨c0,c1,_,_⟩,_⟩:=h.prs.facts
 have hr:=h.prs.lt
 have hn:=x.hn
 obtain ⟨g,rfl,hg,k0,k1,k2,k3⟩:=hc q.n hlt
 obtain ⟨⟨tk,tx,tn,tp⟩,htk⟩ : ∃ t,t = l[q.n]:=⟨_,rfl⟩
 rw [← htk] at k0 k1 k2 k3 ⊢
 simp only [] at k0 k1 k2 k3 ⊢
 obtain ⟨L,hL⟩ : ∃ L,L = l.length:=⟨_,rfl⟩
 rw [← hL] at c0 hn hlt
 obtain ⟨n,hnn⟩ : ∃ n,n = q.n:=⟨_,rfl⟩
 rw [← hnn] at c1 k0 k1 k2 k3 hlt
 have q1 : ((n : Int) == (L : Int)) = false:=by simp; omega
 clear hc htk hL hnn h x
 by_cases h0 : n = 0
 ·subst h0
  simp only [Nat.zero_mul,Nat.zero_add] at k0 k1 k2 k3
  clear q1
  have q1 : ((0 : Int) == (L : Int)) = false:=by simp; omega
  go_enter Tryz.func123,Tryz.ntmps123
  go_wp2
  go_quiet (fail)
  go_wp2
  go_region
  go_wp2
  refine bodyPost_ret (v:=.agg #[.int .i64 tk,.string ⟨tx.toArray⟩,.int .i64 tn,.int .i64 tp]) (by simp [results,Tryz.results123,go_sem]) rfl ⟨rfl,?_⟩
  exact below_set4 (below_drewN ((Below.refl _ _).alloc (Nat.le_refl _) _) _) _ _ _ _
 ·go_enter Tryz.func123,Tryz.ntmps123
  go_wp2
  go_quiet (fail)
  go_wp2
  go_region
  go_wp2
  refine bodyPost_ret (v:=.agg #[.int .i64 tk,.string ⟨tx.toArray⟩,.int .i64 tn,.int .i64 tp]) (by simp [results,Tryz.results123,go_sem]) rfl ⟨rfl,?_⟩
  exact below_set4 (below_drewN ((Below.refl _ _).alloc (Nat.le_refl _) _) _) _ _ _ _
theorem gtoken_any (x : Tg w0 l lv) (w : World) (h : Sg w0 w r l lv q) :
  Calls Tryz.prog 123 #[.pointer (some ⟨r,0,none⟩)] w fun e w' => e = .returned (tokV l q.n) ∧ Below w.heap.size w w':=by
 by_cases hlt : q.n < l.length
 ·exact gtoken_in x w h hlt
 ·exact gtoken_over x w h hlt
theorem gtake_no (x : Tg w0 l lv) (w : World) (h : Sg w0 w r l lv q) :
  Calls Tryz.prog 122 #[.pointer (some ⟨r,0,none⟩),.bool false] w (ToG w0 r l lv (refP l q) w (tokV [] 0)):=by
 have HR:=Lib.hid (fun w' => grefuse_any (q:=q) (r:=r) x w')
 have HW:=Lib.hid h
 rw [show tokV [] 0 = .agg #[.int .i64 0,.string ⟨#[]⟩,.int .i64 0,.int .i64 0] from rfl]
 clear h x
 go_enter Tryz.func122,Tryz.ntmps122
 have hrl:=HW.out.prs.lt
 go_wp2_with fail
 refine (HR.out _ (HW.out.alloc _)).mono ?_
 rintro e w2 ⟨rfl,h2,hk2⟩
 have hb2 : Blk4 w2 w.heap.size (.int .i64 0) (.string ⟨#[]⟩) (.int .i64 0) (.int .i64 0):=by
  unfold Blk4
  rw [hk2.block w.heap.size (Blk4.new w _ _ _ _).lt (by omega)]
  exact heap_alloc_new w _
 have hkk : Keep r w w2:=((Keep.refl r w).alloc _).trans hk2
 obtain ⟨⟨e0,e1,e2,e3⟩,g0,g1,g2,g3⟩:=hb2.facts
 have hlt2 : w.heap.size < w2.heap.size:=hb2.lt
 have H2:=Lib.hid h2
 have HB2:=Lib.hid hb2
 clear h2 hk2 hb2
 go_wp2
 refine bodyPost_ret (v:=.agg #[.int .i64 0,.string ⟨#[]⟩,.int .i64 0,.int .i64 0]) (results_tok rfl _ _ _ _ _ _ _ rfl (HB2.out.set4 _ _ _ _)) rfl ⟨rfl,?_,?_⟩
 ·have hg:=HW.out.bel.size
  exact (((H2.out.setNew hg (by omega) 0 _).setNew hg (by omega) 1 _).setNew hg (by omega) 2 _).setNew hg (by omega) 3 _
 ·exact (((hkk.setNew (Nat.le_refl _) _).setNew (Nat.le_refl _) _).setNew (Nat.le_refl _) _).setNew (Nat.le_refl _) _
theorem gtake_yes (x : Tg w0 l lv) (w : World) (h : Sg w0 w r l lv q) (hlt : q.n < l.length) :
  Calls Tryz.prog 122 #[.pointer (some ⟨r,0,none⟩),.bool true] w (ToG w0 r l lv ⟨q.n + 1,q.k,q.a⟩ w (tokV l q.n)):=by
 have HW:=Lib.hid h
 have hst:=Pq.step h.ok hlt
 have HST:=Lib.hid hst
 rw [tokV_eq,tokO_in l q.n hlt]
 obtain ⟨ad,cap,rfl,hc⟩:=x.ht
 obtain ⟨⟨c0,c1,_,_⟩,f1,_⟩:=h.prs.facts
 have hr:=h.prs.lt
 have hn:=x.hn
 obtain ⟨g,rfl,hg,k0,k1,k2,k3⟩:=hc q.n hlt
 have hgr : g ≠ r:=by have:=h.hr; omega
 have hcell : ∀ p u,(w.setCell ⟨r,1,none⟩ u).cell? ⟨g,p,none⟩ = w0.cell? ⟨g,p,none⟩:=fun p u => (cell_other hgr).trans (h.bel.cell (p:=⟨g,_,none⟩) hg)
 obtain ⟨⟨tk,tx,tn,tp⟩,htk⟩ : ∃ t,t = l[q.n]:=⟨_,rfl⟩
 rw [← htk] at k0 k1 k2 k3 ⊢
 simp only [] at k0 k1 k2 k3 ⊢
 obtain ⟨L,hL⟩ : ∃ L,L = l.length:=⟨_,rfl⟩
 rw [← hL] at c0 hn hlt HW ⊢
 obtain ⟨n,hnn⟩ : ∃ n,n = q.n:=⟨_,rfl⟩
 rw [← hnn] at c1 k0 k1 k2 k3 hlt
 have HNN:=Lib.hid hnn
 have HLL:=Lib.hid hL
 clear hc htk hL hnn h x hst
 go_enter Tryz.func122,Tryz.ntmps122
 have k0':=(hcell (n * 4) (.int .i64 ((n : Int) + 1))).trans k0
 have k1':=(hcell (n * 4 + 1) (.int .i64 ((n : Int) + 1))).trans k1
 have k2':=(hcell (n * 4 + 2) (.int .i64 ((n : Int) + 1))).trans k2
 have k3':=(hcell (n * 4 + 3) (.int .i64 ((n : Int) + 1))).trans k3
 have m4 : IntKind.i64.wrap (n : Int) = (n : Int):=IntWalk.i64_in _ (by omega)
 have hgw : g < w.heap.size:=Nat.lt_of_lt_of_le hg HW.out.bel.size
 have m1 : IntKind.i64.wrap ((n : Int) + 1) = (n : Int) + 1:=IntWalk.i64_in _ (by omega)
 have m2 : IntKind.i64.wrap ((n : Int) + 1 - 1) = (n : Int):=by rw [show ((n : Int) + 1 - 1) = (n : Int) by omega]; exact IntWalk.i64_in _ (by omega)
 have m3 : (n : Int) + 1 - 1 = (n : Int):=by omega
 go_wp2
 go_region
 go_wp2
 refine bodyPost_ret (v:=.agg #[.int .i64 tk,.string ⟨tx.toArray⟩,.int .i64 tn,.int .i64 tp]) (by simp [results,Tryz.results122,go_sem]) rfl ⟨rfl,?_,?_⟩
 ·have h1:=HW.out.setN ⟨q.n + 1,q.k,q.a⟩ rfl rfl HST.out
  have e1 : (((⟨q.n + 1,q.k,q.a⟩ : Pq).n : Nat) : Int) = (n : Int) + 1:=by rw [HNN.out]; simp
  rw [e1] at h1
  exact (h1.alloc _).drew
 ·exact (((Keep.refl r w).setCell 1 _).alloc _).drew
def txB (l : List Tok) (n : Nat) (s : List UInt8) : Bool:=(tokO l n).2.1 == s
def gexP (l : List Tok) (q : Pq) (s : List UInt8) : Pq:=if txB l q.n s = true then ⟨q.n + 1,q.k,q.a⟩ else refP l q
def gnmP (l : List Tok) (q : Pq) : ByteArray × Pq:=if nameB (txt l q.n) = true then (txt l q.n,⟨q.n + 1,q.k,q.a⟩) else (⟨#[]⟩,refP l q)
def gnuP (l : List Tok) (q : Pq) : Nat × Pq:=if (tokO l q.n).1 = 2 then ((tokO l q.n).2.2.1,⟨q.n + 1,q.k,q.a⟩) else (0,refP l q)
theorem txB_lt {l : List Tok} {n : Nat} {s : List UInt8} (h : txB l n s = true) (hs : s ≠ []) : n < l.length:=by
 by_cases hlt : n < l.length
 ·exact hlt
 ·unfold txB at h
  rw [tokO_over l n hlt] at h
  have h1 : [] = s:=by simpa using h
  exact absurd h1.symm hs
theorem txt_lt {l : List Tok} {n : Nat} (h : nameB (txt l n) = true) : n < l.length:=by
 by_cases hlt : n < l.length
 ·exact hlt
 ·unfold txt at h
  rw [tokO_over l n hlt] at h
  exact absurd h (by decide)
theorem gexpect_any (x : Tg w0 l lv) (w : World) (h : Sg w0 w r l lv q) (s : ByteArray) (hs : s.data.toList ≠ []) :
  Calls Tryz.prog 64 #[.pointer (some ⟨r,0,none⟩),.string s] w (ToG w0 r l lv (gexP l q s.data.toList) w (.tuple #[])):=by
 have HT:=Lib.hid (gtoken_any x w h)
 rw [tokV_eq] at HT
 have HN:=Lib.hid (fun w' => gtake_no (q:=q) (r:=r) x w')
 have HY:=Lib.hid (fun w' => gtake_yes (q:=q) (r:=r) x w')
 have HW:=Lib.hid h
 unfold gexP
 obtain ⟨b,hb⟩ : ∃ b,txB l q.n s.data.toList = b:=⟨_,rfl⟩
 rw [hb]
 have hlt : b = true → q.n < l.length:=fun hh => txB_lt (hb.trans hh) hs
 have hb':=hb
 unfold txB at hb'
 have HV:=Lib.hid (tokV_eq l q.n)
 obtain ⟨⟨tk,tx,tn,tp⟩,htk⟩ : ∃ t,t = tokO l q.n:=⟨_,rfl⟩
 rw [← htk] at HT hb' HV
 simp only [] at HT hb' HV
 obtain ⟨y,hy⟩ : ∃ y : ByteArray,y = ⟨tx.toArray⟩:=⟨_,rfl⟩
 have hyx : (y.toList == s.toList) = b:=by rw [← hb',Lib.toList_data,Lib.toList_data,hy]
 rw [← hy] at HT HV
 have hfd : ∀ w : World,(Instr.field 62 (.agg #[.int .i64 tk,.string y,.int .i64 tn,.int .i64 tp]) 1).run Tryz.prog w = .ok (.string y) w:=fun _ => by kernel_rfl
 clear hb' htk
 have HLT:=Lib.hid hlt
 clear hb hy h x hlt hs
 cases b with
 | false =>
  go_enter Tryz.func64,Tryz.ntmps64
  go_wp2_with fail
  refine HT.out.mono ?_
  rintro e w1 ⟨rfl,hb1⟩
  go_wp2_with fail
  refine (HN.out w1 (HW.out.below hb1)).mono ?_
  rintro e w2 ⟨rfl,h2,h3⟩
  go_wp2
  exact bodyPost_end (v:=.tuple #[]) (by simp [results,Tryz.results64,go_sem]) rfl ⟨rfl,h2,(Below.keep hb1).trans h3⟩
 | true =>
  go_enter Tryz.func64,Tryz.ntmps64
  go_wp2_with fail
  refine HT.out.mono ?_
  rintro e w1 ⟨rfl,hb1⟩
  go_wp2_with fail
  refine (HY.out w1 (HW.out.below hb1) (HLT.out trivial)).mono ?_
  rintro e w2 ⟨rfl,h2,h3⟩
  go_wp2
  exact bodyPost_end (v:=.tuple #[]) (by simp [results,Tryz.results64,go_sem]) rfl ⟨rfl,h2,(Below.keep hb1).trans h3⟩
theorem gname_any (x : Tg w0 l lv) (w : World) (h : Sg w0 w r l lv q) :
  Calls Tryz.prog 125 #[.pointer (some ⟨r,0,none⟩)] w (ToG w0 r l lv (gnmP l q).2 w (.string (gnmP l q).1)):=by
 have HT:=Lib.hid (gtoken_any x w h)
 rw [tokV_eq] at HT
 have HN:=Lib.hid (fun w' => gtake_no (q:=q) (r:=r) x w')
 have HY:=Lib.hid (fun w' => gtake_yes (q:=q) (r:=r) x w')
 rw [show tokV [] 0 = .agg #[.int .i64 0,.string ⟨#[]⟩,.int .i64 0,.int .i64 0] from rfl] at HN
 rw [tokV_eq] at HY
 have HW:=Lib.hid h
 unfold gnmP
 obtain ⟨b,hb⟩ : ∃ b,nameB (txt l q.n) = b:=⟨_,rfl⟩
 rw [hb]
 have hlt : b = true → q.n < l.length:=fun hh => txt_lt (hb.trans hh)
 have hsz:=(x.ok q.n).2.1
 have hb':=hb
 unfold txt at hb' ⊢
 obtain ⟨⟨tk,tx,tn,tp⟩,htk⟩ : ∃ t,t = tokO l q.n:=⟨_,rfl⟩
 rw [← htk] at HT HY hb' hsz ⊢
 simp only [] at HT HY hb' hsz ⊢
 obtain ⟨y,hy⟩ : ∃ y : ByteArray,y = ⟨tx.toArray⟩:=⟨_,rfl⟩
 have hys : y.size ≤ maxLen:=by rw [hy,Lib.size_eq]; unfold maxLen; simp; omega
 rw [← hy] at HT HY hb' ⊢
 have HNM : Hid (∀ w,Calls Tryz.prog 90 #[.string y] w fun e w' => e = .returned (.bool b) ∧ Below w.heap.size w w'):=Lib.hid fun w => hb' ▸ name_any y w hys
 have hfd : ∀ w : World,(Instr.field 62 (.agg #[.int .i64 tk,.string y,.int .i64 tn,.int .i64 tp]) 1).run Tryz.prog w = .ok (.string y) w:=fun _ => by kernel_rfl
 have hfe : ∀ w : World,(Instr.field 62 (.agg #[.int .i64 0,.string ⟨#[]⟩,.int .i64 0,.int .i64 0]) 1).run Tryz.prog w = .ok (.string ⟨#[]⟩) w:=fun _ => by kernel_rfl
 have HLT:=Lib.hid hlt
 clear hb hb' hy h x hlt hsz htk
 cases b with
 | false =>
  go_enter Tryz.func125,Tryz.ntmps125
  go_wp2_with fail
  refine HT.out.mono ?_
  rintro e w1 ⟨rfl,hb1⟩
  go_wp2_with fail
  refine (HNM.out w1).mono ?_
  rintro e w2 ⟨rfl,hb2⟩
  have hb3:=hb1.trans (hb2.mono hb1.size)
  go_wp2_with fail
  refine (HN.out w2 (HW.out.below hb3)).mono ?_
  rintro e w3 ⟨rfl,h2,h3⟩
  go_wp2
  refine bodyPost_ret (v:=.string ⟨#[]⟩) (by simp [results,Tryz.results125,go_sem]) rfl ⟨rfl,h2,(Below.keep hb3).trans h3⟩
 | true =>
  go_enter Tryz.func125,Tryz.ntmps125
  go_wp2_with fail
  refine HT.out.mono ?_
  rintro e w1 ⟨rfl,hb1⟩
  go_wp2_with fail
  refine (HNM.out w1).mono ?_
  rintro e w2 ⟨rfl,hb2⟩
  have hb3:=hb1.trans (hb2.mono hb1.size)
  go_wp2_with fail
  refine (HY.out w2 (HW.out.below hb3) (HLT.out trivial)).mono ?_
  rintro e w3 ⟨rfl,h2,h3⟩
  go_wp2
  refine bodyPost_ret (v:=.string y) (by simp [results,Tryz.results125,go_sem]) rfl ⟨rfl,h2,(Below.keep hb3).trans h3⟩
theorem gnumber_any (x : Tg w0 l lv) (w : World) (h : Sg w0 w r l lv q) :
  Calls Tryz.prog 65 #[.pointer (some ⟨r,0,none⟩)] w (ToG w0 r l lv (gnuP l q).2 w (.int .i64 (gnuP l q).1)):=by
 have HT:=Lib.hid (gtoken_any x w h)
 rw [tokV_eq] at HT
 have HN:=Lib.hid (fun w' => gtake_no (q:=q) (r:=r) x w')
 have HY:=Lib.hid (fun w' => gtake_yes (q:=q) (r:=r) x w')
 rw [show tokV [] 0 = .agg #[.int .i64 0,.string ⟨#[]⟩,.int .i64 0,.int .i64 0] from rfl] at HN
 rw [tokV_eq] at HY
 have HW:=Lib.hid h
 unfold gnuP
 have hlt : (tokO l q.n).1 = 2 → q.n < l.length:=fun hh => by
  by_cases hl : q.n < l.length
  ·exact hl
  ·rw [tokO_over l q.n hl] at hh; cases hh
 obtain ⟨⟨tk,tx,tn,tp⟩,htk⟩ : ∃ t,t = tokO l q.n:=⟨_,rfl⟩
 rw [← htk] at HT HY hlt ⊢
 simp only [] at HT HY hlt ⊢
 obtain ⟨y,hy⟩ : ∃ y : ByteArray,y = ⟨tx.toArray⟩:=⟨_,rfl⟩
 rw [← hy] at HT HY
 have hfd : ∀ w : World,(Instr.field 62 (.agg #[.int .i64 tk,.string y,.int .i64 tn,.int .i64 tp]) 0).run Tryz.prog w = .ok (.int .i64 tk) w:=fun _ => by kernel_rfl
 have hf2 : ∀ w : World,(Instr.field 62 (.agg #[.int .i64 tk,.string y,.int .i64 tn,.int .i64 tp]) 2).run Tryz.prog w = .ok (.int .i64 tn) w:=fun _ => by kernel_rfl
 have hfe : ∀ w : World,(Instr.field 62 (.agg #[.int .i64 0,.string ⟨#[]⟩,.int .i64 0,.int .i64 0]) 2).run Tryz.prog w = .ok (.int .i64 0) w:=fun _ => by kernel_rfl
 have HLT:=Lib.hid hlt
 clear hy h x hlt htk
 by_cases h2 : tk = 2
 ·have HTK:=Lib.hid h2
  have q1 : ((tk : Int) == 2) = true:=by simp; omega
  rw [if_pos h2]
  clear h2
  go_enter Tryz.func65,Tryz.ntmps65
  go_wp2_with fail
  refine HT.out.mono ?_
  rintro e w1 ⟨rfl,hb1⟩
  go_wp2_with fail
  refine (HY.out w1 (HW.out.below hb1) (HLT.out HTK.out)).mono ?_
  rintro e w3 ⟨rfl,h2,h3⟩
  go_wp2
  refine bodyPost_ret (v:=.int .i64 tn) (by simp [results,Tryz.results65,go_sem]) rfl ⟨rfl,h2,(Below.keep hb1).trans h3⟩
 ·have q1 : ((tk : Int) == 2) = false:=by simp; omega
  rw [if_neg h2]
  go_enter Tryz.func65,Tryz.ntmps65
  go_wp2_with fail
  refine HT.out.mono ?_
  rintro e w1 ⟨rfl,hb1⟩
  go_wp2_with fail
  refine (HN.out w1 (HW.out.below hb1)).mono ?_
  rintro e w3 ⟨rfl,h2,h3⟩
  go_wp2
  refine bodyPost_ret (v:=.int .i64 0) (by simp [results,Tryz.results65,go_sem]) rfl ⟨rfl,h2,(Below.keep hb1).trans h3⟩
end
theorem gis_any (s : ByteArray) (w : World) : Calls Tryz.prog 67 #[.string s] w fun e w' => ∃ b,e = .returned (.func (.func 124) #[] #[.pointer (some ⟨b,0,none⟩)]) ∧ StrR w' b s ∧ w.heap.size ≤ b ∧ Below w.heap.size w w':=by
 go_enter Tryz.func67,Tryz.ntmps67
 go_wp2
 exact bodyPost_ret (v:=.func (.func 124) #[] #[.pointer (some ⟨w.heap.size,0,none⟩)]) (by simp [results,Tryz.results67,go_sem]) rfl ⟨_,rfl,heap_alloc_new w _,Nat.le_refl _,(Below.refl _ _).alloc (Nat.le_refl _) _⟩
theorem gis1_any (s y : ByteArray) (b : Nat) (w : World) (h : StrR w b s) (r : Bool) (hr : (y.toList == s.toList) = r) : Calls Tryz.prog 124 #[.string y,.pointer (some ⟨b,0,none⟩)] w fun e w' => e = .returned (.bool r) ∧ Below w.heap.size w w':=by
 have hc:=h.cell
 have hl:=h.lt
 clear h
 cases r with
 | false =>
  go_enter Tryz.func124,Tryz.ntmps124
  go_wp2
  go_ret
  exact ⟨rfl,Below.refl _ _⟩
 | true =>
  go_enter Tryz.func124,Tryz.ntmps124
  go_wp2
  go_ret
  exact ⟨rfl,Below.refl _ _⟩
def wdsL : List (List UInt8):=[[],[102,111,114,97,108,108],[101,120,105,115,116,115],[97,108,119,97,121,115]]
def Wds (w : World) : Prop:=0 < w.heap.size ∧ ∀ k,k < 4 → w.cell? ⟨0,k,none⟩ = some (.string ⟨(wdsL.getD k []).toArray⟩)
theorem Wds.below {w w' : World} (h : Wds w) (hb : Below w.heap.size w w') : Wds w':=⟨Nat.lt_of_lt_of_le h.1 hb.size,fun k hk => (hb.cell (p:=⟨0,k,none⟩) h.1).trans (h.2 k hk)⟩
def kdW (s : List UInt8) : Nat:=if s = [102,111,114,97,108,108] then 1 else if s = [101,120,105,115,116,115] then 2 else if s = [97,108,119,97,121,115] then 3 else 0
theorem gkind_any (y : ByteArray) (w : World) (h : Wds w) : Calls Tryz.prog 75 #[.string y] w fun e w' => e = .returned (.int .i64 (kdW y.data.toList)) ∧ w = w':=by
 have hl:=h.1
 have hs : ∀ x : List UInt8,((⟨x.toArray⟩ : ByteArray).toList == y.toList) = decide (y.data.toList = x):=fun x => by
  rw [Lib.toList_data,Lib.toList_data]
  by_cases he : y.data.toList = x
  ·rw [decide_eq_true he,he]; simp
  ·rw [decide_eq_false he]
   simp only [beq_eq_false_iff_ne]
   exact fun h => he (by rw [← h])
 obtain ⟨Z0,z0⟩ : ∃ Z : ByteArray,Z = ⟨#[]⟩:=⟨_,rfl⟩
 obtain ⟨Z1,z1⟩ : ∃ Z : ByteArray,Z = ⟨#[102,111,114,97,108,108]⟩:=⟨_,rfl⟩
 obtain ⟨Z2,z2⟩ : ∃ Z : ByteArray,Z = ⟨#[101,120,105,115,116,115]⟩:=⟨_,rfl⟩
 obtain ⟨Z3,z3⟩ : ∃ Z : ByteArray,Z = ⟨#[97,108,119,97,121,115]⟩:=⟨_,rfl⟩
 have c0 : w.cell? ⟨0,0,none⟩ = some (.string Z0):=by rw [z0]; exact h.2 0 (by decide)
 have c1 : w.cell? ⟨0,1,none⟩ = some (.string Z1):=by rw [z1]; exact h.2 1 (by decide)
 have c2 : w.cell? ⟨0,2,none⟩ = some (.string Z2):=by rw [z2]; exact h.2 2 (by decide)
 have c3 : w.cell? ⟨0,3,none⟩ = some (.string Z3):=by rw [z3]; exact h.2 3 (by decide)
 have s0 : (Z0.toList == y.toList) = decide (y.data.toList = []):=by rw [z0]; exact hs []
 have s1 : (Z1.toList == y.toList) = decide (y.data.toList = [102,111,114,97,108,108]):=by rw [z1]; exact hs [102,111,114,97,108,108]
 have s2 : (Z2.toList == y.toList) = decide (y.data.toList = [101,120,105,115,116,115]):=by rw [z2]; exact hs [101,120,105,115,116,115]
 have s3 : (Z3.toList == y.toList) = decide (y.data.toList = [97,108,119,97,121,115]):=by rw [z3]; exact hs [97,108,119,97,121,115]
 obtain ⟨t,ht⟩ : ∃ t,t = y.data.toList:=⟨_,rfl⟩
 rw [← ht] at s0 s1 s2 s3 ⊢
 obtain ⟨R,hR⟩ : ∃ R,kdW t = R:=⟨_,rfl⟩
 rw [hR]
 have x0 : ∀ w : World,(Instr.index 94 (.agg #[.string Z0,.string Z1,.string Z2,.string Z3]) (.int .i64 0)).run Tryz.prog w = .ok (.string Z0) w:=fun _ => by kernel_rfl
 have x1 : ∀ w : World,(Instr.index 94 (.agg #[.string Z0,.string Z1,.string Z2,.string Z3]) (.int .i64 1)).run Tryz.prog w = .ok (.string Z1) w:=fun _ => by kernel_rfl
 have x2 : ∀ w : World,(Instr.index 94 (.agg #[.string Z0,.string Z1,.string Z2,.string Z3]) (.int .i64 2)).run Tryz.prog w = .ok (.string Z2) w:=fun _ => by kernel_rfl
 have x3 : ∀ w : World,(Instr.index 94 (.agg #[.string Z0,.string Z1,.string Z2,.string Z3]) (.int .i64 3)).run Tryz.prog w = .ok (.string Z3) w:=fun _ => by kernel_rfl
 unfold kdW at hR
 have HR:=Lib.hid hR
 clear hs h ht hR z0 z1 z2 z3
 go_enter Tryz.func75,Tryz.ntmps75
 go_wp2
 go_loopg [6] 4 (fun fuel i' wr => ∃ k : Nat,i' = .int .i64 k ∧ k ≤ 4 ∧ 4 - k ≤ fuel ∧ (∀ j,j < k → t ≠ wdsL.getD j []) ∧ w = wr)
 case atStart => exact ⟨0,rfl,by omega,by omega,fun j hj => absurd hj (Nat.not_lt_zero _),rfl⟩
 case round =>
  obtain ⟨k,rfl,hk,hf,hno,rfl⟩:=hrel
  have HNO:=Lib.hid hno
  clear hno
  by_cases hlt : k < 4
  ·have hk4 : k = 0 ∨ k = 1 ∨ k = 2 ∨ k = 3:=by omega
   clear hlt hk
   rcases hk4 with rfl | rfl | rfl | rfl
   ·by_cases he : t = []
    ·have HE:=Lib.hid he
     rw [decide_eq_true he] at s0
     clear he
     go_wp2
     go_ret
     exact ⟨ret_int (by rw [← HR.out,HE.out]; rfl),rfl⟩
    ·have HE:=Lib.hid he
     rw [decide_eq_false he] at s0
     clear he
     go_wp2
     go_roundg (gk - 1)
     case measure => omega
     case rel =>
      refine ⟨1,by go_num,by omega,by omega,fun j hj => ?_,rfl⟩
      rcases Nat.lt_or_ge j 0 with h | h
      ·exact HNO.out j h
      ·obtain rfl : j = 0:=by omega
       exact HE.out
   ·by_cases he : t = [102,111,114,97,108,108]
    ·have HE:=Lib.hid he
     rw [decide_eq_true he] at s1
     clear he
     go_wp2
     go_ret
     exact ⟨ret_int (by rw [← HR.out,HE.out]; rfl),rfl⟩
    ·have HE:=Lib.hid he
     rw [decide_eq_false he] at s1
     clear he
     go_wp2
     go_roundg (gk - 1)
     case measure => omega
     case rel =>
      refine ⟨2,by go_num,by omega,by omega,fun j hj => ?_,rfl⟩
      rcases Nat.lt_or_ge j 1 with h | h
      ·exact HNO.out j h
      ·obtain rfl : j = 1:=by omega
       exact HE.out
   ·by_cases he : t = [101,120,105,115,116,115]
    ·have HE:=Lib.hid he
     rw [decide_eq_true he] at s2
     clear he
     go_wp2
     go_ret
     exact ⟨ret_int (by rw [← HR.out,HE.out]; rfl),rfl⟩
    ·have HE:=Lib.hid he
     rw [decide_eq_false he] at s2
     clear he
     go_wp2
     go_roundg (gk - 1)
     case measure => omega
     case rel =>
      refine ⟨3,by go_num,by omega,by omega,fun j hj => ?_,rfl⟩
      rcases Nat.lt_or_ge j 2 with h | h
      ·exact HNO.out j h
      ·obtain rfl : j = 2:=by omega
       exact HE.out
   ·by_cases he : t = [97,108,119,97,121,115]
    ·have HE:=Lib.hid he
     rw [decide_eq_true he] at s3
     clear he
     go_wp2
     go_ret
     exact ⟨ret_int (by rw [← HR.out,HE.out]; rfl),rfl⟩
    ·have HE:=Lib.hid he
     rw [decide_eq_false he] at s3
     clear he
     go_wp2
     go_roundg (gk - 1)
     case measure => omega
     case rel =>
      refine ⟨4,by go_num,by omega,by omega,fun j hj => ?_,rfl⟩
      rcases Nat.lt_or_ge j 3 with h | h
      ·exact HNO.out j h
      ·obtain rfl : j = 3:=by omega
       exact HE.out
  ·obtain rfl : k = 4:=by omega
   go_wp2
   go_ret
   refine ⟨ret_int ?_,rfl⟩
   have h1:=HNO.out 1 (by decide)
   have h2:=HNO.out 2 (by decide)
   have h3:=HNO.out 3 (by decide)
   simp only [wdsL,List.getD_cons_zero,List.getD_cons_succ] at h1 h2 h3
   rw [← HR.out,if_neg h1,if_neg h2,if_neg h3]
   rfl
section
variable {w0 : World} {l : List Tok} {lv : Value} {r : Nat} {q : Pq}
def seqP {α : Type} (l : List Tok) (bg : List UInt8 → Bool) (stp : Nat → Pq → α → Pq × α) : Nat → Pq → α → Pq × α
 | 0,q,a => (q,a)
 | f + 1,q,a => if bg (tokO l q.n).2.1 = true then seqP l bg stp f (stp q.n ⟨q.n + 1,q.k,q.a⟩ a).1 (stp q.n ⟨q.n + 1,q.k,q.a⟩ a).2 else (q,a)
theorem gseq_any {α : Type} (x : Tg w0 l lv) (F G : Nat) (cf cg : Array Value) (hF : ∀ args w,(callFunc F args).run Tryz.prog w = .ok (.enter F args) w) (hG : ∀ args w,(callFunc G args).run Tryz.prog w = .ok (.enter G args) w)
  (bg : List UInt8 → Bool) (h0 : bg [] = false) (stp : Nat → Pq → α → Pq × α) (Inv Inw : World → Pq → α → Prop) (hI : ∀ w q a,Inv w q a → Sg w0 w r l lv q) (hI2 : ∀ w q a,Inw w q a → Sg w0 w r l lv q) (hBl : ∀ w w' q a,Inv w q a → Below w.heap.size w w' → Inv w' q a) (hBl2 : ∀ w w' q a,Inw w q a → Below w.heap.size w w' → Inw w' q a)
  (hN : ∀ w q a,Inv w q a → q.n < l.length → Inw (w.setCell ⟨r,1,none⟩ (.int .i64 ((q.n : Int) + 1))) ⟨q.n + 1,q.k,q.a⟩ a)
  (hB : ∀ w q a (y : ByteArray),Inv w q a → y.size ≤ 100000 → Calls Tryz.prog F (#[.string y] ++ cf) w fun e w' => e = .returned (.bool (bg y.data.toList)) ∧ Below w.heap.size w w')
  (hR : ∀ w q a i,Inw w q a → q.n = i + 1 → i < l.length → Calls Tryz.prog G (#[tokV l i] ++ cg) w fun e w' => e = .returned (.tuple #[]) ∧ Inv w' (stp i q a).1 (stp i q a).2)
  (hM : ∀ q a i,q.n = i + 1 → i < l.length → i < (stp i q a).1.n) (f : Nat) (w : World) (q : Pq) (a : α) (h : Inv w q a) (hf : l.length - q.n < f) :
  Calls Tryz.prog 66 #[.pointer (some ⟨r,0,none⟩),.func (.func F) #[] cf,.func (.func G) #[] cg] w fun e w' => e = .returned (.tuple #[]) ∧ Inv w' (seqP l bg stp f q a).1 (seqP l bg stp f q a).2:=by
 obtain ⟨ad,cap,rfl,_⟩:=id x.ht
 have HX:=Lib.hid x
 have HI:=Lib.hid hI
 have HI2:=Lib.hid hI2
 have HBL2:=Lib.hid hBl2
 have HBL:=Lib.hid hBl
 have HN:=Lib.hid hN
 have HB:=Lib.hid hB
 have HR:=Lib.hid hR
 have HM:=Lib.hid hM
 have HH:=Lib.hid h
 obtain ⟨R,hRR⟩ : ∃ R,seqP l bg stp f q a = R:=⟨_,rfl⟩
 rw [hRR]
 have HRR:=Lib.hid hRR
 clear hI hI2 hBl hBl2 hN hB hR hM h x hRR
 go_enter Tryz.func66,Tryz.ntmps66
 go_wp2_with fail
 go_loopg [] f (fun fuel wr => ∃ q' a',Inv wr q' a' ∧ seqP l bg stp fuel q' a' = R ∧ l.length - q'.n < fuel)
 case atStart => exact ⟨q,a,HH.out,HRR.out,hf⟩
 case round =>
  obtain ⟨q1,a1,i1,r1,f1⟩:=hrel
  have I1:=Lib.hid i1
  have R1:=Lib.hid r1
  have S1:=Lib.hid (HI.out _ _ _ i1)
  have HT:=Lib.hid (gtoken_any HX.out wr S1.out)
  have HV:=Lib.hid (tokV_eq l q1.n)
  rw [HV.out] at HT
  obtain ⟨⟨tk,tx,tn,tp⟩,htk⟩ : ∃ t,t = tokO l q1.n:=⟨_,rfl⟩
  have HTK:=Lib.hid htk
  rw [← htk] at HT HV
  simp only [] at HT HV
  have hsz:=(HX.out.ok q1.n).2.1
  rw [← htk] at hsz
  simp only [] at hsz
  obtain ⟨y,hy⟩ : ∃ y : ByteArray,y = ⟨tx.toArray⟩:=⟨_,rfl⟩
  have hyt : y.data.toList = tx:=by rw [hy]
  rw [← hy] at HT HV
  have hys : y.size ≤ 100000:=by rw [hy,Lib.size_eq]; simpa using hsz
  have HYT:=Lib.hid hyt
  have HYS:=Lib.hid hys
  have hfd : ∀ w : World,(Instr.field 62 (.agg #[.int .i64 tk,.string y,.int .i64 tn,.int .i64 tp]) 1).run Tryz.prog w = .ok (.string y) w:=fun _ => by kernel_rfl
  clear i1 r1 htk hsz hy hyt hys
  go_wp2_with fail
  refine HT.out.mono ?_
  rintro e w1 ⟨rfl,hb1⟩
  go_wp2_with fail
  refine (HB.out w1 q1 a1 y (HBL.out _ _ _ _ I1.out hb1) HYS.out).mono ?_
  rintro e w2 ⟨rfl,hb2⟩
  rw [HYT.out]
  have hb3:=hb1.trans (hb2.mono hb1.size)
  have I2:=Lib.hid (HBL.out _ _ _ _ I1.out hb3)
  clear hb1 hb2 HT
  obtain ⟨b,hb⟩ : ∃ b,bg tx = b:=⟨_,rfl⟩
  rw [hb]
  have HBG:=Lib.hid hb
  clear hb
  cases b with
  | false =>
   go_wp2
   refine bodyPost_end (v:=.tuple #[]) (by simp [results,Tryz.results66,go_sem]) rfl ⟨rfl,?_⟩
   have hr:=R1.out
   obtain ⟨g,rfl⟩ : ∃ g,gk = g + 1:=⟨gk - 1,by omega⟩
   rw [seqP,← HTK.out] at hr
   simp only [HBG.out,Bool.false_eq_true,if_false] at hr
   rw [← hr]
   exact I2.out
  | true =>
   have hlt : q1.n < l.length:=by
    by_cases hlt : q1.n < l.length
    ·exact hlt
    ·have e:=HTK.out
     rw [tokO_over l q1.n hlt] at e
     have e2 : tx = []:=congrArg (fun t : Tok => t.2.1) e
     have:=HBG.out
     rw [e2,h0] at this
     cases this
   have S2:=Lib.hid (HI.out _ _ _ I2.out)
   obtain ⟨⟨c0,c1,_,_⟩,e1,_⟩:=S2.out.prs.facts
   have hr:=S2.out.prs.lt
   have hn:=HX.out.hn
   obtain ⟨ad',cap',hlv,hc⟩:=HX.out.ht
   obtain ⟨g,hg,hgl,k0,k1,k2,k3⟩:=hc q1.n hlt
   injection hlv with j1 j2 j3
   rw [hg] at j1
   subst j1
   have hgr : g ≠ r:=by have:=S2.out.hr; omega
   have hcell : ∀ p u,(w2.setCell ⟨r,1,none⟩ u).cell? ⟨g,p,none⟩ = w0.cell? ⟨g,p,none⟩:=fun p u => (cell_other hgr).trans (S2.out.bel.cell (p:=⟨g,_,none⟩) hgl)
   have htl:=HTK.out
   rw [tokO_in l _ hlt] at htl
   rw [← htl] at k0 k1 k2 k3
   simp only [] at k0 k1 k2 k3
   have hyy : (⟨tx.toArray⟩ : ByteArray) = y:=(ba_eq HYT.out).symm
   rw [hyy] at k1
   have I3:=Lib.hid (HN.out _ _ _ I2.out hlt)
   obtain ⟨n,hnn⟩ : ∃ n,n = q1.n:=⟨_,rfl⟩
   rw [← hnn] at c1 k0 k1 k2 k3 hlt I3
   obtain ⟨L,hL⟩ : ∃ L,L = l.length:=⟨_,rfl⟩
   rw [← hL] at c0 hn hlt
   have HNN:=Lib.hid hnn
   have HLL:=Lib.hid hL
   have k0':=(hcell (n * 4) (.int .i64 ((n : Int) + 1))).trans k0
   have k1':=(hcell (n * 4 + 1) (.int .i64 ((n : Int) + 1))).trans k1
   have k2':=(hcell (n * 4 + 2) (.int .i64 ((n : Int) + 1))).trans k2
   have k3':=(hcell (n * 4 + 3) (.int .i64 ((n : Int) + 1))).trans k3
   have m4 : IntKind.i64.wrap (n : Int) = (n : Int):=IntWalk.i64_in _ (by omega)
   have hgw : g < w2.heap.size:=Nat.lt_of_lt_of_le hgl S2.out.bel.size
   have m1 : IntKind.i64.wrap ((n : Int) + 1) = (n : Int) + 1:=IntWalk.i64_in _ (by omega)
   have m2 : IntKind.i64.wrap ((n : Int) + 1 - 1) = (n : Int):=by rw [show ((n : Int) + 1 - 1) = (n : Int) by omega]; exact IntWalk.i64_in _ (by omega)
   have m3 : (n : Int) + 1 - 1 = (n : Int):=by omega
   have S3:=Lib.hid (HI2.out _ _ _ I3.out)
   obtain ⟨⟨d0,d1,_,_⟩,_⟩:=S3.out.prs.facts
   have hd1 : (((⟨n + 1,q1.k,q1.a⟩ : Pq).n : Nat) : Int) = (n : Int) + 1:=by simp
   rw [hd1] at d1
   rw [← HLL.out] at d0
   have hr3:=S3.out.prs.lt
   have hg3 : g < (w2.setCell ⟨r,1,none⟩ (.int .i64 ((n : Int) + 1))).heap.size:=by simpa [World.setCell] using hgw
   clear hc htl hyy hnn hL hg k0 k1 k2 k3 hcell j2 j3 hd1
   go_wp2
   generalize (w2.setCell ⟨r,1,none⟩ (.int .i64 ((n : Int) + 1))) = w3 at *
   go_still_tail 12,(by kernel_rfl)
   change wpList _ _ _ _ _ w3.drew
   have I4:=Lib.hid (HBL2.out _ _ _ _ I3.out (Below.refl _ _).drew)
   have HC:=HR.out _ _ _ n I4.out rfl (by have:=HLL.out; omega)
   rw [HNN.out,HV.out] at HC
   go_wp2_with fail
   refine HC.mono ?_
   rintro e w4 ⟨rfl,i4⟩
   have I5:=Lib.hid i4
   have hm:=HM.out ⟨q1.n + 1,q1.k,q1.a⟩ a1 q1.n rfl (by have:=HLL.out; have:=HNN.out; omega)
   have hr:=R1.out
   obtain ⟨g2,hg2⟩ : ∃ g2,gk = g2 + 1:=⟨gk - 1,by omega⟩
   rw [hg2,seqP,← HTK.out] at hr
   simp only [HBG.out,if_true] at hr
   have R2:=Lib.hid hr
   clear i4 hr HC
   go_wp2
   go_roundg (gk - 1)
   case measure => omega
   case rel =>
    have e : gk - 1 = g2:=by omega
    rw [e]
    refine ⟨_,_,I5.out,R2.out,?_⟩
    have:=HLL.out
    have:=HNN.out
    omega
end
end Go.Proofs.YtcghccjnadagcaaGreatDoor
