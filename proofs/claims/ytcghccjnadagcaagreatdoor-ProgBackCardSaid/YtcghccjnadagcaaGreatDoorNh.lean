/- Facts. -/
import Derived.Test.YtcghccjnadagcaaGreatDoorRa
set_option maxRecDepth 100000
set_option maxHeartbeats 32000000
namespace Go.Proofs.YtcghccjnadagcaaGreatDoor
open Go.RowKit
theorem dF_ge (ps : List (Nat × Ex)) (g : Nat) : g ≤ dF ps g:=by
 induction ps generalizing g with
 | nil => exact Nat.le_refl _
 | cons p r ih => exact Nat.le_trans (Nat.le_max_left _ _) (ih _)
def HtS (l : List Nd) (k : Nat) (ds : List Nat) (g D : Nat) : Prop:=
 ∃ ps : List (Nat × Ex),(∀ p ∈ ps,p.2.wf) ∧ l.drop k = ps.flatMap (fun p => p.2.flat) ∧ ds = (ps.map Prod.fst).reverse ∧ dF ps g = D
theorem HtS.over {l : List Nd} {k : Nat} {ds : List Nat} {g D : Nat} (h : HtS l k ds g D) (hk : ¬ k < l.length) : g = D:=by
 obtain ⟨ps,h1,h2,h3,h4⟩:=h
 rw [drop_over l k hk] at h2
 cases ps with
 | nil => exact h4
 | cons p r =>
  exfalso
  have:=congrArg List.length h2
  simp [Ex.flat_length] at this
  have:=p.2.size_pos'
  omega
theorem HtS.step {l : List Nd} {k : Nat} {ds : List Nat} {g D : Nat} (h : HtS l k ds g D) (hk : k < l.length) :
  ∃ (zs : List Nat) (d n : Nat),ds = zs ++ [d] ∧ ar l[k].op = (n : Int) ∧ n ≤ 2 ∧ d ≤ D ∧ HtS l (k + 1) (zs ++ List.replicate n (d + 1)) (max g d) D:=by
 obtain ⟨ps,h1,h2,h3,h4⟩:=h
 rw [List.drop_eq_getElem_cons hk] at h2
 cases ps with
 | nil => cases h2
 | cons p r =>
  obtain ⟨d,e⟩:=p
  have hw:=h1 (d,e) (by simp)
  have hr : ∀ p ∈ r,p.2.wf:=fun p hp => h1 p (List.mem_cons_of_mem _ hp)
  have hd : d ≤ D:=by
   rw [← h4]
   exact Nat.le_trans (Nat.le_trans (Nat.le_add_right _ _) (Nat.le_max_right _ _)) (dF_ge r _)
  refine ⟨(r.map Prod.fst).reverse,d,?_⟩
  cases e with
  | leaf x =>
   have hx : l[k] = x:=by have:=(List.cons.inj h2).1; exact this
   have ht : l.drop (k + 1) = r.flatMap (fun p => p.2.flat):=(List.cons.inj h2).2
   refine ⟨0,by rw [h3]; simp,by rw [hx]; exact hw,by omega,hd,r,hr,ht,by simp,?_⟩
   rw [← h4]; rfl
  | un x a =>
   have hx : l[k] = x:=by have:=(List.cons.inj h2).1; exact this
   have ht : l.drop (k + 1) = a.flat ++ r.flatMap (fun p => p.2.flat):=(List.cons.inj h2).2
   refine ⟨1,by rw [h3]; simp,by rw [hx]; exact hw.1,by omega,hd,(d + 1,a) :: r,?_,?_,by simp,?_⟩
   ·intro p hp
    rcases List.mem_cons.1 hp with rfl | hp
    ·exact hw.2
    ·exact hr p hp
   ·rw [ht]; rfl
   ·rw [← h4]
    show dF r (max (max g d) (d + 1 + a.depth)) = dF r (max g (d + (a.depth + 1)))
    congr 1; omega
  | bin x a b =>
   have hx : l[k] = x:=by have:=(List.cons.inj h2).1; exact this
   have ht : l.drop (k + 1) = (a.flat ++ b.flat) ++ r.flatMap (fun p => p.2.flat):=(List.cons.inj h2).2
   refine ⟨2,by rw [h3]; simp,by rw [hx]; exact hw.1,by omega,hd,(d + 1,a) :: (d + 1,b) :: r,?_,?_,?_,?_⟩
   ·intro p hp
    rcases List.mem_cons.1 hp with rfl | hp
    ·exact hw.2.1
    ·rcases List.mem_cons.1 hp with rfl | hp
     ·exact hw.2.2
     ·exact hr p hp
   ·rw [ht]; simp
   ·simp [List.replicate]
   ·rw [← h4]
    show dF r (max (max (max g d) (d + 1 + a.depth)) (d + 1 + b.depth)) = dF r (max g (d + (max a.depth b.depth + 1)))
    congr 1; omega
theorem HtS.length_le {l : List Nd} {k : Nat} {ds : List Nat} {g D : Nat} (h : HtS l k ds g D) : ds.length ≤ l.length:=by
 obtain ⟨ps,h1,h2,h3,h4⟩:=h
 have e : (l.drop k).length ≤ l.length:=by simp
 rw [h2] at e
 rw [h3,List.length_reverse,List.length_map]
 refine Nat.le_trans ?_ e
 clear h1 h2 h3 h4 e
 induction ps with
 | nil => simp
 | cons p r ih =>
  have:=p.2.size_pos'
  simp only [List.flatMap_cons,List.length_append,Ex.flat_length,List.length_cons]; omega
theorem own_shape' {w : World} {B n e size : Nat} {v : Value} {xs : List Value} (h : w.ownsRow B e size v n xs) : ∃ ad cap,v = .slice ad n cap ∧ True:=by
 rcases h.2 with ⟨rfl,rfl⟩ | ⟨g,cap',cur,rfl,hb,hg,_⟩
 ·exact ⟨none,0,rfl,trivial⟩
 ·exact ⟨_,cap',rfl,trivial⟩
theorem height_any (e : Ex) (v : Value) (w : World) (hv : Nds w v e.flat) (hwf : e.wf) (hn : e.flat.length ≤ 1000) (hd : e.depth ≤ 100000) :
  Calls Tryz.prog 143 #[v] w fun e' w' => e' = .returned (.int .i64 e.depth) ∧ Below w.heap.size w w':=by
 obtain ⟨l,hl⟩ : ∃ l,l = e.flat:=⟨_,rfl⟩
 obtain ⟨D,hD⟩ : ∃ D,D = e.depth:=⟨_,rfl⟩
 have HH : Hid (HtS l 0 [0] 0 D):=⟨[(0,e)],fun p hp => by rw [List.mem_singleton.1 hp]; exact hwf,by rw [hl]; simp,rfl,by rw [hD]; simp [dF]⟩
 rw [← hl] at hv hn
 rw [← hD] at hd ⊢
 obtain ⟨ad,cap,rfl,hc⟩:=hv.cases
 obtain ⟨n,hN⟩ : ∃ n,n = l.length:=⟨_,rfl⟩
 rw [← hN] at hn ⊢
 have HC:=Lib.hid hc
 have HN:=Lib.hid hN
 clear hc hN hv hl hD hwf
 have hO : Hid ((w.alloc (.cells #[.int .i64 0] 3)).ownsRow w.heap.size 3 1 (.slice (some ⟨w.heap.size,0,none⟩) 1 1) 1 (intsV [0])):=
  ⟨rfl,.inr ⟨w.heap.size,1,_,rfl,Nat.le_refl _,heap_alloc_new w _,Nat.le_refl _,by unfold maxLen; decide,rfl,rfl⟩⟩
 go_enter Tryz.func143,Tryz.ntmps143
 go_wp2_with fail
 go_loopg [3,4,12] n (fun fuel g' v' i' wr => ∃ (k g cap2 : Nat) (ad2 : Option Addr) (ds : List Nat),i' = .int .i64 k ∧ k ≤ n ∧ n - k ≤ fuel ∧ g' = .int .i64 g ∧ g ≤ D ∧ v' = .slice ad2 ds.length cap2 ∧ HtS l k ds g D ∧ wr.ownsRow w.heap.size 3 1 (.slice ad2 ds.length cap2) ds.length (intsV ds) ∧ Below w.heap.size w wr)
 case atStart => exact ⟨0,0,1,_,[0],rfl,Nat.zero_le _,Nat.le_refl _,rfl,Nat.zero_le _,rfl,HH.out,hO.out,(Below.refl _ _).alloc (Nat.le_refl _) _⟩
 case round =>
  obtain ⟨k,g,cap2,ad2,ds,rfl,hk,hf,rfl,hg,rfl,hh,ho,hb⟩:=hrel
  have HB:=Lib.hid hb
  have hww:=hb.size
  have hds:=hh.length_le
  by_cases hlt : k < n
  ·have hk' : k < l.length:=by have:=HN.out; omega
   obtain ⟨zs,d,m,rfl,ham,hm2,hdD,hstep⟩:=hh.step hk'
   obtain ⟨b,off,rfl,hbl,x0,x1,x2,x3,x4⟩:=HC.out k hk'
   obtain ⟨⟨xo,xn,xm,xi,xp⟩,hx⟩ : ∃ x,x = l[k]:=⟨_,rfl⟩
   rw [← hx] at x0 x1 x2 x3 x4 ham
   simp only [] at x0 x1 x2 x3 x4 ham
   clear hx
   have c0 : wr.cell? ⟨b,off + k * 5,none⟩ = some (.int .i64 xo):=(HB.out.cell (p:=⟨b,_,none⟩) hbl).trans x0
   have c1 : wr.cell? ⟨b,off + k * 5 + 1,none⟩ = some (.int .i64 xn):=(HB.out.cell (p:=⟨b,_,none⟩) hbl).trans x1
   have c2 : wr.cell? ⟨b,off + k * 5 + 2,none⟩ = some (.string xm):=(HB.out.cell (p:=⟨b,_,none⟩) hbl).trans x2
   have c3 : wr.cell? ⟨b,off + k * 5 + 3,none⟩ = some (.string xi):=(HB.out.cell (p:=⟨b,_,none⟩) hbl).trans x3
   have c4 : wr.cell? ⟨b,off + k * 5 + 4,none⟩ = some (.int .i64 xp):=(HB.out.cell (p:=⟨b,_,none⟩) hbl).trans x4
   have hz : (zs ++ [d]).length = zs.length + 1:=by simp
   have hiv : intsV (zs ++ [d]) = intsV zs ++ [.int .i64 d]:=by simp [intsV]
   rw [hz,hiv] at ho
   rw [hz] at hds ⊢
   obtain ⟨q,hq⟩ : ∃ q,q = zs.length:=⟨_,rfl⟩
   rw [← hq] at ho hds ⊢
   have HQ:=Lib.hid hq
   have hq1 : q ≤ 1001:=by have:=HN.out; omega
   rcases ho.2 with ⟨h0,_⟩ | ⟨gb,cap3,cur,hvv,hgb,hhg,hcc,_,_,_⟩
   ·simp at h0
   ·simp only [Value.slice.injEq] at hvv
    obtain ⟨rfl,_,rfl⟩:=hvv
    have hlast : wr.cell? ⟨gb,q,none⟩ = some (.int .i64 d):=by
     have:=ho.cells (g:=gb) rfl q (.int .i64 d) (by simp [intsV,HQ.out])
     rwa [addr_add'] at this
    have HPOP:=Lib.hid (own_pop ho)
    have HST:=Lib.hid hstep
    have hgl : gb < wr.heap.size:=(Array.getElem?_eq_some_iff.1 hhg).1
    have HAR : ∀ w,Calls Tryz.prog 183 #[.int .i64 xo] w fun e w' => e = .returned (.int .i64 m) ∧ w = w':=fun w => ham ▸ operands_any xo w
    clear x0 x1 x2 x3 x4 ham hz hiv hq ho hhg hh hstep hb
    have e1 : IntKind.i64.wrap (((q + 1 : Nat) : Int) - 1) = (q : Int):=by rw [IntWalk.i64_in _ (by omega)]; omega
    have e2 : (((q + 1 : Nat)) : Int) - 1 = (q : Int):=by omega
    go_wp2_with (go_at_call 183; refine (HAR _).mono ?_; rintro e w2 ⟨rfl,rfl⟩)
    all_goals
     obtain ⟨go,rfl⟩ : ∃ go : Nat,go = gk:=⟨_,rfl⟩
     go_loopg [4,32] m (fun fuel v'' c' w2 => ∃ (c cap3 : Nat) (ad3 : Option Addr),c' = .int .i64 c ∧ c ≤ m ∧ m - c ≤ fuel ∧ v'' = .slice ad3 (q + c) cap3 ∧ w2.ownsRow w.heap.size 3 1 (.slice ad3 (q + c) cap3) (q + c) (intsV zs ++ List.replicate c (.int .i64 ((d : Int) + 1))) ∧ Below w.heap.size w w2)
     case atStart => exact ⟨0,cap2,_,rfl,Nat.zero_le _,Nat.le_refl _,rfl,by rw [List.replicate_zero,List.append_nil]; exact own_below HPOP.out ((Below.refl _ _).alloc (Nat.le_refl _) _),HB.out.alloc hww _⟩
     case round =>
      obtain ⟨c,cap3,ad3,rfl,hc,hf2,rfl,ho2,hb2⟩:=hrel
      have HB2:=Lib.hid hb2
      have hw2:=hb2.size
      have HO2:=Lib.hid ho2
      clear hb2 ho2
      by_cases hcm : c < m
      ·go_wp2_with (at_builtin; refine append_int rfl (.tmp 34) (.tmp 37) rfl w.heap.size (q + c) _ _ ((d : Int) + 1) rfl _ rfl (own_below HO2.out ((Below.refl _ _).alloc (Nat.le_refl _) _)) ?cc (by omega) (by simp; omega) ?_)
       case cc => simp
       intro v3 w3 hown3 hb3
       obtain ⟨ad4,cap4,rfl,_⟩:=own_shape' hown3
       have HB3:=Lib.hid ((HB2.out.alloc hw2 (.cells #[.int .i64 ((d : Int) + 1)] 3)).trans hb3)
       have HO3:=Lib.hid hown3
       clear hown3 hb3
       go_wp2_with fail
       go_roundg (gk - 1)
       case measure => omega
       case rel =>
        refine ⟨c + 1,cap4,ad4,by go_num,by omega,by omega,rfl,?_,HB3.out⟩
        have h:=HO3.out
        rw [List.replicate_succ']
        first | exact h | (rw [List.append_assoc] at h; exact h)
      ·obtain rfl : c = m:=by omega
       have hrep : intsV zs ++ List.replicate c (.int .i64 ((d : Int) + 1)) = intsV (zs ++ List.replicate c (d + 1)):=by simp [intsV]
       have HO3:=HO2.out
       rw [hrep] at HO3
       have hlen : q + c = (zs ++ List.replicate c (d + 1)).length:=by rw [HQ.out]; simp
       rw [hlen] at HO3
       have HO4:=Lib.hid HO3
       have HLEN:=Lib.hid hlen
       clear HO3 hlen hrep
       go_wp2
       go_roundg (go - 1)
       case measure => omega
       case rel =>
        refine ⟨k + 1,max g d,cap3,ad3,zs ++ List.replicate c (d + 1),by go_num,by omega,by omega,?_,by omega,by rw [HLEN.out],HST.out,HO4.out,HB2.out⟩
        congr 1; omega
  ·have:=hh.over (by have:=HN.out; omega)
   subst this
   go_wp2
   go_ret
   exact ⟨rfl,HB.out⟩
def rightP (l : List Nd) : Prop:=∃ e : Ex,e.wf ∧ e.flat = l ∧ l.length ≤ 200 ∧ l.all okN = true ∧ e.depth ≤ 30
def NmOK (l : List Nd) : Prop:=∀ i,(h : i < l.length) → l[i].nm.size ≤ 100000 ∧ l[i].inn.size ≤ 100000
def IdxAns (b : Bool) (w : World) (e : Ending) (w' : World) : Prop:=∃ z : Int,e = .returned (.int .i64 z) ∧ decide (0 ≤ z) = b ∧ Below w.heap.size w w'
theorem idx_any (l : List Nd) (v : Value) (w : World) (hv : Nds w v l) (hn : l.length ≤ 100000) (hz : NmOK l) :
  Calls Tryz.prog 144 #[v,.func (.func 142) #[] #[]] w (IdxAns (!l.all okN) w):=by
 obtain ⟨B,hB⟩ : ∃ B,(l.drop 0).all okN = B:=⟨_,rfl⟩
 rw [show l.all okN = B from hB]
 have HB0:=Lib.hid hB
 obtain ⟨ad,cap,rfl,hc⟩:=hv.cases
 obtain ⟨n,hN⟩ : ∃ n,n = l.length:=⟨_,rfl⟩
 rw [← hN] at hn ⊢
 have HC:=Lib.hid hc
 have HN:=Lib.hid hN
 have HZ:=Lib.hid hz
 clear hc hN hv hz hB
 go_enter Tryz.func144,Tryz.ntmps144
 go_wp2_with fail
 go_loopg [8] n (fun fuel i' wr => ∃ k : Nat,i' = .int .i64 k ∧ k ≤ n ∧ n - k ≤ fuel ∧ (l.drop k).all okN = B ∧ Below w.heap.size w wr)
 case atStart => exact ⟨0,rfl,Nat.zero_le _,Nat.le_refl _,HB0.out,Below.refl _ _⟩
 case round =>
  obtain ⟨k,rfl,hk,hf,ha,hb⟩:=hrel
  have HA:=Lib.hid ha
  have HB:=Lib.hid hb
  have hww:=hb.size
  clear ha hb
  by_cases hlt : k < n
  ·have hk' : k < l.length:=by have:=HN.out; omega
   have HE:=Lib.hid (List.all_cons (f:=okN) (a:=l[k]) (l:=l.drop (k + 1)))
   have HD:=Lib.hid (List.drop_eq_getElem_cons hk')
   obtain ⟨b,off,rfl,hbl,x0,x1,x2,x3,x4⟩:=HC.out k hk'
   have hnm:=HZ.out k hk'
   obtain ⟨⟨xo,xn,xm,xi,xp⟩,hx⟩ : ∃ x,x = l[k]:=⟨_,rfl⟩
   have HX:=Lib.hid hx
   rw [← hx] at x0 x1 x2 x3 x4 hnm
   simp only [] at x0 x1 x2 x3 x4 hnm
   clear hx
   have c0 : wr.cell? ⟨b,off + k * 5,none⟩ = some (.int .i64 xo):=(HB.out.cell (p:=⟨b,_,none⟩) hbl).trans x0
   have c1 : wr.cell? ⟨b,off + k * 5 + 1,none⟩ = some (.int .i64 xn):=(HB.out.cell (p:=⟨b,_,none⟩) hbl).trans x1
   have c2 : wr.cell? ⟨b,off + k * 5 + 2,none⟩ = some (.string xm):=(HB.out.cell (p:=⟨b,_,none⟩) hbl).trans x2
   have c3 : wr.cell? ⟨b,off + k * 5 + 3,none⟩ = some (.string xi):=(HB.out.cell (p:=⟨b,_,none⟩) hbl).trans x3
   have c4 : wr.cell? ⟨b,off + k * 5 + 4,none⟩ = some (.int .i64 xp):=(HB.out.cell (p:=⟨b,_,none⟩) hbl).trans x4
   obtain ⟨q,hq⟩ : ∃ q,okN ⟨xo,xn,xm,xi,xp⟩ = q:=⟨_,rfl⟩
   have HFL : ∀ w,Calls Tryz.prog 142 #[.agg #[.int .i64 xo,.int .i64 xn,.string xm,.string xi,.int .i64 xp]] w fun e w' => e = .returned (.bool (!q)) ∧ Below w.heap.size w w':=fun w => by
    rw [← hq]; exact flawed_any ⟨xo,xn,xm,xi,xp⟩ w hnm
   have HQ:=Lib.hid hq
   clear x0 x1 x2 x3 x4 hq
   go_wp2_with fail
   refine (HFL _).mono ?_
   rintro e w2 ⟨rfl,hb2⟩
   have HB2:=Lib.hid (HB.out.trans (hb2.mono hww))
   clear hb2 c0 c1 c2 c3 c4
   cases q with
   | true =>
    go_wp2
    go_roundg (gk - 1)
    case measure => omega
    case rel =>
     refine ⟨k + 1,by go_num,by omega,by omega,?_,HB2.out⟩
     have:=HA.out
     rw [HD.out,HE.out,← HX.out,HQ.out] at this
     simpa using this
   | false =>
    go_wp2
    go_ret
    refine ⟨k,rfl,?_,HB2.out⟩
    have:=HA.out
    rw [HD.out,HE.out,← HX.out,HQ.out] at this
    rw [← this]; simp
  ·have HE:=Lib.hid (drop_over l k (by have:=HN.out; omega))
   go_wp2
   go_ret
   refine ⟨-1,rfl,?_,HB.out⟩
   have:=HA.out
   rw [HE.out] at this
   rw [← this]; rfl
theorem contains_any (l : List Nd) (v : Value) (w : World) (hv : Nds w v l) (hn : l.length ≤ 100000) (hz : NmOK l) (b : Bool) (hb : l.all okN = b) :
  Calls Tryz.prog 98 #[v,.func (.func 142) #[] #[]] w fun e w' => e = .returned (.bool (!b)) ∧ Below w.heap.size w w':=by
 have H:=idx_any l v w hv hn hz
 rw [hb] at H
 clear hv hn hz hb
 go_enter Tryz.func98,Tryz.ntmps98
 go_wp2_with fail
 refine H.mono ?_
 rintro e w2 ⟨z,rfl,hz,hb2⟩
 have HZ:=Lib.hid hz
 clear hz
 go_wp2
 go_ret
 exact ⟨ret_bool HZ.out,hb2⟩
open Classical in
noncomputable def rightB (l : List Nd) : Bool:=decide (rightP l)
open Classical in
theorem right_no (l : List Nd) (h : ¬ rightP l) : rightB l = false:=by unfold rightB; exact decide_eq_false h
open Classical in
theorem right_yes (l : List Nd) (h : rightP l) : rightB l = true:=by unfold rightB; exact decide_eq_true h
theorem right_cases (l : List Nd) : (¬ rightP l ∧ (200 < l.length ∨ endL l 0 ≠ l.length)) ∨ ∃ e : Ex,e.wf ∧ e.flat = l ∧ l.length ≤ 200 ∧ endL l 0 = l.length ∧ rightB l = (l.all okN && decide (e.depth ≤ 30)):=by
 by_cases h : 200 < l.length
 ·exact .inl ⟨fun ⟨e,_,_,h3,_⟩ => by omega,.inl h⟩
 ·by_cases h2 : endL l 0 = l.length
  ·right
   obtain ⟨e,h3,h4⟩:=tree_of_end l h2 (fun h0 => by rw [h0] at h2; simp [endL,endF,endI] at h2)
   refine ⟨e,h3,h4,by omega,h2,?_⟩
   by_cases h5 : l.all okN = true ∧ e.depth ≤ 30
   ·rw [right_yes l ⟨e,h3,h4,by omega,h5.1,h5.2⟩,h5.1,decide_eq_true h5.2]; rfl
   ·rw [right_no l]
    ·cases h6 : l.all okN with
     | false => rfl
     | true => rw [decide_eq_false (fun h7 => h5 ⟨h6,h7⟩)]; rfl
    ·rintro ⟨e',g1,g2,g3,g4,g5⟩
     refine h5 ⟨g4,?_⟩
     have:=Ex.flat_inj e e' h3 g1 (h4.trans g2.symm)
     rw [this]; exact g5
  ·exact .inl ⟨fun ⟨e,g1,g2,_⟩ => h2 (by rw [← g2]; exact end_of_tree e g1),.inr h2⟩
theorem right_any (l : List Nd) (v : Value) (w : World) (hv : Nds w v l) (hn : l.length ≤ 100000) (hz : NmOK l) (b : Bool) (hb : rightB l = b) :
  Calls Tryz.prog 97 #[v] w fun e w' => e = .returned (.bool b) ∧ Below w.heap.size w w':=by
 have HEND:=fun w hv => end_any l v 0 w hv hn
 obtain ⟨ad,cap,hv0,_⟩:=hv.cases
 rcases right_cases l with ⟨h1,h2⟩ | ⟨e,h1,h2,h3,h4,h5⟩
 ·rw [right_no l h1] at hb
  subst hb
  by_cases hl : 200 < l.length
  ·subst hv0
   have HL:=Lib.hid hl
   obtain ⟨n,hN⟩ : ∃ n,n = l.length:=⟨_,rfl⟩
   rw [← hN] at hl hn ⊢
   clear h2 h1 hN hv HEND hz HL
   go_enter Tryz.func97,Tryz.ntmps97
   go_wp2_with fail
   go_ret
   exact ⟨rfl,Below.refl _ _⟩
  ·have h2' : endL l 0 ≠ l.length:=by rcases h2 with h | h; exact absurd h hl; exact h
   have HE:=HEND w hv
   obtain ⟨z,hz2⟩ : ∃ z,z = endL l 0:=⟨_,rfl⟩
   rw [← hz2] at HE h2'
   subst hv0
   obtain ⟨n,hN⟩ : ∃ n,n = l.length:=⟨_,rfl⟩
   rw [← hN] at hl hn h2' HE ⊢
   have q : (z != (n : Int)) = true:=by simpa using h2'
   clear h2 h1 hN hv HEND hz hz2 h2'
   go_enter Tryz.func97,Tryz.ntmps97
   go_wp2_with fail
   refine HE.mono ?_
   rintro e w1 ⟨rfl,rfl⟩
   go_wp2
   go_ret
   exact ⟨rfl,Below.refl _ _⟩
 ·rw [h5] at hb
  have HE:=HEND w hv
  rw [h4] at HE
  obtain ⟨a,ha⟩ : ∃ a,l.all okN = a:=⟨_,rfl⟩
  have HCO:=Lib.hid (contains_any l v w hv hn hz a ha)
  rw [ha] at hb
  have HHE : Hid (∀ w',Below w.heap.size w w' → Calls Tryz.prog 143 #[v] w' fun e' w'' => e' = .returned (.int .i64 e.depth) ∧ Below w'.heap.size w' w''):=fun w' h => height_any e v w' (by rw [h2]; exact hv.below h) h1 (by rw [h2]; omega) (by have:=e.depth_le; rw [← e.flat_length,h2] at this; omega)
  obtain ⟨dp,hdp⟩ : ∃ dp,dp = e.depth:=⟨_,rfl⟩
  rw [← hdp] at HHE hb
  have hdl : dp ≤ 200:=by have:=e.depth_le; rw [← e.flat_length,h2] at this; omega
  subst hv0
  obtain ⟨n,hN⟩ : ∃ n,n = l.length:=⟨_,rfl⟩
  rw [← hN] at h3 hn HE HCO HHE ⊢
  have q : (((n : Int)) != (n : Int)) = false:=by simp
  have HBB:=Lib.hid hb
  clear h5 h4 HEND hz hv hN hdp ha hb h2 h1
  go_enter Tryz.func97,Tryz.ntmps97
  go_wp2_with fail
  refine HE.mono ?_
  rintro e w1 ⟨rfl,rfl⟩
  go_wp2_with fail
  refine HCO.out.mono ?_
  rintro e w1 ⟨rfl,hb1⟩
  cases a with
  | false =>
   have : b = false:=by rw [← HBB.out]; rfl
   subst this
   go_wp2
   go_ret
   exact ⟨rfl,hb1⟩
  | true =>
   go_wp2_with fail
   refine (HHE.out _ hb1).mono ?_
   rintro e w2 ⟨rfl,hb2⟩
   go_wp2
   go_ret
   exact ⟨ret_bool (by rw [← HBB.out,Bool.eq_iff_iff]; simp; try omega),hb1.trans (hb2.mono hb1.size)⟩
def DepthIs (l : List Nd) (z : Int) : Prop:=(∃ e : Ex,e.wf ∧ e.flat = l ∧ rightP l ∧ z = e.depth) ∨ (¬ rightP l ∧ z = -1)
end Go.Proofs.YtcghccjnadagcaaGreatDoor
