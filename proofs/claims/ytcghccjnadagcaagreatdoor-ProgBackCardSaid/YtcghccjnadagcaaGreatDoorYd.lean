/- Facts. -/
import Derived.Test.YtcghccjnadagcaaGreatDoorYa
import Derived.Test.YtcghccjnadagcaaGreatDoorVe
import Derived.Test.YtcghccjnadagcaaGreatDoorVg
set_option maxRecDepth 100000
set_option maxHeartbeats 32000000
namespace Go.Proofs.YtcghccjnadagcaaGreatDoor
open Go.RowKit
structure Ty (w0 : World) (l : List Tok) (lv : Value) : Prop where
 x : Tx w0 l lv
 sg : Sgn w0
noncomputable def exP (l : List Tok) (q : Pq) : List Nd × Pq:=match parseR l q.n with
 | .err k a => ([],failP l.length q k a)
 | .ok y j => if regsO y.flat = true then (y.flat,⟨j,q.k,q.a⟩) else (y.flat,refP l q)
theorem exP_ok {l : List Tok} {q : Pq} (h : q.ok l.length) (hp : ∀ i,(tokO l i).2.2.2 + (tokO l i).2.1.length ≤ 200000) : (exP l q).2.ok l.length:=by
 have ho:=parse_out' l q.n h.1 hp
 unfold exP
 cases hr : parseR l q.n with
 | err k a =>
  rw [hr] at ho
  exact failP_ok ho
 | ok y j =>
  rw [hr] at ho
  simp only []
  by_cases hf : regsO y.flat = true
  ·rw [if_pos hf]
   exact ⟨ho.2.2.2.2,h.2.1,fun hk => by have:=h.2.2 hk; have:=ho.2.2.2.1; have:=ho.2.2.2.2; simp only []; omega⟩
  ·rw [if_neg hf]; exact refP_ok l q
theorem tokS_new {w : World} {v : Value} {l : List Tok} (h : TokC w v l) : TokS w w.heap.size v l:=by
 obtain ⟨ad,cap,hv,hc⟩:=h
 refine ⟨ad,cap,hv,fun i hi => ?_⟩
 obtain ⟨g,hg,h1,k0,k1,k2,k3⟩:=hc i hi
 exact ⟨g,hg,h1,by omega,k0,k1,k2,k3⟩
theorem nds_own {w : World} {B : Nat} {v : Value} {l : List Nd} (h : w.ownsRow B 46 5 v l.length (rowN l)) : NdsC w v l:=ndsC_of_own h
def ToE (w0 : World) (r : Nat) (l : List Tok) (lv : Value) (q : Pq) (o : Nat) (dv mv : Value) (w : World) (xs : List Nd) (e : Ending) (w' : World) : Prop:=
 ∃ v,e = .returned v ∧ w'.ownsRow w.heap.size 46 5 v xs.length (rowN xs) ∧ Sta w0 w' r l lv q o dv mv ∧ Keep r w w'
theorem own_keep2 {w w' : World} {B n r : Nat} {v lv dv mv : Value} {xs : List Value} {a b c d : Int} (h : w.ownsRow B 46 5 v n xs) (hp : Prs w r lv a b dv mv c d) (hk : Keep r w w') : w'.ownsRow B 46 5 v n xs:=by
 obtain ⟨h1,h2⟩:=h
 refine ⟨h1,?_⟩
 rcases h2 with h2 | ⟨g,cap,cur,hv,hg,hh,z⟩
 ·exact .inl h2
 ·refine .inr ⟨g,cap,cur,hv,hg,?_,z⟩
  rw [hk.block g (Array.getElem?_eq_some_iff.1 hh).1 ?_]; exact hh
  rintro rfl
  unfold Prs at hp
  rw [hp] at hh
  cases hh
theorem sexpr_of {w0 : World} {l : List Tok} {lv : Value} {r : Nat} {q : Pq} {o : Nat} {dv mv : Value} (x : Ty w0 l lv) (w : World) (v : Value) (hg0 : Calls Tryz.prog 233 #[.pointer (some ⟨r,0,none⟩),v] w (ToQ w0 r l lv q o dv mv w (.tuple #[]))) :
  Calls Tryz.prog 214 #[.pointer (some ⟨r,0,none⟩),v] w (ToE w0 r l lv (exP l q).2 o dv mv w (exP l q).1):=by
 have HG:=Lib.hid hg0
 have HX:=Lib.hid x
 have hplc : ∀ i,(tokO l i).2.2.2 + (tokO l i).2.1.length ≤ 200000:=fun i => by have:=x.x.ok i; omega
 clear hg0 x
 have HP:=Lib.hid (fun (w' : World) (h' : Sta w0 w' r l lv q o dv mv) => (parse_any l lv q.n w' (tokS_new (HX.out.x.ht.below h'.bel)) (HX.out.sg.below h'.bel) HX.out.x.hn HX.out.x.ok h'.ok.1))
 have ho:=fun (h : q.n ≤ l.length) => parse_out' l q.n h hplc
 have HOK:=Lib.hid (fun (h : q.ok l.length) => exP_ok h hplc)
 obtain ⟨E,hE⟩ : ∃ E,E = exP l q:=⟨_,rfl⟩
 rw [← hE] at HOK ⊢
 unfold exP at hE
 obtain ⟨R,hR⟩ : ∃ R,R = parseR l q.n:=⟨_,rfl⟩
 rw [← hR] at HP ho hE
 have HO:=Lib.hid ho
 have HTC:=Lib.hid HX.out.x.ht
 obtain ⟨ad,cap,rfl,_⟩:=id HX.out.x.ht
 clear hplc hR ho
 cases R with
 | err k a =>
  simp only [] at hE HO
  have HKZ : Hid (∀ _ : q.n ≤ l.length,k ≠ 0):=fun h => HO.out h
  have HE:=Lib.hid hE
  clear HO HOK hE
  go_enter Tryz.func214,Tryz.ntmps214
  go_wp2_with fail
  refine HG.out.mono ?_
  rintro e w1 ⟨rfl,h1,h2⟩
  have hk0:=HKZ.out h1.ok.1
  have q1 : ((k : Int) != 0) = true:=by simp; omega
  have q2 : ((k : Int) == 0) = false:=by simp; omega
  obtain ⟨⟨c0,c1,_,_,_,_,_⟩,f1,_⟩:=h1.prs.facts
  have hr:=h1.prs.lt
  have HPP : Hid (∀ w',Below w1.heap.size w1 w' → Calls Tryz.prog 171 #[.slice ad l.length cap,.int .i64 q.n] w' fun e w'' => e = .returned (.tuple #[.slice none 0 0,.int .i64 0,.int .i64 k,.int .i64 a]) ∧ Below w'.heap.size w' w''):=fun w' hb => HP.out w' (h1.below hb)
  have H1:=Lib.hid h1
  have H2:=Lib.hid h2
  clear h1 h2
  obtain ⟨L,hL⟩ : ∃ L,L = l.length:=⟨_,rfl⟩
  obtain ⟨n,hn⟩ : ∃ n,n = q.n:=⟨_,rfl⟩
  rw [← hL] at c0 HPP H1 HX HTC HP ⊢
  rw [← hn] at c1 HPP
  have HL:=Lib.hid hL
  have HNN:=Lib.hid hn
  clear hL hn HP
  go_wp2
  go_region_held3 (fun w' => w'.cell? ⟨r,0,none⟩ = some (.slice ad L cap) ∧ w'.cell? ⟨r,1,none⟩ = some (.int .i64 n) ∧ Below w1.heap.size w1 w')
   (first | exact ⟨c0,c1,Below.refl _ _⟩ | exact ⟨c0,c1,(Below.refl _ _).drew⟩ | assumption | (go_split_ands; exact ⟨(hb3.cell (p:=⟨r,0,none⟩) hr).trans c0,(hb3.cell (p:=⟨r,1,none⟩) hr).trans c1,hb3⟩))
   ((go_split_ands; with_reducible refine Calls.mono (HPP.out _ (by assumption)) ?_; rintro e w2 ⟨rfl,hb2⟩; have hb3 : Below w1.heap.size w1 w2:=Below.trans (by assumption) (hb2.mono (Below.size (by assumption)))))
  go_split_ands
  rename_i hbz
  have HBZ:=Lib.hid hbz
  clear hbz
  go_wp2_with fail
  refine (sfail_q HX.out.x _ (H1.out.below HBZ.out) k a hk0).mono ?_
  rintro e w4 ⟨rfl,h4,h5⟩
  go_wp2
  go_ret
  rw [HL.out] at h4
  rw [HE.out]
  exact ⟨_,rfl,World.ownsRow_nil _ _ _ _,h4,(H2.out.below HBZ.out).trans h5⟩
 | ok y j =>
  simp only [] at hE HO
  have HE:=Lib.hid hE
  clear hE
  obtain ⟨b,hb⟩ : ∃ b,regsO y.flat = b:=⟨_,rfl⟩
  have HB:=Lib.hid hb
  clear hb
  go_enter Tryz.func214,Tryz.ntmps214
  go_wp2_with fail
  refine HG.out.mono ?_
  rintro e w1 ⟨rfl,h1,h2⟩
  have ho:=HO.out h1.ok.1
  have hok:=HOK.out h1.ok
  have HO1:=Lib.hid ho
  have HOK1:=Lib.hid hok
  have hyl : y.flat.length ≤ 100000:=by have:=ho.2.2.1; rw [y.flat_length]; omega
  have HYL:=Lib.hid hyl
  clear HO HOK ho hok hyl
  obtain ⟨⟨c0,c1,_,_,_,_,_⟩,f1,_⟩:=h1.prs.facts
  have hr:=h1.prs.lt
  have HPP : Hid (∀ w',Below w1.heap.size w1 w' → Calls Tryz.prog 171 #[.slice ad l.length cap,.int .i64 q.n] w' fun e w'' => ∃ v,e = .returned (.tuple #[v,.int .i64 j,.int .i64 0,.int .i64 0]) ∧ w''.ownsRow w'.heap.size 46 5 v y.flat.length (rowN y.flat) ∧ Below w'.heap.size w' w''):=fun w' hb => HP.out w' (h1.below hb)
  have H1:=Lib.hid h1
  have H2:=Lib.hid h2
  clear h1 h2
  obtain ⟨L,hL⟩ : ∃ L,L = l.length:=⟨_,rfl⟩
  obtain ⟨n,hn⟩ : ∃ n,n = q.n:=⟨_,rfl⟩
  rw [← hL] at c0 HPP H1 HX HTC HP ⊢
  rw [← hn] at c1 HPP
  have HL:=Lib.hid hL
  have HNN:=Lib.hid hn
  clear hL hn HP
  go_wp2
  go_region_held3 (fun w' => w'.cell? ⟨r,0,none⟩ = some (.slice ad L cap) ∧ w'.cell? ⟨r,1,none⟩ = some (.int .i64 n) ∧ Below w1.heap.size w1 w')
   (first | exact ⟨c0,c1,Below.refl _ _⟩ | exact ⟨c0,c1,(Below.refl _ _).drew⟩ | assumption | (go_split_ands; exact ⟨(hb3.cell (p:=⟨r,0,none⟩) hr).trans c0,(hb3.cell (p:=⟨r,1,none⟩) hr).trans c1,hb3⟩))
   ((go_split_ands; with_reducible refine Calls.mono (HPP.out _ (by assumption)) ?_; rintro e w2 ⟨yv,rfl,hyo,hb2⟩; have HYO:=Lib.hid hyo; clear hyo; have hb3 : Below w1.heap.size w1 w2:=Below.trans (by assumption) (hb2.mono (Below.size (by assumption)))))
  go_split_ands
  have HB2:=Lib.hid hb2
  have HB3:=Lib.hid hb3
  have HND:=Lib.hid (fun (w' : World) (hb : Below w2.heap.size w2 w') => (nds_own (own_below HYO.out hb)).nds)
  clear hb2 hb3
  cases b with
  | true =>
   go_wp2_with fail
   refine (fcontains_any y.flat yv _ (HND.out _ (Below.refl _ _)) HYL.out true HB.out).mono ?_
   rintro e w3 ⟨rfl,hb4⟩
   have HB4:=Lib.hid hb4
   have H3:=Lib.hid ((H1.out.below HB3.out).below hb4)
   clear hb4
   obtain ⟨⟨d0,d1,_,_,_,_,_⟩,f1',_⟩:=H3.out.prs.facts
   have hr3:=H3.out.prs.lt
   go_wp2
   go_ret
   have e0:=HE.out
   rw [HB.out,if_pos rfl] at e0
   have hok:=HOK1.out
   rw [HL.out] at H3
   rw [e0] at hok ⊢
   refine ⟨_,rfl,?_,H3.out.setN ⟨j,q.k,q.a⟩ rfl rfl hok,((H2.out.below HB3.out).below HB4.out).setCell 1 _⟩
   have h6:=own_below (own_mono HYO.out (Nat.le_trans H2.out.size (Nat.le_refl _))) HB4.out
   exact own_keep2 h6 H3.out.prs ((Keep.refl r w3).setCell 1 _)
  | false =>
   go_wp2_with fail
   refine (fcontains_any y.flat yv _ (HND.out _ (Below.refl _ _)) HYL.out false HB.out).mono ?_
   rintro e w3 ⟨rfl,hb4⟩
   have HB4:=Lib.hid hb4
   have H3:=Lib.hid ((H1.out.below HB3.out).below hb4)
   clear hb4
   go_wp2_with fail
   refine (srefuse_any HX.out.x _ H3.out).mono ?_
   rintro e w4 ⟨rfl,h4,h5⟩
   go_wp2
   go_ret
   have e0:=HE.out
   rw [HB.out,if_neg (by simp)] at e0
   rw [HL.out] at h4
   rw [e0]
   refine ⟨_,rfl,?_,h4,((H2.out.below HB3.out).below HB4.out).trans h5⟩
   have h6:=own_below (own_mono HYO.out (Nat.le_trans H2.out.size (Nat.le_refl _))) HB4.out
   exact own_keep2 h6 H3.out.prs h5
def dfP (l : List Tok) (q : Pq) : Bool × Pq:=if sgAt l q.n [33,61] = true then (true,⟨q.n + 1,q.k,q.a⟩) else (false,sgP l q [61,61])
theorem dfP_ok {l : List Tok} {q : Pq} (h : q.ok l.length) : (dfP l q).2.ok l.length:=by
 unfold dfP
 by_cases hs : sgAt l q.n [33,61] = true
 ·rw [if_pos hs]; exact Pq.step h (atB_lt hs (by decide))
 ·rw [if_neg hs]; exact sgP_ok h _
theorem sdiffers_any {w0 : World} {l : List Tok} {lv : Value} {r : Nat} {q : Pq} {o : Nat} {dv mv : Value} (x : Tx w0 l lv) (w : World) (h : Sta w0 w r l lv q o dv mv) :
  Calls Tryz.prog 221 #[.pointer (some ⟨r,0,none⟩)] w (ToQ w0 r l lv (dfP l q).2 o dv mv w (.bool (dfP l q).1)):=by
 obtain ⟨b,hb⟩ : ∃ b,atB l q.n 3 [33,61] = b:=⟨_,rfl⟩
 have HS:=Lib.hid (sees_any l r lv dv mv q.n o q.k q.a 3 ⟨#[33,61]⟩ w h.prs (x.ht.below h.bel) x.hn (by decide) b hb)
 have HR:=Lib.hid (fun w' h' => ssign_any (q:=q) (r:=r) (o:=o) (dv:=dv) (mv:=mv) x w' h' ⟨#[61,61]⟩)
 have HW:=Lib.hid h
 unfold dfP
 rw [sgAt_at,hb]
 cases b with
 | false =>
  clear h hb x
  show Calls _ _ _ _ (ToQ w0 r l lv (sgP l q [61,61]) o dv mv w (.bool false))
  go_enter Tryz.func221,Tryz.ntmps221
  go_wp2_with fail
  refine HS.out.mono ?_
  rintro e w1 ⟨rfl,hb1⟩
  go_wp2_with fail
  refine (HR.out w1 (HW.out.below hb1)).mono ?_
  rintro e w2 ⟨rfl,h2,h3⟩
  go_wp2
  go_ret
  exact ⟨rfl,h2,(Below.keep hb1).trans h3⟩
 | true =>
  have hlt:=atB_lt hb (by decide)
  have HO:=Lib.hid (Pq.step h.ok hlt)
  have HN : Hid (q.n ≤ 100000):=by have:=x.hn; show q.n ≤ 100000; omega
  clear h hb x
  show Calls _ _ _ _ (ToQ w0 r l lv ⟨q.n + 1,q.k,q.a⟩ o dv mv w (.bool true))
  go_enter Tryz.func221,Tryz.ntmps221
  go_wp2_with fail
  refine HS.out.mono ?_
  rintro e w1 ⟨rfl,hb1⟩
  have HW1:=Lib.hid (HW.out.below hb1)
  obtain ⟨⟨c0,c1,_,_,_,_,_⟩,f1,_⟩:=HW1.out.prs.facts
  have hn:=HN.out
  have hr:=HW1.out.prs.lt
  obtain ⟨n,hnn⟩ : ∃ n,n = q.n:=⟨_,rfl⟩
  rw [← hnn] at c1 hn
  have HNN:=Lib.hid hnn
  clear hnn
  go_wp2
  go_ret
  rw [HNN.out]
  exact ⟨rfl,HW1.out.setN ⟨q.n + 1,q.k,q.a⟩ rfl rfl HO.out,(Below.keep hb1).setCell 1 _⟩
def Bx (w : World) (b r : Nat) : Prop:=w.heap[b]? = some (.cells #[.pointer (some ⟨r,0,none⟩)] 213 (0,0))
theorem Bx.lt {w : World} {b r : Nat} (h : Bx w b r) : b < w.heap.size:=(Array.getElem?_eq_some_iff.1 h).1
theorem Bx.cell {w : World} {b r : Nat} (h : Bx w b r) : w.cell? ⟨b,0,none⟩ = some (.pointer (some ⟨r,0,none⟩)):=by unfold Bx at h; simp [World.cell?,h]
theorem Bx.keep {w w' : World} {b r g : Nat} (h : Bx w b r) (hk : Keep g w w') (hg : b ≠ g) : Bx w' b r:=by
 unfold Bx at *; rw [hk.block b (Bx.lt h) hg]; exact h
theorem Bx.ne {w : World} {b r : Nat} {lv dv mv : Value} {n o k a : Int} (h : Bx w b r) (hp : Prs w r lv n o dv mv k a) : b ≠ r:=by
 rintro rfl
 unfold Bx at h; unfold Prs at hp
 rw [h] at hp
 cases hp
theorem StrR.new (w : World) (s : ByteArray) : StrR (w.alloc (.cells #[.string s] 9)) w.heap.size s:=heap_alloc_new w _
theorem StrR.new' {w : World} {g : Nat} {s : ByteArray} (h : g = w.heap.size) : StrR (w.alloc (.cells #[.string s] 9)) g s:=by subst h; exact StrR.new w s
theorem StrR.newA (w : World) (u : Obj) (s : ByteArray) : StrR ((w.alloc u).alloc (.cells #[.string s] 9)) (w.heap.size + 1) s:=StrR.new' (by simp)
theorem StrR.newB (w : World) (u u' : Obj) (s : ByteArray) : StrR (((w.alloc u).alloc u').alloc (.cells #[.string s] 9)) (w.heap.size + 1 + 1) s:=StrR.new' (by simp)
theorem StrR.newC (w : World) (u u' : Obj) (s : ByteArray) : StrR (((w.alloc u).alloc u').alloc (.cells #[.string s] 9)) (w.heap.size + 2) s:=StrR.new' (by simp)
theorem StrR.alloc {w : World} {g : Nat} {s : ByteArray} (h : StrR w g s) (u : Obj) : StrR (w.alloc u) g s:=h.below ((Below.refl _ _).alloc (Nat.le_refl _) _)
theorem StrR.drew {w : World} {g : Nat} {s : ByteArray} (h : StrR w g s) : StrR w.drew g s:=h
theorem Keep.drew {b : Nat} {x w : World} (h : Keep b x w) : Keep b x w.drew:=h.drewN 1
structure Kp (w w' : World) : Prop where
 str : ∀ g s,StrR w g s → StrR w' g s
 row : ∀ B n v xs,w.ownsRow B 46 5 v n xs → w'.ownsRow B 46 5 v n xs
theorem kp_of {w w' : World} {r : Nat} {lv dv mv : Value} {n o k a : Int} (hp : Prs w r lv n o dv mv k a) (hk : Keep r w w') : Kp w w':=
 ⟨fun _ _ h => h.keep hk (h.ne hp),fun _ _ _ _ h => own_keep2 h hp hk⟩
theorem row_alloc {w : World} {B n : Nat} {v : Value} {xs : List Value} (h : w.ownsRow B 46 5 v n xs) (u : Obj) : (w.alloc u).ownsRow B 46 5 v n xs:=own_below h ((Below.refl _ _).alloc (Nat.le_refl _) _)
theorem row_drew {w : World} {B n : Nat} {v : Value} {xs : List Value} (h : w.ownsRow B 46 5 v n xs) : w.drew.ownsRow B 46 5 v n xs:=own_below h (Below.refl _ _).drew
def ToS (w0 : World) (r : Nat) (l : List Tok) (lv : Value) (q : Pq) (o : Nat) (dv mv : Value) (w : World) (x : St) (e : Ending) (w' : World) : Prop:=
 ∃ ve vf,e = .returned (.agg (x.cells ve vf)) ∧ w'.ownsRow w.heap.size 46 5 ve x.e.length (rowN x.e) ∧ w'.ownsRow w.heap.size 46 5 vf x.f.length (rowN x.f) ∧ Sta w0 w' r l lv q o dv mv ∧ Keep r w w'
theorem results_st {fn : Func} {p : Tmp} (h : fn.results = #[.cell p 42]) (tmps : Array Value) (w : World) (b : Nat) (x : St) (ve vf : Value) (hp : tmps.getD p undef = .pointer (some ⟨b,0,none⟩)) (hs : BlkS w b x ve vf) :
  (results fn tmps).run Tryz.prog w = .ok (.agg (x.cells ve vf)) w:=by
 obtain ⟨⟨y0,y1,y2,y3,y4,y5,y6,y7,y8⟩,_⟩:=hs.facts
 have hp2 : tmps[p]?.getD undef = .pointer (some ⟨b,0,none⟩):=by simpa using hp
 simp only [results,h]
 simp [hp2,go_sem,y0,y1,y2,y3,y4,y5,y6,y7,y8,St.cells]
theorem cell_alloc {w : World} {p : Addr} {v : Value} (h : w.cell? p = some v) (u : Obj) : (w.alloc u).cell? p = some v:=
 (((Below.refl w.heap.size w).alloc (Nat.le_refl _) u).cell (World.block_lt_of_cell? w p h)).trans h
theorem cell_drew {w : World} {p : Addr} {v : Value} (h : w.cell? p = some v) : w.drew.cell? p = some v:=h
theorem cell_set {w : World} {b o g q : Nat} {v : Value} (h : w.cell? ⟨b,o,none⟩ = some v) (hg : b ≠ g) (u : Value) : (w.setCell ⟨g,q,none⟩ u).cell? ⟨b,o,none⟩ = some v:=by
 rw [← h]
 exact World.cell?_of_block (w:=w) (Below.heap_setCell _ _ _ _ (by exact hg))
theorem with_kpQ {w0 : World} {l : List Tok} {lv : Value} {r : Nat} {q q' : Pq} {o : Nat} {dv mv v : Value} {f : Nat} {args : Array Value} {W : World} (hW : Sta w0 W r l lv q o dv mv) (h : Calls Tryz.prog f args W (ToQ w0 r l lv q' o dv mv W v)) :
  Calls Tryz.prog f args W fun e w' => e = .returned v ∧ Sta w0 w' r l lv q' o dv mv ∧ Keep r W w' ∧ Kp W w':=
 h.mono fun _ _ ⟨h1,h2,h3⟩ => ⟨h1,h2,h3,kp_of hW.prs h3⟩
theorem with_kpE {w0 : World} {l : List Tok} {lv : Value} {r : Nat} {q q' : Pq} {o : Nat} {dv mv : Value} {f : Nat} {args : Array Value} {W : World} {xs : List Nd} (hW : Sta w0 W r l lv q o dv mv) (h : Calls Tryz.prog f args W (ToE w0 r l lv q' o dv mv W xs)) :
  Calls Tryz.prog f args W fun e w' => ∃ v,e = .returned v ∧ w'.ownsRow W.heap.size 46 5 v xs.length (rowN xs) ∧ Sta w0 w' r l lv q' o dv mv ∧ Keep r W w' ∧ Kp W w':=
 h.mono fun _ _ ⟨v,h1,h2,h3,h4⟩ => ⟨v,h1,h2,h3,h4,kp_of hW.prs h4⟩
theorem BlkS.keep {w w' : World} {b r : Nat} {x : St} {ve vf : Value} (h : BlkS w b x ve vf) (hk : Keep r w w') (hb : b ≠ r) : BlkS w' b x ve vf:=by
 unfold BlkS at *; rw [hk.block b (BlkS.lt h) hb]; exact h
theorem row_stmt {w w' : World} {B n b : Nat} {v ve vf : Value} {xs : List Value} {y : St} (h : w.ownsRow B 46 5 v n xs) (hp : BlkS w b y ve vf) (hk : Keep b w w') : w'.ownsRow B 46 5 v n xs:=by
 obtain ⟨h1,h2⟩:=h
 refine ⟨h1,?_⟩
 rcases h2 with h2 | ⟨g,cap,cur,hv,hg,hh,z⟩
 ·exact .inl h2
 ·refine .inr ⟨g,cap,cur,hv,hg,?_,z⟩
  rw [hk.block g (Array.getElem?_eq_some_iff.1 hh).1 ?_]; exact hh
  rintro rfl
  unfold BlkS at hp
  rw [hp] at hh
  cases hh
theorem keep_set9 (w : World) (b : Nat) (u0 u1 u2 u3 u4 u5 u6 u7 u8 : Value) : Keep b w (set9 w b u0 u1 u2 u3 u4 u5 u6 u7 u8):=
 ((((((((Keep.refl b w).setCell 0 _).setCell 1 _).setCell 2 _).setCell 3 _).setCell 4 _).setCell 5 _).setCell 6 _).setCell 7 _ |>.setCell 8 _
theorem keep_new9 {r b : Nat} {w W : World} (h : Keep r w W) (hb : w.heap.size ≤ b) (u0 u1 u2 u3 u4 u5 u6 u7 u8 : Value) : Keep r w (set9 W b u0 u1 u2 u3 u4 u5 u6 u7 u8):=
 ((((((((h.setNew hb _).setNew hb _).setNew hb _).setNew hb _).setNew hb _).setNew hb _).setNew hb _).setNew hb _).setNew hb _
theorem clo_end {w0 w W : World} {r : Nat} {l : List Tok} {lv : Value} {q : Pq} {o : Nat} {dv mv : Value} {y : St} {ye yf : Value} (hB : BlkS W w.heap.size y ye yf) (hK : Keep r w W) (hr : w.heap.size ≠ r) (hS : Sta w0 W r l lv q o dv mv) (hw : w0.heap.size ≤ w.heap.size) (x : St) (ve vf : Value)
  (h1 : W.ownsRow w.heap.size 46 5 ve x.e.length (rowN x.e)) (h2 : W.ownsRow w.heap.size 46 5 vf x.f.length (rowN x.f)) :
  BlkS (set9 W w.heap.size (.int .i64 x.kind) (.string x.reg) (.string x.loc) ve vf (.bool x.ne) (.int .i64 x.body) (.int .i64 x.els) (.int .i64 x.pl)) w.heap.size x ve vf ∧
  ToS w0 r l lv q o dv mv w x (.returned (.agg (x.cells ve vf))) (set9 W w.heap.size (.int .i64 x.kind) (.string x.reg) (.string x.loc) ve vf (.bool x.ne) (.int .i64 x.body) (.int .i64 x.els) (.int .i64 x.pl)):=by
 have hk:=keep_set9 W w.heap.size (.int .i64 x.kind) (.string x.reg) (.string x.loc) ve vf (.bool x.ne) (.int .i64 x.body) (.int .i64 x.els) (.int .i64 x.pl)
 refine ⟨hB.set9 x ve vf,ve,vf,rfl,row_stmt h1 hB hk,row_stmt h2 hB hk,⟨hS.prs.keep hk (Ne.symm hr),below_set9 hS.bel hw _ _ _ _ _ _ _ _ _,hS.hr,hS.ok⟩,keep_new9 hK (Nat.le_refl _) _ _ _ _ _ _ _ _ _⟩
end Go.Proofs.YtcghccjnadagcaaGreatDoor
