/- Facts. -/
import Derived.Test.YtcghccjnadagcaaGreatDoorPa
import Derived.Laws.OwnMore
set_option maxRecDepth 100000
set_option maxHeartbeats 32000000
namespace Go.Proofs.YtcghccjnadagcaaGreatDoor
open Go.RowKit
def gresP (l : List Tok) (q : Pq) (j k a : Nat) : Pq:=if k = 0 then ⟨j,q.k,q.a⟩ else failP l.length q k a
section
variable {w0 : World} {l : List Tok} {lv : Value} {r : Nat} {q : Pq}
theorem gresume_any (x : Tg w0 l lv) (w : World) (h : Sg w0 w r l lv q) (j k a : Nat) (hj : j ≤ l.length) (hd : q.k ≠ 0 → k = 0 → j = l.length) :
  Calls Tryz.prog 170 #[.pointer (some ⟨r,0,none⟩),.int .i64 j,.int .i64 k,.int .i64 a] w (ToG w0 r l lv (gresP l q j k a) w (.tuple #[])):=by
 have hr:=h.prs.lt
 obtain ⟨⟨c0,c1,c2,c3⟩,f1,f2,f3⟩:=h.prs.facts
 have HH:=Lib.hid h
 unfold gresP
 by_cases hk : k = 0
 ·subst hk
  have hok : Pq.ok ⟨j,q.k,q.a⟩ l.length:=⟨hj,h.ok.2.1,fun hh => hd hh rfl⟩
  have HOK:=Lib.hid hok
  rw [if_pos rfl]
  clear h hok hd
  go_enter Tryz.func170,Tryz.ntmps170
  go_wp2
  exact bodyPost_end (v:=.tuple #[]) (by simp [results,Tryz.results170,go_sem]) rfl ⟨rfl,HH.out.setN ⟨j,q.k,q.a⟩ rfl rfl HOK.out,(Keep.refl r w).setCell 1 _⟩
 ·rw [if_neg hk]
  obtain ⟨ad,cap,rfl,_⟩:=id x.ht
  have HG:=Lib.hid (h.prs.set.1 (j : Int))
  have hz : (q.k : Int) = 0 → (q.a : Int) = 0:=fun hh => by have:=h.ok.2.1 (by omega); omega
  have HF:=Lib.hid (gfail_raw r ad l.length cap (j : Int) q.k q.a k a _ HG.out hz)
  have q1 : ((k : Int) != 0) = true:=by simp; omega
  have HK:=Lib.hid hk
  clear h hd hk hz
  go_enter Tryz.func170,Tryz.ntmps170
  go_wp2_with fail
  refine HF.out.mono ?_
  rintro e w' ⟨rfl,h1,h2⟩
  have hkp : Keep r w w':=((Keep.refl r w).setCell 1 _).trans h2
  go_wp2
  refine bodyPost_end (v:=.tuple #[]) (by simp [results,Tryz.results170,go_sem]) rfl ⟨rfl,⟨?_,keep_bel HH.out.bel HH.out.hr hkp,HH.out.hr,failP_ok HK.out⟩,hkp⟩
  unfold failP
  by_cases h0 : q.k = 0
  ·rw [if_pos h0]
   have e1 : (fst0 (q.k : Int) (k : Int)) = k:=by rw [h0]; rfl
   have e2 : (snd0 (q.k : Int) (a : Int) (q.a : Int)) = a:=by rw [h0]; rfl
   rw [e1,e2] at h1
   exact h1
  ·rw [if_neg h0]
   have e1 : (fst0 (q.k : Int) (k : Int)) = q.k:=if_neg (by omega)
   have e2 : (snd0 (q.k : Int) (a : Int) (q.a : Int)) = q.a:=by unfold snd0; exact if_neg (by omega)
   rw [e1,e2] at h1
   exact h1
noncomputable def gstP (l : List Tok) (q : Pq) : List St × Pq:=match stmtR l q.n with
 | .err k a => ([],gresP l q 0 k a)
 | .ok xs j => (xs,gresP l q j 0 0)
theorem stmt_end (l : List Tok) (xs : List St) (j : Nat) (h : stmtR l (l.length : Nat) = .ok xs j) : j = l.length:=by
 have h2 : lst l (l.length + 1) 0 l.length = some (.ok [] l.length):=by rw [lst,if_neg (by omega)]
 rw [stmtR_of l l.length _ (Nat.le_refl _) h2] at h
 cases h
 rfl
theorem stmt_in (l : List Tok) (hok : TokOK l) (i : Nat) (hi : i ≤ l.length) (xs : List St) (j : Nat) (h : stmtR l (i : Nat) = .ok xs j) : j ≤ l.length:=by
 have hp : ∀ i,(tokO l i).2.2.2 + (tokO l i).2.1.length ≤ 200000:=fun i => by have:=hok i; omega
 obtain ⟨res,hres⟩:=lst_total l hp (l.length + 1) 0 i hi (by omega)
 rw [stmtR_of l i res hi hres] at h
 have hf:=lst_fit l hp _ _ _ _ hi hres
 cases res with
 | err k a => cases h
 | ok ys m =>
  have h3 : (if 200 < ys.length then SRes.err 2 (refK l i).2 else .ok ys m) = .ok xs j:=h
  split at h3
  ·cases h3
  ·cases h3; exact hf.2.1
theorem stmt_ne (l : List Tok) (hok : TokOK l) (i : Nat) (hi : i ≤ l.length) (k a : Nat) (h : stmtR l (i : Nat) = .err k a) : k ≠ 0:=by
 have hp : ∀ i,(tokO l i).2.2.2 + (tokO l i).2.1.length ≤ 200000:=fun i => by have:=hok i; omega
 obtain ⟨res,hres⟩:=lst_total l hp (l.length + 1) 0 i hi (by omega)
 rw [stmtR_of l i res hi hres] at h
 have hf:=lst_fit l hp _ _ _ _ hi hres
 cases res with
 | err k2 a2 => cases h; exact hf
 | ok ys m =>
  have h3 : (if 200 < ys.length then SRes.err 2 (refK l i).2 else .ok ys m) = .err k a:=h
  split at h3
  ·cases h3; decide
  ·cases h3
theorem own_keepG {w w' : World} {B e size n r : Nat} {v lv : Value} {xs : List Value} {a c d : Int} (h : w.ownsRow B e size v n xs) (hp : Gp w r lv a c d) (hk : Keep r w w') (he : e ≠ 54) : w'.ownsRow B e size v n xs:=by
 obtain ⟨h1,h2⟩:=h
 refine ⟨h1,?_⟩
 rcases h2 with h2 | ⟨g,cap,cur,hv,hg,hh,z⟩
 ·exact .inl h2
 ·refine .inr ⟨g,cap,cur,hv,hg,?_,z⟩
  have hne : g ≠ r:=by
   rintro rfl
   unfold Gp at hp
   rw [hh] at hp
   simp at hp
   exact he hp.2
  rw [hk.block g (Array.getElem?_eq_some_iff.1 hh).1 hne]
  exact hh
theorem sown_keepG {w w' : World} {B r : Nat} {v lv : Value} {xs : List St} {a c d : Int} (h : SOwn w B v xs) (hp : Gp w r lv a c d) (hk : Keep r w w') : SOwn w' B v xs:=by
 obtain ⟨ts,h1,h2,h3⟩:=h
 exact ⟨ts,h1,own_keepG h2 hp hk (by decide),fun t ht => ⟨own_keepG (h3 t ht).1 hp hk (by decide),own_keepG (h3 t ht).2 hp hk (by decide)⟩⟩
theorem gstatements_any (x : Tg w0 l lv) (hs : Sgn w0) (w : World) (h : Sg w0 w r l lv q) :
  Calls Tryz.prog 127 #[.pointer (some ⟨r,0,none⟩)] w fun e w' => ∃ v,e = .returned v ∧ Sg w0 w' r l lv (gstP l q).2 ∧ Keep r w w' ∧ SOwn w' w.heap.size v (gstP l q).1:=by
 have HP:=Lib.hid (fun (w1 : World) (h1 : Sg w0 w1 r l lv q) => sparse_any l lv q.n w1 (x.ht.below h1.bel) (hs.below h1.bel) x.hn x.ok)
 have HH:=Lib.hid h
 obtain ⟨ad,cap,rfl,_⟩:=id x.ht
 have HX:=Lib.hid x
 obtain ⟨⟨c0,c1,_,_⟩,_⟩:=h.prs.facts
 have hr:=h.prs.lt
 obtain ⟨R,hR⟩ : ∃ R,stmtR l q.n = R:=⟨_,rfl⟩
 unfold gstP
 rw [hR] at HP ⊢
 have hle:=h.ok.1
 cases R with
 | err k a =>
  have hk:=stmt_ne l x.ok q.n hle k a hR
  have HK:=Lib.hid hk
  have HRS:=Lib.hid (fun (w1 : World) (h1 : Sg w0 w1 r l _ q) => gresume_any HX.out w1 h1 0 k a (Nat.zero_le _) (fun _ hk0 => absurd hk0 HK.out))
  have HPP : Hid (∀ w',Below w.heap.size w w' → Calls Tryz.prog 169 #[.slice ad l.length cap,.int .i64 q.n] w' fun e w'' => e = .returned (.tuple #[.slice none 0 0,.int .i64 0,.int .i64 k,.int .i64 a]) ∧ Below w'.heap.size w' w''):=fun w' hb => HP.out w' (HH.out.below hb)
  clear h x hR hle hk hs HP
  obtain ⟨L,hL⟩ : ∃ L,L = l.length:=⟨_,rfl⟩
  obtain ⟨n,hn⟩ : ∃ n,n = q.n:=⟨_,rfl⟩
  rw [← hL] at c0 HPP HH HX HRS ⊢
  rw [← hn] at c1 HPP
  clear hL hn
  go_enter Tryz.func127,Tryz.ntmps127
  go_wp2
  go_region_held3 (fun w' => w'.cell? ⟨r,0,none⟩ = some (.slice ad L cap) ∧ w'.cell? ⟨r,1,none⟩ = some (.int .i64 n) ∧ Below w.heap.size w w')
   (first | exact ⟨c0,c1,Below.refl _ _⟩ | exact ⟨c0,c1,(Below.refl _ _).drew⟩ | assumption | (go_split_ands; exact ⟨(hb3.cell (p:=⟨r,0,none⟩) hr).trans c0,(hb3.cell (p:=⟨r,1,none⟩) hr).trans c1,hb3⟩))
   ((go_split_ands; with_reducible refine Calls.mono (HPP.out _ (by assumption)) ?_; rintro e w2 ⟨rfl,hb2⟩; have hb3 : Below w.heap.size w w2:=Below.trans (by assumption) (hb2.mono (Below.size (by assumption)))))
  go_split_ands
  rename_i hbz
  have HBZ:=Lib.hid hbz
  clear hbz
  go_wp2_with fail
  refine (HRS.out _ (HH.out.below HBZ.out)).mono ?_
  rintro e w2 ⟨rfl,h2,h3⟩
  go_wp2
  refine bodyPost_ret (v:=.slice none 0 0) (by simp [results,Tryz.results127,go_sem]) rfl ⟨_,rfl,h2,(Below.keep HBZ.out).trans h3,SOwn.nil _ _⟩
 | ok xs j =>
  have hj:=stmt_in l x.ok q.n hle xs j hR
  have hd : q.k ≠ 0 → (0 : Nat) = 0 → j = l.length:=fun hq _ => by
   have:=HH.out.ok.2.2 hq
   rw [this] at hR
   exact stmt_end l xs j hR
  have HRS:=Lib.hid (fun (w1 : World) (h1 : Sg w0 w1 r l _ q) => gresume_any HX.out w1 h1 j 0 0 hj hd)
  have HPP : Hid (∀ w',Below w.heap.size w w' → Calls Tryz.prog 169 #[.slice ad l.length cap,.int .i64 q.n] w' fun e w'' => ∃ v,e = .returned (.tuple #[v,.int .i64 j,.int .i64 0,.int .i64 0]) ∧ SOwn w'' w'.heap.size v xs ∧ Below w'.heap.size w' w''):=fun w' hb => HP.out w' (HH.out.below hb)
  clear h x hR hle hj hd hs HP
  obtain ⟨L,hL⟩ : ∃ L,L = l.length:=⟨_,rfl⟩
  obtain ⟨n,hn⟩ : ∃ n,n = q.n:=⟨_,rfl⟩
  rw [← hL] at c0 HPP HH HX HRS ⊢
  rw [← hn] at c1 HPP
  clear hL hn
  go_enter Tryz.func127,Tryz.ntmps127
  go_wp2
  go_region_held3 (fun w' => w'.cell? ⟨r,0,none⟩ = some (.slice ad L cap) ∧ w'.cell? ⟨r,1,none⟩ = some (.int .i64 n) ∧ Below w.heap.size w w')
   (first | exact ⟨c0,c1,Below.refl _ _⟩ | exact ⟨c0,c1,(Below.refl _ _).drew⟩ | assumption | (go_split_ands; exact ⟨(hb3.cell (p:=⟨r,0,none⟩) hr).trans c0,(hb3.cell (p:=⟨r,1,none⟩) hr).trans c1,hb3⟩))
   ((go_split_ands; with_reducible refine Calls.mono (HPP.out _ (by assumption)) ?_; rintro e w2 ⟨yv,rfl,hyo,hb2⟩; have HYO:=Lib.hid hyo; clear hyo; have hb3 : Below w.heap.size w w2:=Below.trans (by assumption) (hb2.mono (Below.size (by assumption)))))
  go_split_ands
  have HBZ:=Lib.hid hb3
  have HSO:=Lib.hid (HYO.out.mono (B':=w.heap.size) (Nat.le_refl _))
  have HS2:=Lib.hid (HH.out.below hb3)
  obtain ⟨ad9,cap9,rfl⟩:=sown_shape HYO.out
  clear hb2 hb3 HYO
  go_wp2_with fail
  refine (HRS.out _ HS2.out).mono ?_
  rintro e w3 ⟨rfl,h2,h3⟩
  go_wp2
  refine bodyPost_ret (v:=.slice ad9 xs.length cap9) (by simp [results,Tryz.results127,go_sem]) rfl ⟨_,rfl,h2,(Below.keep HBZ.out).trans h3,sown_keepG HSO.out HS2.out.prs h3⟩
end
def clm (x : Nd) : Nd:=if x.op = 2 then { x with op:=3 } else x
noncomputable def gexrP (l : List Tok) (q : Pq) : List Nd × Pq:=match parseR l q.n with
 | .err k a => ([],gresP l q 0 k a)
 | .ok y j => (y.flat.map clm,gresP l q j 0 0)
theorem rowN_cons (x : Nd) (l : List Nd) : rowN (x :: l) = x.cells ++ rowN l:=by simp [rowN]
theorem rowN_app (a b : List Nd) : rowN (a ++ b) = rowN a ++ rowN b:=by simp [rowN]
theorem rowN_len (l : List Nd) : (rowN l).length = l.length * 5:=by
 induction l with
 | nil => rfl
 | cons x l ih => rw [rowN_cons,List.length_append,ih,List.length_cons]; simp [Nd.cells]; omega
theorem rowN_set (a b : List Nd) (x : Nd) (o : Int) : (rowN (a ++ x :: b)).set (a.length * 5) (.int .i64 o) = rowN (a ++ { x with op:=o } :: b):=by
 rw [rowN_app,rowN_app,rowN_cons,rowN_cons,List.set_append_right _ _ (by rw [rowN_len]; omega),rowN_len,Nat.sub_self]
 rfl
theorem rowN_get (a b : List Nd) (x : Nd) : (rowN (a ++ x :: b))[a.length * 5]? = some (.int .i64 x.op):=by
 rw [rowN_app,rowN_cons,List.getElem?_append_right (by rw [rowN_len]; omega),rowN_len,Nat.sub_self]
 rfl
section
variable {w0 : World} {l : List Tok} {lv : Value} {r : Nat} {q : Pq}
theorem gexpression_any (x : Tg w0 l lv) (hs : Sgn w0) (w : World) (h : Sg w0 w r l lv q) :
  Calls Tryz.prog 128 #[.pointer (some ⟨r,0,none⟩)] w fun e w' => ∃ v,e = .returned v ∧ Sg w0 w' r l lv (gexrP l q).2 ∧ Keep r w w' ∧ w'.ownsRow w.heap.size 46 5 v (gexrP l q).1.length (rowN (gexrP l q).1):=by
 have HP:=Lib.hid (fun (w1 : World) (h1 : Sg w0 w1 r l lv q) => parse_any l lv q.n w1 (tokS_new (x.ht.below h1.bel)) (hs.below h1.bel) x.hn x.ok h1.ok.1)
 have HH:=Lib.hid h
 obtain ⟨ad,cap,rfl,_⟩:=id x.ht
 have HX:=Lib.hid x
 obtain ⟨⟨c0,c1,_,_⟩,_⟩:=h.prs.facts
 have hr:=h.prs.lt
 obtain ⟨R,hR⟩ : ∃ R,parseR l q.n = R:=⟨_,rfl⟩
 unfold gexrP
 rw [hR] at HP ⊢
 have hle:=h.ok.1
 have hpo:=parse_out' l q.n hle (fun i => by have:=x.ok i; omega)
 rw [hR] at hpo
 cases R with
 | err k a =>
  have hk : k ≠ 0:=hpo
  have HK:=Lib.hid hk
  have HRS:=Lib.hid (fun (w1 : World) (h1 : Sg w0 w1 r l _ q) => gresume_any HX.out w1 h1 0 k a (Nat.zero_le _) (fun _ hk0 => absurd hk0 HK.out))
  have HPP : Hid (∀ w',Below w.heap.size w w' → Calls Tryz.prog 171 #[.slice ad l.length cap,.int .i64 q.n] w' fun e w'' => e = .returned (.tuple #[.slice none 0 0,.int .i64 0,.int .i64 k,.int .i64 a]) ∧ Below w'.heap.size w' w''):=fun w' hb => HP.out w' (HH.out.below hb)
  clear h x hR hle hk hs HP hpo
  simp only []
  obtain ⟨L,hL⟩ : ∃ L,L = l.length:=⟨_,rfl⟩
  obtain ⟨n,hn⟩ : ∃ n,n = q.n:=⟨_,rfl⟩
  rw [← hL] at c0 HPP HH HX HRS ⊢
  rw [← hn] at c1 HPP
  clear hL hn
  go_enter Tryz.func128,Tryz.ntmps128
  go_wp2
  go_region_held3 (fun w' => w'.cell? ⟨r,0,none⟩ = some (.slice ad L cap) ∧ w'.cell? ⟨r,1,none⟩ = some (.int .i64 n) ∧ Below w.heap.size w w')
   (first | exact ⟨c0,c1,Below.refl _ _⟩ | exact ⟨c0,c1,(Below.refl _ _).drew⟩ | assumption | (go_split_ands; exact ⟨(hb3.cell (p:=⟨r,0,none⟩) hr).trans c0,(hb3.cell (p:=⟨r,1,none⟩) hr).trans c1,hb3⟩))
   ((go_split_ands; with_reducible refine Calls.mono (HPP.out _ (by assumption)) ?_; rintro e w2 ⟨rfl,hb2⟩; have hb3 : Below w.heap.size w w2:=Below.trans (by assumption) (hb2.mono (Below.size (by assumption)))))
  go_split_ands
  rename_i hbz
  have HBZ:=Lib.hid hbz
  clear hbz
  go_wp2_with fail
  refine (HRS.out _ (HH.out.below HBZ.out)).mono ?_
  rintro e w2 ⟨rfl,h2,h3⟩
  have S2:=Lib.hid h2
  have K2:=Lib.hid ((Below.keep HBZ.out).trans h3)
  clear h2 h3
  go_wp2
  go_loopg [29] 1 (fun fuel i' wr => i' = .int .i64 0 ∧ wr = w2)
  case atStart => exact ⟨rfl,rfl⟩
  case round =>
   obtain ⟨rfl,rfl⟩:=hrel
   go_wp2
   exact bodyPost_ret (v:=.slice none 0 0) (by simp [results,Tryz.results128,go_sem]) rfl ⟨_,rfl,S2.out,K2.out,World.ownsRow_nil _ _ _ _⟩
 | ok y j =>
  obtain ⟨_,_,p3,p4,p5⟩:=hpo
  have hd : q.k ≠ 0 → (0 : Nat) = 0 → j = l.length:=fun hq _ => by
   have:=HH.out.ok.2.2 hq
   omega
  have HRS:=Lib.hid (fun (w1 : World) (h1 : Sg w0 w1 r l _ q) => gresume_any HX.out w1 h1 j 0 0 p5 hd)
  have HPP : Hid (∀ w',Below w.heap.size w w' → Calls Tryz.prog 171 #[.slice ad l.length cap,.int .i64 q.n] w' fun e w'' => ∃ v,e = .returned (.tuple #[v,.int .i64 j,.int .i64 0,.int .i64 0]) ∧ w''.ownsRow w'.heap.size 46 5 v y.flat.length (rowN y.flat) ∧ Below w'.heap.size w' w''):=fun w' hb => HP.out w' (HH.out.below hb)
  have hyl : y.flat.length ≤ 200:=by rw [y.flat_length]; exact p3
  have hy1 : 1 ≤ y.flat.length:=by rw [y.flat_length]; exact y.size_pos
  obtain ⟨ys,hys⟩ : ∃ ys,ys = y.flat:=⟨_,rfl⟩
  simp only []
  rw [← hys] at HPP hyl hy1 ⊢
  clear h x hR hle hs HP p3 p4 p5 hd hys
  obtain ⟨L,hL⟩ : ∃ L,L = l.length:=⟨_,rfl⟩
  obtain ⟨n,hn⟩ : ∃ n,n = q.n:=⟨_,rfl⟩
  rw [← hL] at c0 HPP HH HX HRS ⊢
  rw [← hn] at c1 HPP
  clear hL hn
  go_enter Tryz.func128,Tryz.ntmps128
  go_wp2
  go_region_held3 (fun w' => w'.cell? ⟨r,0,none⟩ = some (.slice ad L cap) ∧ w'.cell? ⟨r,1,none⟩ = some (.int .i64 n) ∧ Below w.heap.size w w')
   (first | exact ⟨c0,c1,Below.refl _ _⟩ | exact ⟨c0,c1,(Below.refl _ _).drew⟩ | assumption | (go_split_ands; exact ⟨(hb3.cell (p:=⟨r,0,none⟩) hr).trans c0,(hb3.cell (p:=⟨r,1,none⟩) hr).trans c1,hb3⟩))
   ((go_split_ands; with_reducible refine Calls.mono (HPP.out _ (by assumption)) ?_; rintro e w2 ⟨yv,rfl,hyo,hb2⟩; have HYO:=Lib.hid hyo; clear hyo; have hb3 : Below w.heap.size w w2:=Below.trans (by assumption) (hb2.mono (Below.size (by assumption)))))
  go_split_ands
  have HBZ:=Lib.hid hb3
  have HSO:=Lib.hid (own_mono HYO.out (B':=w.heap.size) (Nat.le_refl _))
  have HS2:=Lib.hid (HH.out.below hb3)
  obtain ⟨ad9,cap9,rfl,_⟩:=own_shape HYO.out
  clear hb2 hb3 HYO
  go_wp2_with fail
  refine (HRS.out _ HS2.out).mono ?_
  rintro e w3 ⟨rfl,h2,h3⟩
  have O3:=Lib.hid (own_keepG HSO.out HS2.out.prs h3 (by decide))
  have S3:=Lib.hid h2
  have K3:=Lib.hid ((Below.keep HBZ.out).trans h3)
  clear h2 h3 HSO HS2 HBZ
  obtain ⟨g,rfl,hgB,hgl⟩ : ∃ g,ad9 = some ⟨g,0,none⟩ ∧ w.heap.size ≤ g ∧ g < w3.heap.size:=by
   obtain ⟨ad',cap',he,hh⟩:=own_shape O3.out
   injection he with e1 e2 e3
   subst e1
   rcases hh with ⟨_,h0,_⟩ | ⟨g,e,h1,h2⟩
   ·omega
   ·exact ⟨g,e,h1,h2⟩
  obtain ⟨m,hm⟩ : ∃ m,m = ys.length:=⟨_,rfl⟩
  have HM:=Lib.hid hm
  rw [← hm] at O3 hyl hy1 ⊢
  clear hm
  go_wp2
  go_loopg [29] m (fun fuel i' wr => ∃ k : Nat,i' = .int .i64 k ∧ k ≤ m ∧ m - k ≤ fuel ∧ wr.ownsRow w.heap.size 46 5 (.slice (some ⟨g,0,none⟩) m cap9) m (rowN ((ys.take k).map clm ++ ys.drop k)) ∧ Sg w0 wr r l (.slice ad L cap) (gresP l q j 0 0) ∧ Keep r w wr)
  case atStart => exact ⟨0,rfl,Nat.zero_le _,Nat.le_refl _,by simpa using O3.out,S3.out,K3.out⟩
  case round =>
   obtain ⟨k,rfl,hk,hf,ho,hs,hkp⟩:=hrel
   have HO:=Lib.hid ho
   have HS:=Lib.hid hs
   have HK:=Lib.hid hkp
   have hgw : g < wr.heap.size:=(ho.lt g rfl).2
   clear hs hkp
   by_cases hlt : k < m
   ·have hky : k < ys.length:=by have:=HM.out; omega
    obtain ⟨xk,hxk⟩ : ∃ x,x = ys[k]:=⟨_,rfl⟩
    have hdr : ys.drop k = xk :: ys.drop (k + 1):=by rw [hxk]; exact List.drop_eq_getElem_cons hky
    have htk : ys.take (k + 1) = ys.take k ++ [xk]:=by rw [hxk]; exact List.take_succ_eq_append_getElem hky
    have hlen : ((ys.take k).map clm).length = k:=by rw [List.length_map,List.length_take]; omega
    have hcl : wr.cell? ⟨g,k * 5,none⟩ = some (.int .i64 xk.op):=by
     rw [ho.cellAt (k * 5) (by omega),hdr]
     have:=rowN_get ((ys.take k).map clm) (ys.drop (k + 1)) xk
     rw [hlen] at this
     exact this
    have hfz : wr.frozen? ⟨g,k * 5,none⟩ = false:=ho.frozenAt _
    have hnew : (ys.take (k + 1)).map clm ++ ys.drop (k + 1) = (ys.take k).map clm ++ clm xk :: ys.drop (k + 1):=by rw [htk,List.map_append]; simp
    have hset:=(ho.stored (k * 5) (.int .i64 3)).1
    rw [hdr] at hset
    have hrs:=rowN_set ((ys.take k).map clm) (ys.drop (k + 1)) xk 3
    rw [hlen] at hrs
    rw [hrs] at hset
    have HSET:=Lib.hid hset
    have HNEW:=Lib.hid hnew
    rw [hdr] at HO
    obtain ⟨xo,xn,xm,xi,xp⟩:=xk
    simp only [] at hcl
    clear hxk hdr htk hlen hrs hset hnew ho
    by_cases h2 : xo = 2
    ·subst h2
     go_wp2
     go_roundg (gk - 1)
     case measure => omega
     case rel =>
      refine ⟨k + 1,by go_num,by omega,by omega,?_,?_,HK.out.setNew hgB _⟩
      ·rw [HNEW.out]
       exact HSET.out
      ·exact HS.out.setNew (Nat.le_trans HH.out.bel.size hgB) (by omega) _ _
    ·have q2 : (xo == 2) = false:=by simpa using h2
     have e : clm ⟨xo,xn,xm,xi,xp⟩ = ⟨xo,xn,xm,xi,xp⟩:=by unfold clm; rw [if_neg h2]
     go_wp2
     go_roundg (gk - 1)
     case measure => omega
     case rel =>
      refine ⟨k + 1,by go_num,by omega,by omega,?_,HS.out,HK.out⟩
      rw [HNEW.out,e]
      exact HO.out
   ·obtain rfl : k = m:=by omega
    go_wp2
    refine bodyPost_ret (v:=.slice (some ⟨g,0,none⟩) k cap9) (by simp [results,Tryz.results128,go_sem]) rfl ⟨_,rfl,HS.out,HK.out,?_⟩
    have h1:=HO.out
    rw [HM.out,List.take_length,List.drop_length,List.append_nil] at h1
    rw [List.length_map]
    have:=HM.out
    rw [this]
    exact h1
end
end Go.Proofs.YtcghccjnadagcaaGreatDoor
