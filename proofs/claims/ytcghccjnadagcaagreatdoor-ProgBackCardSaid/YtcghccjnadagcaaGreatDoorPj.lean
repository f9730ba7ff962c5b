/- Facts. -/
import Derived.Test.YtcghccjnadagcaaGreatDoorPh
set_option maxRecDepth 100000
set_option maxHeartbeats 32000000
namespace Go.Proofs.YtcghccjnadagcaaGreatDoor
open Go.RowKit
noncomputable def gthP (l : List Tok) (q : Pq) (pl : Int) : Th × Pq:=
 let C:=gregP l (gexP l (gnmP l q).2 [123])
 let D:=gstP l C.2
 (⟨(gnmP l q).1,C.1,D.1,pl⟩,gexP l D.2 [125])
theorem results_th {fn : Func} {p : Tmp} (h : fn.results = #[.cell p 39]) (tmps : Array Value) (w : World) (b : Nat) (u0 u1 u2 u3 : Value) (hp : tmps.getD p undef = .pointer (some ⟨b,0,none⟩)) (hb : Bk w b 39 #[u0,u1,u2,u3]) :
  (results fn tmps).run Tryz.prog w = .ok (.agg #[u0,u1,u2,u3]) w:=by
 have y0:=hb.cell 0
 have y1:=hb.cell 1
 have y2:=hb.cell 2
 have y3:=hb.cell 3
 have hp2 : tmps[p]?.getD undef = .pointer (some ⟨b,0,none⟩):=by simpa using hp
 simp only [results,h]
 simp [hp2,go_sem,y0,y1,y2,y3]
theorem Bk.set4 {w : World} {b T : Nat} {y0 y1 y2 y3 : Value} (h : Bk w b T #[y0,y1,y2,y3]) (x0 x1 x2 x3 : Value) : Bk ((((w.setCell ⟨b,0,none⟩ x0).setCell ⟨b,1,none⟩ x1).setCell ⟨b,2,none⟩ x2).setCell ⟨b,3,none⟩ x3) b T #[x0,x1,x2,x3]:=by
 have:=(((h.set 0 x0).set 1 x1).set 2 x2).set 3 x3
 simpa using this
theorem Bk.other {w : World} {b T : Nat} {cs : Array Value} (h : Bk w b T cs) {g : Nat} (hg : b ≠ g) (o : Nat) (u : Value) : Bk (w.setCell ⟨g,o,none⟩ u) b T cs:=by
 unfold Bk at *; rw [Below.heap_setCell _ _ _ _ (by exact hg)]; exact h
theorem own_noBk {w : World} {B e size n T b : Nat} {v : Value} {cs : Array Value} {xs : List Value} (h : w.ownsRow B e size v n xs) (hc : Bk w b T cs) (hT : e ≠ T) : v.ownBlock ≠ some b:=by
 intro he
 rcases h.2 with ⟨rfl,_⟩ | ⟨g,cap,cur,rfl,_,hh,_⟩
 ·cases he
 ·injection he with he
  have he2 : g = b:=he
  subst he2
  unfold Bk at hc
  rw [hh] at hc
  simp at hc
  exact hT hc.2
theorem own_setBk {w : World} {B e size n T b o : Nat} {v u : Value} {cs : Array Value} {xs : List Value} (h : w.ownsRow B e size v n xs) (hc : Bk w b T cs) (hT : e ≠ T) : (w.setCell ⟨b,o,none⟩ u).ownsRow B e size v n xs:=
 ownsRow_setCell_other h (own_noBk h hc hT) _
theorem SOwn.setBk {w : World} {B T b o : Nat} {v u : Value} {cs : Array Value} {xs : List St} (h : SOwn w B v xs) (hc : Bk w b T cs) (h1 : 42 ≠ T) (h2 : 46 ≠ T) : SOwn (w.setCell ⟨b,o,none⟩ u) B v xs:=by
 obtain ⟨ts,e1,e2,e3⟩:=h
 exact ⟨ts,e1,own_setBk e2 hc h1,fun t ht => ⟨own_setBk (e3 t ht).1 hc h2,own_setBk (e3 t ht).2 hc h2⟩⟩
section
variable {w0 : World} {l : List Tok} {lv : Value} {r : Nat} {q : Pq}
theorem gthread_any (x : Tg w0 l lv) (hs : Sgn w0) (w : World) (h : Sg w0 w r l lv q) (pl : Int) :
  Calls Tryz.prog 71 #[.pointer (some ⟨r,0,none⟩),.int .i64 pl] w fun e w' => ∃ vr vb,e = .returned (.agg #[.string (gthP l q pl).1.nm,vr,vb,.int .i64 pl]) ∧ Sg w0 w' r l lv (gthP l q pl).2 ∧ Keep r w w' ∧ w'.ownsRow (w.heap.size + 1) 9 1 vr (gthP l q pl).1.regs.length (rowB (gthP l q pl).1.regs) ∧ SOwn w' (w.heap.size + 1) vb (gthP l q pl).1.body:=by
 have HN:=Lib.hid (fun (w : World) (h : Sg w0 w r l lv q) => gname_any x w h)
 have HE:=Lib.hid (fun (q : Pq) (w : World) (h : Sg w0 w r l lv q) (s : ByteArray) (hs : s.data.toList ≠ []) => gexpect_any x w h s hs)
 have HR:=Lib.hid (fun (q : Pq) (w : World) (h : Sg w0 w r l lv q) => gregisters_any x w h)
 have HS:=Lib.hid (fun (q : Pq) (w : World) (h : Sg w0 w r l lv q) => gstatements_any x hs w h)
 have HH:=Lib.hid h
 unfold gthP
 simp only []
 obtain ⟨nm,hnm⟩ : ∃ s,s = (gnmP l q).1:=⟨_,rfl⟩
 obtain ⟨q1,hq1⟩ : ∃ q1,q1 = (gnmP l q).2:=⟨_,rfl⟩
 rw [← hnm,← hq1] at HN ⊢
 obtain ⟨q2,hq2⟩ : ∃ q2,q2 = gexP l q1 [123]:=⟨_,rfl⟩
 rw [← hq2]
 obtain ⟨rs,hrs⟩ : ∃ s,s = (gregP l q2).1:=⟨_,rfl⟩
 obtain ⟨q3,hq3⟩ : ∃ s,s = (gregP l q2).2:=⟨_,rfl⟩
 rw [← hrs,← hq3]
 obtain ⟨bs,hbs⟩ : ∃ s,s = (gstP l q3).1:=⟨_,rfl⟩
 obtain ⟨q4,hq4⟩ : ∃ s,s = (gstP l q3).2:=⟨_,rfl⟩
 rw [← hbs,← hq4]
 obtain ⟨q5,hq5⟩ : ∃ q5,q5 = gexP l q4 [125]:=⟨_,rfl⟩
 rw [← hq5]
 have HE1 : Hid (∀ w,Sg w0 w r l lv q1 → Calls Tryz.prog 64 #[.pointer (some ⟨r,0,none⟩),.string ⟨#[123]⟩] w (ToG w0 r l lv q2 w (.tuple #[]))):=by rw [hq2]; exact fun w h => HE.out _ w h ⟨#[123]⟩ (by simp)
 have HE2 : Hid (∀ w,Sg w0 w r l lv q4 → Calls Tryz.prog 64 #[.pointer (some ⟨r,0,none⟩),.string ⟨#[125]⟩] w (ToG w0 r l lv q5 w (.tuple #[]))):=by rw [hq5]; exact fun w h => HE.out _ w h ⟨#[125]⟩ (by simp)
 have HR1 : Hid (∀ w,Sg w0 w r l lv q2 → Calls Tryz.prog 126 #[.pointer (some ⟨r,0,none⟩)] w fun e w' => ∃ v,e = .returned v ∧ Sg w0 w' r l lv q3 ∧ Keep r w w' ∧ w'.ownsRow w.heap.size 9 1 v rs.length (rowB rs)):=by rw [hq3,hrs]; exact fun w h => HR.out _ w h
 have HS1 : Hid (∀ w,Sg w0 w r l lv q3 → Calls Tryz.prog 127 #[.pointer (some ⟨r,0,none⟩)] w fun e w' => ∃ v,e = .returned v ∧ Sg w0 w' r l lv q4 ∧ Keep r w w' ∧ SOwn w' w.heap.size v bs):=by rw [hq4,hbs]; exact fun w h => HS.out _ w h
 have hrl:=HH.out.prs.lt
 clear hnm hq1 hq2 hrs hq3 hbs hq4 hq5 h x hs HE HR HS
 go_enter Tryz.func71,Tryz.ntmps71
 go_wp2_with fail
 refine (HN.out _ (HH.out.alloc _)).mono ?_
 rintro e w1 ⟨rfl,h1,k1⟩
 have a1:=(Bk.new w 39 #[.string ⟨#[]⟩,.slice none 0 0,.slice none 0 0,.int .i64 0]).keep k1 (by omega)
 have kk1 : Keep r w w1:=((Keep.refl r w).alloc _).trans k1
 have hr1:=h1.prs.lt
 have A1:=Lib.hid a1
 have hAl:=a1.lt
 have KK1:=Lib.hid kk1
 have SG1:=Lib.hid (h1.alloc (.cells #[.string nm,.slice none 0 0,.slice none 0 0,.int .i64 pl] 39))
 clear a1 h1 k1 kk1
 go_wp2_with fail
 refine (HE1.out _ SG1.out).mono ?_
 rintro e w2 ⟨rfl,h2,k2⟩
 have hal:=(Below.refl w1.heap.size w1).alloc (Nat.le_refl _) (.cells #[.string nm,.slice none 0 0,.slice none 0 0,.int .i64 pl] 39)
 have B2:=Lib.hid ((Bk.new w1 39 #[.string nm,.slice none 0 0,.slice none 0 0,.int .i64 pl]).keep k2 (by omega))
 have A2:=Lib.hid ((A1.out.below hal).keep k2 (by omega))
 have K2:=Lib.hid ((KK1.out.alloc _).trans k2)
 have S2:=Lib.hid h2
 have l2:=B2.out.lt
 clear h2 k2 hal
 go_wp2_with fail
 refine (HR1.out _ S2.out).mono ?_
 rintro e w3 ⟨vr,rfl,h3,k3,o3⟩
 have B3:=Lib.hid (B2.out.keep k3 (by omega))
 have A3:=Lib.hid (A2.out.keep k3 (by omega))
 have K3:=Lib.hid (K2.out.trans k3)
 have S3:=Lib.hid h3
 have O3:=Lib.hid (own_mono o3 (show w.heap.size + 1 ≤ w2.heap.size by omega))
 have l3:=B3.out.lt
 have d1:=B3.out.cell 1
 have g1:=B3.out.fz 1
 obtain ⟨ad3,cap3,rfl,_⟩:=own_shape o3
 clear h3 k3 o3
 go_wp2_with fail
 have hB1 : w.heap.size < w1.heap.size:=hAl
 have hg0:=HH.out.bel.size
 obtain ⟨u3,hu3⟩ : ∃ u,u = w3.setCell ⟨w1.heap.size,1,none⟩ (.slice ad3 rs.length cap3):=⟨_,rfl⟩
 have S3u : Sg w0 u3 r l lv q3:=by rw [hu3]; exact S3.out.setNew (by omega) (by omega) 1 _
 have K3u : Keep r w u3:=by rw [hu3]; exact K3.out.setNew (by omega) _
 have B3u : Bk u3 w1.heap.size 39 #[.string nm,.slice ad3 rs.length cap3,.slice none 0 0,.int .i64 pl]:=by rw [hu3]; have:=B3.out.set 1 (.slice ad3 rs.length cap3); simpa using this
 have A3u : Bk u3 w.heap.size 39 #[.string ⟨#[]⟩,.slice none 0 0,.slice none 0 0,.int .i64 0]:=by rw [hu3]; exact A3.out.other (by omega) 1 _
 have O3u:=own_setBk (o:=1) (u:=.slice ad3 rs.length cap3) O3.out B3.out (by decide)
 rw [← hu3] at O3u
 have z3 : w.heap.size + 1 ≤ u3.heap.size:=by have:=A3u.lt; omega
 rw [← hu3]
 refine (HS1.out _ S3u).mono ?_
 rintro e w4 ⟨vb,rfl,h4,k4,o4⟩
 have B4:=Lib.hid (B3u.keep k4 (by omega))
 have A4:=Lib.hid (A3u.keep k4 (by omega))
 have K4:=Lib.hid (K3u.trans k4)
 have S4:=Lib.hid h4
 have O4:=Lib.hid (own_keepG O3u S3u.prs k4 (by decide))
 have P4:=Lib.hid (o4.mono z3)
 have l4:=B4.out.lt
 have d2:=B4.out.cell 2
 have g2:=B4.out.fz 2
 obtain ⟨ad4,cap4,rfl⟩:=sown_shape o4
 clear h4 k4 o4 S3u K3u B3u A3u O3u hu3 S3 K3 B3 A3 O3 d1 g1
 go_wp2_with fail
 obtain ⟨u4,hu4⟩ : ∃ u,u = w4.setCell ⟨w1.heap.size,2,none⟩ (.slice ad4 bs.length cap4):=⟨_,rfl⟩
 have S4u : Sg w0 u4 r l lv q4:=by rw [hu4]; exact S4.out.setNew (by omega) (by omega) 2 _
 have K4u : Keep r w u4:=by rw [hu4]; exact K4.out.setNew (by omega) _
 have B4u : Bk u4 w1.heap.size 39 #[.string nm,.slice ad3 rs.length cap3,.slice ad4 bs.length cap4,.int .i64 pl]:=by rw [hu4]; have:=B4.out.set 2 (.slice ad4 bs.length cap4); simpa using this
 have A4u : Bk u4 w.heap.size 39 #[.string ⟨#[]⟩,.slice none 0 0,.slice none 0 0,.int .i64 0]:=by rw [hu4]; exact A4.out.other (by omega) 2 _
 have O4u:=own_setBk (o:=2) (u:=.slice ad4 bs.length cap4) O4.out B4.out (by decide)
 have P4u:=P4.out.setBk (o:=2) (u:=.slice ad4 bs.length cap4) B4.out (by decide) (by decide)
 rw [← hu4] at O4u P4u
 rw [← hu4]
 refine (HE2.out _ S4u).mono ?_
 rintro e w5 ⟨rfl,h5,k5⟩
 have b5:=B4u.keep k5 (by omega)
 have a5:=A4u.keep k5 (by omega)
 have K5:=Lib.hid (K4u.trans k5)
 have S5:=Lib.hid h5
 have O5:=Lib.hid (own_keepG O4u S4u.prs k5 (by decide))
 have P5:=Lib.hid (sown_keepG P4u S4u.prs k5)
 have y0:=b5.cell 0
 have y1:=b5.cell 1
 have y2:=b5.cell 2
 have y3:=b5.cell 3
 have lB:=b5.lt
 have e0:=a5.cell 0
 have e1:=a5.cell 1
 have e2:=a5.cell 2
 have e3:=a5.cell 3
 have f0:=a5.fz 0
 have f1:=a5.fz 1
 have f2:=a5.fz 2
 have f3:=a5.fz 3
 have lA:=a5.lt
 have A5:=Lib.hid a5
 clear h5 k5 b5 a5 S4u K4u B4u A4u O4u P4u hu4 S4 K4 B4 A4 O4 P4 d2 g2
 go_wp2
 refine bodyPost_ret (v:=.agg #[.string nm,.slice ad3 rs.length cap3,.slice ad4 bs.length cap4,.int .i64 pl]) (results_th rfl _ _ _ _ _ _ _ rfl (A5.out.set4 _ _ _ _)) rfl ⟨_,_,rfl,?_,?_,?_,?_⟩
 ·exact (((S5.out.setNew hg0 (by omega) 0 _).setNew hg0 (by omega) 1 _).setNew hg0 (by omega) 2 _).setNew hg0 (by omega) 3 _
 ·exact (((K5.out.setNew (Nat.le_refl _) _).setNew (Nat.le_refl _) _).setNew (Nat.le_refl _) _).setNew (Nat.le_refl _) _
 ·have j1:=A5.out.set 0 (.string nm)
  have j2:=j1.set 1 (.slice ad3 rs.length cap3)
  have j3:=j2.set 2 (.slice ad4 bs.length cap4)
  exact own_setBk (own_setBk (own_setBk (own_setBk O5.out A5.out (by decide)) j1 (by decide)) j2 (by decide)) j3 (by decide)
 ·have j1:=A5.out.set 0 (.string nm)
  have j2:=j1.set 1 (.slice ad3 rs.length cap3)
  have j3:=j2.set 2 (.slice ad4 bs.length cap4)
  exact (((P5.out.setBk A5.out (by decide) (by decide)).setBk j1 (by decide) (by decide)).setBk j2 (by decide) (by decide)).setBk j3 (by decide) (by decide)
end
def cellsV (x : Vr) : List Value:=[.string x.nm,.int .i64 x.n,.int .i64 x.pl]
def rowV (l : List Vr) : List Value:=l.flatMap cellsV
abbrev TI:=Th × Value × Value
abbrev CI:=Cl × Value
def cellsT (t : TI) : List Value:=[.string t.1.nm,t.2.1,t.2.2,.int .i64 t.1.pl]
def rowT (l : List TI) : List Value:=l.flatMap cellsT
def cellsC (t : CI) : List Value:=[.int .i64 t.1.kind,t.2,.int .i64 t.1.pl]
def rowC (l : List CI) : List Value:=l.flatMap cellsC
theorem rowV_append (a b : List Vr) : rowV (a ++ b) = rowV a ++ rowV b:=by simp [rowV]
theorem rowT_append (a b : List TI) : rowT (a ++ b) = rowT a ++ rowT b:=by simp [rowT]
theorem rowC_append (a b : List CI) : rowC (a ++ b) = rowC a ++ rowC b:=by simp [rowC]
def TIn (w : World) (ts : List TI) : Prop:=∀ t ∈ ts,w.ownsRow 0 9 1 t.2.1 t.1.regs.length (rowB t.1.regs) ∧ SOwn w 0 t.2.2 t.1.body
def CIn (w : World) (ts : List CI) : Prop:=∀ t ∈ ts,w.ownsRow 0 46 5 t.2 t.1.e.length (rowN t.1.e)
def VOwn (w : World) (B : Nat) (v : Value) (xs : List Vr) : Prop:=w.ownsRow B 49 3 v xs.length (rowV xs)
def TOwn (w : World) (B : Nat) (v : Value) (xs : List Th) : Prop:=∃ ts : List TI,ts.map (·.1) = xs ∧ w.ownsRow B 39 4 v ts.length (rowT ts) ∧ TIn w ts
def COwn (w : World) (B : Nat) (v : Value) (xs : List Cl) : Prop:=∃ ts : List CI,ts.map (·.1) = xs ∧ w.ownsRow B 44 3 v ts.length (rowC ts) ∧ CIn w ts
section
variable {w w' : World} {B : Nat} {v : Value}
theorem own_apartE {B' n n' e e' size size' : Nat} {u v : Value} {xs ys : List Value} (h : w.ownsRow B e size u n xs) (h' : w.ownsRow B' e' size' v n' ys) (he : e ≠ e') : u.ownBlock = none ∨ u.ownBlock ≠ v.ownBlock:=by
 rcases h.2 with ⟨rfl,_⟩ | ⟨g,cap,cur,rfl,_,hg,_⟩
 ·exact .inl rfl
 ·right
  rcases h'.2 with ⟨rfl,_⟩ | ⟨g',cap',cur',rfl,_,hg',_⟩
  ·intro h0; cases h0
  ·intro h0
   have e0 : g = g':=Option.some.inj h0
   rw [e0,hg'] at hg
   simp at hg
   exact he hg.2.symm
theorem SOwn.apart {B' n' e' size' : Nat} {u v : Value} {xs : List St} {ys : List Value} (h : SOwn w B u xs) (h' : w.ownsRow B' e' size' v n' ys) (h1 : 42 ≠ e') (h2 : 46 ≠ e') (hg : w.grownBy w' v.ownBlock) : SOwn w' B u xs:=by
 obtain ⟨ts,e1,e2,e3⟩:=h
 exact ⟨ts,e1,e2.kept hg (own_apartE e2 h' h1),fun t ht => ⟨(e3 t ht).1.kept hg (own_apartE (e3 t ht).1 h' h2),(e3 t ht).2.kept hg (own_apartE (e3 t ht).2 h' h2)⟩⟩
theorem TIn.below {ts : List TI} (h : TIn w ts) (hb : Below w.heap.size w w') : TIn w' ts:=fun t ht => ⟨own_below (h t ht).1 hb,(h t ht).2.below hb⟩
theorem CIn.below {ts : List CI} (h : CIn w ts) (hb : Below w.heap.size w w') : CIn w' ts:=fun t ht => own_below (h t ht) hb
theorem TIn.keepG {ts : List TI} {r : Nat} {lv : Value} {a c d : Int} (h : TIn w ts) (hp : Gp w r lv a c d) (hk : Keep r w w') : TIn w' ts:=fun t ht => ⟨own_keepG (h t ht).1 hp hk (by decide),sown_keepG (h t ht).2 hp hk⟩
theorem CIn.keepG {ts : List CI} {r : Nat} {lv : Value} {a c d : Int} (h : CIn w ts) (hp : Gp w r lv a c d) (hk : Keep r w w') : CIn w' ts:=fun t ht => own_keepG (h t ht) hp hk (by decide)
theorem TIn.apart {ts : List TI} {B' n' e' size' : Nat} {v : Value} {ys : List Value} (h : TIn w ts) (h' : w.ownsRow B' e' size' v n' ys) (h0 : 9 ≠ e') (h1 : 42 ≠ e') (h2 : 46 ≠ e') (hg : w.grownBy w' v.ownBlock) : TIn w' ts:=
 fun t ht => ⟨(h t ht).1.kept hg (own_apartE (h t ht).1 h' h0),(h t ht).2.apart h' h1 h2 hg⟩
theorem CIn.apart {ts : List CI} {B' n' e' size' : Nat} {v : Value} {ys : List Value} (h : CIn w ts) (h' : w.ownsRow B' e' size' v n' ys) (h2 : 46 ≠ e') (hg : w.grownBy w' v.ownBlock) : CIn w' ts:=
 fun t ht => (h t ht).kept hg (own_apartE (h t ht) h' h2)
theorem TIn.setBk {ts : List TI} {T b o : Nat} {u : Value} {cs : Array Value} (h : TIn w ts) (hc : Bk w b T cs) (h0 : 9 ≠ T) (h1 : 42 ≠ T) (h2 : 46 ≠ T) : TIn (w.setCell ⟨b,o,none⟩ u) ts:=
 fun t ht => ⟨own_setBk (h t ht).1 hc h0,(h t ht).2.setBk hc h1 h2⟩
theorem CIn.setBk {ts : List CI} {T b o : Nat} {u : Value} {cs : Array Value} (h : CIn w ts) (hc : Bk w b T cs) (h2 : 46 ≠ T) : CIn (w.setCell ⟨b,o,none⟩ u) ts:=
 fun t ht => own_setBk (h t ht) hc h2
theorem TIn.snoc {ts : List TI} {t : TI} (h : TIn w ts) (h1 : w.ownsRow 0 9 1 t.2.1 t.1.regs.length (rowB t.1.regs)) (h2 : SOwn w 0 t.2.2 t.1.body) : TIn w (ts ++ [t]):=fun s hs => by
 rcases List.mem_append.1 hs with h0 | h0
 ·exact h s h0
 ·obtain rfl:=List.mem_singleton.1 h0; exact ⟨h1,h2⟩
theorem CIn.snoc {ts : List CI} {t : CI} (h : CIn w ts) (h1 : w.ownsRow 0 46 5 t.2 t.1.e.length (rowN t.1.e)) : CIn w (ts ++ [t]):=fun s hs => by
 rcases List.mem_append.1 hs with h0 | h0
 ·exact h s h0
 ·obtain rfl:=List.mem_singleton.1 h0; exact h1
theorem TOwn.below {xs : List Th} (h : TOwn w B v xs) (hb : Below w.heap.size w w') : TOwn w' B v xs:=by
 obtain ⟨ts,e1,e2,e3⟩:=h; exact ⟨ts,e1,own_below e2 hb,e3.below hb⟩
theorem COwn.below {xs : List Cl} (h : COwn w B v xs) (hb : Below w.heap.size w w') : COwn w' B v xs:=by
 obtain ⟨ts,e1,e2,e3⟩:=h; exact ⟨ts,e1,own_below e2 hb,e3.below hb⟩
theorem TOwn.keepG {xs : List Th} {r : Nat} {lv : Value} {a c d : Int} (h : TOwn w B v xs) (hp : Gp w r lv a c d) (hk : Keep r w w') : TOwn w' B v xs:=by
 obtain ⟨ts,e1,e2,e3⟩:=h; exact ⟨ts,e1,own_keepG e2 hp hk (by decide),e3.keepG hp hk⟩
theorem COwn.keepG {xs : List Cl} {r : Nat} {lv : Value} {a c d : Int} (h : COwn w B v xs) (hp : Gp w r lv a c d) (hk : Keep r w w') : COwn w' B v xs:=by
 obtain ⟨ts,e1,e2,e3⟩:=h; exact ⟨ts,e1,own_keepG e2 hp hk (by decide),e3.keepG hp hk⟩
theorem TOwn.apart {xs : List Th} {B' n' e' size' : Nat} {u : Value} {ys : List Value} (h : TOwn w B v xs) (h' : w.ownsRow B' e' size' u n' ys) (h9 : 39 ≠ e') (h0 : 9 ≠ e') (h1 : 42 ≠ e') (h2 : 46 ≠ e') (hg : w.grownBy w' u.ownBlock) : TOwn w' B v xs:=by
 obtain ⟨ts,e1,e2,e3⟩:=h; exact ⟨ts,e1,e2.kept hg (own_apartE e2 h' h9),e3.apart h' h0 h1 h2 hg⟩
theorem COwn.apart {xs : List Cl} {B' n' e' size' : Nat} {u : Value} {ys : List Value} (h : COwn w B v xs) (h' : w.ownsRow B' e' size' u n' ys) (h9 : 44 ≠ e') (h2 : 46 ≠ e') (hg : w.grownBy w' u.ownBlock) : COwn w' B v xs:=by
 obtain ⟨ts,e1,e2,e3⟩:=h; exact ⟨ts,e1,e2.kept hg (own_apartE e2 h' h9),e3.apart h' h2 hg⟩
theorem TOwn.setBk {xs : List Th} {T b o : Nat} {u : Value} {cs : Array Value} (h : TOwn w B v xs) (hc : Bk w b T cs) (h9 : 39 ≠ T) (h0 : 9 ≠ T) (h1 : 42 ≠ T) (h2 : 46 ≠ T) : TOwn (w.setCell ⟨b,o,none⟩ u) B v xs:=by
 obtain ⟨ts,e1,e2,e3⟩:=h; exact ⟨ts,e1,own_setBk e2 hc h9,e3.setBk hc h0 h1 h2⟩
theorem COwn.setBk {xs : List Cl} {T b o : Nat} {u : Value} {cs : Array Value} (h : COwn w B v xs) (hc : Bk w b T cs) (h9 : 44 ≠ T) (h2 : 46 ≠ T) : COwn (w.setCell ⟨b,o,none⟩ u) B v xs:=by
 obtain ⟨ts,e1,e2,e3⟩:=h; exact ⟨ts,e1,own_setBk e2 hc h9,e3.setBk hc h2⟩
theorem TOwn.mono {B' : Nat} {xs : List Th} (h : TOwn w B v xs) (hB : B' ≤ B) : TOwn w B' v xs:=by
 obtain ⟨ts,e1,e2,e3⟩:=h; exact ⟨ts,e1,own_mono e2 hB,e3⟩
theorem COwn.mono {B' : Nat} {xs : List Cl} (h : COwn w B v xs) (hB : B' ≤ B) : COwn w B' v xs:=by
 obtain ⟨ts,e1,e2,e3⟩:=h; exact ⟨ts,e1,own_mono e2 hB,e3⟩
theorem TOwn.shape {xs : List Th} (h : TOwn w B v xs) : ∃ ad cap,v = .slice ad xs.length cap:=by
 obtain ⟨ts,h1,h2,_⟩:=h
 obtain ⟨ad,cap,h3,_⟩:=own_shape h2
 exact ⟨ad,cap,by rw [h3,← h1,List.length_map]⟩
theorem COwn.shape {xs : List Cl} (h : COwn w B v xs) : ∃ ad cap,v = .slice ad xs.length cap:=by
 obtain ⟨ts,h1,h2,_⟩:=h
 obtain ⟨ad,cap,h3,_⟩:=own_shape h2
 exact ⟨ad,cap,by rw [h3,← h1,List.length_map]⟩
end
structure POwn (w : World) (B : Nat) (a b c : Value) (g : Pg) : Prop where
 l : VOwn w B a g.locs
 t : TOwn w B b g.ths
 c : COwn w B c g.cls
section
variable {w w' : World} {B : Nat} {x y z : Value} {g : Pg}
theorem POwn.below (h : POwn w B x y z g) (hb : Below w.heap.size w w') : POwn w' B x y z g:=⟨own_below h.l hb,h.t.below hb,h.c.below hb⟩
theorem POwn.keepG {r : Nat} {lv : Value} {a c d : Int} (h : POwn w B x y z g) (hp : Gp w r lv a c d) (hk : Keep r w w') : POwn w' B x y z g:=⟨own_keepG h.l hp hk (by decide),h.t.keepG hp hk,h.c.keepG hp hk⟩
theorem POwn.setBk {b o : Nat} {u : Value} {cs : Array Value} (h : POwn w B x y z g) (hc : Bk w b 27 cs) : POwn (w.setCell ⟨b,o,none⟩ u) B x y z g:=
 ⟨own_setBk h.l hc (by decide),h.t.setBk hc (by decide) (by decide) (by decide) (by decide),h.c.setBk hc (by decide) (by decide)⟩
theorem POwn.nil (w : World) (B : Nat) (m : Int) : POwn w B (.slice none 0 0) (.slice none 0 0) (.slice none 0 0) ⟨m,[],[],[]⟩:=
 ⟨World.ownsRow_nil _ _ _ _,⟨[],rfl,World.ownsRow_nil _ _ _ _,fun t ht => by cases ht⟩,⟨[],rfl,World.ownsRow_nil _ _ _ _,fun t ht => by cases ht⟩⟩
end
structure Fr (w0 wb W : World) (r pb rb xb ib : Nat) (s : ByteArray) (l : List Tok) (lv : Value) (q : Pq) (cs : Array Value) : Prop where
 sg : Sg w0 W r l lv q
 kp : Keep r wb W
 pv : Cel W pb 98 (.pointer (some ⟨r,0,none⟩))
 rv : Bk W rb 27 #[.int .i64 0,.slice none 0 0,.slice none 0 0,.slice none 0 0]
 xv : Bk W xb 27 cs
 iv : StrR W ib s
 ne : pb ≠ r ∧ xb ≠ r ∧ rb ≠ r ∧ ib ≠ r ∧ wb.heap.size ≤ pb ∧ wb.heap.size ≤ xb ∧ wb.heap.size ≤ rb ∧ wb.heap.size ≤ ib ∧ pb ≠ xb ∧ rb ≠ xb ∧ ib ≠ xb ∧ w0.heap.size ≤ wb.heap.size
theorem bk_grown {W W' : World} {B e size n b T : Nat} {v : Value} {xs : List Value} {cs : Array Value} (hv : W.ownsRow B e size v n xs) (h : Bk W b T cs) (hT : e ≠ T) (hg : W.grownBy W' v.ownBlock) : Bk W' b T cs:=by
 have hx : v.ownBlock ≠ some b:=own_noBk hv h hT
 have hl:=h.lt
 unfold Bk at *
 rw [hg.block b hl (fun e => hx e.symm)]
 exact h
section
variable {w0 wb W W' : World} {r pb rb xb ib : Nat} {s : ByteArray} {l : List Tok} {lv : Value} {q q2 : Pq} {cs : Array Value}
theorem Fr.below (h : Fr w0 wb W r pb rb xb ib s l lv q cs) (hb : Below W.heap.size W W') : Fr w0 wb W' r pb rb xb ib s l lv q cs:=⟨h.sg.below hb,h.kp.below hb,h.pv.below hb,h.rv.below hb,h.xv.below hb,h.iv.below hb,h.ne⟩
theorem Fr.call (h : Fr w0 wb W r pb rb xb ib s l lv q cs) (hs : Sg w0 W' r l lv q2) (hk : Keep r W W') : Fr w0 wb W' r pb rb xb ib s l lv q2 cs:=⟨hs,h.kp.trans hk,h.pv.keep hk h.ne.1,h.rv.keep hk h.ne.2.2.1,h.xv.keep hk h.ne.2.1,h.iv.keep hk h.ne.2.2.2.1,h.ne⟩
theorem Fr.grown {e size n : Nat} {v : Value} {xs : List Value} (h : Fr w0 wb W r pb rb xb ib s l lv q cs) (hv : W.ownsRow wb.heap.size e size v n xs) (h1 : e ≠ 54) (h2 : e ≠ 98) (h3 : e ≠ 27) (h4 : e ≠ 9) (hg : W.grownBy W' v.ownBlock) : Fr w0 wb W' r pb rb xb ib s l lv q cs:=by
 obtain ⟨sg,kp,pv,rv,xv,iv,ne⟩:=h
 have hlt:=hv.lt
 have hgp : Gp W' r lv q.n q.k q.a:=bk_grown (cs:=#[lv,.int .i64 q.n,.int .i64 q.k,.int .i64 q.a]) hv sg.prs h1 hg
 exact ⟨⟨hgp,sg.bel.grown hg sg.bel.size (fun k hk => by have:=(hlt k hk).1; have:=ne.2.2.2.2.2.2.2.2.2.2.2; omega),sg.hr,sg.ok⟩,keep_grown kp hg (fun k hk => (hlt k hk).1),bk_grown (cs:=#[.pointer (some ⟨r,0,none⟩)]) hv pv h2 hg,bk_grown hv rv h3 hg,bk_grown hv xv h3 hg,bk_grown (cs:=#[.string s]) hv iv h4 hg,ne⟩
theorem Fr.set (h : Fr w0 wb W r pb rb xb ib s l lv q cs) (k : Nat) (u : Value) : Fr w0 wb (W.setCell ⟨xb,k,none⟩ u) r pb rb xb ib s l lv q (cs.setIfInBounds k u):=
 ⟨h.sg.setNew (by have:=h.ne; omega) h.ne.2.1 k u,h.kp.setNew h.ne.2.2.2.2.2.1 u,h.pv.other h.ne.2.2.2.2.2.2.2.2.1 u,h.rv.other h.ne.2.2.2.2.2.2.2.2.2.1 k u,h.xv.set k u,Bk.other (cs:=#[.string s]) h.iv h.ne.2.2.2.2.2.2.2.2.2.2.1 k u,h.ne⟩
structure Fg (w0 wb W : World) (r pb rb xb ib : Nat) (s : ByteArray) (l : List Tok) (lv : Value) (q : Pq) (g : Pg) : Prop where
 h : ∃ a b c,Fr w0 wb W r pb rb xb ib s l lv q #[.int .i64 g.mod,a,b,c] ∧ POwn W wb.heap.size a b c g
 len : g.locs.length + g.ths.length + g.cls.length ≤ q.n
theorem Fg.sg {g : Pg} (h : Fg w0 wb W r pb rb xb ib s l lv q g) : Sg w0 W r l lv q:=by obtain ⟨a,b,c,h,_⟩:=h.h; exact h.sg
theorem Fg.below {g : Pg} (h : Fg w0 wb W r pb rb xb ib s l lv q g) (hb : Below W.heap.size W W') : Fg w0 wb W' r pb rb xb ib s l lv q g:=by
 obtain ⟨⟨a,b,c,h1,h2⟩,hl⟩:=h
 exact ⟨⟨a,b,c,h1.below hb,h2.below hb⟩,hl⟩
theorem Fg.next {g : Pg} (h : Fg w0 wb W r pb rb xb ib s l lv q g) (hlt : q.n < l.length) : Fg w0 wb (W.setCell ⟨r,1,none⟩ (.int .i64 ((q.n : Int) + 1))) r pb rb xb ib s l lv ⟨q.n + 1,q.k,q.a⟩ g:=by
 obtain ⟨⟨a,b,c,h1,h2⟩,hl⟩:=h
 have hs:=h1.sg.setN ⟨q.n + 1,q.k,q.a⟩ rfl rfl (Pq.step h1.sg.ok hlt)
 have hk:=(Keep.refl r W).setCell 1 (.int .i64 ((q.n : Int) + 1))
 exact ⟨⟨a,b,c,h1.call hs hk,h2.keepG h1.sg.prs hk⟩,by show _ ≤ q.n + 1; omega⟩
end
theorem sown_one {w : World} {B : Nat} {v : Value} {xs : List St} (h : SOwn w B v xs) : v.oneCell' = true:=by
 obtain ⟨ad,cap,rfl⟩:=sown_shape h; rfl
theorem below_a {w w' : World} {o : Obj} (h : Below (w.alloc o).heap.size (w.alloc o) w') : Below w.heap.size w w':=((Below.refl _ _).alloc (Nat.le_refl _) _).trans (h.mono (by rw [alloc_size]; omega))
theorem below_t {B : Nat} {w w1 w2 : World} (h : Below B w w1) (h2 : Below w1.heap.size w1 w2) (hB : B ≤ w.heap.size) : Below B w w2:=h.trans (h2.mono (Nat.le_trans hB h.size))
theorem info_var : (Tryz.prog.info? 49).map (fun i => (i.zero,i.size,i.bytes)) = some (some (.agg #[.string ⟨#[]⟩,.int .i64 0,.int .i64 0]),3,32):=by kernel_rfl
theorem info_thr : (Tryz.prog.info? 39).map (fun i => (i.zero,i.size,i.bytes)) = some (some (.agg #[.string ⟨#[]⟩,.slice none 0 0,.slice none 0 0,.int .i64 0]),4,72):=by kernel_rfl
theorem info_clm : (Tryz.prog.info? 44).map (fun i => (i.zero,i.size,i.bytes)) = some (some (.agg #[.int .i64 0,.slice none 0 0,.int .i64 0]),3,40):=by kernel_rfl
end Go.Proofs.YtcghccjnadagcaaGreatDoor
