/- Facts. -/
import Derived.Test.YtcghccjnadagcaaGreatDoorPz
import Derived.Test.YtcghccjnadagcaaGreatDoorPy
import Derived.Test.YtcghccjnadagcaaGreatDoorWd
set_option maxRecDepth 100000
set_option maxHeartbeats 32000000
namespace Go.Proofs.YtcghccjnadagcaaGreatDoor
open Go.RowKit
theorem wrapB_er (e : Ex) (s : List UInt8) : wrapB e.er s = wrapB e s:=by cases e <;> rfl
theorem showE_er (e : Ex) : showE e.er = showE e:=by
 induction e with
 | leaf x => rfl
 | un x a ih => show [33] ++ wrapB a.er (showE a.er) = [33] ++ wrapB a (showE a); rw [wrapB_er,ih]
 | bin x a b iha ihb =>
  show wrapB a.er (showE a.er) ++ [32] ++ sgO x.op.toNat ++ [32] ++ wrapB b.er (showE b.er) = wrapB a (showE a) ++ [32] ++ sgO x.op.toNat ++ [32] ++ wrapB b (showE b)
  rw [wrapB_er,wrapB_er,iha,ihb]
theorem textOf_er {l : List Nd} (h : rightP l) : textOf (l.map Nd.er) = textOf l:=by
 have h':=h
 obtain ⟨e,h1,h2,_⟩:=h'
 rw [textOf_tree _ (right_er h) e.er (e.er_wf h1) (by rw [e.er_flat,h2]),textOf_tree _ h e h1 h2,showE_er]
theorem st_er_txt {x : St} (h : okSt x) : textOf (x.e.map Nd.er) = textOf x.e ∧ textOf (x.f.map Nd.er) = textOf x.f:=by
 have h1:=h.e
 have h2:=h.f
 constructor
 ·by_cases hk : hasE x.kind = true
  ·rw [if_pos hk] at h1; exact textOf_er h1.1
  ·rw [if_neg hk] at h1; rw [h1]; rfl
 ·by_cases hk : hasF x.kind = true
  ·rw [if_pos hk] at h2; exact textOf_er h2.1
  ·rw [if_neg hk] at h2; rw [h2]; rfl
theorem fieldB_er (x : St) (h : textOf (x.e.map Nd.er) = textOf x.e ∧ textOf (x.f.map Nd.er) = textOf x.f) : ∀ cs,fieldB x.er cs = fieldB x cs:=by
 intro cs
 induction cs with
 | nil => rfl
 | cons c cs ih =>
  rw [fieldB,fieldB,ih,show x.er.e = x.e.map Nd.er from rfl,show x.er.f = x.f.map Nd.er from rfl,h.1,h.2]
  rfl
theorem lineB_er (x : St) (h : textOf (x.e.map Nd.er) = textOf x.e ∧ textOf (x.f.map Nd.er) = textOf x.f) : lineB x.er = lineB x:=by
 unfold lineB
 rw [show x.er.kind = x.kind from rfl,fieldB_er x h]
theorem Tr.text_er (t : Tr) (h : ∀ x ∈ t.flat,okSt x) : ∀ d,t.er.text d = t.text d:=by
 induction t with
 | nil => intro d; rfl
 | node s b o r ib io ir =>
  intro d
  rw [Tr.flat] at h
  have hs:=h _ (List.mem_cons_self ..)
  have h1:=ib fun x hx => h x (List.mem_cons_of_mem _ (by simp only [List.mem_append]; simp [hx]))
  have h2:=io fun x hx => h x (List.mem_cons_of_mem _ (by simp only [List.mem_append]; simp [hx]))
  have h3:=ir fun x hx => h x (List.mem_cons_of_mem _ (by simp only [List.mem_append]; simp [hx]))
  have hl : lineB s.er = lineB s:=lineB_er s (show _ from st_er_txt (x:={ s with body:=(b.flat.length : Nat),els:=(o.flat.length : Nat) }) hs)
  have ho : o.er.flat.length = o.flat.length:=by rw [o.er_flat,List.length_map]
  rw [Tr.er,Tr.text,Tr.text,h1,h2,h3,hl,ho,show s.er.kind = s.kind from rfl]
theorem textS_er {l : List St} (h : rightS l) (d : Nat) : textS (l.map St.er) d = textS l d:=by
 have h':=h
 obtain ⟨_,t,h2,h3,_⟩:=h'
 rw [textS_tree (rightS_er h) t.er (by rw [t.er_flat,h2]) d,textS_tree h t h2 d,t.text_er (by rw [h2]; exact h3)]
theorem flat_er {α : Type} {f : α → List UInt8} {g : α → α} : ∀ (l : List α),(∀ x ∈ l,f (g x) = f x) → (l.map g).flatMap f = l.flatMap f:=by
 intro l
 induction l with
 | nil => intro _; rfl
 | cons a l ih =>
  intro h
  rw [List.map_cons,List.flatMap_cons,List.flatMap_cons,h a (List.mem_cons_self ..),ih fun x hx => h x (List.mem_cons_of_mem _ hx)]
theorem textP_er {g : Pg} (h : okP g) : textP g.er = textP g:=by
 unfold textP
 rw [if_pos ((rightPB_ok g.er).2 (okP_er h)),if_pos ((rightPB_ok g).2 h)]
 show [109,111,100,32] ++ dg g.mod ++ [59,10] ++ (g.locs.map Vr.er).flatMap showV ++ (g.ths.map Th.er).flatMap showT ++ (g.cls.map Cl.er).flatMap showC = _
 rw [flat_er (f:=showV) (g:=Vr.er) g.locs fun x _ => rfl,flat_er (f:=showT) (g:=Th.er) g.ths fun x hx => ?_,flat_er (f:=showC) (g:=Cl.er) g.cls fun x hx => ?_]
 ·unfold showC
  rw [show x.er.e = x.e.map Nd.er from rfl,textOf_er (h.c x hx).e]
  rfl
 ·unfold showT
  rw [show x.er.body = x.body.map St.er from rfl,textS_er (h.t x hx).bd]
  rfl
theorem textP_alike {g h : Pg} (hg : okP g) (hh : okP h) (he : g.er = h.er) : textP g = textP h:=by rw [← textP_er hg,← textP_er hh,he]
theorem prog_round {g : Pg} (hg : okP g) (hl : (textP g).length ≤ 20000) : ∃ g',parseG (textP g) = (g',0,0) ∧ g'.er = g.er ∧ okP g' ∧ textP g' = textP g:=by
 obtain ⟨g',h1,h2⟩:=prog_back hg hl
 have h3:=((parse_good (textP g)).1 (by rw [h1])).1
 rw [h1] at h3
 exact ⟨g',h1,h2,h3,textP_alike h3 hg h2⟩
def lightL (l : List St) : Bool:=decide (l.length ≤ 60) && l.all lightSt
theorem lightS_map (ss : List SI) : lightS ss = lightL (ss.map (·.1)):=by
 unfold lightS lightL
 rw [List.length_map,List.all_map]
 rfl
def lightT (x : TI) : Bool:=decide (x.1.nm.size ≤ 100) && (decide (x.1.regs.length ≤ 20) && (lightL x.1.body && x.1.regs.all fun s => decide (s.size ≤ 100)))
def lightP (vs : List Vr) (ts : List TI) (cs : List CI) : Bool:=
 decide (vs.length ≤ 20 ∧ ts.length ≤ 8 ∧ cs.length ≤ 12) && (vs.all (fun x => decide (x.nm.size ≤ 100)) && (ts.all lightT && cs.all fun c => lightB c.1.e))
def BigL (l : List St) : Prop:=l.length ≤ maxLen ∧ ∀ s ∈ l,s.e.length ≤ maxLen ∧ s.f.length ≤ maxLen
theorem bigOK_of {ss : List SI} {l : List St} (h : ss.map (·.1) = l) (hl : BigL l) : BigOK ss:=by
 subst h
 exact ⟨by simpa using hl.1,fun t ht => hl.2 t.1 (List.mem_map_of_mem ht)⟩
def BigT (x : TI) : Prop:=x.1.regs.length ≤ maxLen ∧ BigL x.1.body
structure PgL (w : World) (pv : Value) (m : Int) (vs : List Vr) (ts : List TI) (cs : List CI) : Prop where
 v : ∃ lv tv cv,pv = .agg #[.int .i64 m,lv,tv,cv] ∧ VrsD w lv vs ∧ ThsD w tv ts ∧ ClsD w cv cs
 n1 : vs.length ≤ maxLen
 n2 : ts.length ≤ maxLen
 n3 : cs.length ≤ maxLen
 n4 : ∀ x ∈ ts,BigT x
 n5 : ∀ c ∈ cs,c.1.e.length ≤ maxLen
theorem all_drop {α : Type} (p : α → Bool) (l : List α) (k : Nat) (h : k < l.length) : (l.drop k).all p = (p l[k] && (l.drop (k + 1)).all p):=by
 rw [List.drop_eq_getElem_cons h,List.all_cons]
theorem all_end {α : Type} (p : α → Bool) (l : List α) (k : Nat) (h : ¬ k < l.length) : (l.drop k).all p = true:=by
 rw [List.drop_eq_nil_of_le (by omega)]; rfl
theorem light4_many (pv : Value) (m : Int) (vs : List Vr) (ts : List TI) (cs : List CI) (w : World) (hp : PgL w pv m vs ts cs) (hb : ¬ (vs.length ≤ 20 ∧ ts.length ≤ 8 ∧ cs.length ≤ 12)) :
  Calls Tryz.prog 12 #[pv] w fun e w' => e = .returned (.bool false) ∧ Below w.heap.size w w':=by
 obtain ⟨lv,tv,cv,rfl,h1,h2,h3⟩:=hp.v
 obtain ⟨n1,n2,n3⟩:=(⟨hp.n1,hp.n2,hp.n3⟩ : vs.length ≤ maxLen ∧ ts.length ≤ maxLen ∧ cs.length ≤ maxLen)
 have BB : Hid (Below w.heap.size w (w.alloc (.cells #[.int .i64 m,lv,tv,cv] 27))):=Lib.hid ((Below.refl _ _).alloc (Nat.le_refl _) _)
 obtain ⟨ad1,cap1,rfl⟩:=h1.shape
 obtain ⟨ad2,cap2,rfl⟩:=h2.shape
 obtain ⟨ad3,cap3,rfl⟩:=h3.shape
 unfold maxLen at n1 n2 n3
 generalize vs.length = a at *
 generalize ts.length = b at *
 generalize cs.length = c at *
 clear h1 h2 h3 hp
 by_cases g1 : 20 < a
 ·have q1 : decide ((20 : Int) < (a : Int)) = true:=decide_eq_true (by omega)
  have q2 : decide (20 < a) = true:=decide_eq_true (by omega)
  go_enter Tryz.func12,Tryz.ntmps12
  go_wp2
  go_ret
  exact ⟨rfl,BB.out⟩
 ·have q1 : decide ((20 : Int) < (a : Int)) = false:=decide_eq_false (by omega)
  have q2 : decide (20 < a) = false:=decide_eq_false (by omega)
  by_cases g2 : 8 < b
  ·have q3 : decide ((8 : Int) < (b : Int)) = true:=decide_eq_true (by omega)
   have q4 : decide (8 < b) = true:=decide_eq_true (by omega)
   go_enter Tryz.func12,Tryz.ntmps12
   go_wp2
   go_ret
   exact ⟨rfl,BB.out⟩
  ·have q3 : decide ((8 : Int) < (b : Int)) = false:=decide_eq_false (by omega)
   have q4 : decide (8 < b) = false:=decide_eq_false (by omega)
   have q5 : decide ((12 : Int) < (c : Int)) = true:=decide_eq_true (by omega)
   have q6 : decide (12 < c) = true:=decide_eq_true (by omega)
   go_enter Tryz.func12,Tryz.ntmps12
   go_wp2
   go_ret
   exact ⟨rfl,BB.out⟩
theorem light4_few (pv : Value) (m : Int) (vs : List Vr) (ts : List TI) (cs : List CI) (w : World) (hp : PgL w pv m vs ts cs) (ha : vs.length ≤ 20) (hbb : ts.length ≤ 8) (hcc : cs.length ≤ 12) (R : Bool) (hR : (vs.all (fun x => decide (x.nm.size ≤ 100)) && (ts.all lightT && cs.all fun c => lightB c.1.e)) = R) :
  Calls Tryz.prog 12 #[pv] w fun e w' => e = .returned (.bool R) ∧ Below w.heap.size w w':=by
 obtain ⟨lv,tv,cv,rfl,h1,h2,h3⟩:=hp.v
 have N4:=Lib.hid hp.n4
 have N5:=Lib.hid hp.n5
 have BB : Hid (Below w.heap.size w (w.alloc (.cells #[.int .i64 m,lv,tv,cv] 27))):=Lib.hid ((Below.refl _ _).alloc (Nat.le_refl _) _)
 have KB:=Lib.hid (Bk.new w 27 #[.int .i64 m,lv,tv,cv])
 have HV:=Lib.hid (VrsD.below h1 BB.out)
 have HT:=Lib.hid (ThsD.below h2 BB.out)
 have HC:=Lib.hid (ClsD.below h3 BB.out)
 obtain ⟨ad1,cap1,rfl⟩:=h1.shape
 obtain ⟨ad2,cap2,rfl⟩:=h2.shape
 obtain ⟨ad3,cap3,rfl⟩:=h3.shape
 obtain ⟨a,hna⟩ : ∃ n,n = vs.length:=⟨_,rfl⟩
 obtain ⟨b,hnb⟩ : ∃ n,n = ts.length:=⟨_,rfl⟩
 obtain ⟨c,hnc⟩ : ∃ n,n = cs.length:=⟨_,rfl⟩
 rw [← hna] at BB KB ha HV HT HC ⊢
 rw [← hnb] at BB KB hbb HV HT HC ⊢
 rw [← hnc] at BB KB hcc HV HT HC ⊢
 have HNA:=Lib.hid hna
 have HNB:=Lib.hid hnb
 have HNC:=Lib.hid hnc
 have HR0 : Hid (((vs.drop 0).all (fun x => decide (x.nm.size ≤ 100)) && (ts.all lightT && cs.all fun c => lightB c.1.e)) = R):=Lib.hid hR
 have q1 : decide ((20 : Int) < (a : Int)) = false:=decide_eq_false (by omega)
 have q2 : decide (20 < a) = false:=decide_eq_false (by omega)
 have q3 : decide ((8 : Int) < (b : Int)) = false:=decide_eq_false (by omega)
 have q4 : decide (8 < b) = false:=decide_eq_false (by omega)
 have q5 : decide ((12 : Int) < (c : Int)) = false:=decide_eq_false (by omega)
 have q6 : decide (12 < c) = false:=decide_eq_false (by omega)
 obtain ⟨wb,hwb⟩ : ∃ wb,wb = w.alloc (.cells #[.int .i64 m,.slice ad1 a cap1,.slice ad2 b cap2,.slice ad3 c cap3] 27):=⟨_,rfl⟩
 rw [← hwb] at BB KB HV HT HC
 have HWB:=Lib.hid hwb
 clear h1 h2 h3 hp hna hnb hnc hR hwb
 go_enter Tryz.func12,Tryz.ntmps12
 go_wp2_with fail
 rw [← HWB.out]
 have e1:=KB.out.cell 1
 have e2:=KB.out.cell 2
 have e3:=KB.out.cell 3
 have kl:=KB.out.lt
 go_loopg [3] a (fun fuel i' wr => ∃ k : Nat,i' = .int .i64 k ∧ k ≤ a ∧ a - k ≤ fuel ∧ ((vs.drop k).all (fun x => decide (x.nm.size ≤ 100)) && (ts.all lightT && cs.all fun c => lightB c.1.e)) = R ∧ wb = wr)
 case atStart => exact ⟨0,rfl,Nat.zero_le _,Nat.le_refl _,HR0.out,rfl⟩
 case round =>
  obtain ⟨k,rfl,hk,hf,hr,rfl⟩:=hrel
  have HR:=Lib.hid hr
  clear hr
  by_cases hlt : k < a
  ·have hk' : k < vs.length:=by have:=HNA.out; omega
   have HD:=Lib.hid (all_drop (fun x : Vr => decide (x.nm.size ≤ 100)) vs k hk')
   obtain ⟨adv,capv,hvv,hcv1,hcv2,hcv⟩:=HV.out
   obtain ⟨rfl,hzz,rfl⟩:=Value.slice.inj hvv
   clear hzz
   obtain ⟨g,off,rfl,hbl,c0,c1,c2⟩:=hcv k hk'
   obtain ⟨⟨xn,xv,xp⟩,hx⟩ : ∃ x,x = vs[k]:=⟨_,rfl⟩
   rw [← hx] at c0 c1 c2 HD
   simp only [] at c0 c1 c2 HD
   clear hx hvv hcv hcv1 hcv2
   by_cases g4 : 100 < xn.size
   ·have hrr:=HR.out
    rw [HD.out,decide_eq_false (by omega : ¬ xn.size ≤ 100),Bool.false_and,Bool.false_and] at hrr
    subst hrr
    go_wp2
    go_ret
    exact ⟨rfl,BB.out⟩
   ·have hrr:=HR.out
    rw [HD.out,decide_eq_true (by omega : xn.size ≤ 100),Bool.true_and] at hrr
    have HR2:=Lib.hid hrr
    clear hrr
    go_wp2
    go_roundg (gk - 1)
    case measure => omega
    case rel => exact ⟨k + 1,by go_num,by omega,by omega,HR2.out,rfl⟩
  ·have hrr:=HR.out
   rw [all_end _ _ _ (by have:=HNA.out; omega),Bool.true_and] at hrr
   have HR2 : Hid (((ts.drop 0).all lightT && cs.all fun c => lightB c.1.e) = R):=Lib.hid hrr
   clear hrr HR
   go_wp2_with fail
   go_loopg [4] b (fun fuel i' wr => ∃ k : Nat,i' = .int .i64 k ∧ k ≤ b ∧ b - k ≤ fuel ∧ ((ts.drop k).all lightT && cs.all fun c => lightB c.1.e) = R ∧ Below wb.heap.size wb wr)
   case atStart => exact ⟨0,rfl,Nat.zero_le _,Nat.le_refl _,HR2.out,Below.refl _ _⟩
   case round =>
    obtain ⟨k2,rfl,hk2,hf2,hr,hb2⟩:=hrel
    obtain ⟨gk2,hgk2⟩ : ∃ g,g = gk:=⟨_,rfl⟩
    have HR3:=Lib.hid hr
    have HB2:=Lib.hid hb2
    have hsz2:=hb2.size
    clear hr
    have hq1:=(KB.out.below hb2).cell 1
    have hq2:=(KB.out.below hb2).cell 2
    have hq3:=(KB.out.below hb2).cell 3
    have hql:=(KB.out.below hb2).lt
    obtain ⟨w3,hw3⟩ : ∃ w3,w3 = wr:=⟨_,rfl⟩
    rw [← hw3] at hb2 hsz2 HB2 hq1 hq2 hq3 hql ⊢
    clear hw3 e1 e2 e3 kl
    by_cases hlt2 : k2 < b
    ·have hk' : k2 < ts.length:=by have:=HNB.out; omega
     have HD:=Lib.hid (all_drop lightT ts k2 hk')
     have hbig:=N4.out _ (List.getElem_mem hk')
     obtain ⟨adv,capv,hvv,hcv1,hcv2,hcv⟩:=HT.out
     obtain ⟨rfl,hzz,rfl⟩:=Value.slice.inj hvv
     clear hzz
     obtain ⟨g,off,rfl,hbl,⟨x0,x1,x2,x3⟩,hst,ss,hss,hsts⟩:=hcv k2 hk'
     obtain ⟨⟨⟨xn,tr,bd,tp⟩,trv,tbv⟩,hx⟩ : ∃ x : TI,x = ts[k2]'hk':=⟨_,rfl⟩
     rw [← hx] at x0 x1 x2 x3 HD hst hss hsts hbig
     simp only [] at x0 x1 x2 x3 HD hst hss hsts hbig
     obtain ⟨hbr,hbs0⟩ : tr.length ≤ maxLen ∧ BigL bd:=hbig
     have hbs : BigOK ss:=bigOK_of hss hbs0
     obtain ⟨tba,tbl,tbc,rfl⟩ : ∃ a l c,tbv = .slice a l c:=by obtain ⟨a,c,h,_⟩:=hsts; exact ⟨a,_,c,h⟩
     unfold maxLen at hbr
     have HS:=Lib.hid hst
     obtain ⟨ra,rc,rfl⟩:=hst.shape
     obtain ⟨nr,hnr⟩ : ∃ n,n = tr.length:=⟨_,rfl⟩
     rw [← hnr] at x1 hbr HS HD
     have HNR:=Lib.hid hnr
     have c0 : w3.cell? ⟨g,off + k2 * 4,none⟩ = some (.string xn):=(hb2.cell (p:=⟨g,_,none⟩) hbl).trans x0
     have c1 : w3.cell? ⟨g,off + k2 * 4 + 1,none⟩ = some (.slice ra nr rc):=(hb2.cell (p:=⟨g,_,none⟩) hbl).trans x1
     have c2 : w3.cell? ⟨g,off + k2 * 4 + 2,none⟩ = some (.slice tba tbl tbc):=(hb2.cell (p:=⟨g,_,none⟩) hbl).trans x2
     have c3 : w3.cell? ⟨g,off + k2 * 4 + 3,none⟩ = some (.int .i64 tp):=(hb2.cell (p:=⟨g,_,none⟩) hbl).trans x3
     have HL:=Lib.hid (fun (W : World) (h : Below wb.heap.size wb W) (b : Bool) (hb : lightL bd = b) => lightS_any ss (.slice tba tbl tbc) W (hsts.below h) hbs b (by rw [lightS_map,hss]; exact hb))
     have HRS:=Lib.hid (fun (W : World) (h : Below wb.heap.size wb W) => StrsD.below hst h)
     obtain ⟨w4,hw4⟩ : ∃ w4,w4 = w3.alloc (.cells #[.string xn,.slice ra nr rc,.slice tba tbl tbc,.int .i64 tp] 39):=⟨_,rfl⟩
     have K4 : Hid (Bk w4 w3.heap.size 39 #[.string xn,.slice ra nr rc,.slice tba tbl tbc,.int .i64 tp]):=Lib.hid (by rw [hw4]; exact Bk.new w3 _ _)
     have B4 : Hid (Below wb.heap.size wb w4):=Lib.hid (by rw [hw4]; exact hb2.alloc hsz2 _)
     have hnr':=hx
     clear x0 x1 x2 x3 hx hvv hcv hcv1 hcv2 hst hsts hbs hnr hb2
     have HLT : Hid ((decide (xn.size ≤ 100) && (decide (nr ≤ 20) && (lightL bd && tr.all fun s => decide (s.size ≤ 100)))) = lightT ((⟨xn,tr,bd,tp⟩,.slice ra nr rc,.slice tba tbl tbc) : TI)):=Lib.hid (by unfold lightT; simp only []; rw [HNR.out])
     clear hnr'
     by_cases g1 : 100 < xn.size
     ·have hrr:=HR3.out
      rw [HD.out,← HLT.out,decide_eq_false (by omega : ¬ xn.size ≤ 100),Bool.false_and,Bool.false_and,Bool.false_and] at hrr
      subst hrr
      go_wp2
      go_ret
      exact ⟨rfl,BB.out.trans ((HB2.out.alloc hsz2 _).mono BB.out.size)⟩
     ·by_cases g2 : 20 < nr
      ·have hrr:=HR3.out
       rw [HD.out,← HLT.out,decide_eq_false (by omega : ¬ nr ≤ 20),Bool.false_and,Bool.and_false,Bool.false_and,Bool.false_and] at hrr
       subst hrr
       have q7 : decide ((20 : Int) < (nr : Int)) = true:=decide_eq_true (by omega)
       have q8 : decide (20 < nr) = true:=decide_eq_true (by omega)
       go_wp2
       go_ret
       exact ⟨rfl,BB.out.trans ((HB2.out.alloc hsz2 _).mono BB.out.size)⟩
      ·have q7 : decide ((20 : Int) < (nr : Int)) = false:=decide_eq_false (by omega)
       have q8 : decide (20 < nr) = false:=decide_eq_false (by omega)
       obtain ⟨bs,hbs⟩ : ∃ b,lightL bd = b:=⟨_,rfl⟩
       have hl2:=HLT.out
       rw [hbs,decide_eq_true (by omega : xn.size ≤ 100),decide_eq_true (by omega : nr ≤ 20),Bool.true_and,Bool.true_and] at hl2
       have HL3:=Lib.hid (HL.out w4 B4.out bs hbs)
       have HW4:=Lib.hid hw4
       have HLT2:=Lib.hid hl2
       clear hl2 hbs hw4 HL HLT
       go_wp2_with fail
       rw [← HW4.out]
       refine HL3.out.mono ?_
       rintro e5 w5 ⟨rfl,b5⟩
       have B5:=Lib.hid (B4.out.trans (b5.mono B4.out.size))
       have K5:=Lib.hid (K4.out.below b5)
       clear b5
       have hrr:=HR3.out
       rw [HD.out,← HLT2.out] at hrr
       cases bs with
       | false =>
        rw [Bool.false_and,Bool.false_and] at hrr
        subst hrr
        go_wp2
        go_ret
        exact ⟨rfl,BB.out.trans (B5.out.mono BB.out.size)⟩
       | true =>
        rw [Bool.true_and] at hrr
        have HR5 : Hid (((tr.drop 0).all (fun s => decide (s.size ≤ 100)) && ((ts.drop (k2 + 1)).all lightT && cs.all fun c => lightB c.1.e)) = R):=Lib.hid (by rw [← hrr,Bool.and_assoc]; rfl)
        have u0:=K5.out.cell 0
        have u1:=K5.out.cell 1
        have u2:=K5.out.cell 2
        have u3:=K5.out.cell 3
        have ul:=K5.out.lt
        have hq1:=(KB.out.below B5.out).cell 1
        have hq2:=(KB.out.below B5.out).cell 2
        have hq3:=(KB.out.below B5.out).cell 3
        have hql:=(KB.out.below B5.out).lt
        have HS5:=Lib.hid (HRS.out w5 B5.out)
        clear hrr HLT2 HL3 HW4 HD HR3 c0 c1 c2 c3
        go_wp2_with fail
        go_loopg [6] nr (fun fuel i' wr => ∃ k3 : Nat,i' = .int .i64 k3 ∧ k3 ≤ nr ∧ nr - k3 ≤ fuel ∧ ((tr.drop k3).all (fun s => decide (s.size ≤ 100)) && ((ts.drop (k2 + 1)).all lightT && cs.all fun c => lightB c.1.e)) = R ∧ w5 = wr)
        case atStart => exact ⟨0,rfl,Nat.zero_le _,Nat.le_refl _,HR5.out,rfl⟩
        case round =>
         obtain ⟨k3,rfl,hk3,hf3,hr,rfl⟩:=hrel
         have HR6:=Lib.hid hr
         clear hr
         by_cases hlt3 : k3 < nr
         ·have hk3' : k3 < tr.length:=by have:=HNR.out; omega
          have HD2:=Lib.hid (all_drop (fun s : ByteArray => decide (s.size ≤ 100)) tr k3 hk3')
          obtain ⟨adr,capr,hvv,hcr1,hcr2,hcr⟩:=HS5.out
          obtain ⟨rfl,hzz,rfl⟩:=Value.slice.inj hvv
          clear hzz
          obtain ⟨g9,off9,rfl,hbl9,y0⟩:=hcr k3 hk3'
          obtain ⟨yn,hy⟩ : ∃ x,x = tr[k3]'hk3':=⟨_,rfl⟩
          rw [← hy] at y0 HD2
          have d0 : w5.cell? ⟨g9,off9 + k3,none⟩ = some (.string yn):=by unfold StrAt at y0; rw [Nat.mul_one] at y0; exact y0
          clear y0 hy hvv hcr hcr1 hcr2
          by_cases g4 : 100 < yn.size
          ·have hrr:=HR6.out
           rw [HD2.out,decide_eq_false (by omega : ¬ yn.size ≤ 100),Bool.false_and,Bool.false_and] at hrr
           subst hrr
           go_wp2
           go_ret
           exact ⟨rfl,BB.out.trans (B5.out.mono BB.out.size)⟩
          ·have hrr:=HR6.out
           rw [HD2.out,decide_eq_true (by omega : yn.size ≤ 100),Bool.true_and] at hrr
           have HR7:=Lib.hid hrr
           clear hrr
           go_wp2
           go_roundg (gk - 1)
           case measure => omega
           case rel => exact ⟨k3 + 1,by go_num,by omega,by omega,HR7.out,rfl⟩
         ·have hrr:=HR6.out
          rw [all_end _ _ _ (by have:=HNR.out; omega),Bool.true_and] at hrr
          have HR7:=Lib.hid hrr
          clear hrr
          go_wp2
          go_roundg (gk2 - 1)
          case measure => omega
          case rel => exact ⟨k2 + 1,by go_num,by omega,by omega,HR7.out,B5.out⟩
    ·have hrr:=HR3.out
     rw [all_end _ _ _ (by have:=HNB.out; omega),Bool.true_and] at hrr
     have HR4 : Hid (((cs.drop 0).all fun c => lightB c.1.e) = R):=Lib.hid hrr
     have HC3:=Lib.hid (ClsD.below HC.out HB2.out)
     clear hrr HR3 hb2
     go_wp2_with fail
     go_loopg [7] c (fun fuel i' wr => ∃ k : Nat,i' = .int .i64 k ∧ k ≤ c ∧ c - k ≤ fuel ∧ ((cs.drop k).all fun c => lightB c.1.e) = R ∧ w3 = wr)
     case atStart => exact ⟨0,rfl,Nat.zero_le _,Nat.le_refl _,HR4.out,rfl⟩
     case round =>
      obtain ⟨k4,rfl,hk4,hf4,hr,rfl⟩:=hrel
      have HR5:=Lib.hid hr
      clear hr
      by_cases hlt4 : k4 < c
      ·have hk' : k4 < cs.length:=by have:=HNC.out; omega
       have HD:=Lib.hid (all_drop (fun c : CI => lightB c.1.e) cs k4 hk')
       have hbig:=N5.out _ (List.getElem_mem hk')
       obtain ⟨adv,capv,hvv,hcv1,hcv2,hcv⟩:=HC3.out
       obtain ⟨rfl,hzz,rfl⟩:=Value.slice.inj hvv
       clear hzz
       obtain ⟨g,off,rfl,hbl,⟨c0,c1,c2⟩,hnd⟩:=hcv k4 hk'
       obtain ⟨⟨⟨xk,xe,xp⟩,xv⟩,hx⟩ : ∃ x : CI,x = cs[k4]'hk':=⟨_,rfl⟩
       rw [← hx] at c0 c1 c2 HD hnd hbig
       simp only [] at c0 c1 c2 HD hnd hbig
       obtain ⟨bl,hbl2⟩ : ∃ b,lightB xe = b:=⟨_,rfl⟩
       have HL:=Lib.hid (light_any xe xv w3 hnd.nds hbig bl hbl2)
       rw [hbl2] at HD
       obtain ⟨ea,ec,hev⟩ : ∃ ea ec,xv = .slice ea xe.length ec:=by obtain ⟨a,c,h,_⟩:=hnd; exact ⟨a,c,h⟩
       clear hvv hcv hcv1 hcv2 hx hnd hbl2 hbig
       subst hev
       generalize xe.length = en at c1 HL
       go_wp2_with fail
       refine HL.out.mono ?_
       rintro e5 w5 ⟨rfl,rfl⟩
       have hrr:=HR5.out
       rw [HD.out] at hrr
       cases bl with
       | false =>
        rw [Bool.false_and] at hrr
        subst hrr
        go_wp2
        go_ret
        exact ⟨rfl,BB.out.trans (HB2.out.mono BB.out.size)⟩
       | true =>
        rw [Bool.true_and] at hrr
        have HR6:=Lib.hid hrr
        clear hrr
        go_wp2
        go_roundg (gk - 1)
        case measure => omega
        case rel => exact ⟨k4 + 1,by go_num,by omega,by omega,HR6.out,rfl⟩
      ·have hrr:=HR5.out
       rw [all_end _ _ _ (by have:=HNC.out; omega)] at hrr
       subst hrr
       go_wp2
       go_ret
       exact ⟨rfl,BB.out.trans (HB2.out.mono BB.out.size)⟩
theorem light4_any (pv : Value) (m : Int) (vs : List Vr) (ts : List TI) (cs : List CI) (w : World) (hp : PgL w pv m vs ts cs) (R : Bool) (hR : lightP vs ts cs = R) :
  Calls Tryz.prog 12 #[pv] w fun e w' => e = .returned (.bool R) ∧ Below w.heap.size w w':=by
 unfold lightP at hR
 by_cases h : vs.length ≤ 20 ∧ ts.length ≤ 8 ∧ cs.length ≤ 12
 ·rw [decide_eq_true h,Bool.true_and] at hR
  exact light4_few pv m vs ts cs w hp h.1 h.2.1 h.2.2 R hR
 ·rw [decide_eq_false h,Bool.false_and] at hR
  subst hR
  exact light4_many pv m vs ts cs w hp h
open Go.ChangeShapes Go.WideShapes Go.ChangeAt Go.RowKit
open Go.ChangeMaps (open_string shut_string)
theorem c_strs : Tryz.prog.cellsOf 36 = 1:=by kernel_rfl
theorem c_sts : Tryz.prog.cellsOf 37 = 1:=by kernel_rfl
theorem c_vars : Tryz.prog.cellsOf 23 = 1:=by kernel_rfl
theorem c_thrs : Tryz.prog.cellsOf 24 = 1:=by kernel_rfl
theorem c_cls : Tryz.prog.cellsOf 25 = 1:=by kernel_rfl
theorem nil_cap {ad : Option Addr} {n cap : Nat} (h : NilOK (.slice ad n cap)) : ad = none → cap = 0:=by
 rintro rfl
 rcases h with h | ⟨_,_,_,h⟩
 ·injection h
 ·injection h with h; cases h
theorem open_strsF {H : Type} {enc : TypeId × Value → H} {W : World} {fuel : Nat} {c : Value} {x : DataW H × List MemPlace} (h : DataW.trod enc Tryz.prog W 0 (fun _ => true) true fuel 36 [c] = some x) :
  ∃ ts : List ByteArray,StrsD W c ts ∧ ts.length ≤ maxLen:=by
 obtain ⟨ts,ad,cap,rfl,h0,h1,h2,h3⟩:=open_gen (α:=ByteArray) (S:=1) ⟨#[]⟩ Tryz.underlying36 (by kernel_rfl) (by decide)
  (fun b off t => StrAt W b off t)
  (fun n cs y b off hy hl hc hb => by
   match cs,hl with
   | [c0],_ =>
    obtain ⟨n0,e0,_⟩:=DataW.trod_string Tryz.underlying9 hy
    have e0' : c0 = _:=(List.cons.inj e0).1
    subst e0'
    exact ⟨n0,hc 0 (by decide)⟩) h
 exact ⟨ts,⟨ad,cap,rfl,⟨h1,nil_cap h0⟩,by unfold maxLen at h2; omega,h3⟩,by omega⟩
theorem cell_var {H : Type} {enc : TypeId × Value → H} {W : World} {n : Nat} {cs : List Value} {x : DataW H × List MemPlace} (h : DataW.trod enc Tryz.prog W 0 (fun _ => true) true n 49 cs = some x) (hl : cs.length = 3) :
  ∃ t : Vr,cs = [.string t.nm,.int .i64 t.n,.int .i64 t.pl]:=by
 obtain ⟨xs,m,_,_,_,hxl,hf⟩:=DataW.trod_struct Tryz.underlying49 h
 match cs,hl with
 | [k0,k1,k2],_ =>
  match xs,hxl with
  | [x0,x1,x2],_ =>
   have f0 : DataW.trod enc Tryz.prog W 0 (fun _ => true) true m 9 (([k0,k1,k2].drop 0).take (Tryz.prog.cellsOf 9)) = some x0:=hf 0 _ rfl
   have f1 : DataW.trod enc Tryz.prog W 0 (fun _ => true) true m 3 (([k0,k1,k2].drop 1).take (Tryz.prog.cellsOf 3)) = some x1:=hf 1 _ rfl
   have f2 : DataW.trod enc Tryz.prog W 0 (fun _ => true) true m 3 (([k0,k1,k2].drop 2).take (Tryz.prog.cellsOf 3)) = some x2:=hf 2 _ rfl
   rw [c_str] at f0
   rw [c_int] at f1 f2
   obtain ⟨n0,e0,_⟩:=DataW.trod_string Tryz.underlying9 f0
   obtain ⟨n1,e1,_⟩:=DataW.trod_int Tryz.underlying3 f1
   obtain ⟨n2,e2,_⟩:=DataW.trod_int Tryz.underlying3 f2
   have e0' : k0 = _:=(List.cons.inj e0).1
   have e1' : k1 = _:=(List.cons.inj e1).1
   have e2' : k2 = _:=(List.cons.inj e2).1
   subst e0' e1' e2'
   exact ⟨⟨n0,n1,n2⟩,rfl⟩
theorem open_varsF {H : Type} {enc : TypeId × Value → H} {W : World} {fuel : Nat} {c : Value} {x : DataW H × List MemPlace} (h : DataW.trod enc Tryz.prog W 0 (fun _ => true) true fuel 23 [c] = some x) :
  ∃ ts : List Vr,VrsD W c ts ∧ ts.length ≤ maxLen:=by
 obtain ⟨ts,ad,cap,rfl,h0,h1,h2,h3⟩:=open_gen (α:=Vr) (S:=3) ⟨⟨#[]⟩,0,0⟩ Tryz.underlying23 (by kernel_rfl) (by decide)
  (fun b off t => VrAt W b off t)
  (fun n cs y b off hy hl hc hb => by
   obtain ⟨t,rfl⟩:=cell_var hy hl
   exact ⟨t,hc 0 (by decide),hc 1 (by decide),hc 2 (by decide)⟩) h
 exact ⟨ts,⟨ad,cap,rfl,⟨h1,nil_cap h0⟩,by unfold maxLen at h2; omega,h3⟩,by omega⟩
theorem cell_thread {H : Type} {enc : TypeId × Value → H} {W : World} {n : Nat} {cs : List Value} {x : DataW H × List MemPlace} (h : DataW.trod enc Tryz.prog W 0 (fun _ => true) true n 39 cs = some x) (hl : cs.length = 4) :
  ∃ t : TI,cs = [.string t.1.nm,t.2.1,t.2.2,.int .i64 t.1.pl] ∧ StrsD W t.2.1 t.1.regs ∧ (∃ ss : List SI,ss.map (·.1) = t.1.body ∧ StsD W t.2.2 ss) ∧ BigT t:=by
 obtain ⟨xs,m,_,_,_,hxl,hf⟩:=DataW.trod_struct Tryz.underlying39 h
 match cs,hl with
 | [k0,k1,k2,k3],_ =>
  match xs,hxl with
  | [x0,x1,x2,x3],_ =>
   have f0 : DataW.trod enc Tryz.prog W 0 (fun _ => true) true m 9 (([k0,k1,k2,k3].drop 0).take (Tryz.prog.cellsOf 9)) = some x0:=hf 0 _ rfl
   have f1 : DataW.trod enc Tryz.prog W 0 (fun _ => true) true m 36 (([k0,k1,k2,k3].drop 1).take (Tryz.prog.cellsOf 36)) = some x1:=hf 1 _ rfl
   have f2 : DataW.trod enc Tryz.prog W 0 (fun _ => true) true m 37 (([k0,k1,k2,k3].drop 2).take (Tryz.prog.cellsOf 37)) = some x2:=hf 2 _ rfl
   have f3 : DataW.trod enc Tryz.prog W 0 (fun _ => true) true m 3 (([k0,k1,k2,k3].drop 3).take (Tryz.prog.cellsOf 3)) = some x3:=hf 3 _ rfl
   rw [c_str] at f0
   rw [c_strs] at f1
   rw [c_sts] at f2
   rw [c_int] at f3
   obtain ⟨n0,e0,_⟩:=DataW.trod_string Tryz.underlying9 f0
   obtain ⟨l1,g1,i1⟩:=open_strsF f1
   obtain ⟨l2,g2,i2,_⟩:=open_stsF f2
   obtain ⟨n3,e3,_⟩:=DataW.trod_int Tryz.underlying3 f3
   have e0' : k0 = _:=(List.cons.inj e0).1
   have e3' : k3 = _:=(List.cons.inj e3).1
   subst e0' e3'
   exact ⟨(⟨n0,l1,l2.map (·.1),n3⟩,k1,k2),rfl,g1,⟨l2,rfl,g2⟩,i1,by rw [List.length_map]; exact i2.1,fun s hs => by obtain ⟨u,hu,rfl⟩:=List.mem_map.1 hs; exact i2.2 u hu⟩
theorem open_threadsF {H : Type} {enc : TypeId × Value → H} {W : World} {fuel : Nat} {c : Value} {x : DataW H × List MemPlace} (h : DataW.trod enc Tryz.prog W 0 (fun _ => true) true fuel 24 [c] = some x) :
  ∃ ts : List TI,ThsD W c ts ∧ ts.length ≤ maxLen ∧ ∀ x ∈ ts,BigT x:=by
 obtain ⟨ts,ad,cap,rfl,h0,h1,h2,h3⟩:=open_gen (α:=TI) (S:=4) (⟨⟨#[]⟩,[],[],0⟩,.bool false,.bool false) Tryz.underlying24 (by kernel_rfl) (by decide)
  (fun b off t => ThAt W b off t ∧ BigT t)
  (fun n cs y b off hy hl hc hb => by
   obtain ⟨t,rfl,g1,g2,g3⟩:=cell_thread hy hl
   exact ⟨t,⟨⟨hc 0 (by decide),hc 1 (by decide),hc 2 (by decide),hc 3 (by decide)⟩,g1,g2⟩,g3⟩) h
 refine ⟨ts,⟨ad,cap,rfl,⟨h1,nil_cap h0⟩,by unfold maxLen at h2; omega,fun i hi => ?_⟩,by omega,fun x hx => ?_⟩
 ·obtain ⟨b,off,g1,g2,g3,_⟩:=h3 i hi
  exact ⟨b,off,g1,g2,g3⟩
 ·obtain ⟨i,hi,rfl⟩:=List.mem_iff_getElem.1 hx
  obtain ⟨b,off,g1,g2,g3,g4⟩:=h3 i hi
  exact g4
theorem cell_claim {H : Type} {enc : TypeId × Value → H} {W : World} {n : Nat} {cs : List Value} {x : DataW H × List MemPlace} (h : DataW.trod enc Tryz.prog W 0 (fun _ => true) true n 44 cs = some x) (hl : cs.length = 3) :
  ∃ t : CI,cs = [.int .i64 t.1.kind,t.2,.int .i64 t.1.pl] ∧ NdsC W t.2 t.1.e ∧ t.1.e.length ≤ maxLen:=by
 obtain ⟨xs,m,_,_,_,hxl,hf⟩:=DataW.trod_struct Tryz.underlying44 h
 match cs,hl with
 | [k0,k1,k2],_ =>
  match xs,hxl with
  | [x0,x1,x2],_ =>
   have f0 : DataW.trod enc Tryz.prog W 0 (fun _ => true) true m 3 (([k0,k1,k2].drop 0).take (Tryz.prog.cellsOf 3)) = some x0:=hf 0 _ rfl
   have f1 : DataW.trod enc Tryz.prog W 0 (fun _ => true) true m 40 (([k0,k1,k2].drop 1).take (Tryz.prog.cellsOf 40)) = some x1:=hf 1 _ rfl
   have f2 : DataW.trod enc Tryz.prog W 0 (fun _ => true) true m 3 (([k0,k1,k2].drop 2).take (Tryz.prog.cellsOf 3)) = some x2:=hf 2 _ rfl
   rw [c_int] at f0 f2
   rw [c_nds] at f1
   obtain ⟨n0,e0,_⟩:=DataW.trod_int Tryz.underlying3 f0
   obtain ⟨l1,g1,i1⟩:=open_ndsF f1
   obtain ⟨n2,e2,_⟩:=DataW.trod_int Tryz.underlying3 f2
   have e0' : k0 = _:=(List.cons.inj e0).1
   have e2' : k2 = _:=(List.cons.inj e2).1
   subst e0' e2'
   exact ⟨(⟨n0,l1,n2⟩,k1),rfl,g1,i1⟩
theorem open_claimsF {H : Type} {enc : TypeId × Value → H} {W : World} {fuel : Nat} {c : Value} {x : DataW H × List MemPlace} (h : DataW.trod enc Tryz.prog W 0 (fun _ => true) true fuel 25 [c] = some x) :
  ∃ ts : List CI,ClsD W c ts ∧ ts.length ≤ maxLen ∧ ∀ x ∈ ts,x.1.e.length ≤ maxLen:=by
 obtain ⟨ts,ad,cap,rfl,h0,h1,h2,h3⟩:=open_gen (α:=CI) (S:=3) (⟨0,[],0⟩,.bool false) Tryz.underlying25 (by kernel_rfl) (by decide)
  (fun b off t => ClAt W b off t ∧ t.1.e.length ≤ maxLen)
  (fun n cs y b off hy hl hc hb => by
   obtain ⟨t,rfl,g1,g2⟩:=cell_claim hy hl
   exact ⟨t,⟨⟨hc 0 (by decide),hc 1 (by decide),hc 2 (by decide)⟩,g1⟩,g2⟩) h
 refine ⟨ts,⟨ad,cap,rfl,⟨h1,nil_cap h0⟩,by unfold maxLen at h2; omega,fun i hi => ?_⟩,by omega,fun x hx => ?_⟩
 ·obtain ⟨b,off,g1,g2,g3,_⟩:=h3 i hi
  exact ⟨b,off,g1,g2,g3⟩
 ·obtain ⟨i,hi,rfl⟩:=List.mem_iff_getElem.1 hx
  obtain ⟨b,off,g1,g2,g3,g4⟩:=h3 i hi
  exact g4
theorem open_prog {H : Type} {enc : TypeId × Value → H} {W : World} {base : Nat} {v : Value} {d : DataW H} {p : List MemPlace} (hv : Value.okWide Tryz.prog W .any base 27 v) (h : DataW.Trod enc Tryz.prog W 0 (fun _ => true) true 27 v d p) :
  ∃ (m : Int) (vs : List Vr) (ts : List TI) (cs : List CI),PgL W v m vs ts cs:=by
 obtain ⟨cs,rfl,hsz⟩:=okWide_struct Tryz.underlying27 hv
 obtain ⟨fuel,hf⟩:=h
 have hf : DataW.trod enc Tryz.prog W 0 (fun _ => true) true fuel 27 cs.toList = some (d,p):=hf
 obtain ⟨xs,m,_,_,_,hxl,hf⟩:=DataW.trod_struct Tryz.underlying27 hf
 have hs4 : Tryz.prog.cellsOf 27 = 4:=by kernel_rfl
 rw [hs4] at hsz
 obtain ⟨l⟩:=cs
 have hl : l.length = 4:=hsz
 match l,hl with
 | [k0,k1,k2,k3],_ =>
  match xs,hxl with
  | [x0,x1,x2,x3],_ =>
   have f0 : DataW.trod enc Tryz.prog W 0 (fun _ => true) true m 3 (([k0,k1,k2,k3].drop 0).take (Tryz.prog.cellsOf 3)) = some x0:=hf 0 _ rfl
   have f1 : DataW.trod enc Tryz.prog W 0 (fun _ => true) true m 23 (([k0,k1,k2,k3].drop 1).take (Tryz.prog.cellsOf 23)) = some x1:=hf 1 _ rfl
   have f2 : DataW.trod enc Tryz.prog W 0 (fun _ => true) true m 24 (([k0,k1,k2,k3].drop 2).take (Tryz.prog.cellsOf 24)) = some x2:=hf 2 _ rfl
   have f3 : DataW.trod enc Tryz.prog W 0 (fun _ => true) true m 25 (([k0,k1,k2,k3].drop 3).take (Tryz.prog.cellsOf 25)) = some x3:=hf 3 _ rfl
   rw [c_int] at f0
   rw [c_vars] at f1
   rw [c_thrs] at f2
   rw [c_cls] at f3
   obtain ⟨n0,e0,_⟩:=DataW.trod_int Tryz.underlying3 f0
   have e0' : k0 = _:=(List.cons.inj e0).1
   subst e0'
   obtain ⟨vs,g1,i1⟩:=open_varsF f1
   obtain ⟨ts,g2,i2,i3⟩:=open_threadsF f2
   obtain ⟨cs,g3,i4,i5⟩:=open_claimsF f3
   exact ⟨n0,vs,ts,cs,⟨⟨_,_,_,rfl,g1,g2,g3⟩,i1,i2,i4,i3,i5⟩⟩
theorem light_nm {l : List Nd} (h : lightB l = true) : l.length ≤ 250 ∧ NmOK l:=by
 unfold lightB at h
 rw [Bool.and_eq_true] at h
 refine ⟨of_decide_eq_true h.1,fun i hi => ?_⟩
 have h2:=List.all_eq_true.1 h.2 _ (List.getElem_mem hi)
 unfold lightN at h2
 have h3:=of_decide_eq_true h2
 omega
theorem light_sts {l : List St} (h : lightL l = true) : l.length ≤ 60 ∧ SmOK l ∧ ∀ s ∈ l,s.e.length ≤ 250 ∧ s.f.length ≤ 250:=by
 unfold lightL at h
 rw [Bool.and_eq_true] at h
 have hs : ∀ s ∈ l,(s.reg.size ≤ 100 ∧ s.loc.size ≤ 100) ∧ (s.e.length ≤ 250 ∧ NmOK s.e) ∧ s.f.length ≤ 250 ∧ NmOK s.f:=by
  intro s hs
  have h2:=List.all_eq_true.1 h.2 s hs
  unfold lightSt at h2
  rw [Bool.and_eq_true,Bool.and_eq_true] at h2
  exact ⟨of_decide_eq_true h2.1,light_nm h2.2.1,light_nm h2.2.2⟩
 refine ⟨of_decide_eq_true h.1,fun s hm => ?_,fun s hm => ⟨(hs s hm).2.1.1,(hs s hm).2.2.1⟩⟩
 obtain ⟨⟨h1,h2⟩,⟨h3,h4⟩,h5,h6⟩:=hs s hm
 exact ⟨by omega,by omega,by omega,by omega,h4,h6⟩
def pgOf (m : Int) (vs : List Vr) (ts : List TI) (cs : List CI) : Pg:=⟨m,vs,ts.map (·.1),cs.map (·.1)⟩
theorem light_bd {m : Int} {vs : List Vr} {ts : List TI} {cs : List CI} (h : lightP vs ts cs = true) : PmOK (pgOf m vs ts cs) ∧ BdP (pgOf m vs ts cs) ∧ vs.length ≤ 20 ∧ ts.length ≤ 8 ∧ cs.length ≤ 12:=by
 unfold lightP at h
 simp only [Bool.and_eq_true] at h
 obtain ⟨h1,h2,h3,h4⟩:=h
 obtain ⟨n1,n2,n3⟩:=of_decide_eq_true h1
 have hv : ∀ x ∈ vs,x.nm.size ≤ 100:=fun x hx => of_decide_eq_true (List.all_eq_true.1 h2 x hx)
 have ht : ∀ x ∈ ts.map (·.1),x.nm.size ≤ 100 ∧ x.regs.length ≤ 20 ∧ (∀ s ∈ x.regs,s.size ≤ 100) ∧ lightL x.body = true:=by
  intro x hx
  obtain ⟨y,hy,rfl⟩:=List.mem_map.1 hx
  have h5:=List.all_eq_true.1 h3 y hy
  unfold lightT at h5
  simp only [Bool.and_eq_true] at h5
  exact ⟨of_decide_eq_true h5.1,of_decide_eq_true h5.2.1,fun s hs => of_decide_eq_true (List.all_eq_true.1 h5.2.2.2 s hs),h5.2.2.1⟩
 have hc : ∀ x ∈ cs.map (·.1),lightB x.e = true:=by
  intro x hx
  obtain ⟨y,hy,rfl⟩:=List.mem_map.1 hx
  exact List.all_eq_true.1 h4 y hy
 have l2 : (ts.map (·.1)).length ≤ 8:=by rw [List.length_map]; exact n2
 have l3 : (cs.map (·.1)).length ≤ 12:=by rw [List.length_map]; exact n3
 refine ⟨⟨⟨by show vs.length ≤ _; omega,fun x hx => by have:=hv x hx; omega⟩,⟨by show (ts.map (·.1)).length ≤ _; omega,fun x hx => ?_⟩,⟨by show (cs.map (·.1)).length ≤ _; omega,fun x hx => ?_⟩⟩,
  ⟨by show vs.length ≤ _; omega,by show (ts.map (·.1)).length ≤ _; omega,by show (cs.map (·.1)).length ≤ _; omega,fun x hx => ?_,fun x hx => ?_⟩,n1,n2,n3⟩
 ·obtain ⟨a,b,c,d⟩:=ht x hx
  obtain ⟨e,f,_⟩:=light_sts d
  exact ⟨by omega,by omega,fun s hs => by have:=c s hs; omega,by omega,f⟩
 ·obtain ⟨a,b⟩:=light_nm (hc x hx)
  exact ⟨by omega,b⟩
 ·obtain ⟨a,b,c,d⟩:=ht x hx
  obtain ⟨e,_,f⟩:=light_sts d
  exact ⟨by omega,by omega,fun s hs => by have:=f s hs; omega⟩
 ·have:=(light_nm (hc x hx)).1; omega
end Go.Proofs.YtcghccjnadagcaaGreatDoor
