/- Facts. -/
import Derived.Test.YtcghccjnadagcaaGreatDoorVm
import Derived.Test.YtcghccjnadagcaaGreatDoorNl
import Derived.Test.YtcghccjnadagcaaGreatDoorYa
set_option maxRecDepth 100000
set_option maxHeartbeats 32000000
namespace Go.Proofs.YtcghccjnadagcaaGreatDoor
open Go.RowKit
inductive Tr where
 | nil
 | node (s : St) (b o r : Tr)
def Tr.flat : Tr → List St
 | .nil => []
 | .node s b o r => { s with body:=(b.flat.length : Nat),els:=(o.flat.length : Nat) } :: (b.flat ++ o.flat ++ r.flat)
def nestK (k : Int) : Bool:=decide (k = 10 ∨ k = 11 ∨ k = 12)
def Tr.hgt : Tr → Nat
 | .nil => 0
 | .node s b o r => max (if nestK s.kind = true then 1 + max b.hgt o.hgt else 0) r.hgt
def hasR (k : Int) : Bool:=decide (k = 2 ∨ k = 3 ∨ k = 5 ∨ k = 6 ∨ k = 7)
def hasL (k : Int) : Bool:=decide (k = 3 ∨ k = 4 ∨ k = 5 ∨ k = 6 ∨ k = 7 ∨ k = 9)
def hasE (k : Int) : Bool:=decide (k = 2 ∨ k = 4 ∨ k = 5 ∨ k = 6 ∨ k = 7 ∨ k = 9 ∨ k = 10 ∨ k = 11)
def hasF (k : Int) : Bool:=decide (k = 5)
structure okSt (x : St) : Prop where
 k1 : 1 ≤ x.kind
 k13 : x.kind ≤ 13
 pl : 0 ≤ x.pl
 reg : if hasR x.kind = true then nameB x.reg = true else x.reg.size = 0
 loc : if hasL x.kind = true then nameB x.loc = true else x.loc.size = 0
 e : if hasE x.kind = true then rightP x.e ∧ regsO x.e = true else x.e = []
 f : if hasF x.kind = true then rightP x.f ∧ regsO x.f = true else x.f = []
 ne : x.ne = true → x.kind = 9
 body : x.body ≠ 0 → nestK x.kind = true
 els : x.els ≠ 0 → x.kind = 10
def rightS (l : List St) : Prop:=l.length ≤ 200 ∧ ∃ t : Tr,t.flat = l ∧ (∀ x ∈ l,okSt x) ∧ t.hgt ≤ 30
noncomputable def tokN (l : List Nd) : List Tri:=open Classical in if h : rightP l then tokE h.choose else []
theorem tokN_tree (l : List Nd) (h : rightP l) (e : Ex) (hw : e.wf) (he : e.flat = l) : tokN l = tokE e:=by
 unfold tokN
 rw [dif_pos h]
 obtain ⟨h1,h2,_⟩:=h.choose_spec
 rw [Ex.flat_inj _ e h1 hw (h2.trans he.symm)]
noncomputable def fieldB (x : St) : List UInt8 → List UInt8
 | [] => []
 | c :: cs => (if c = 114 then 32 :: x.reg.data.toList else if c = 108 then 32 :: x.loc.data.toList else if c = 101 then 32 :: textOf x.e else if c = 102 then 32 :: textOf x.f
   else if c = 113 then (if x.ne = true then [32,33,61] else [32,61,61]) else if c = 61 then [32,61] else [c]) ++ fieldB x cs
noncomputable def lineB (x : St) : List UInt8:=kwds.getD x.kind.toNat [] ++ (fieldB x (formL x.kind.toNat) ++ (if nestK x.kind = true then [32,123] else []))
noncomputable def fieldT (x : St) : List UInt8 → List Tri
 | [] => []
 | c :: cs => (if c = 114 then [(1,x.reg.data.toList,0)] else if c = 108 then [(1,x.loc.data.toList,0)] else if c = 101 then tokN x.e else if c = 102 then tokN x.f
   else if c = 113 then (if x.ne = true then [(3,[33,61],0)] else [(3,[61,61],0)]) else [(3,[c],0)]) ++ fieldT x cs
noncomputable def lineT (x : St) : List Tri:=(1,kwds.getD x.kind.toNat [],0) :: (fieldT x (formL x.kind.toNat) ++ (if nestK x.kind = true then [(3,[123],0)] else []))
def ind (d : Nat) : List UInt8:=List.replicate (2 * d) 32
def elseB : List UInt8:=[125,32,101,108,115,101,32,123]
def elseT : List Tri:=[(3,[125],0),(1,[101,108,115,101],0),(3,[123],0)]
noncomputable def Tr.text : Tr → Nat → List UInt8
 | .nil,_ => []
 | .node s b o r,d => (ind d ++ lineB s ++ [10]) ++ (if nestK s.kind = true then b.text (d + 1) ++ (if o.flat.length = 0 then [] else (ind d ++ elseB ++ [10]) ++ o.text (d + 1)) ++ (ind d ++ [125] ++ [10]) else []) ++ r.text d
noncomputable def Tr.tok : Tr → List Tri
 | .nil => []
 | .node s b o r => lineT s ++ (if nestK s.kind = true then b.tok ++ (if o.flat.length = 0 then [] else elseT ++ o.tok) ++ [(3,[125],0)] else []) ++ r.tok
theorem nameB_nam {s : ByteArray} (h : nameB s = true) : namy s.data.toList = true:=by
 rw [nameB_namy,Bool.and_eq_true] at h
 exact h.2
theorem lx_app {s1 s2 : List UInt8} {t1 t2 : List Tri} (h1 : Lx s1 t1) (h2 : Lx s2 t2) (hs : ∀ rest,Sp rest → Sp (s2 ++ rest)) : Lx (s1 ++ s2) (t1 ++ t2):=by
 intro rest hr p acc
 obtain ⟨m,q,e1,e2⟩:=h1 (s2 ++ rest) (hs rest hr) p acc
 obtain ⟨m',q',e3,e4⟩:=h2 rest hr q (acc ++ m)
 refine ⟨m ++ m',q',by rw [List.map_append,e1,e3],?_⟩
 rw [List.append_assoc,e2,e4,List.append_assoc]
theorem lx_nil : Lx [] []:=fun rest _ p acc => ⟨[],p,rfl,by simp⟩
theorem sep44 : Sep 44:=⟨by decide,by decide,by decide,by decide⟩
theorem sep59 : Sep 59:=⟨by decide,by decide,by decide,by decide⟩
def fOK (x : St) (cs : List UInt8) : Prop:=∀ c ∈ cs,(c = 114 → nameB x.reg = true) ∧ (c = 108 → nameB x.loc = true) ∧ (c = 101 → rightP x.e ∧ regsO x.e = true) ∧ (c = 102 → rightP x.f ∧ regsO x.f = true) ∧ (c = 114 ∨ c = 108 ∨ c = 101 ∨ c = 102 ∨ c = 113 ∨ c = 61 ∨ c = 44 ∨ c = 59)
theorem fOK.tail {x : St} {c : UInt8} {cs : List UInt8} (h : fOK x (c :: cs)) : fOK x cs:=fun d hd => h d (List.mem_cons_of_mem _ hd)
theorem lx_name {s : ByteArray} (h : nameB s = true) : Lx s.data.toList [(1,s.data.toList,0)]:=Lx.one (tk_nm _ (nameB_nam h))
theorem lx_expr {l : List Nd} (h : rightP l) : Lx (textOf l) (tokN l):=by
 obtain ⟨e,hw,he,_,ha,_⟩:=id h
 rw [textOf_tree l h e hw he,tokN_tree l h e hw he]
 refine lx_show e hw fun x hx => ?_
 rw [he] at hx
 exact List.all_eq_true.1 ha x hx
theorem field_lx (x : St) (s2 : List UInt8) (t2 : List Tri) (h2 : Lx s2 t2) (hs : ∀ rest,Sp rest → Sp (s2 ++ rest)) : ∀ cs : List UInt8,fOK x cs →
  Lx (fieldB x cs ++ s2) (fieldT x cs ++ t2) ∧ ∀ rest,Sp rest → Sp ((fieldB x cs ++ s2) ++ rest):=by
 intro cs
 induction cs with
 | nil => intro _; exact ⟨h2,hs⟩
 | cons c cs ih =>
  intro h
  obtain ⟨i1,i2⟩:=ih h.tail
  obtain ⟨a1,a2,a3,a4,a5⟩:=h c (List.mem_cons_self ..)
  have key : ∀ (s : List UInt8) (t : List Tri),Lx s t → (∃ d r,s = d :: r ∧ Sep d) → Lx ((s ++ fieldB x cs) ++ s2) ((t ++ fieldT x cs) ++ t2) ∧ ∀ rest,Sp rest → Sp (((s ++ fieldB x cs) ++ s2) ++ rest):=by
   intro s t hl hd
   refine ⟨?_,fun rest _ => ?_⟩
   ·rw [List.append_assoc,List.append_assoc]
    exact lx_app hl i1 i2
   ·obtain ⟨d,r,rfl,hd⟩:=hd
    exact sp_cons d _ hd
  rw [fieldB,fieldT]
  rcases a5 with rfl | rfl | rfl | rfl | rfl | rfl | rfl | rfl
  ·exact key _ _ (lx_name (a1 rfl)).blank ⟨32,_,rfl,sep32⟩
  ·exact key _ _ (lx_name (a2 rfl)).blank ⟨32,_,rfl,sep32⟩
  ·exact key _ _ (lx_expr (a3 rfl).1).blank ⟨32,_,rfl,sep32⟩
  ·exact key _ _ (lx_expr (a4 rfl).1).blank ⟨32,_,rfl,sep32⟩
  ·by_cases hn : x.ne = true
   ·simp only [hn]
    exact key [32,33,61] [(3,[33,61],0)] (Lx.one (x:=[33,61]) (by decide)).blank ⟨32,_,rfl,sep32⟩
   ·simp only [hn]
    exact key [32,61,61] [(3,[61,61],0)] (Lx.one (x:=[61,61]) (by decide)).blank ⟨32,_,rfl,sep32⟩
  ·exact key [32,61] [(3,[61],0)] (Lx.one (x:=[61]) (by decide)).blank ⟨32,_,rfl,sep32⟩
  ·exact key [44] [(3,[44],0)] (Lx.one (x:=[44]) (by decide)) ⟨44,_,rfl,sep44⟩
  ·exact key [59] [(3,[59],0)] (Lx.one (x:=[59]) (by decide)) ⟨59,_,rfl,sep59⟩
theorem kind_cases {k : Int} (h1 : 1 ≤ k) (h2 : k ≤ 13) : k = 1 ∨ k = 2 ∨ k = 3 ∨ k = 4 ∨ k = 5 ∨ k = 6 ∨ k = 7 ∨ k = 8 ∨ k = 9 ∨ k = 10 ∨ k = 11 ∨ k = 12 ∨ k = 13:=by omega
theorem okSt.form {x : St} (h : okSt x) : fOK x (formL x.kind.toNat):=by
 obtain ⟨h1,h2,_,hr,hl,he,hf,_⟩:=h
 generalize x.kind = k at *
 unfold fOK
 rcases kind_cases h1 h2 with rfl | rfl | rfl | rfl | rfl | rfl | rfl | rfl | rfl | rfl | rfl | rfl | rfl
 all_goals
  simp [hasR,hasL,hasE,hasF] at hr hl he hf
  simp [formL]
  try simp_all
theorem lx_line {x : St} (h : okSt x) : Lx (lineB x) (lineT x):=by
 have hf:=h.form
 obtain ⟨h1,h2,_⟩:=h
 have ht : Lx (if nestK x.kind = true then [32,123] else []) (if nestK x.kind = true then [(3,[123],0)] else []) ∧ ∀ rest,Sp rest → Sp ((if nestK x.kind = true then [32,123] else []) ++ rest):=by
  by_cases hn : nestK x.kind = true
  ·rw [if_pos hn,if_pos hn]
   exact ⟨(Lx.one (x:=[123]) (by decide)).blank,fun rest _ => sp_cons 32 _ sep32⟩
  ·rw [if_neg hn,if_neg hn]
   exact ⟨lx_nil,fun rest hr => hr⟩
 obtain ⟨i1,i2⟩:=field_lx x _ _ ht.1 ht.2 _ hf
 unfold lineB lineT
 refine lx_app (t1:=[_]) (Lx.one ?_) i1 i2
 generalize x.kind = k at *
 rcases kind_cases h1 h2 with rfl | rfl | rfl | rfl | rfl | rfl | rfl | rfl | rfl | rfl | rfl | rfl | rfl <;> decide
def Lf (s : List UInt8) (ts : List Tri) : Prop:=∀ rest p acc,∃ m q,m.map strip = ts ∧ sc (s ++ rest).length (s ++ rest) p acc = sc rest.length rest q (acc ++ m)
theorem Lf.line {s : List UInt8} {ts : List Tri} (h : Lx s ts) : Lf (s ++ [10]) ts:=by
 intro rest p acc
 obtain ⟨m,q,h1,h2⟩:=h (10 :: rest) (sp_cons 10 _ sep10) p acc
 refine ⟨m,q + 1,h1,?_⟩
 rw [List.append_assoc]
 show sc (s ++ 10 :: rest).length (s ++ 10 :: rest) p acc = _
 rw [h2,List.length_cons,sc_cons,if_pos (by decide)]
theorem Lf.app {s1 s2 : List UInt8} {t1 t2 : List Tri} (h1 : Lf s1 t1) (h2 : Lf s2 t2) : Lf (s1 ++ s2) (t1 ++ t2):=by
 intro rest p acc
 obtain ⟨m,q,e1,e2⟩:=h1 (s2 ++ rest) p acc
 obtain ⟨m',q',e3,e4⟩:=h2 rest q (acc ++ m)
 refine ⟨m ++ m',q',by rw [List.map_append,e1,e3],?_⟩
 rw [List.append_assoc,e2,e4,List.append_assoc]
theorem Lf.nil : Lf [] []:=fun rest p acc => ⟨[],p,rfl,by simp⟩
theorem lx_blanks {s : List UInt8} {ts : List Tri} (h : Lx s ts) : ∀ n,Lx (List.replicate n 32 ++ s) ts
 | 0 => h
 | n + 1 => (lx_blanks h n).blank
theorem lx_ind {s : List UInt8} {ts : List Tri} (h : Lx s ts) (d : Nat) : Lx (ind d ++ s) ts:=lx_blanks h _
theorem lx_else : Lx elseB elseT:=
 lx_app (s1:=[125]) (t1:=[(3,[125],0)]) (Lx.one (by decide)) (lx_app (s1:=[32,101,108,115,101]) (t1:=[(1,[101,108,115,101],0)]) (Lx.one (x:=[101,108,115,101]) (by decide)).blank (s2:=[32,123]) (t2:=[(3,[123],0)]) (Lx.one (x:=[123]) (by decide)).blank (fun rest _ => sp_cons 32 _ sep32)) (fun rest _ => sp_cons 32 _ sep32)
theorem bareS (s : St) (b o : Int) : lineB { s with body:=b,els:=o } = lineB s ∧ lineT { s with body:=b,els:=o } = lineT s:=by
 have hb : ∀ cs,fieldB { s with body:=b,els:=o } cs = fieldB s cs:=by
  intro cs; induction cs with
  | nil => rfl
  | cons c cs ih => rw [fieldB,fieldB,ih]
 have ht : ∀ cs,fieldT { s with body:=b,els:=o } cs = fieldT s cs:=by
  intro cs; induction cs with
  | nil => rfl
  | cons c cs ih => rw [fieldT,fieldT,ih]
 constructor
 ·unfold lineB; rw [hb]
 ·unfold lineT; rw [ht]
theorem lx_text (t : Tr) : (∀ x ∈ t.flat,okSt x) → ∀ d,Lf (t.text d) t.tok:=by
 induction t with
 | nil => intro _ d; exact Lf.nil
 | node s b o r hb ho hr =>
  intro h d
  have h0:=h _ (by rw [Tr.flat]; exact List.mem_cons_self ..)
  have e1:=bareS s (b.flat.length : Nat) (o.flat.length : Nat)
  have hl:=lx_line h0
  rw [e1.1,e1.2] at hl
  have kb:=hb fun x hx => h x (by rw [Tr.flat]; simp [hx])
  have ko:=ho fun x hx => h x (by rw [Tr.flat]; simp [hx])
  have kr:=hr fun x hx => h x (by rw [Tr.flat]; simp [hx])
  rw [Tr.text,Tr.tok]
  refine Lf.app (Lf.app (Lf.line (lx_ind hl d)) ?_) (kr d)
  by_cases hn : nestK s.kind = true
  ·rw [if_pos hn,if_pos hn]
   refine Lf.app (Lf.app (kb _) ?_) (Lf.line (lx_ind (Lx.one (x:=[125]) (by decide)) d))
   by_cases h00 : o.flat.length = 0
   ·rw [if_pos h00,if_pos h00]; exact Lf.nil
   ·rw [if_neg h00,if_neg h00]
    exact Lf.app (Lf.line (lx_ind lx_else d)) (ko _)
  ·rw [if_neg hn,if_neg hn]; exact Lf.nil
def StAt (w : World) (b off : Nat) (t : SI) : Prop:=
 w.cell? ⟨b,off,none⟩ = some (.int .i64 t.1.kind) ∧ w.cell? ⟨b,off + 1,none⟩ = some (.string t.1.reg) ∧ w.cell? ⟨b,off + 2,none⟩ = some (.string t.1.loc) ∧ w.cell? ⟨b,off + 3,none⟩ = some t.2.1 ∧ w.cell? ⟨b,off + 4,none⟩ = some t.2.2 ∧
 w.cell? ⟨b,off + 5,none⟩ = some (.bool t.1.ne) ∧ w.cell? ⟨b,off + 6,none⟩ = some (.int .i64 t.1.body) ∧ w.cell? ⟨b,off + 7,none⟩ = some (.int .i64 t.1.els) ∧ w.cell? ⟨b,off + 8,none⟩ = some (.int .i64 t.1.pl)
def StsD (w : World) (v : Value) (ts : List SI) : Prop:=
 ∃ ad cap,v = .slice ad ts.length cap ∧ ts.length ≤ cap ∧ cap ≤ 9223372036854775807 ∧ ∀ i,(hi : i < ts.length) → ∃ b off,ad = some ⟨b,off,none⟩ ∧ b < w.heap.size ∧ StAt w b (off + i * 9) ts[i] ∧ NdsC w ts[i].2.1 ts[i].1.e ∧ NdsC w ts[i].2.2 ts[i].1.f
theorem StAt.below {w w' : World} {b off : Nat} {t : SI} (h : StAt w b off t) (hb : Below w.heap.size w w') (hl : b < w.heap.size) : StAt w' b off t:=by
 obtain ⟨h0,h1,h2,h3,h4,h5,h6,h7,h8⟩:=h
 exact ⟨(hb.cell (p:=⟨b,_,none⟩) hl).trans h0,(hb.cell (p:=⟨b,_,none⟩) hl).trans h1,(hb.cell (p:=⟨b,_,none⟩) hl).trans h2,(hb.cell (p:=⟨b,_,none⟩) hl).trans h3,(hb.cell (p:=⟨b,_,none⟩) hl).trans h4,(hb.cell (p:=⟨b,_,none⟩) hl).trans h5,(hb.cell (p:=⟨b,_,none⟩) hl).trans h6,(hb.cell (p:=⟨b,_,none⟩) hl).trans h7,(hb.cell (p:=⟨b,_,none⟩) hl).trans h8⟩
theorem StsD.below {w w' : World} {v : Value} {ts : List SI} (h : StsD w v ts) (hb : Below w.heap.size w w') : StsD w' v ts:=by
 obtain ⟨ad,cap,hv,h1,h2,hc⟩:=h
 refine ⟨ad,cap,hv,h1,h2,fun i hi => ?_⟩
 obtain ⟨b,off,ha,hl,g1,g2,g3⟩:=hc i hi
 exact ⟨b,off,ha,Nat.lt_of_lt_of_le hl hb.size,g1.below hb hl,g2.below hb,g3.below hb⟩
theorem StsD.head {w : World} {v : Value} {t : SI} {r : List SI} (h : StsD w v (t :: r)) : ∃ b off cap,v = .slice (some ⟨b,off,none⟩) (r.length + 1) cap ∧ r.length + 1 ≤ cap ∧ cap ≤ 9223372036854775807 ∧ b < w.heap.size ∧ StAt w b off t ∧ NdsC w t.2.1 t.1.e ∧ NdsC w t.2.2 t.1.f:=by
 obtain ⟨ad,cap,hv,h1,h2,hc⟩:=h
 obtain ⟨b,off,rfl,hl,g1,g2,g3⟩:=hc 0 (by simp)
 exact ⟨b,off,cap,hv,h1,h2,hl,by simpa using g1,g2,g3⟩
def fitB (x : St) (n : Nat) : Bool:=decide (0 ≤ x.body) && (decide (x.body ≤ n) && (decide (0 ≤ x.els) && decide (x.els ≤ (n : Int) - x.body)))
theorem fits_any (t : SI) (r : List SI) (v : Value) (w : World) (h : StsD w v (t :: r)) (hn : r.length ≤ 100000) : Calls Tryz.prog 179 #[v] w fun e w' => e = .returned (.bool (fitB t.1 r.length)) ∧ Below w.heap.size w w':=by
 obtain ⟨b,off,cap,rfl,_,_,hl,⟨h0,h1,h2,h3,h4,h5,h6,h7,h8⟩,hE,hF⟩:=h.head
 clear h
 obtain ⟨a1,p1,e1,_⟩:=hE
 obtain ⟨a2,p2,e2,_⟩:=hF
 rw [e1] at h3
 rw [e2] at h4
 obtain ⟨⟨tk,tr,tl,te,tf,tn,tb,tq,tp⟩,v1,v2⟩:=t
 simp only [] at h0 h1 h2 h3 h4 h5 h6 h7 h8 e1 e2 ⊢
 unfold fitB
 simp only []
 obtain ⟨n,hN⟩ : ∃ n,n = r.length:=⟨_,rfl⟩
 rw [← hN] at hn ⊢
 clear hN e1 e2
 have m0 : IntKind.i64.wrap (((n + 1 : Nat) : Int) - 1) = (n : Int):=by rw [show (((n + 1 : Nat) : Int) - 1) = (n : Int) by omega]; exact IntWalk.i64_in _ (by omega)
 by_cases q1 : 0 ≤ tb
 ·by_cases q2 : tb ≤ (n : Int)
  ·by_cases q3 : 0 ≤ tq
   ·have m1 : IntKind.i64.wrap ((n : Int) - tb) = (n : Int) - tb:=IntWalk.i64_in _ (by omega)
    have d1 : decide (0 ≤ tb) = true:=by simp; omega
    have d2 : decide (tb ≤ (n : Int)) = true:=by simp; omega
    have d3 : decide (0 ≤ tq) = true:=by simp; omega
    rw [d1,d2,d3,Bool.true_and,Bool.true_and,Bool.true_and]
    go_enter Tryz.func179,Tryz.ntmps179
    go_wp2
    go_ret
    exact ⟨rfl,(Below.refl _ _).alloc (Nat.le_refl _) _⟩
   ·have d1 : decide (0 ≤ tb) = true:=by simp; omega
    have d2 : decide (tb ≤ (n : Int)) = true:=by simp; omega
    have d3 : decide (0 ≤ tq) = false:=by simp; omega
    rw [d1,d2,d3,Bool.true_and,Bool.true_and,Bool.false_and]
    go_enter Tryz.func179,Tryz.ntmps179
    go_wp2
    go_ret
    exact ⟨rfl,(Below.refl _ _).alloc (Nat.le_refl _) _⟩
  ·have d1 : decide (0 ≤ tb) = true:=by simp; omega
   have d2 : decide (tb ≤ (n : Int)) = false:=by simp; omega
   rw [d1,d2,Bool.true_and,Bool.false_and]
   go_enter Tryz.func179,Tryz.ntmps179
   go_wp2
   go_ret
   exact ⟨rfl,(Below.refl _ _).alloc (Nat.le_refl _) _⟩
 ·have d1 : decide (0 ≤ tb) = false:=by simp; omega
  rw [d1,Bool.false_and]
  go_enter Tryz.func179,Tryz.ntmps179
  go_wp2
  go_ret
  exact ⟨rfl,(Below.refl _ _).alloc (Nat.le_refl _) _⟩
theorem u25 : Tryz.prog.underlying 37 = some (.slice 42):=by kernel_rfl
theorem sl_from (a : Option Addr) (n cap k : Nat) (h : k ≤ n) (w : World) : (Instr.slice 37 (.slice a n cap) (some (.int .i64 k)) none none).run Tryz.prog w = .ok (.slice (if cap = k then a else a.map (·.add (k * 9))) (n - k) (cap - k)) w:=by
 have hk : (0 : Int) ≤ (k : Int) ∧ (k : Int) ≤ (n : Int):=⟨Int.natCast_nonneg _,by omega⟩
 simp [Instr.slice,run_underlying u25,Instr.sliceBounds,Instr.sliceBound,asIntOf,Result.andThen,h,hk]
theorem sl_to (a : Option Addr) (n cap k : Nat) (h : k ≤ cap) (w : World) : (Instr.slice 37 (.slice a n cap) none (some (.int .i64 k)) none).run Tryz.prog w = .ok (.slice a k cap) w:=by
 have e : ∀ x : Addr,x.add 0 = x:=fun x => rfl
 have ha : (if cap = 0 then a else a.map fun x => x.add 0) = a:=by
  split
  ·rfl
  ·cases a <;> rfl
 simp [Instr.slice,run_underlying u25,Instr.sliceBounds,Instr.sliceBound,asIntOf,Result.andThen,h,ha]
theorem StsD.from {w : World} {a : Option Addr} {n cap : Nat} {ts : List SI} (h : StsD w (.slice a n cap) ts) (k : Nat) (hk : k ≤ ts.length) : StsD w (.slice (if cap = k then a else a.map (·.add (k * 9))) (n - k) (cap - k)) (ts.drop k):=by
 obtain ⟨ad,cap',hv,h1,h2,hc⟩:=h
 injection hv with e1 e2 e3
 subst e1 e2 e3
 refine ⟨_,_,by rw [List.length_drop],by rw [List.length_drop]; omega,by omega,fun i hi => ?_⟩
 rw [List.length_drop] at hi
 obtain ⟨b,off,ha,hl,g1,g2,g3⟩:=hc (k + i) (by omega)
 have hne : ¬ cap = k:=by omega
 refine ⟨b,off + k * 9,by rw [if_neg hne,ha]; simp [Addr.add],hl,?_,?_,?_⟩
 ·have e : (ts.drop k)[i]'(by rw [List.length_drop]; omega) = ts[k + i]'(by omega):=List.getElem_drop
  rw [e,show off + k * 9 + i * 9 = off + (k + i) * 9 by omega]
  exact g1
 ·have e : (ts.drop k)[i]'(by rw [List.length_drop]; omega) = ts[k + i]'(by omega):=List.getElem_drop
  rw [e]; exact g2
 ·have e : (ts.drop k)[i]'(by rw [List.length_drop]; omega) = ts[k + i]'(by omega):=List.getElem_drop
  rw [e]; exact g3
theorem StsD.upto {w : World} {a : Option Addr} {n cap : Nat} {ts : List SI} (h : StsD w (.slice a n cap) ts) (k : Nat) (hk : k ≤ ts.length) : StsD w (.slice a k cap) (ts.take k):=by
 obtain ⟨ad,cap',hv,h1,h2,hc⟩:=h
 injection hv with e1 e2 e3
 subst e1 e2 e3
 have hl : (ts.take k).length = k:=by rw [List.length_take]; omega
 refine ⟨_,_,by rw [hl],by rw [hl]; omega,h2,fun i hi => ?_⟩
 rw [hl] at hi
 obtain ⟨b,off,ha,hlt,g1,g2,g3⟩:=hc i (by omega)
 have e : (ts.take k)[i]'(by rw [hl]; exact hi) = ts[i]'(by omega):=List.getElem_take
 exact ⟨b,off,ha,hlt,by rw [e]; exact g1,by rw [e]; exact g2,by rw [e]; exact g3⟩
theorem cut_any (t : SI) (bs os rs : List SI) (v : Value) (w : World) (h : StsD w v (t :: (bs ++ (os ++ rs)))) (hb : t.1.body = (bs.length : Nat)) (ho : t.1.els = (os.length : Nat)) :
  Calls Tryz.prog 157 #[v] w fun e w' => ∃ v1 v2 v3,e = .returned (.tuple #[v1,v2,v3]) ∧ StsD w' v1 bs ∧ StsD w' v2 os ∧ StsD w' v3 rs ∧ Below w.heap.size w w':=by
 have HH:=Lib.hid h
 obtain ⟨b,off,cap,rfl,hcap,hmax,hl,⟨h0,h1,h2,h3,h4,h5,h6,h7,h8⟩,hE,hF⟩:=h.head
 clear h
 obtain ⟨A1,hA1⟩ : ∃ A,A = (if cap = 1 then some (⟨b,off,none⟩ : Addr) else (some (⟨b,off,none⟩ : Addr)).map (·.add (1 * 9))):=⟨_,rfl⟩
 have hR:=HH.out.from 1 (by simp)
 rw [← hA1] at hR
 simp only [List.drop_succ_cons,List.drop_zero] at hR
 obtain ⟨n,hN⟩ : ∃ n,n = (bs ++ (os ++ rs)).length:=⟨_,rfl⟩
 have hnl : n = bs.length + (os.length + rs.length):=by rw [hN]; simp
 rw [← hN] at hcap hR
 rw [show n + 1 - 1 = n by omega] at hR
 obtain ⟨c1,hc1⟩ : ∃ c,c = cap - 1:=⟨_,rfl⟩
 rw [← hc1] at hR
 have hS1 : ∀ w,(Instr.slice 37 (.slice (some ⟨b,off,none⟩) (n + 1) cap) (some (.int .i64 1)) none none).run Tryz.prog w = .ok (.slice A1 n c1) w:=fun w => by
  have:=sl_from (some ⟨b,off,none⟩) (n + 1) cap 1 (by omega) w
  rw [← hA1,← hc1,show n + 1 - 1 = n by omega] at this
  exact this
 obtain ⟨nb,hnb⟩ : ∃ nb,nb = bs.length:=⟨_,rfl⟩
 obtain ⟨no,hno⟩ : ∃ no,no = os.length:=⟨_,rfl⟩
 obtain ⟨A2,hA2⟩ : ∃ A,A = (if c1 = nb then A1 else A1.map (·.add (nb * 9))):=⟨_,rfl⟩
 obtain ⟨c2,hc2⟩ : ∃ c,c = c1 - nb:=⟨_,rfl⟩
 obtain ⟨n2,hn2⟩ : ∃ c,c = n - nb:=⟨_,rfl⟩
 obtain ⟨A3,hA3⟩ : ∃ A,A = (if c2 = no then A2 else A2.map (·.add (no * 9))):=⟨_,rfl⟩
 obtain ⟨c3,hc3⟩ : ∃ c,c = c2 - no:=⟨_,rfl⟩
 obtain ⟨n3,hn3⟩ : ∃ c,c = n2 - no:=⟨_,rfl⟩
 have hS2 : ∀ w,(Instr.slice 37 (.slice A1 n c1) none (some (.int .i64 nb)) none).run Tryz.prog w = .ok (.slice A1 nb c1) w:=sl_to A1 n c1 nb (by omega)
 have hS3 : ∀ w,(Instr.slice 37 (.slice A1 n c1) (some (.int .i64 nb)) none none).run Tryz.prog w = .ok (.slice A2 n2 c2) w:=by rw [hA2,hn2,hc2]; exact sl_from A1 n c1 nb (by omega)
 have hS4 : ∀ w,(Instr.slice 37 (.slice A2 n2 c2) none (some (.int .i64 no)) none).run Tryz.prog w = .ok (.slice A2 no c2) w:=sl_to A2 n2 c2 no (by omega)
 have hS5 : ∀ w,(Instr.slice 37 (.slice A2 n2 c2) (some (.int .i64 no)) none none).run Tryz.prog w = .ok (.slice A3 n3 c3) w:=by rw [hA3,hn3,hc3]; exact sl_from A2 n2 c2 no (by omega)
 have D1 : Hid (StsD w (.slice A1 nb c1) bs):=by
  have:=hR.upto bs.length (by simp)
  rw [List.take_left,← hnb] at this
  exact this
 have hR2 : StsD w (.slice A2 n2 c2) (os ++ rs):=by
  have:=hR.from bs.length (by simp)
  rw [List.drop_left,← hnb,← hA2,← hn2,← hc2] at this
  exact this
 have D2 : Hid (StsD w (.slice A2 no c2) os):=by
  have:=hR2.upto os.length (by simp)
  rw [List.take_left,← hno] at this
  exact this
 have D3 : Hid (StsD w (.slice A3 n3 c3) rs):=by
  have:=hR2.from os.length (by simp)
  rw [List.drop_left,← hno,← hA3,← hn3,← hc3] at this
  exact this
 obtain ⟨a1,p1,e1,_⟩:=hE
 obtain ⟨a2,p2,e2,_⟩:=hF
 rw [e1] at h3
 rw [e2] at h4
 rw [hb,← hnb] at h6
 rw [ho,← hno] at h7
 obtain ⟨⟨tk,tr,tl,te,tf,tn,tb,tq,tp⟩,v1,v2⟩:=t
 simp only [] at h0 h1 h2 h3 h4 h5 h6 h7 h8
 rw [← hN]
 clear HH hA1 hR hN hnl hcap hmax hc1 hA2 hc2 hn2 hA3 hc3 hn3 hR2 e1 e2 hb ho hnb hno
 go_enter Tryz.func157,Tryz.ntmps157
 go_wp2
 go_region
 have hB : BlkS (w.alloc (.cells #[.int .i64 tk,.string tr,.string tl,.slice a1 te.length p1,.slice a2 tf.length p2,.bool tn,.int .i64 nb,.int .i64 no,.int .i64 tp] 42)).drew w.heap.size ⟨tk,tr,tl,te,tf,tn,nb,no,tp⟩ (.slice a1 te.length p1) (.slice a2 tf.length p2):=heap_alloc_new w _
 have HBW : Hid (Below w.heap.size w (w.alloc (.cells #[.int .i64 tk,.string tr,.string tl,.slice a1 te.length p1,.slice a2 tf.length p2,.bool tn,.int .i64 nb,.int .i64 no,.int .i64 tp] 42)).drew):=((Below.refl _ _).alloc (Nat.le_refl _) _).drew
 clear h0 h1 h2 h3 h4 h5 h6 h7 h8
 generalize (w.alloc (.cells #[.int .i64 tk,.string tr,.string tl,.slice a1 te.length p1,.slice a2 tf.length p2,.bool tn,.int .i64 nb,.int .i64 no,.int .i64 tp] 42)).drew = w1 at hB HBW ⊢
 have hlt:=hB.lt
 obtain ⟨⟨b0,b1,b2,b3,b4,b5,b6,b7,b8⟩,_⟩:=hB.facts
 simp only [] at b6 b7
 clear hB b0 b1 b2 b3 b4 b5 b8
 go_wp2
 go_quiet (fail)
 go_wp2
 go_quiet (fail)
 go_wp2
 refine bodyPost_ret (v:=.tuple #[.slice A1 nb c1,.slice A2 no c2,.slice A3 n3 c3]) (by simp [results,Tryz.results157,go_sem]) rfl ⟨_,_,_,rfl,D1.out.below ?_,D2.out.below ?_,D3.out.below ?_,?_⟩
 all_goals exact below_drewN (below_drewN HBW.out _) _
end Go.Proofs.YtcghccjnadagcaaGreatDoor
