/- Facts. -/
import Derived.Test.YtcghccjnadagcaaGreatDoorWb
import Derived.Test.YtcghccjnadagcaaGreatDoorPs
import Derived.Test.YtcghccjnadagcaaGreatDoorRa
import Derived.Test.YtcghccjnadagcaaGreatDoorPy
set_option maxRecDepth 100000
set_option maxHeartbeats 32000000
namespace Go.Proofs.YtcghccjnadagcaaGreatDoor
section
variable {l l' : List Tok} (hl : l.map strip = l'.map strip)
include hl
end
inductive RA : Option Res → Option Res → Prop
 | n : RA none none
 | e (k a a' : Nat) : RA (some (.err k a)) (some (.err k a'))
 | o (e e' : Ex) (j : Nat) (h : e.er = e'.er) : RA (some (.ok e j)) (some (.ok e' j))
inductive CA : Cmd → Cmd → Prop
 | lv (n : Nat) : CA (.lv n) (.lv n)
 | more (n : Nat) (e e' : Ex) (h : e.er = e'.er) : CA (.more n e) (.more n e')
inductive RB : Res → Res → Prop
 | e (k a a' : Nat) : RB (.err k a) (.err k a')
 | o (e e' : Ex) (j : Nat) (h : e.er = e'.er) : RB (.ok e j) (.ok e' j)
theorem er_size {e e' : Ex} (h : e.er = e'.er) : e.size = e'.size:=by rw [← Ex.er_size e,← Ex.er_size e',h]
theorem er_depth {e e' : Ex} (h : e.er = e'.er) : e.depth = e'.depth:=by rw [← Ex.er_depth e,← Ex.er_depth e',h]
theorem er_flat {e e' : Ex} (h : e.er = e'.er) : e.flat.map Nd.er = e'.flat.map Nd.er:=by rw [← Ex.er_flat e,← Ex.er_flat e',h]
inductive FA : FRes → FRes → Prop
 | e (k a a' : Nat) : FA (.err k a) (.err k a')
 | o (x x' : St) (j : Nat) (h : x.er = x'.er) : FA (.ok x j) (.ok x' j)
theorem St.ext' {x y : St} (h : x.er = y.er) : x.kind = y.kind ∧ x.reg = y.reg ∧ x.loc = y.loc ∧ x.e.map Nd.er = y.e.map Nd.er ∧ x.f.map Nd.er = y.f.map Nd.er ∧ x.ne = y.ne ∧ x.body = y.body ∧ x.els = y.els:=by
 obtain ⟨a1,a2,a3,a4,a5,a6,a7,a8,a9⟩:=x
 obtain ⟨b1,b2,b3,b4,b5,b6,b7,b8,b9⟩:=y
 simp only [St.er,St.mk.injEq] at h
 obtain ⟨h1,h2,h3,h4,h5,h6,h7,h8,_⟩:=h
 exact ⟨h1,h2,h3,h4,h5,h6,h7,h8⟩
inductive SB : Option SRes → Option SRes → Prop
 | n : SB none none
 | e (k a a' : Nat) : SB (some (.err k a)) (some (.err k a'))
 | o (x x' : List St) (j : Nat) (h : x.map St.er = x'.map St.er) : SB (some (.ok x j)) (some (.ok x' j))
inductive SC : SRes → SRes → Prop
 | e (k a a' : Nat) : SC (.err k a) (.err k a')
 | o (x x' : List St) (j : Nat) (h : x.map St.er = x'.map St.er) : SC (.ok x j) (.ok x' j)
def Vr.er (x : Vr) : Vr:={ x with pl:=0 }
def Th.er (x : Th) : Th:={ x with body:=x.body.map St.er,pl:=0 }
def Cl.er (x : Cl) : Cl:={ x with e:=x.e.map Nd.er,pl:=0 }
def Pg.er (g : Pg) : Pg:=⟨g.mod,g.locs.map Vr.er,g.ths.map Th.er,g.cls.map Cl.er⟩
theorem clm_er (x y : Nd) (h : x.er = y.er) : (clm x).er = (clm y).er:=by
 obtain ⟨a1,a2,a3,a4,a5⟩:=x
 obtain ⟨b1,b2,b3,b4,b5⟩:=y
 simp only [Nd.er,Nd.mk.injEq] at h
 obtain ⟨rfl,rfl,rfl,rfl,_⟩:=h
 unfold clm
 by_cases h2 : a1 = 2
 ·rw [if_pos h2,if_pos h2]; rfl
 ·rw [if_neg h2,if_neg h2]; rfl
theorem clm_map : ∀ xs ys : List Nd,xs.map Nd.er = ys.map Nd.er → (xs.map clm).map Nd.er = (ys.map clm).map Nd.er:=by
 intro xs
 induction xs with
 | nil => intro ys h; cases ys with
  | nil => rfl
  | cons y ys => cases h
 | cons x xs ih =>
  intro ys h
  cases ys with
  | nil => cases h
  | cons y ys =>
   simp only [List.map_cons,List.cons.injEq] at h ⊢
   exact ⟨clm_er x y h.1,ih ys h.2⟩
section
variable {l l' : List Tok} (hl : l.map strip = l'.map strip)
include hl
end
open Go.RowKit
def tkVr (x : Vr) : List Tri:=[(1,[108,111,99],0),(1,x.nm.data.toList,0),(3,[61],0),(2,dg x.n,x.n.toNat),(3,[59],0)]
def jtk (xs : List ByteArray) : List Tri:=xs.flatMap fun y => [(3,[44],0),(1,y.data.toList,0)]
def regTk : List ByteArray → List Tri
 | [] => []
 | x :: xs => (1,[114,101,103],0) :: (1,x.data.toList,0) :: (jtk xs ++ [(3,[59],0)])
noncomputable def tokS (l : List St) : List Tri:=open Classical in if h : rightS l then h.2.choose.tok else []
theorem tokS_tree {l : List St} (h : rightS l) (t : Tr) (ht : t.flat = l) : tokS l = t.tok:=by
 unfold tokS
 rw [dif_pos h]
 exact (Tr.flat_inj _ _ (h.2.choose_spec.1.trans ht.symm)).2
noncomputable def tokT (x : Th) : List Tri:=(1,[116,104,114,101,97,100],0) :: (1,x.nm.data.toList,0) :: (3,[123],0) :: (regTk x.regs ++ (tokS x.body ++ [(3,[125],0)]))
noncomputable def tokC (x : Cl) : List Tri:=(1,wdsL.getD x.kind.toNat [],0) :: (tokN x.e ++ [(3,[59],0)])
noncomputable def tokP (g : Pg) : List Tri:=(1,[109,111,100],0) :: (2,dg g.mod,g.mod.toNat) :: (3,[59],0) :: (g.locs.flatMap tkVr ++ (g.ths.flatMap tokT ++ g.cls.flatMap tokC))
structure okV (x : Vr) : Prop where
 nm : nameB x.nm = true
 n0 : 0 ≤ x.n
 n1 : x.n ≤ 9999
 pl : 0 ≤ x.pl
structure okT (x : Th) : Prop where
 nm : nameB x.nm = true
 rg : ∀ s ∈ x.regs,nameB s = true
 bd : rightS x.body
 pl : 0 ≤ x.pl
structure okC (x : Cl) : Prop where
 k1 : 1 ≤ x.kind
 k3 : x.kind ≤ 3
 e : rightP x.e
 ow : ∀ y ∈ x.e,y.op ≠ 2
 pl : 0 ≤ x.pl
structure okP (g : Pg) : Prop where
 m0 : 0 ≤ g.mod
 m1 : g.mod ≤ 9999
 l : ∀ x ∈ g.locs,okV x
 t : ∀ x ∈ g.ths,okT x
 c : ∀ x ∈ g.cls,okC x
theorem numB_iff (n : Int) : numB n = true ↔ 0 ≤ n ∧ n ≤ 9999:=by unfold numB; exact decide_eq_true_iff
theorem flV_ok (x : Vr) : (!flV x) = true ↔ okV x:=by
 unfold flV
 simp only [Bool.not_or,Bool.not_not,Bool.and_eq_true,Bool.not_eq_true',decide_eq_false_iff_not]
 rw [numB_iff]
 exact ⟨fun ⟨h1,⟨h2,h3⟩,h4⟩ => ⟨h1,h2,h3,by omega⟩,fun h => ⟨h.nm,⟨h.n0,h.n1⟩,by have:=h.pl; omega⟩⟩
theorem flT_ok (x : Th) : (!flT x) = true ↔ okT x:=by
 unfold flT
 simp only [Bool.not_or,Bool.not_not,Bool.and_eq_true,Bool.not_eq_true',decide_eq_false_iff_not,List.all_eq_true]
 rw [rightSB_iff]
 exact ⟨fun ⟨h1,h2,h3,h4⟩ => ⟨h1,h2,h3,by omega⟩,fun h => ⟨h.nm,h.rg,h.bd,by have:=h.pl; omega⟩⟩
theorem flC_ok (x : Cl) : (!flC x) = true ↔ okC x:=by
 unfold flC kindB ownless
 simp only [Bool.not_or,Bool.not_not,Bool.and_eq_true,Bool.not_eq_true',decide_eq_false_iff_not,List.all_eq_true,decide_eq_true_eq]
 have hr : rightB x.e = true ↔ rightP x.e:=⟨fun h => Classical.byContradiction fun hn => (by rw [right_no _ hn] at h; exact Bool.noConfusion h),right_yes _⟩
 rw [hr]
 exact ⟨fun ⟨⟨h1,h2⟩,h3,h4,h5⟩ => ⟨h1,h2,h3,h4,by omega⟩,fun h => ⟨⟨h.k1,h.k3⟩,h.e,h.ow,by have:=h.pl; omega⟩⟩
theorem rightPB_ok (g : Pg) : rightPB g = true ↔ okP g:=by
 unfold rightPB
 simp only [Bool.and_eq_true,List.all_eq_true]
 rw [numB_iff]
 constructor
 ·rintro ⟨⟨h1,h2⟩,h3,h4,h5⟩
  exact ⟨h1,h2,fun x hx => (flV_ok x).1 (h3 x hx),fun x hx => (flT_ok x).1 (h4 x hx),fun x hx => (flC_ok x).1 (h5 x hx)⟩
 ·intro h
  exact ⟨⟨h.m0,h.m1⟩,fun x hx => (flV_ok x).2 (h.l x hx),fun x hx => (flT_ok x).2 (h.t x hx),fun x hx => (flC_ok x).2 (h.c x hx)⟩
theorem lx_num {n : Int} (h0 : 0 ≤ n) (h1 : n ≤ 9999) : Lx (dg n) [(2,dg n,n.toNat)]:=Lx.one (tk_dg _ (by omega))
theorem lx_sep {s : List UInt8} {ts : List Tri} {c : UInt8} (h : Lx s ts) (hs : Sep c) (hc : tk [c] = (0,3,1,0)) : Lx (s ++ [c]) (ts ++ [(3,[c],0)]):=
 lx_app h (Lx.one hc) fun _ _ => sp_cons c _ hs
theorem lx_wd {s s2 : List UInt8} {ts t2 : List Tri} (h : Lx s ts) (h2 : Lx s2 t2) : Lx (s ++ 32 :: s2) (ts ++ t2):=
 lx_app h h2.blank fun _ _ => sp_cons 32 _ sep32
theorem lf_loc {x : Vr} (h : okV x) : Lf (showV x) (tkVr x):=by
 have a1:=lx_sep (lx_num h.n0 h.n1) sep59 (by decide)
 have a2:=lx_wd (Lx.one (x:=[61]) (k:=3) (v:=0) (by decide)) a1
 have a3:=lx_wd (lx_name h.nm) a2
 have a4:=lx_wd (Lx.one (x:=[108,111,99]) (k:=1) (v:=0) (by decide)) a3
 have:=Lf.line a4
 simpa [showV,tkVr] using this
theorem lx_join : ∀ (xs : List ByteArray) (x : ByteArray),nameB x = true → (∀ s ∈ xs,nameB s = true) → Lx (x.data.toList ++ jtl xs) ((1,x.data.toList,0) :: jtk xs):=by
 intro xs
 induction xs with
 | nil => intro x h _; simpa [jtl,jtk] using lx_name h
 | cons y ys ih =>
  intro x h hs
  have h1:=ih y (hs y (List.mem_cons_self ..)) fun s hs' => hs s (List.mem_cons_of_mem _ hs')
  have h2:=lx_wd (Lx.one (x:=[44]) (k:=3) (v:=0) (by decide)) h1
  have h3:=lx_app (lx_name h) h2 fun _ _ => sp_cons 44 _ sep44
  simpa [jtl,jtk] using h3
theorem lf_regs {rs : List ByteArray} (h : ∀ s ∈ rs,nameB s = true) : Lf (regT rs) (regTk rs):=by
 cases rs with
 | nil => exact Lf.nil
 | cons x xs =>
  have h1:=lx_sep (lx_join xs x (h x (List.mem_cons_self ..)) fun s hs => h s (List.mem_cons_of_mem _ hs)) sep59 (by decide)
  have h2:=lx_wd (Lx.one (x:=[114,101,103]) (k:=1) (v:=0) (by decide)) h1
  have:=Lf.line h2.blank.blank
  simpa [regT,regTk,joinC] using this
theorem lf_thread {x : Th} (h : okT x) : Lf (showT x) (tokT x):=by
 obtain ⟨h200,t,ht,hok,hh⟩:=id h.bd
 have a1:=lx_wd (lx_name h.nm) (Lx.one (x:=[123]) (k:=3) (v:=0) (by decide))
 have a2:=Lf.line (lx_wd (Lx.one (x:=[116,104,114,101,97,100]) (k:=1) (v:=0) (by decide)) a1)
 have a3:=lx_text t (by rw [ht]; exact hok) 1
 rw [← textS_tree h.bd t ht 1,← tokS_tree h.bd t ht] at a3
 have a4:=Lf.line (Lx.one (x:=[125]) (k:=3) (v:=0) (by decide))
 have:=Lf.app a2 (Lf.app (lf_regs h.rg) (Lf.app a3 a4))
 simpa [showT,tokT] using this
theorem lx_kind {k : Int} (h1 : 1 ≤ k) (h3 : k ≤ 3) : Lx (wdsL.getD k.toNat []) [(1,wdsL.getD k.toNat [],0)]:=by
 rcases (by omega : k = 1 ∨ k = 2 ∨ k = 3) with rfl | rfl | rfl
 ·exact Lx.one (x:=[102,111,114,97,108,108]) (by decide)
 ·exact Lx.one (x:=[101,120,105,115,116,115]) (by decide)
 ·exact Lx.one (x:=[97,108,119,97,121,115]) (by decide)
theorem lf_claim {x : Cl} (h : okC x) : Lf (showC x) (tokC x):=by
 have a1:=lx_sep (lx_expr h.e) sep59 (by decide)
 have a2:=Lf.line (lx_wd (lx_kind h.k1 h.k3) a1)
 simpa [showC,tokC] using a2
theorem lf_many {α : Type} (f : α → List UInt8) (g : α → List Tri) : ∀ xs : List α,(∀ x ∈ xs,Lf (f x) (g x)) → Lf (xs.flatMap f) (xs.flatMap g):=by
 intro xs
 induction xs with
 | nil => intro _; exact Lf.nil
 | cons x xs ih =>
  intro h
  rw [List.flatMap_cons,List.flatMap_cons]
  exact Lf.app (h x (List.mem_cons_self ..)) (ih fun y hy => h y (List.mem_cons_of_mem _ hy))
theorem lf_prog {g : Pg} (h : okP g) : Lf (textP g) (tokP g):=by
 have a1:=lx_sep (lx_num h.m0 h.m1) sep59 (by decide)
 have a2:=Lf.line (lx_wd (Lx.one (x:=[109,111,100]) (k:=1) (v:=0) (by decide)) a1)
 have b1:=lf_many showV tkVr g.locs fun x hx => lf_loc (h.l x hx)
 have b2:=lf_many showT tokT g.ths fun x hx => lf_thread (h.t x hx)
 have b3:=lf_many showC tokC g.cls fun x hx => lf_claim (h.c x hx)
 have:=Lf.app a2 (Lf.app b1 (Lf.app b2 b3))
 unfold textP
 rw [if_pos ((rightPB_ok g).2 h)]
 simpa [tokP] using this
theorem scan_prog {g : Pg} (h : okP g) (hl : (textP g).length ≤ 20000) : (scanL (textP g)).1.map strip = tokP g ∧ (scanL (textP g)).2.1 = 0:=by
 obtain ⟨m,q,h1,h2⟩:=lf_prog h [] 0 []
 rw [List.append_nil] at h2
 rw [scanL_small _ hl,h2,sc_nil,List.nil_append]
 exact ⟨h1,rfl⟩
def unc (x : Nd) : Nd:=if x.op = 3 then { x with op:=2 } else x
theorem unc_ar (x : Nd) : ar (unc x).op = ar x.op:=by
 unfold unc
 by_cases h : x.op = 3
 ·rw [if_pos h,h]; rfl
 ·rw [if_neg h]
theorem unc_big (x : Nd) (h : ar x.op ≠ 0) : unc x = x:=by
 unfold unc
 rw [if_neg (fun h3 => h (by rw [h3]; rfl))]
theorem unc_ok (x : Nd) (h : okN x = true) : okN (unc x) = true ∧ (unc x).op ≠ 3:=by
 unfold unc
 by_cases h3 : x.op = 3
 ·rw [if_pos h3]
  refine ⟨?_,by show (2 : Int) ≠ 3; decide⟩
  unfold okN at h ⊢
  simp only [h3] at h
  simpa using h
 ·rw [if_neg h3]; exact ⟨h,h3⟩
theorem clm_unc (x : Nd) (h : x.op ≠ 2) : clm (unc x) = x:=by
 obtain ⟨o,n,a,b,p⟩:=x
 unfold unc clm
 by_cases h3 : o = 3
 ·subst h3; rfl
 ·simp only [h3,if_false]
  rw [if_neg h]
def Ex.unc : Ex → Ex
 | .leaf x => .leaf (Go.Proofs.YtcghccjnadagcaaGreatDoor.unc x)
 | .un x a => .un x a.unc
 | .bin x a b => .bin x a.unc b.unc
theorem Ex.unc_flat (e : Ex) (h : e.wf) : e.unc.flat = e.flat.map Go.Proofs.YtcghccjnadagcaaGreatDoor.unc:=by
 induction e with
 | leaf x => rfl
 | un x a ih =>
  rw [Ex.unc,Ex.flat,Ex.flat,List.map_cons,ih h.2,unc_big x (by rw [h.1]; decide)]
 | bin x a b iha ihb =>
  rw [Ex.unc,Ex.flat,Ex.flat,List.map_cons,List.map_append,iha h.2.1,ihb h.2.2,unc_big x (by rw [h.1]; decide)]
theorem Ex.unc_wf (e : Ex) (h : e.wf) : e.unc.wf:=by
 induction e with
 | leaf x => exact (unc_ar x).trans h
 | un x a ih => exact ⟨h.1,ih h.2⟩
 | bin x a b iha ihb => exact ⟨h.1,iha h.2.1,ihb h.2.2⟩
theorem Ex.unc_depth (e : Ex) : e.unc.depth = e.depth:=by
 induction e with
 | leaf x => rfl
 | un x a ih => simp only [Ex.unc,Ex.depth,ih]
 | bin x a b iha ihb => simp only [Ex.unc,Ex.depth,iha,ihb]
theorem Ex.unc_size (e : Ex) : e.unc.size = e.size:=by
 induction e with
 | leaf x => rfl
 | un x a ih => simp only [Ex.unc,Ex.size,ih]
 | bin x a b iha ihb => simp only [Ex.unc,Ex.size,iha,ihb]
theorem wrapT_unc (e : Ex) (s : List Tri) : wrapT e.unc s = wrapT e s:=by cases e <;> rfl
theorem tokE_unc (e : Ex) : tokE e.unc = tokE e:=by
 induction e with
 | leaf x =>
  obtain ⟨o,n,a,b,p⟩:=x
  rw [Ex.unc]
  unfold unc
  by_cases h3 : o = 3
  ·subst h3; rfl
  ·simp only [h3,if_false]
 | un x a ih => rw [Ex.unc,tokE,tokE,ih,wrapT_unc]
 | bin x a b iha ihb => rw [Ex.unc,tokE,tokE,iha,ihb,wrapT_unc,wrapT_unc]
section
variable {l : List Tok} {q : Pq}
theorem tx_at {n k v : Nat} {s : List UInt8} {ts : List Tri} (h : Rst l n = (k,s,v) :: ts) : (tokO l n).2.1 = s:=congrArg (·.2.1) (rst_hd h)
theorem ex_at {k v : Nat} {s : List UInt8} {ts : List Tri} (h : Rst l q.n = (k,s,v) :: ts) : gexP l q s = ⟨q.n + 1,q.k,q.a⟩:=by
 unfold gexP txB
 rw [tx_at h]
 rw [if_pos (by simp)]
theorem nmP_at {s : ByteArray} {ts : List Tri} (h : Rst l q.n = (1,s.data.toList,0) :: ts) (hs : nameB s = true) : gnmP l q = (s,⟨q.n + 1,q.k,q.a⟩):=by
 have:=(nm_at h hs).2
 unfold gnmP
 rw [this,if_pos hs]
theorem nuP_at {d : List UInt8} {v : Nat} {ts : List Tri} (h : Rst l q.n = (2,d,v) :: ts) : gnuP l q = (v,⟨q.n + 1,q.k,q.a⟩):=by
 have h1 : (tokO l q.n).1 = 2:=congrArg (·.1) (rst_hd h)
 have h2 : (tokO l q.n).2.2.1 = v:=congrArg (·.2.2) (rst_hd h)
 unfold gnuP
 rw [if_pos h1,h2]
theorem seq_at {α β : Type} (bg : List UInt8 → Bool) (stp : Nat → Pq → α → Pq × α) (tk : β → List Tri) (ok : β → Prop) (Rel : α → List β → Prop)
  (hstep : ∀ x (p : Pq) a done post,ok x → Rel a done → Rst l p.n = tk x ++ post → p.n ≤ l.length → bg (tokO l p.n).2.1 = true ∧ 1 ≤ (tk x).length ∧ ∃ a',stp p.n ⟨p.n + 1,p.k,p.a⟩ a = (⟨p.n + (tk x).length,p.k,p.a⟩,a') ∧ Rel a' (done ++ [x]))
  : ∀ (xs : List β) (done : List β) (a : α) (p : Pq) (post : List Tri) (f : Nat),(∀ x ∈ xs,ok x) → Rel a done → Rst l p.n = xs.flatMap tk ++ post → bg (hdT post).2.1 = false → p.n ≤ l.length → xs.length < f →
   ∃ a',seqP l bg stp f p a = (⟨p.n + (xs.flatMap tk).length,p.k,p.a⟩,a') ∧ Rel a' (done ++ xs):=by
 intro xs
 induction xs with
 | nil =>
  intro done a p post f _ hr h hb hp hf
  obtain ⟨f,rfl⟩ : ∃ g,f = g + 1:=⟨f - 1,by omega⟩
  refine ⟨a,?_,by rw [List.append_nil]; exact hr⟩
  rw [List.flatMap_nil,List.nil_append] at h
  have : (tokO l p.n).2.1 = (hdT post).2.1:=congrArg (·.2.1) (rst_hd h)
  rw [seqP,this,hb,if_neg (by decide)]
  rfl
 | cons x xs ih =>
  intro done a p post f hok hr h hb hp hf
  obtain ⟨f,rfl⟩ : ∃ g,f = g + 1:=⟨f - 1,by omega⟩
  rw [List.flatMap_cons,List.append_assoc] at h
  obtain ⟨h1,h2,a',h3,h4⟩:=hstep x p a done _ (hok x (List.mem_cons_self ..)) hr h hp
  have h5:=rst_app h
  have h6:=rst_le h hp
  obtain ⟨a2,g1,g2⟩:=ih (done ++ [x]) a' ⟨p.n + (tk x).length,p.k,p.a⟩ post f (fun y hy => hok y (List.mem_cons_of_mem _ hy)) h4 h5 hb h6 (by simp at hf; omega)
  refine ⟨a2,?_,by rw [List.append_assoc] at g2; exact g2⟩
  rw [seqP,h1,if_pos rfl,h3,g1,List.flatMap_cons,List.length_append]
  simp only [Nat.add_assoc]
theorem loc_at {x : Vr} (hx : okV x) (pl : Int) {post : List Tri} (h : Rst l q.n = (1,x.nm.data.toList,0) :: (3,[61],0) :: (2,dg x.n,x.n.toNat) :: (3,[59],0) :: post) : glocP l q pl = (⟨x.nm,x.n,pl⟩,⟨q.n + 4,q.k,q.a⟩):=by
 have h2:=rst_tl h
 have h3:=rst_tl h2
 have h4:=rst_tl h3
 unfold glocP
 rw [nmP_at h hx.nm]
 simp only []
 rw [ex_at (q:=⟨q.n + 1,q.k,q.a⟩) h2]
 simp only []
 rw [nuP_at (q:=⟨q.n + 1 + 1,q.k,q.a⟩) h3]
 simp only []
 rw [ex_at (q:=⟨q.n + 1 + 1 + 1,q.k,q.a⟩) h4]
 have : ((x.n.toNat : Nat) : Int) = x.n:=Int.toNat_of_nonneg hx.n0
 rw [this]
theorem locs_at (g0 : Pg) (xs : List Vr) (hx : ∀ x ∈ xs,okV x) (p : Pq) (post : List Tri) (f : Nat) (h : Rst l p.n = xs.flatMap tkVr ++ post) (hb : locB (hdT post).2.1 = false) (hp : p.n ≤ l.length) (hf : xs.length < f) :
  ∃ ys : List Vr,seqP l locB (gLocS l) f p g0 = (⟨p.n + (xs.flatMap tkVr).length,p.k,p.a⟩,{ g0 with locs:=g0.locs ++ ys }) ∧ ys.map Vr.er = xs.map Vr.er:=by
 obtain ⟨a,h1,ys,rfl,h2⟩:=seq_at (l:=l) locB (gLocS l) tkVr okV (fun g done => ∃ ys : List Vr,g = { g0 with locs:=g0.locs ++ ys } ∧ ys.map Vr.er = done.map Vr.er)
  (fun x p a done post hx hr h _ => by
   obtain ⟨ys,rfl,he⟩:=hr
   have h0 : Rst l p.n = (1,[108,111,99],0) :: ((1,x.nm.data.toList,0) :: (3,[61],0) :: (2,dg x.n,x.n.toNat) :: (3,[59],0) :: post):=h
   have h1:=rst_tl h0
   refine ⟨by rw [tx_at h0]; rfl,by simp [tkVr],_,?_,ys ++ [⟨x.nm,x.n,(tokO l p.n).2.2.2⟩],rfl,?_⟩
   ·unfold gLocS
    rw [loc_at (q:=⟨p.n + 1,p.k,p.a⟩) hx _ h1]
    simp only [List.append_assoc]
    rfl
   ·rw [List.map_append,List.map_append,he]; rfl)
  xs [] g0 p post f hx ⟨[],by simp,rfl⟩ h hb hp hf
 exact ⟨ys,h1,h2⟩
theorem regs_at (xs : List ByteArray) (hx : ∀ s ∈ xs,nameB s = true) (a0 : List ByteArray) (p : Pq) (post : List Tri) (f : Nat) (h : Rst l p.n = jtk xs ++ post) (hb : comB (hdT post).2.1 = false) (hp : p.n ≤ l.length) (hf : xs.length < f) :
  seqP l comB (gregS l) f p a0 = (⟨p.n + (jtk xs).length,p.k,p.a⟩,a0 ++ xs):=by
 obtain ⟨a,h1,h2⟩:=seq_at (l:=l) comB (gregS l) (fun y : ByteArray => [(3,[44],0),(1,y.data.toList,0)]) (fun s => nameB s = true) (fun a done => a = a0 ++ done)
  (fun x p a done post hx hr h _ => by
   subst hr
   have h0 : Rst l p.n = (3,[44],0) :: ((1,x.data.toList,0) :: post):=h
   have h1:=rst_tl h0
   refine ⟨by rw [tx_at h0]; rfl,by simp,_,?_,rfl⟩
   unfold gregS
   rw [nmP_at (q:=⟨p.n + 1,p.k,p.a⟩) h1 hx]
   simp only [List.append_assoc]
   rfl)
  xs [] a0 p post f hx (by rw [List.append_nil]) h hb hp hf
 rw [h1,h2]
 rfl
theorem reg_at (xs : List ByteArray) (hx : ∀ s ∈ xs,nameB s = true) (post : List Tri) (h : Rst l q.n = regTk xs ++ post) (hb : ((hdT post).2.1 == [114,101,103]) = false) :
  gregP l q = (xs,⟨q.n + (regTk xs).length,q.k,q.a⟩):=by
 unfold gregP
 cases xs with
 | nil =>
  have : (tokO l q.n).2.1 = (hdT post).2.1:=congrArg (·.2.1) (rst_hd h)
  unfold txB
  rw [this,hb,if_neg (by decide)]
  rfl
 | cons x xs =>
  have h0 : Rst l q.n = (1,[114,101,103],0) :: ((1,x.data.toList,0) :: (jtk xs ++ ((3,[59],0) :: post))):=by rw [h]; simp [regTk]
  have h1:=rst_tl h0
  have h2:=rst_tl h1
  have hle : q.n + 1 + 1 ≤ l.length:=by have:=rst_lt h1; omega
  have h3:=rst_le h2 hle
  have hlen:=rst_len h2
  have hjl : xs.length ≤ (jtk xs).length:=by
   clear h h0 h1 h2 h3 hlen hx
   induction xs with
   | nil => simp
   | cons y ys ih => simp only [jtk,List.flatMap_cons,List.length_append,List.length_cons] at ih ⊢; omega
  unfold txB
  rw [tx_at h0,if_pos (by simp)]
  simp only []
  rw [nmP_at (q:=⟨q.n + 1,q.k,q.a⟩) h1 (hx x (List.mem_cons_self ..))]
  simp only []
  rw [regs_at xs (fun s hs => hx s (List.mem_cons_of_mem _ hs)) [x] ⟨q.n + 1 + 1,q.k,q.a⟩ ((3,[59],0) :: post) (l.length + 1) h2 (by show comB [59] = false; decide) hle (by simp only [List.length_append] at hlen; omega)]
  simp only []
  rw [ex_at (q:=⟨q.n + 1 + 1 + (jtk xs).length,q.k,q.a⟩) (rst_app h2)]
  have : (regTk (x :: xs)).length = 1 + 1 + (jtk xs).length + 1:=by simp [regTk]; omega
  rw [this]
  simp only [List.singleton_append,Nat.add_assoc]
theorem sts_at (xs : List St) (hx : rightS xs) (post : List Tri) (h : Rst l q.n = tokS xs ++ post) (hs : Stop post) (hp : q.n ≤ l.length) :
  ∃ ys,gstP l q = (ys,⟨q.n + (tokS xs).length,q.k,q.a⟩) ∧ ys.map St.er = xs.map St.er:=by
 obtain ⟨h200,t,ht,hok,hh⟩:=id hx
 rw [tokS_tree hx t ht] at h ⊢
 subst ht
 have h1:=tok_len t hok
 have h2:=rst_le h hp
 obtain ⟨ys,h3,h4⟩:=lst_at l t hok 0 q.n (l.length + 1) post (by omega) h hs hp (by omega)
 refine ⟨ys,?_,h4⟩
 have hl : ys.length = t.flat.length:=by simpa using congrArg List.length h4
 have h5 : stmtR l (q.n : Nat) = .ok ys (q.n + t.tok.length):=by
  refine (stmtR_of l q.n _ hp h3).trans ?_
  show (if 200 < ys.length then SRes.err 2 (refK l q.n).2 else .ok ys (q.n + t.tok.length)) = _
  rw [if_neg (by omega)]
 unfold gstP
 rw [h5]
 rfl
theorem exr_at (xs : List Nd) (hx : rightP xs) (how : ∀ y ∈ xs,y.op ≠ 2) (post : List Tri) (h : Rst l q.n = tokN xs ++ post) (hn : NoDot post) (ho : NoOp post) (hp : q.n ≤ l.length) :
  ∃ ys,gexrP l q = (ys,⟨q.n + (tokN xs).length,q.k,q.a⟩) ∧ ys.map Nd.er = xs.map Nd.er:=by
 obtain ⟨e,hw,he,h1,h2,h3⟩:=id hx
 have ht:=tokN_tree xs hx e hw he
 rw [ht,← tokE_unc] at h
 rw [ht,← tokE_unc]
 subst he
 have hfit : Fit e.unc:=⟨e.unc_wf hw,fun y hy => by
  rw [e.unc_flat hw] at hy
  obtain ⟨z,hz,rfl⟩:=List.mem_map.1 hy
  exact unc_ok z (List.all_eq_true.1 h2 z hz)⟩
 obtain ⟨e',h4,h5⟩:=parse_at e.unc hfit (by rw [e.unc_depth]; exact h3) (by rw [e.unc_size,← e.flat_length]; exact h1) l q.n post h hn ho hp
 refine ⟨e'.flat.map clm,?_,?_⟩
 ·unfold gexrP
  rw [h4]
  rfl
 ·have h6 : e'.flat.map Nd.er = e.unc.flat.map Nd.er:=by rw [← Ex.er_flat,← Ex.er_flat,h5]
  have h7 : (e.flat.map Go.Proofs.YtcghccjnadagcaaGreatDoor.unc).map clm = e.flat:=by
   rw [List.map_map]
   conv => rhs; rw [← List.map_id e.flat]
   exact List.map_congr_left fun y hy => clm_unc y (how y hy)
  rw [clm_map _ _ h6,e.unc_flat hw,h7]
theorem thr_at {x : Th} (hx : okT x) (pl : Int) {post : List Tri} (h : Rst l q.n = (1,x.nm.data.toList,0) :: (3,[123],0) :: (regTk x.regs ++ (tokS x.body ++ ((3,[125],0) :: post)))) :
  ∃ y : Th,gthP l q pl = (y,⟨q.n + (2 + (regTk x.regs).length + (tokS x.body).length + 1),q.k,q.a⟩) ∧ y.er = x.er:=by
 have h2:=rst_tl h
 have h3:=rst_tl h2
 have l1 : q.n + 1 + 1 ≤ l.length:=by have:=rst_lt h2; omega
 have hnr : ((hdT (tokS x.body ++ ((3,[125],0) :: post))).2.1 == [114,101,103]) = false:=by
  obtain ⟨h200,t,ht,hok,hh⟩:=id hx.bd
  rw [tokS_tree hx.bd t ht]
  cases t with
  | nil => rfl
  | node s b o r =>
   have h0:=hok _ (by rw [← ht,Tr.flat]; exact List.mem_cons_self ..)
   have hk1 : 1 ≤ s.kind:=h0.k1
   have hk2 : s.kind ≤ 13:=h0.k13
   have hh : (hdT ((Tr.node s b o r).tok ++ ((3,[125],0) :: post))).2.1 = kwds.getD s.kind.toNat []:=by rw [Tr.tok,lineT]; rfl
   rw [hh]
   have key : ∀ k,k < 14 → (kwds.getD k [] == [114,101,103]) = false:=by decide
   exact key _ (by omega)
 have h4:=reg_at (q:=⟨q.n + 1 + 1,q.k,q.a⟩) x.regs hx.rg _ h3 hnr
 have h5:=rst_app h3
 have l2:=rst_le h3 l1
 obtain ⟨ys,h6,h7⟩:=sts_at (q:=⟨q.n + 1 + 1 + (regTk x.regs).length,q.k,q.a⟩) x.body hx.bd _ h5 (.inr ⟨_,rfl⟩) l2
 have h8:=rst_app h5
 refine ⟨⟨x.nm,x.regs,ys,pl⟩,?_,?_⟩
 ·unfold gthP
  rw [nmP_at h hx.nm]
  simp only []
  rw [ex_at (q:=⟨q.n + 1,q.k,q.a⟩) h2]
  simp only []
  rw [h4]
  simp only []
  rw [h6]
  simp only []
  rw [ex_at (q:=⟨q.n + 1 + 1 + (regTk x.regs).length + (tokS x.body).length,q.k,q.a⟩) h8]
  have : q.n + 1 + 1 + (regTk x.regs).length + (tokS x.body).length + 1 = q.n + (2 + (regTk x.regs).length + (tokS x.body).length + 1):=by omega
  rw [this]
 ·simp only [Th.er,h7]
theorem ths_at (g0 : Pg) (xs : List Th) (hx : ∀ x ∈ xs,okT x) (p : Pq) (post : List Tri) (f : Nat) (h : Rst l p.n = xs.flatMap tokT ++ post) (hb : thrB (hdT post).2.1 = false) (hp : p.n ≤ l.length) (hf : xs.length < f) :
  ∃ ys : List Th,seqP l thrB (gThS l) f p g0 = (⟨p.n + (xs.flatMap tokT).length,p.k,p.a⟩,{ g0 with ths:=g0.ths ++ ys }) ∧ ys.map Th.er = xs.map Th.er:=by
 obtain ⟨a,h1,ys,rfl,h2⟩:=seq_at (l:=l) thrB (gThS l) tokT okT (fun g done => ∃ ys : List Th,g = { g0 with ths:=g0.ths ++ ys } ∧ ys.map Th.er = done.map Th.er)
  (fun x p a done post hx hr h _ => by
   obtain ⟨ys,rfl,he⟩:=hr
   have h0 : Rst l p.n = (1,[116,104,114,101,97,100],0) :: ((1,x.nm.data.toList,0) :: (3,[123],0) :: (regTk x.regs ++ (tokS x.body ++ ((3,[125],0) :: post)))):=by rw [h]; simp [tokT]
   have h1:=rst_tl h0
   obtain ⟨y,h2,h3⟩:=thr_at (q:=⟨p.n + 1,p.k,p.a⟩) hx (tokO l p.n).2.2.2 h1
   refine ⟨by rw [tx_at h0]; rfl,by simp [tokT],_,?_,ys ++ [y],rfl,?_⟩
   ·unfold gThS
    rw [h2]
    simp only [List.append_assoc]
    have : p.n + 1 + (2 + (regTk x.regs).length + (tokS x.body).length + 1) = p.n + (tokT x).length:=by simp [tokT]; omega
    rw [this]
   ·rw [List.map_append,List.map_append,he,List.map_singleton,List.map_singleton,h3])
  xs [] g0 p post f hx ⟨[],by simp,rfl⟩ h hb hp hf
 exact ⟨ys,h1,h2⟩
theorem kdW_at {k : Int} (h1 : 1 ≤ k) (h3 : k ≤ 3) : kdW (wdsL.getD k.toNat []) = k.toNat ∧ clB (wdsL.getD k.toNat []) = true:=by
 rcases (by omega : k = 1 ∨ k = 2 ∨ k = 3) with rfl | rfl | rfl <;> decide
theorem cls_at (g0 : Pg) (xs : List Cl) (hx : ∀ x ∈ xs,okC x) (p : Pq) (f : Nat) (h : Rst l p.n = xs.flatMap tokC) (hp : p.n ≤ l.length) (hf : xs.length < f) :
  ∃ ys : List Cl,seqP l clB (gClS l) f p g0 = (⟨p.n + (xs.flatMap tokC).length,p.k,p.a⟩,{ g0 with cls:=g0.cls ++ ys }) ∧ ys.map Cl.er = xs.map Cl.er:=by
 obtain ⟨a,h1,ys,rfl,h2⟩:=seq_at (l:=l) clB (gClS l) tokC okC (fun g done => ∃ ys : List Cl,g = { g0 with cls:=g0.cls ++ ys } ∧ ys.map Cl.er = done.map Cl.er)
  (fun x p a done post hx hr h _ => by
   obtain ⟨ys,rfl,he⟩:=hr
   have h0 : Rst l p.n = (1,wdsL.getD x.kind.toNat [],0) :: (tokN x.e ++ ((3,[59],0) :: post)):=by rw [h]; simp [tokC]
   have h1:=rst_tl h0
   obtain ⟨k1,k2⟩:=kdW_at hx.k1 hx.k3
   have hno:=noop_sg 59 (by decide) post
   obtain ⟨es,h2,h3⟩:=exr_at (q:=⟨p.n + 1,p.k,p.a⟩) x.e hx.e hx.ow _ h1 hno.2 hno.1 (rst_lt h0)
   have h4:=rst_app h1
   have hk:=hx.k1
   refine ⟨by rw [tx_at h0]; exact k2,by simp [tokC],_,?_,ys ++ [⟨x.kind,es,(tokO l p.n).2.2.2⟩],rfl,?_⟩
   ·unfold gClS gclP
    rw [h2]
    simp only []
    rw [ex_at (q:=⟨p.n + 1 + (tokN x.e).length,p.k,p.a⟩) h4,tx_at h0,k1]
    have e1 : ((x.kind.toNat : Nat) : Int) = x.kind:=Int.toNat_of_nonneg (by omega)
    have e2 : p.n + 1 + (tokN x.e).length + 1 = p.n + (tokC x).length:=by simp [tokC]; omega
    rw [e1,e2]
    simp only [List.append_assoc]
   ·rw [List.map_append,List.map_append,he,List.map_singleton,List.map_singleton]
    simp only [Cl.er,h3])
  xs [] g0 p [] f hx ⟨[],by simp,rfl⟩ (by rw [List.append_nil]; exact h) (by decide) hp hf
 exact ⟨ys,h1,h2⟩
end
theorem few_flat {β : Type} (tk : β → List Tri) : ∀ xs : List β,(∀ x ∈ xs,1 ≤ (tk x).length) → xs.length ≤ (xs.flatMap tk).length:=by
 intro xs
 induction xs with
 | nil => intro _; simp
 | cons x xs ih =>
  intro h
  have h1:=h x (List.mem_cons_self ..)
  have h2:=ih fun y hy => h y (List.mem_cons_of_mem _ hy)
  simp only [List.flatMap_cons,List.length_append,List.length_cons]
  omega
theorem prog_at {g : Pg} (hg : okP g) (l : List Tok) (hl : l.map strip = tokP g) : ∃ g',gprP l ⟨0,0,0⟩ = (g',⟨l.length,0,0⟩) ∧ g'.er = g.er:=by
 have h0 : Rst l 0 = tokP g:=hl
 unfold tokP at h0
 have h1:=rst_tl h0
 have h2:=rst_tl h1
 have h3:=rst_tl h2
 have l3 : 0 + 1 + 1 + 1 ≤ l.length:=rst_lt h2
 have hlen:=rst_len h3
 have n1:=few_flat tkVr g.locs fun x _ => by simp [tkVr]
 have n2:=few_flat tokT g.ths fun x _ => by simp [tokT]
 have n3:=few_flat tokC g.cls fun x _ => by simp [tokC]
 simp only [List.length_append] at hlen
 have hc : ∀ k,k ≤ 3 → 1 ≤ k → locB (wdsL.getD k []) = false ∧ thrB (wdsL.getD k []) = false:=by decide
 have hb3 : thrB (hdT (g.cls.flatMap tokC)).2.1 = false ∧ locB (hdT (g.cls.flatMap tokC)).2.1 = false:=by
  cases hcl : g.cls with
  | nil => decide
  | cons x xs =>
   have hx:=hg.c x (by rw [hcl]; exact List.mem_cons_self ..)
   have:=hc x.kind.toNat (by have:=hx.k3; omega) (by have:=hx.k1; omega)
   exact ⟨this.2,this.1⟩
 have hb2 : locB (hdT (g.ths.flatMap tokT ++ g.cls.flatMap tokC)).2.1 = false:=by
  cases hth : g.ths with
  | nil => exact hb3.2
  | cons x xs => rfl
 obtain ⟨ys,s1,e1⟩:=locs_at ⟨g.mod,[],[],[]⟩ g.locs hg.l ⟨0 + 1 + 1 + 1,0,0⟩ _ (l.length + 1) h3 hb2 l3 (by omega)
 have h4:=rst_app h3
 have l4:=rst_le h3 l3
 obtain ⟨zs,s2,e2⟩:=ths_at ⟨g.mod,[] ++ ys,[],[]⟩ g.ths hg.t ⟨0 + 1 + 1 + 1 + (g.locs.flatMap tkVr).length,0,0⟩ _ (l.length + 1) h4 hb3.1 l4 (by omega)
 have h5:=rst_app h4
 have l5:=rst_le h4 l4
 obtain ⟨us,s3,e3⟩:=cls_at ⟨g.mod,[] ++ ys,[] ++ zs,[]⟩ g.cls hg.c ⟨0 + 1 + 1 + 1 + (g.locs.flatMap tkVr).length + (g.ths.flatMap tokT).length,0,0⟩ (l.length + 1) h5 l5 (by omega)
 have hend : 0 + 1 + 1 + 1 + (g.locs.flatMap tkVr).length + (g.ths.flatMap tokT).length + (g.cls.flatMap tokC).length = l.length:=by omega
 refine ⟨⟨g.mod,ys,zs,us⟩,?_,?_⟩
 ·unfold gprP
  rw [ex_at (q:=⟨0,0,0⟩) h0]
  simp only []
  rw [nuP_at (q:=⟨0 + 1,0,0⟩) h1]
  simp only []
  rw [ex_at (q:=⟨0 + 1 + 1,0,0⟩) h2]
  simp only []
  have hm : ((g.mod.toNat : Nat) : Int) = g.mod:=Int.toNat_of_nonneg hg.m0
  rw [hm,s1]
  simp only []
  rw [s2]
  simp only []
  rw [s3]
  simp only []
  rw [hend,if_neg (by omega)]
  simp only [List.nil_append]
 ·simp only [Pg.er,e1,e2,e3]
theorem prog_back {g : Pg} (hg : okP g) (hl : (textP g).length ≤ 20000) : ∃ g',parseG (textP g) = (g',0,0) ∧ g'.er = g.er:=by
 obtain ⟨h1,h2⟩:=scan_prog hg hl
 obtain ⟨g',h3,h4⟩:=prog_at hg _ h1
 refine ⟨g',?_,h4⟩
 unfold parseG
 rw [h2,h3]
 simp
end Go.Proofs.YtcghccjnadagcaaGreatDoor
