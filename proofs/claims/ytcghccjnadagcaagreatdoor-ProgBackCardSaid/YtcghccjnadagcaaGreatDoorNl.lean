/- Facts. -/
import Derived.Test.YtcghccjnadagcaaGreatDoorKa
import Derived.Test.YtcghccjnadagcaaGreatDoorRd
import Derived.Laws.IdiomStrings
import Derived.Test.YtcghccjnadagcaaGreatDoorNh
import Derived.Test.YtcghccjnadagcaaGreatDoorRa
import Derived.Test.YtcghccjnadagcaaGreatDoorH
import Derived.Test.YtcghccjnadagcaaGreatDoorTa
set_option maxRecDepth 100000
set_option maxHeartbeats 32000000
namespace Go.Proofs.YtcghccjnadagcaaGreatDoor
open Go.RowKit
def isNm (x : Nd) : Bool:=decide (x.op = 2 ∨ x.op = 3 ∨ x.op = 4)
def namesL (l : List Nd) : List Nd:=l.filter isNm
open Classical in
noncomputable def textOf (l : List Nd) : List UInt8:=if h : rightP l then showE h.choose else []
theorem textOf_no (l : List Nd) (h : ¬ rightP l) : textOf l = []:=dif_neg h
theorem textOf_tree (l : List Nd) (h : rightP l) (e : Ex) (hw : e.wf) (he : e.flat = l) : textOf l = showE e:=by
 unfold textOf
 rw [dif_pos h]
 obtain ⟨h1,h2,_⟩:=h.choose_spec
 rw [Ex.flat_inj _ e h1 hw (h2.trans he.symm)]
theorem rightP_oks {e : Ex} (h : rightP e.flat) : (∀ x ∈ e.flat,okN x = true) ∧ e.size ≤ 200:=by
 obtain ⟨_,_,_,h2,h3,_⟩:=h
 rw [e.flat_length] at h2
 exact ⟨fun x hx => List.all_eq_true.1 h3 x hx,h2⟩
theorem shown_any (l : List Nd) (v : Value) (w : World) (hv : NdsC w v l) (hn : l.length ≤ 100000) (hz : NmOK l) (ht : Tabs w) :
  Calls Tryz.prog 57 #[v] w (TextIs (textOf l) w):=by
 by_cases h : rightP l
 ·have HR:=right_any l v w hv.nds hn hz true (right_yes l h)
  obtain ⟨e,hw,he,_⟩:=id h
  rw [textOf_tree l h e hw he]
  subst he
  obtain ⟨h1,h2⟩:=rightP_oks h
  have HT : Hid (∀ w',Below w.heap.size w w' → Calls Tryz.prog 111 #[v] w' (TextIs (showE e) w')):=fun w' hb => text_any e hw h1 (by omega) v w' (hv.below hb) (ht.below hb)
  obtain ⟨s,hs⟩ : ∃ s,s = showE e:=⟨_,rfl⟩
  rw [← hs] at HT ⊢
  unfold TextIs at HT
  clear hv ht hz hn h hw h1 h2 hs
  go_enter Tryz.func57,Tryz.ntmps57
  go_wp2_with fail
  refine HR.mono ?_
  rintro _ w1 ⟨rfl,hb1⟩
  go_wp2_with fail
  refine (HT.out w1 hb1).mono ?_
  rintro _ w2 ⟨rfl,hb2⟩
  go_wp2
  go_ret
  exact ⟨rfl,hb1.trans (hb2.mono hb1.size)⟩
 ·have HR:=right_any l v w hv.nds hn hz false (right_no l h)
  rw [textOf_no l h]
  clear hv ht hz hn h
  go_enter Tryz.func57,Tryz.ntmps57
  go_wp2_with fail
  refine HR.mono ?_
  rintro _ w1 ⟨rfl,hb1⟩
  go_wp2
  go_ret
  exact ⟨rfl,hb1⟩
theorem rowN_at (l : List Nd) : ∀ i,(h : i < l.length) → (rowN l)[i * 5]? = some (.int .i64 (l[i]).op) ∧ (rowN l)[i * 5 + 1]? = some (.int .i64 (l[i]).n) ∧ (rowN l)[i * 5 + 2]? = some (.string (l[i]).nm) ∧ (rowN l)[i * 5 + 3]? = some (.string (l[i]).inn) ∧ (rowN l)[i * 5 + 4]? = some (.int .i64 (l[i]).pl):=by
 induction l with
 | nil => intro i h; exact absurd h (Nat.not_lt_zero _)
 | cons a l ih =>
  intro i h
  have hr : rowN (a :: l) = a.cells ++ rowN l:=rfl
  have hl : a.cells.length = 5:=rfl
  cases i with
  | zero => refine ⟨?_,?_,?_,?_,?_⟩ <;> rw [hr,List.getElem?_append_left (by rw [hl]; omega)] <;> rfl
  | succ i =>
   have:=ih i (by simpa using h)
   rw [hr]
   simp only [List.getElem_cons_succ]
   refine ⟨?_,?_,?_,?_,?_⟩ <;> rw [List.getElem?_append_right (by rw [hl]; omega),hl]
   ·rw [show (i + 1) * 5 - 5 = i * 5 by omega]; exact this.1
   ·rw [show (i + 1) * 5 + 1 - 5 = i * 5 + 1 by omega]; exact this.2.1
   ·rw [show (i + 1) * 5 + 2 - 5 = i * 5 + 2 by omega]; exact this.2.2.1
   ·rw [show (i + 1) * 5 + 3 - 5 = i * 5 + 3 by omega]; exact this.2.2.2.1
   ·rw [show (i + 1) * 5 + 4 - 5 = i * 5 + 4 by omega]; exact this.2.2.2.2
theorem ndsC_of_own {w : World} {B : Nat} {v : Value} {l : List Nd} (h : w.ownsRow B 46 5 v l.length (rowN l)) : NdsC w v l:=by
 have hl:=h.lt
 have hc:=@World.ownsRow.cells _ _ _ _ _ _ _ h
 rcases h.2 with ⟨rfl,h0⟩ | ⟨g,cap,cur,rfl,_,hg,h1,h2,_⟩
 ·have:=List.eq_nil_of_length_eq_zero h0
  subst this
  exact ⟨none,0,rfl,Nat.zero_le _,by omega,fun i hi => absurd hi (Nat.not_lt_zero _)⟩
 ·refine ⟨_,cap,rfl,h1,by unfold maxLen at h2; omega,fun i hi => ?_⟩
  obtain ⟨r0,r1,r2,r3,r4⟩:=rowN_at l i hi
  have k0:=hc (g:=g) rfl _ _ r0
  have k1:=hc (g:=g) rfl _ _ r1
  have k2:=hc (g:=g) rfl _ _ r2
  have k3:=hc (g:=g) rfl _ _ r3
  have k4:=hc (g:=g) rfl _ _ r4
  rw [addr_add] at k0 k1 k2 k3 k4
  refine ⟨g,0,rfl,(hl g rfl).2,?_⟩
  rw [Nat.zero_add]
  exact ⟨k0,k1,k2,k3,k4⟩
theorem tk_num (l : List UInt8) (k n v : Nat) (h : tk l = (0,k,n,v)) : v ≤ 9999:=by
 cases l with
 | nil => simp [tk] at h
 | cons c r =>
  rw [tk] at h
  by_cases h1 : ltr (c.toNat : Int) = true
  ·rw [if_pos h1] at h
   by_cases h2 : 16 < spanN wrd (c :: r)
   ·rw [if_pos h2] at h; simp only [Prod.mk.injEq] at h; omega
   ·rw [if_neg h2] at h; simp only [Prod.mk.injEq] at h; omega
  ·rw [if_neg h1] at h
   by_cases h2 : dig (c.toNat : Int) = true
   ·rw [if_pos h2] at h
    by_cases h3 : 9999 < numV ((c :: r).take (spanN dig (c :: r)))
    ·rw [if_pos h3] at h; simp only [Prod.mk.injEq] at h; omega
    ·rw [if_neg h3] at h; simp only [Prod.mk.injEq] at h; omega
   ·rw [if_neg h2] at h
    by_cases h3 : 0 < sgnN (c :: r)
    ·rw [if_pos h3] at h; simp only [Prod.mk.injEq] at h; omega
    ·rw [if_neg h3] at h; simp only [Prod.mk.injEq] at h; omega
theorem scan_tokOK (l : List UInt8) (h : l.length ≤ 20000) : TokOK (scanL l).1:=by
 intro i
 have hp:=(scanL_place l h).1
 have hg:=scanL_good l
 obtain ⟨ts,hts⟩ : ∃ ts,ts = (scanL l).1:=⟨_,rfl⟩
 rw [← hts] at hp hg ⊢
 by_cases hi : i < ts.length
 ·have e : tokO ts i = ts[i]:=by simp [tokO,hi]
  rw [e]
  have h1:=hp _ (List.getElem_mem hi)
  have h2:=hg _ (List.getElem_mem hi)
  unfold Pl at h1
  unfold Good at h2
  have h3:=tk_num _ _ _ _ h2
  omega
 ·have e : tokO ts i = (0,[],0,0):=by simp [tokO,hi]
  rw [e]
  simp
theorem scan_few (l : List UInt8) (h : l.length ≤ 20000) : (scanL l).1.length ≤ 40000:=by
 have h1:=scanL_lenS l
 have h2:=length_le_lenS (scanL l).1
 omega
def k1 : List UInt8:=[97,32,43,32,98,32,42,32,50,32,59]
def k2 : List UInt8:=[97,32,45,32,116,46,98,32,45,32,33,99]
def k3 : List UInt8:=[40,97,32,43,32,59]
def k4 : List UInt8:=[97,32,60]
def ndN (s : List UInt8) (pl : Int) : Nd:=⟨2,0,⟨s.toArray⟩,⟨#[]⟩,pl⟩
def e1 : Ex:=.bin (opN 6 2) (.leaf (ndN [97] 0)) (.bin (opN 8 6) (.leaf (ndN [98] 4)) (.leaf ⟨1,2,⟨#[]⟩,⟨#[]⟩,8⟩))
def e2 : Ex:=.bin (opN 7 8) (.bin (opN 7 2) (.leaf (ndN [97] 0)) (.leaf ⟨4,0,⟨#[98]⟩,⟨#[116]⟩,4⟩)) (.un (opN 5 10) (.leaf (ndN [99] 11)))
def t1 : List Tok:=[(1,[97],0,0),(3,[43],0,2),(1,[98],0,4),(3,[42],0,6),(2,[50],2,8),(3,[59],0,10)]
def t2 : List Tok:=[(1,[97],0,0),(3,[45],0,2),(1,[116],0,4),(3,[46],0,5),(1,[98],0,6),(3,[45],0,8),(3,[33],0,10),(1,[99],0,11)]
def t3 : List Tok:=[(3,[40],0,0),(1,[97],0,1),(3,[43],0,3),(3,[59],0,5)]
def t4 : List Tok:=[(1,[97],0,0),(3,[60],0,2)]
theorem s1 : (scanL k1).1 = t1:=by decide +kernel
theorem s2 : (scanL k2).1 = t2:=by decide +kernel
theorem s3 : (scanL k3).1 = t3:=by decide +kernel
theorem s4 : (scanL k4).1 = t4:=by decide +kernel
theorem p1 : parseR t1 0 = .ok e1 5:=(parse_of t1 0 60 (.ok e1 5) (by decide) (by kernel_rfl)).trans (by rfl)
theorem p2 : parseR t2 0 = .ok e2 8:=(parse_of t2 0 70 (.ok e2 8) (by decide) (by kernel_rfl)).trans (by rfl)
theorem p3 : parseR t3 0 = .err 5 5:=(parse_of t3 0 60 (.err 5 5) (by decide) (by kernel_rfl)).trans (by rfl)
theorem p4 : parseR t4 0 = .err 6 3:=(parse_of t4 0 60 (.err 6 3) (by decide) (by kernel_rfl)).trans (by rfl)
theorem r1 : rightP e1.flat:=⟨e1,by simp [e1,Ex.wf,opN,ndN,ar],rfl,by decide +kernel,by decide +kernel,by decide +kernel⟩
theorem r2 : rightP e2.flat:=⟨e2,by simp [e2,Ex.wf,opN,ndN,ar],rfl,by decide +kernel,by decide +kernel,by decide +kernel⟩
theorem r1' : ¬ rightP (e1.flat.drop 1):=by
 rintro ⟨e,h1,h2,_⟩
 have h:=end_of_tree e h1
 rw [h2] at h
 exact absurd h (by decide +kernel)
theorem x1 : textOf e1.flat = [97,32,43,32,40,98,32,42,32,50,41]:=by rw [textOf_tree _ r1 e1 (by simp [e1,Ex.wf,opN,ndN,ar]) rfl]; decide +kernel
theorem x2 : textOf e2.flat = [40,97,32,45,32,116,46,98,41,32,45,32,33,99]:=by rw [textOf_tree _ r2 e2 (by simp [e2,Ex.wf,opN,ndN,ar]) rfl]; decide +kernel
theorem d1 : DepthIs e1.flat 2:=.inl ⟨e1,by simp [e1,Ex.wf,opN,ndN,ar],rfl,r1,by decide +kernel⟩
theorem n1 : endL e1.flat 2 = 5:=by decide +kernel
theorem m2 : (namesL e2.flat).length = 3:=by decide +kernel
abbrev Tri:=Nat × List UInt8 × Nat
def wrapT : Ex → List Tri → List Tri
 | .bin _ _ _,s => (3,[40],0) :: (s ++ [(3,[41],0)])
 | _,s => s
def tokE : Ex → List Tri
 | .leaf x => if x.op = 1 then [(2,dg x.n,x.n.toNat)] else if x.op = 4 then [(1,x.inn.data.toList,0),(3,[46],0),(1,x.nm.data.toList,0)] else [(1,x.nm.data.toList,0)]
 | .un _ a => (3,[33],0) :: wrapT a (tokE a)
 | .bin x a b => wrapT a (tokE a) ++ (3,sgO x.op.toNat,0) :: wrapT b (tokE b)
theorem digs_all : ∀ n : Nat,∀ c ∈ Lib.decDigits n,dig (c.toNat : Int) = true:=by
 intro n
 induction n using Nat.strongRecOn with
 | _ n ih =>
  intro c hc
  have key : ∀ k,k < 10 → dig ((UInt8.ofNat (48 + k)).toNat : Int) = true:=by decide
  rw [Lib.decDigits] at hc
  by_cases h : n < 10
  ·rw [dif_pos h,List.mem_singleton] at hc
   subst hc
   exact key n h
  ·rw [dif_neg h,List.mem_append,List.mem_singleton] at hc
   rcases hc with hc | rfl
   ·exact ih _ (by omega) c hc
   ·exact key _ (by omega)
theorem digs_val : ∀ n : Nat,numV (Lib.decDigits n) = n:=by
 intro n
 induction n using Nat.strongRecOn with
 | _ n ih =>
  have key : ∀ k,k < 10 → (UInt8.ofNat (48 + k)).toNat - 48 = k:=by decide
  rw [Lib.decDigits]
  by_cases h : n < 10
  ·rw [dif_pos h]
   show 10 * 0 + ((UInt8.ofNat (48 + n)).toNat - 48) = n
   rw [key n h]; omega
  ·rw [dif_neg h]
   have h1:=ih (n / 10) (by omega)
   unfold numV at h1 ⊢
   rw [List.foldl_append,h1]
   show 10 * (n / 10) + ((UInt8.ofNat (48 + n % 10)).toNat - 48) = n
   rw [key _ (by omega)]; omega
theorem digs_pos (n : Nat) : Lib.decDigits n ≠ []:=by
 rw [Lib.decDigits]
 split <;> simp
theorem span_all (p : Int → Bool) : ∀ l : List UInt8,(∀ c ∈ l,p (c.toNat : Int) = true) → spanN p l = l.length
 | [],_ => rfl
 | c :: l,h => by
  have ih:=span_all p l fun d hd => h d (List.mem_cons_of_mem _ hd)
  unfold spanN at *
  simp [h c (by simp),ih]
theorem dig_ltr (c : Int) (h : dig c = true) : ltr c = false:=by
 simp [dig] at h; simp [ltr]; omega
theorem tk_dg (n : Nat) (h : n ≤ 9999) : tk (Lib.decDigits n) = (0,2,(Lib.decDigits n).length,n):=by
 have h1:=digs_all n
 have h2:=digs_val n
 have h3:=digs_pos n
 have h4:=span_all dig _ h1
 cases hx : Lib.decDigits n with
 | nil => exact absurd hx h3
 | cons c r =>
  rw [hx] at h1 h2 h4
  have hc:=h1 c (by simp)
  rw [tk_cons,if_neg (by rw [dig_ltr _ hc]; decide),if_pos hc,h4,List.take_length,h2,if_neg (by omega)]
theorem tk_nm (l : List UInt8) (h : namy l = true) : tk l = (0,1,l.length,0):=by
 unfold namy at h
 simp only [Bool.and_eq_true,decide_eq_true_eq] at h
 obtain ⟨h1,h2,h3⟩:=h
 rw [spanN_full] at h2
 cases l with
 | nil => cases h1
 | cons c r =>
  have h1' : ltr (c.toNat : Int) = true:=h1
  rw [tk_cons,if_pos h1',h2,if_neg (by omega)]
def Sp (rest : List UInt8) : Prop:=rest = [] ∨ ∃ c b,rest = c :: b ∧ Sep c
theorem tk_sp (x rest : List UInt8) (k v : Nat) (h : tk x = (0,k,x.length,v)) (hr : Sp rest) : tk (x ++ rest) = (0,k,x.length,v):=by
 cases x with
 | nil => cases h
 | cons c r =>
  rcases hr with rfl | ⟨d,b,rfl,hd⟩
  ·rw [List.append_nil]; exact h
  ·rw [tk_app c d r b hd]; exact h
theorem sc_one (x rest : List UInt8) (k v : Nat) (h : tk (x ++ rest) = (0,k,x.length,v)) (hx : x ≠ []) (p : Nat) (acc : List Tok) :
  sc (x ++ rest).length (x ++ rest) p acc = sc rest.length rest (p + x.length) (acc ++ [(k,x,v,p)]):=by
 cases x with
 | nil => exact absurd rfl hx
 | cons c r =>
  obtain ⟨h1,h2⟩:=tk_head c (r ++ rest) (by rw [← List.cons_append,h])
  have d1 : (c :: (r ++ rest)).drop (c :: r).length = rest:=List.drop_left (l₁:=c :: r)
  have d2 : (c :: (r ++ rest)).take (c :: r).length = c :: r:=List.take_left (l₁:=c :: r)
  rw [List.cons_append] at h ⊢
  rw [List.length_cons,sc_cons,if_neg (by rw [h1]; decide),if_neg h2,h,if_neg (by simp)]
  simp only [d1,d2]
  exact sc_fuel _ _ _ _ _ (by rw [List.length_append]; omega) (Nat.le_refl _)
theorem sc_space (rest : List UInt8) (p : Nat) (acc : List Tok) : sc (32 :: rest).length (32 :: rest) p acc = sc rest.length rest (p + 1) acc:=by
 rw [List.length_cons,sc_cons,if_pos (by decide)]
def Lx (s : List UInt8) (ts : List Tri) : Prop:=∀ rest,Sp rest → ∀ p acc,∃ m q,m.map strip = ts ∧ sc (s ++ rest).length (s ++ rest) p acc = sc rest.length rest q (acc ++ m)
theorem Lx.one {x : List UInt8} {k v : Nat} (h : tk x = (0,k,x.length,v)) : Lx x [(k,x,v)]:=by
 intro rest hr p acc
 refine ⟨[(k,x,v,p)],_,rfl,sc_one x rest k v (tk_sp x rest k v h hr) ?_ p acc⟩
 rintro rfl
 cases h
theorem Lx.cons {x s : List UInt8} {k v : Nat} {ts : List Tri} (h : ∀ rest,tk (x ++ (s ++ rest)) = (0,k,x.length,v)) (hx : x ≠ []) (hs : Lx s ts) : Lx (x ++ s) ((k,x,v) :: ts):=by
 intro rest hr p acc
 obtain ⟨m,q,h1,h2⟩:=hs rest hr (p + x.length) (acc ++ [(k,x,v,p)])
 refine ⟨(k,x,v,p) :: m,q,by rw [List.map_cons,h1]; rfl,?_⟩
 rw [List.append_assoc,sc_one x (s ++ rest) k v (h rest) hx,h2,List.append_assoc]; rfl
theorem Lx.app {s1 s2 : List UInt8} {t1 t2 : List Tri} (h1 : Lx s1 t1) (h2 : Lx s2 t2) (hs : ∀ rest,Sp (s2 ++ rest)) : Lx (s1 ++ s2) (t1 ++ t2):=by
 intro rest hr p acc
 obtain ⟨m,q,e1,e2⟩:=h1 (s2 ++ rest) (hs rest) p acc
 obtain ⟨m',q',e3,e4⟩:=h2 rest hr q (acc ++ m)
 refine ⟨m ++ m',q',by rw [List.map_append,e1,e3],?_⟩
 rw [List.append_assoc,e2,e4,List.append_assoc]
theorem Lx.blank {s : List UInt8} {ts : List Tri} (h : Lx s ts) : Lx (32 :: s) ts:=by
 intro rest hr p acc
 obtain ⟨m,q,e1,e2⟩:=h rest hr (p + 1) acc
 exact ⟨m,q,e1,by rw [List.cons_append,sc_space,e2]⟩
theorem sp_cons (c : UInt8) (b : List UInt8) (h : Sep c) : Sp (c :: b):=.inr ⟨c,b,rfl,h⟩
theorem sep41 : Sep 41:=⟨by decide,by decide,by decide,by decide⟩
theorem sep46 : Sep 46:=⟨by decide,by decide,by decide,by decide⟩
theorem tk_sgn1 (c : UInt8) (r : List UInt8) (h : c = 40 ∨ c = 41 ∨ c = 46) : tk (c :: r) = (0,3,1,0):=by
 have hs : sgnN (c :: r) = 1:=by
  unfold sgnN
  rw [if_neg (by rcases h with rfl | rfl | rfl <;> cases r <;> simp)]
  rcases h with rfl | rfl | rfl <;> rfl
 rw [tk_cons,hs]
 rcases h with rfl | rfl | rfl <;> rfl
theorem tk_not (d : UInt8) (r : List UInt8) (h : d ≠ 61) : tk (33 :: d :: r) = (0,3,1,0):=by
 have hs : sgnN (33 :: d :: r) = 1:=by
  unfold sgnN
  rw [if_neg (by simp [h])]
  rfl
 rw [tk_cons,hs]
 rfl
theorem okN_name {x : Nd} (h : okN x = true) (ho : x.op = 2 ∨ x.op = 3) : namy x.nm.data.toList = true:=by
 unfold okN at h
 rw [if_neg (by omega),if_pos ho] at h
 simp only [Bool.and_eq_true] at h
 have:=h.2.2.1
 rw [nameB_namy,Bool.and_eq_true] at this
 exact this.2
theorem okN_of {x : Nd} (h : okN x = true) (ho : x.op = 4) : namy x.nm.data.toList = true ∧ namy x.inn.data.toList = true:=by
 unfold okN at h
 rw [if_neg (by omega),if_neg (by omega),if_pos ho] at h
 simp only [Bool.and_eq_true] at h
 have h1:=h.2.2.1
 have h2:=h.2.2.2
 rw [nameB_namy,Bool.and_eq_true] at h1 h2
 exact ⟨h1.2,h2.2⟩
theorem okN_num {x : Nd} (h : okN x = true) (ho : x.op = 1) : 0 ≤ x.n ∧ x.n ≤ 9999 ∧ x.nm = ⟨#[]⟩ ∧ x.inn = ⟨#[]⟩:=by
 unfold okN at h
 rw [if_pos ho] at h
 simp only [Bool.and_eq_true,numB,decide_eq_true_eq] at h
 exact ⟨h.2.1.1,h.2.1.2,empty_of_size _ h.2.2.1,empty_of_size _ h.2.2.2⟩
theorem ar_zero {o : Int} (h : ar o = 0) : o = 1 ∨ o = 2 ∨ o = 3 ∨ o = 4:=by
 unfold ar at h
 repeat' split at h
 all_goals omega
theorem ar_one {o : Int} (h : ar o = 1) : o = 5:=by
 unfold ar at h
 repeat' split at h
 all_goals omega
theorem ar_two {o : Int} (h : ar o = 2) : o = 6 ∨ o = 7 ∨ o = 8 ∨ o = 9 ∨ o = 10 ∨ o = 11 ∨ o = 12 ∨ o = 13 ∨ o = 14:=by
 unfold ar at h
 repeat' split at h
 all_goals omega
def Hd (s : List UInt8) : Prop:=∃ c r,s = c :: r ∧ c ≠ 61
theorem Hd.app {s : List UInt8} (h : Hd s) (r : List UInt8) : Hd (s ++ r):=by
 obtain ⟨c,q,rfl,h⟩:=h; exact ⟨c,q ++ r,rfl,h⟩
theorem hd_namy {s : List UInt8} (h : namy s = true) : Hd s:=by
 unfold namy at h
 simp only [Bool.and_eq_true] at h
 cases s with
 | nil => cases h.1
 | cons c r =>
  refine ⟨c,r,rfl,?_⟩
  rintro rfl
  exact absurd (show ltr ((61 : UInt8).toNat : Int) = true from h.1) (by decide)
theorem hd_digs (n : Nat) : Hd (Lib.decDigits n):=by
 have h1:=digs_all n
 have h3:=digs_pos n
 cases hx : Lib.decDigits n with
 | nil => exact absurd hx h3
 | cons c r =>
  rw [hx] at h1
  refine ⟨c,r,rfl,?_⟩
  rintro rfl
  exact absurd (h1 61 (by simp)) (by decide)
theorem hd_wrap (e : Ex) (s : List UInt8) (h : Hd s) : Hd (wrapB e s):=by
 cases e with
 | leaf x => exact h
 | un x a => exact h
 | bin x a b => exact ⟨40,s ++ [41],by simp [wrapB],by decide⟩
theorem hd_show (e : Ex) (hw : e.wf) (hk : ∀ x ∈ e.flat,okN x = true) : Hd (showE e):=by
 induction e with
 | leaf x =>
  have hx:=hk x (by simp [Ex.flat])
  unfold showE
  rcases ar_zero hw with h | h | h | h
  ·rw [if_pos h]; exact hd_digs _
  ·rw [if_neg (by omega),if_neg (by omega)]; exact hd_namy (okN_name hx (.inl h))
  ·rw [if_neg (by omega),if_neg (by omega)]; exact hd_namy (okN_name hx (.inr h))
  ·rw [if_neg (by omega),if_pos h]; exact ((hd_namy (okN_of hx h).2).app _).app _
 | un x a _ => exact ⟨33,wrapB a (showE a),rfl,by decide⟩
 | bin x a b iha _ =>
  have h:=hd_wrap a _ (iha hw.2.1 fun y hy => hk y (by simp [Ex.flat,hy]))
  unfold showE
  exact (((h.app _).app _).app _).app _
theorem lx_wrap (e : Ex) (h : Lx (showE e) (tokE e)) : Lx (wrapB e (showE e)) (wrapT e (tokE e)):=by
 cases e with
 | leaf x => exact h
 | un x a => exact h
 | bin x a b =>
  have h1 : Lx (showE (.bin x a b) ++ [41]) (tokE (.bin x a b) ++ [(3,[41],0)]):=
   h.app (Lx.one (x:=[41]) (tk_sgn1 41 [] (.inr (.inl rfl)))) fun rest => sp_cons 41 rest sep41
  have h2:=Lx.cons (x:=[40]) (k:=3) (v:=0) (fun rest => tk_sgn1 40 _ (.inl rfl)) (by simp) h1
  show Lx ([40] ++ showE (.bin x a b) ++ [41]) _
  rw [List.append_assoc]
  exact h2
theorem sgO_tk (o : Int) (h : ar o = 2) : tk (sgO o.toNat) = (0,3,(sgO o.toNat).length,0):=by
 rcases ar_two h with rfl | rfl | rfl | rfl | rfl | rfl | rfl | rfl | rfl <;> decide
theorem lx_show (e : Ex) (hw : e.wf) (hk : ∀ x ∈ e.flat,okN x = true) : Lx (showE e) (tokE e):=by
 induction e with
 | leaf x =>
  have hx:=hk x (by simp [Ex.flat])
  unfold showE tokE
  rcases ar_zero hw with h | h | h | h
  ·obtain ⟨h1,h2,_⟩:=okN_num hx h
   rw [if_pos h,if_pos h]
   exact Lx.one (tk_dg _ (by omega))
  ·rw [if_neg (by omega),if_neg (by omega),if_neg (by omega),if_neg (by omega)]
   exact Lx.one (tk_nm _ (okN_name hx (.inl h)))
  ·rw [if_neg (by omega),if_neg (by omega),if_neg (by omega),if_neg (by omega)]
   exact Lx.one (tk_nm _ (okN_name hx (.inr h)))
  ·obtain ⟨h1,h2⟩:=okN_of hx h
   rw [if_neg (by omega),if_pos h,if_neg (by omega),if_pos h,List.append_assoc]
   exact (Lx.one (tk_nm _ h2)).app (Lx.cons (x:=[46]) (k:=3) (v:=0) (fun rest => tk_sgn1 46 _ (.inr (.inr rfl))) (by simp) (Lx.one (tk_nm _ h1))) fun rest => sp_cons 46 _ sep46
 | un x a ih =>
  have hka : ∀ y ∈ a.flat,okN y = true:=fun y hy => hk y (by simp [Ex.flat,hy])
  have h1:=lx_wrap a (ih hw.2 hka)
  obtain ⟨d,r,hd,hne⟩:=hd_wrap a _ (hd_show a hw.2 hka)
  unfold showE tokE
  refine Lx.cons (x:=[33]) (fun rest => ?_) (by simp) h1
  rw [hd]
  exact tk_not d _ hne
 | bin x a b iha ihb =>
  have h1:=lx_wrap a (iha hw.2.1 fun y hy => hk y (by simp [Ex.flat,hy]))
  have h2:=lx_wrap b (ihb hw.2.2 fun y hy => hk y (by simp [Ex.flat,hy]))
  have h3 : Lx (sgO x.op.toNat ++ (32 :: wrapB b (showE b))) ((3,sgO x.op.toNat,0) :: wrapT b (tokE b)):=
   (Lx.one (sgO_tk _ hw.1)).app h2.blank fun rest => sp_cons 32 _ sep32
  have h4:=h1.app h3.blank fun rest => sp_cons 32 _ sep32
  unfold showE tokE
  simp only [List.append_assoc,List.singleton_append] at h4 ⊢
  exact h4
def Nd.er (x : Nd) : Nd:=⟨x.op,x.n,x.nm,x.inn,0⟩
def Ex.er : Ex → Ex
 | .leaf x => .leaf x.er
 | .un x a => .un x.er a.er
 | .bin x a b => .bin x.er a.er b.er
theorem Ex.er_size (e : Ex) : e.er.size = e.size:=by
 induction e with
 | leaf x => rfl
 | un x a ih => simp [Ex.er,Ex.size,ih]
 | bin x a b iha ihb => simp [Ex.er,Ex.size,iha,ihb]
theorem Ex.er_depth (e : Ex) : e.er.depth = e.depth:=by
 induction e with
 | leaf x => rfl
 | un x a ih => simp [Ex.er,Ex.depth,ih]
 | bin x a b iha ihb => simp [Ex.er,Ex.depth,iha,ihb]
theorem Ex.er_flat (e : Ex) : e.er.flat = e.flat.map Nd.er:=by
 induction e with
 | leaf x => rfl
 | un x a ih => simp [Ex.er,Ex.flat,ih]
 | bin x a b iha ihb => simp [Ex.er,Ex.flat,iha,ihb]
def hdT (p : List Tri) : Tri:=p.headD (0,[],0)
def isT (t : Tri) (x : List UInt8) : Bool:=decide (t.1 = 3) && (t.2.1 == x)
def whT (t : Tri) : List Nat → Nat
 | [] => 0
 | o :: r => if isT t (sgO o) then o else whT t r
def Rst (l : List Tok) (i : Nat) : List Tri:=(l.drop i).map strip
theorem rst_hd {l : List Tok} {i : Nat} {ts : List Tri} (h : Rst l i = ts) : strip (tokO l i) = hdT ts:=by
 subst h
 unfold Rst hdT tokO
 by_cases hi : i < l.length
 ·rw [List.drop_eq_getElem_cons hi,List.getElem?_eq_getElem hi]; rfl
 ·rw [List.drop_eq_nil_of_le (by omega),List.getElem?_eq_none (by omega)]; rfl
theorem rst_app {l : List Tok} {i : Nat} {a b : List Tri} (h : Rst l i = a ++ b) : Rst l (i + a.length) = b:=by
 unfold Rst at *
 rw [← List.drop_drop,List.map_drop,h,List.drop_left]
theorem rst_tl {l : List Tok} {i : Nat} {t : Tri} {b : List Tri} (h : Rst l i = t :: b) : Rst l (i + 1) = b:=rst_app (a:=[t]) h
theorem sgAt_is {l : List Tok} {i : Nat} {ts : List Tri} (h : Rst l i = ts) (x : List UInt8) : sgAt l i x = isT (hdT ts) x:=by rw [← rst_hd h]; rfl
theorem which_is {l : List Tok} {i : Nat} {ts : List Tri} (h : Rst l i = ts) : ∀ os,which l i os = whT (hdT ts) os
 | [] => rfl
 | o :: r => by rw [which,whT,sgAt_is h,which_is h r]
def NoOp (p : List Tri) : Prop:=∀ q,q < 5 → whT (hdT p) (opsOf q) = 0
def NoDot (p : List Tri) : Prop:=isT (hdT p) [46] = false
theorem ba_back (y : ByteArray) : (⟨y.data.toList.toArray⟩ : ByteArray) = y:=rfl
theorem okN_name' {x : Nd} (h : okN x = true) (ho : x.op = 2) : nameB x.nm = true ∧ x.n = 0 ∧ x.inn = ⟨#[]⟩:=by
 unfold okN at h
 rw [if_neg (by omega),if_pos (.inl ho)] at h
 simp only [Bool.and_eq_true,decide_eq_true_eq] at h
 exact ⟨h.2.2.1,h.2.1,empty_of_size _ h.2.2.2⟩
theorem okN_of' {x : Nd} (h : okN x = true) (ho : x.op = 4) : nameB x.nm = true ∧ nameB x.inn = true ∧ x.n = 0:=by
 unfold okN at h
 rw [if_neg (by omega),if_neg (by omega),if_pos ho] at h
 simp only [Bool.and_eq_true,decide_eq_true_eq] at h
 exact ⟨h.2.2.1,h.2.2.2,h.2.1⟩
theorem okN_op {x : Nd} (h : okN x = true) (ho : 5 ≤ x.op) : x.n = 0 ∧ x.nm = ⟨#[]⟩ ∧ x.inn = ⟨#[]⟩:=by
 unfold okN at h
 rw [if_neg (by omega),if_neg (by omega),if_neg (by omega)] at h
 simp only [Bool.and_eq_true,decide_eq_true_eq] at h
 exact ⟨h.2.1,empty_of_size _ h.2.2.1,empty_of_size _ h.2.2.2⟩
theorem er_of {x : Nd} {o : Int} {n : Int} {nm inn : ByteArray} {pl : Int} (h0 : o = x.op) (h1 : n = x.n) (h2 : nm = x.nm) (h3 : inn = x.inn) : Nd.er ⟨o,n,nm,inn,pl⟩ = x.er:=by
 subst h0 h1 h2 h3; rfl
theorem run_op (l : List Tok) (f d i : Nat) : run l (f + 1) (.lv 5) d i =
  if sgAt l i [33] then
   if d = 30 then some (.err 7 (plc l i)) else
   match run l f (.lv 5) (d + 1) (i + 1) with
   | none => none
   | some (.err k a) => some (.err k a)
   | some (.ok e j) => some (.ok (.un (opN 5 (plc l i)) e) j)
  else if sgAt l i [40] then
   if d = 30 then some (.err 7 (plc l i)) else
   match run l f (.lv 0) (d + 1) (i + 1) with
   | none => none
   | some (.err k a) => some (.err k a)
   | some (.ok e j) => if sgAt l j [41] then some (.ok e (j + 1)) else some (refR l j)
  else if nmAt l i then some (namedR l i)
  else if nuAt l i then some (.ok (.leaf ⟨1,(tokO l i).2.2.1,⟨#[]⟩,⟨#[]⟩,plc l i⟩) (i + 1))
  else some (refR l i):=rfl
theorem run_lv (l : List Tok) (f d i n : Nat) (h : n ≠ 5) : run l (f + 1) (.lv n) d i =
  match run l f (.lv (n + 1)) d i with
   | none => none
   | some (.err k a) => some (.err k a)
   | some (.ok e j) => run l f (.more n e) d j:=by
 rw [run,if_neg h]
 rfl
theorem run_mo (l : List Tok) (f d i n : Nat) (e : Ex) : run l (f + 1) (.more n e) d i =
  if which l i (opsOf n) = 0 then some (.ok e i) else
  match run l f (.lv (n + 1)) d (i + 1) with
  | none => none
  | some (.err k a) => some (.err k a)
  | some (.ok y j) => if n = 2 then some (.ok (.bin (opN (which l i (opsOf n)) (plc l i)) e y) j) else run l f (.more n (.bin (opN (which l i (opsOf n)) (plc l i)) e y)) d j:=rfl
def PA (e : Ex) : Prop:=∀ l i d post,Rst l i = wrapT e (tokE e) ++ post → NoDot post → d + e.depth ≤ 30 →
 ∃ f e',run l f (.lv 5) d i = some (.ok e' (i + (wrapT e (tokE e)).length)) ∧ e'.er = e.er
def PB (e : Ex) (D : Nat) : Prop:=∀ l i d post,Rst l i = tokE e ++ post → NoDot post → NoOp post → d + e.depth ≤ D →
 ∃ f e',run l f (.lv 0) d i = some (.ok e' (i + (tokE e).length)) ∧ e'.er = e.er
theorem pa_leaf (x : Nd) (hw : ar x.op = 0) (hk : okN x = true) (h3 : x.op ≠ 3) : PA (.leaf x):=by
 intro l i d post hr hn _
 rcases ar_zero hw with h | h | h | h
 ·obtain ⟨n0,n1,e1,e2⟩:=okN_num hk h
  have ht : tokE (.leaf x) = [(2,dg x.n,x.n.toNat)]:=by unfold tokE; rw [if_pos h]
  rw [show wrapT (.leaf x) (tokE (.leaf x)) = tokE (.leaf x) from rfl,ht] at hr ⊢
  have hs : strip (tokO l i) = (2,dg x.n,x.n.toNat):=rst_hd hr
  have hk1 : (tokO l i).1 = 2:=congrArg (·.1) hs
  have hk2 : (tokO l i).2.2.1 = x.n.toNat:=congrArg (·.2.2) hs
  refine ⟨1,.leaf ⟨1,(tokO l i).2.2.1,⟨#[]⟩,⟨#[]⟩,plc l i⟩,?_,?_⟩
  ·rw [run_op,sgAt_is hr,sgAt_is hr,if_neg (by simp [isT,hdT]),if_neg (by simp [isT,hdT]),if_neg (by simp [nmAt,hk1]),if_pos]
   ·rfl
   ·unfold nuAt numB
    rw [hk1,hk2]
    simp; omega
  ·show Ex.leaf _ = Ex.leaf _
   rw [er_of (x:=x) h.symm (by rw [hk2]; omega) e1.symm e2.symm]
 ·obtain ⟨n1,n2,n3⟩:=okN_name' hk h
  have ht : tokE (.leaf x) = [(1,x.nm.data.toList,0)]:=by unfold tokE; rw [if_neg (by omega),if_neg (by omega)]
  rw [show wrapT (.leaf x) (tokE (.leaf x)) = tokE (.leaf x) from rfl,ht] at hr ⊢
  have hs : strip (tokO l i) = (1,x.nm.data.toList,0):=rst_hd hr
  have hk1 : (tokO l i).1 = 1:=congrArg (·.1) hs
  have hk2 : (tokO l i).2.1 = x.nm.data.toList:=congrArg (·.2.1) hs
  refine ⟨1,.leaf ⟨2,0,txt l i,⟨#[]⟩,plc l i⟩,?_,?_⟩
  ·rw [run_op,sgAt_is hr,sgAt_is hr,if_neg (by simp [isT,hdT]),if_neg (by simp [isT,hdT]),if_pos]
   ·unfold namedR
    rw [sgAt_is (ts:=post) (rst_tl hr),if_neg (by rw [show isT (hdT post) [46] = false from hn]; decide)]; rfl
   ·unfold nmAt
    rw [hk1,hk2,ba_back,n1]; rfl
  ·show Ex.leaf _ = Ex.leaf _
   rw [er_of (x:=x) h.symm n2.symm (by unfold txt; rw [hk2]) n3.symm]
 ·exact absurd h h3
 ·obtain ⟨n1,n2,n3⟩:=okN_of' hk h
  have ht : tokE (.leaf x) = [(1,x.inn.data.toList,0),(3,[46],0),(1,x.nm.data.toList,0)]:=by unfold tokE; rw [if_neg (by omega),if_pos h]
  rw [show wrapT (.leaf x) (tokE (.leaf x)) = tokE (.leaf x) from rfl,ht] at hr ⊢
  have hs : strip (tokO l i) = (1,x.inn.data.toList,0):=rst_hd hr
  have hs2 : strip (tokO l (i + 2)) = (1,x.nm.data.toList,0):=rst_hd (rst_tl (rst_tl hr))
  have hk1 : (tokO l i).1 = 1:=congrArg (·.1) hs
  have hk2 : (tokO l i).2.1 = x.inn.data.toList:=congrArg (·.2.1) hs
  have hk3 : (tokO l (i + 2)).1 = 1:=congrArg (·.1) hs2
  have hk4 : (tokO l (i + 2)).2.1 = x.nm.data.toList:=congrArg (·.2.1) hs2
  refine ⟨1,.leaf ⟨4,0,txt l (i + 2),txt l i,plc l i⟩,?_,?_⟩
  ·rw [run_op,sgAt_is hr,sgAt_is hr,if_neg (by simp [isT,hdT]),if_neg (by simp [isT,hdT]),if_pos]
   ·unfold namedR
    rw [sgAt_is (rst_tl hr),if_pos (by show isT (3,[46],0) [46] = true; decide),if_pos]
    ·rfl
    ·unfold nmAt
     rw [hk3,hk4,ba_back,n1]; rfl
   ·unfold nmAt
    rw [hk1,hk2,ba_back,n2]; rfl
  ·show Ex.leaf _ = Ex.leaf _
   rw [er_of (x:=x) h.symm n3.symm (by unfold txt; rw [hk4]) (by unfold txt; rw [hk2])]
theorem pa_un (x : Nd) (a : Ex) (hw : ar x.op = 1) (hk : okN x = true) (ha : PA a) : PA (.un x a):=by
 intro l i d post hr hn hd
 have ho:=ar_one hw
 obtain ⟨n1,n2,n3⟩:=okN_op hk (by omega)
 have hr' : Rst l i = (3,[33],0) :: (wrapT a (tokE a) ++ post):=hr
 simp only [Ex.depth] at hd
 obtain ⟨f,e',h1,h2⟩:=ha l (i + 1) (d + 1) post (rst_tl hr') hn (by omega)
 refine ⟨f + 1,.un (opN 5 (plc l i)) e',?_,?_⟩
 ·rw [run_op,sgAt_is hr',if_pos (by show isT (3,[33],0) [33] = true; decide),if_neg (by omega),h1]
  show some (Res.ok _ (i + 1 + _)) = some (Res.ok _ (i + (List.length _ + 1)))
  rw [Nat.add_right_comm,Nat.add_assoc]
 ·show Ex.un _ _ = Ex.un _ _
  rw [h2,show (opN 5 (plc l i)).er = x.er from er_of ho.symm n1.symm n2.symm n3.symm]
theorem run_pos {l : List Tok} {f : Nat} {c : Cmd} {d i : Nat} {r : Res} (h : run l f c d i = some r) : ∃ g,f = g + 1:=by
 cases f with
 | zero => cases h
 | succ g => exact ⟨g,rfl⟩
theorem up (l : List Tok) (d i j m : Nat) (e : Ex) : ∀ k f,run l f (.lv (m + k)) d i = some (.ok e j) → m + k ≤ 5 → (∀ q,q < 5 → m ≤ q → which l j (opsOf q) = 0) → ∃ g,run l g (.lv m) d i = some (.ok e j):=by
 intro k
 induction k with
 | zero => intro f h _ _; exact ⟨f,h⟩
 | succ k ih =>
  intro f h hk hq
  refine ih (f + 1) ?_ (by omega) hq
  rw [run_lv _ _ _ _ _ (by omega),show m + k + 1 = m + (k + 1) from rfl,h]
  obtain ⟨g,rfl⟩:=run_pos h
  show run l (g + 1) (.more (m + k) e) d j = _
  rw [run_mo,if_pos (hq _ (by omega) (by omega))]
theorem level_of {o : Int} (h : ar o = 2) : ∃ m,m < 5 ∧ o.toNat ≠ 0 ∧ (o.toNat : Int) = o ∧ whT (3,sgO o.toNat,0) (opsOf m) = o.toNat ∧ (∀ q,q < 5 → m + 1 ≤ q → whT (3,sgO o.toNat,0) (opsOf q) = 0) ∧ isT (3,sgO o.toNat,0) [46] = false:=by
 rcases ar_two h with rfl | rfl | rfl | rfl | rfl | rfl | rfl | rfl | rfl
 ·exact ⟨3,by decide,by decide,by decide,by decide,by decide,by decide⟩
 ·exact ⟨3,by decide,by decide,by decide,by decide,by decide,by decide⟩
 ·exact ⟨4,by decide,by decide,by decide,by decide,by decide,by decide⟩
 ·exact ⟨2,by decide,by decide,by decide,by decide,by decide,by decide⟩
 ·exact ⟨2,by decide,by decide,by decide,by decide,by decide,by decide⟩
 ·exact ⟨2,by decide,by decide,by decide,by decide,by decide,by decide⟩
 ·exact ⟨2,by decide,by decide,by decide,by decide,by decide,by decide⟩
 ·exact ⟨1,by decide,by decide,by decide,by decide,by decide,by decide⟩
 ·exact ⟨0,by decide,by decide,by decide,by decide,by decide,by decide⟩
theorem pb_bin (x : Nd) (a b : Ex) (hw : ar x.op = 2) (hk : okN x = true) (ha : PA a) (hb : PA b) : PB (.bin x a b) 31:=by
 intro l i d post hr hn hno hd
 obtain ⟨n1,n2,n3⟩:=okN_op hk (by have:=ar_two hw; omega)
 obtain ⟨m,hm,ho0,hoi,hwm,hwq,hwd⟩:=level_of hw
 simp only [Ex.depth] at hd
 have hr' : Rst l i = wrapT a (tokE a) ++ ((3,sgO x.op.toNat,0) :: (wrapT b (tokE b) ++ post)):=by
  rw [hr]; show (_ ++ _ :: _) ++ _ = _
  rw [List.append_assoc]; rfl
 obtain ⟨f1,a',h1,e1⟩:=ha l i d _ hr' hwd (by omega)
 have hj:=rst_app hr'
 have hlen : i + (tokE (.bin x a b)).length = i + (wrapT a (tokE a)).length + 1 + (wrapT b (tokE b)).length:=by
  show i + (_ ++ _ :: _).length = _
  rw [List.length_append,List.length_cons]; omega
 rw [hlen]
 obtain ⟨j,hjj⟩ : ∃ j,j = i + (wrapT a (tokE a)).length:=⟨_,rfl⟩
 rw [← hjj] at h1 hj ⊢
 have hj1:=rst_tl hj
 obtain ⟨f2,b',h2,e2⟩:=hb l (j + 1) d post hj1 hn (by omega)
 have hk2:=rst_app hj1
 obtain ⟨k,hkk⟩ : ∃ k,k = j + 1 + (wrapT b (tokE b)).length:=⟨_,rfl⟩
 rw [← hkk] at h2 hk2 ⊢
 obtain ⟨g1,h3⟩:=up l d i j (m + 1) a' (5 - (m + 1)) f1 (by rw [show m + 1 + (5 - (m + 1)) = 5 by omega]; exact h1) (by omega) fun q hq1 hq2 => by rw [which_is hj]; exact hwq q hq1 hq2
 obtain ⟨g2,h4⟩:=up l d (j + 1) k (m + 1) b' (5 - (m + 1)) f2 (by rw [show m + 1 + (5 - (m + 1)) = 5 by omega]; exact h2) (by omega) fun q hq1 _ => by rw [which_is hk2]; exact hno q hq1
 obtain ⟨G,hG⟩ : ∃ G,G = max g1 g2:=⟨_,rfl⟩
 have h5:=run_more l _ (G + 1 + 1) _ _ _ _ (by omega) h3
 have h6:=run_more l _ (G + 1) _ _ _ _ (by omega) h4
 have hwh : which l j (opsOf m) = x.op.toNat:=by rw [which_is hj]; exact hwm
 have h7 : run l (G + 1 + 1) (.more m a') d j = some (.ok (.bin (opN x.op.toNat (plc l j)) a' b') k):=by
  rw [run_mo,hwh,if_neg ho0,h6]
  show (if m = 2 then _ else _) = _
  by_cases h22 : m = 2
  ·rw [if_pos h22]
  ·rw [if_neg h22,run_mo,if_pos (by rw [which_is hk2]; exact hno m hm)]
 have h8 : run l (G + 1 + 1 + 1) (.lv (0 + m)) d i = some (.ok (.bin (opN x.op.toNat (plc l j)) a' b') k):=by
  rw [Nat.zero_add,run_lv _ _ _ _ _ (by omega),h5]
  exact h7
 obtain ⟨g,h9⟩:=up l d i k 0 _ m _ h8 (by omega) fun q hq1 _ => by rw [which_is hk2]; exact hno q hq1
 refine ⟨g,_,h9,?_⟩
 show Ex.bin _ _ _ = Ex.bin _ _ _
 rw [e1,e2,show (opN x.op.toNat (plc l j)).er = x.er from er_of hoi n1.symm n2.symm n3.symm]
theorem noop_close (post : List Tri) : NoOp ((3,[41],0) :: post):=by
 show ∀ q,q < 5 → whT (3,[41],0) (opsOf q) = 0
 decide
theorem nodot_close (post : List Tri) : NoDot ((3,[41],0) :: post):=by
 show isT (3,[41],0) [46] = false
 decide
theorem pa_bin (x : Nd) (a b : Ex) (h : PB (.bin x a b) 31) : PA (.bin x a b):=by
 intro l i d post hr _ hd
 have hr' : Rst l i = (3,[40],0) :: (tokE (.bin x a b) ++ ((3,[41],0) :: post)):=by
  rw [hr]; show _ :: (_ ++ [_]) ++ _ = _
  rw [List.cons_append,List.append_assoc]; rfl
 have hdp : 1 ≤ (Ex.bin x a b).depth:=by simp [Ex.depth]
 have hr1:=rst_tl hr'
 obtain ⟨f,e',h1,h2⟩:=h l (i + 1) (d + 1) _ hr1 (nodot_close _) (noop_close _) (by omega)
 have hr2:=rst_app hr1
 refine ⟨f + 1,e',?_,h2⟩
 rw [run_op,sgAt_is hr',sgAt_is hr',if_neg (by show ¬ isT (3,[40],0) [33] = true; decide),if_pos (by show isT (3,[40],0) [40] = true; decide),if_neg (by omega),h1]
 show (if sgAt l _ [41] then _ else _) = _
 rw [sgAt_is hr2,if_pos (by show isT (3,[41],0) [41] = true; decide)]
 show some (Res.ok _ _) = some (Res.ok _ (i + List.length (_ :: (_ ++ [_]))))
 rw [List.length_cons,List.length_append,List.length_singleton,show i + 1 + (tokE (.bin x a b)).length + 1 = i + ((tokE (.bin x a b)).length + 1 + 1) by omega]
theorem pa_any (e : Ex) (hw : e.wf) (hk : ∀ x ∈ e.flat,okN x = true ∧ x.op ≠ 3) : PA e ∧ PB e 30:=by
 have weak : ∀ e : Ex,PA e → wrapT e (tokE e) = tokE e → PB e 30:=by
  intro e h he l i d post hr hn hno hd
  rw [← he] at hr
  obtain ⟨f,e',h1,h2⟩:=h l i d post hr hn hd
  have hj:=rst_app hr
  obtain ⟨g,h3⟩:=up l d i _ 0 e' 5 f h1 (by omega) fun q hq1 _ => by rw [which_is hj]; exact hno q hq1
  exact ⟨g,e',by rw [he] at h3; exact h3,h2⟩
 induction e with
 | leaf x =>
  obtain ⟨h1,h2⟩:=hk x (by simp [Ex.flat])
  have h:=pa_leaf x hw h1 h2
  exact ⟨h,weak _ h rfl⟩
 | un x a ih =>
  have h:=pa_un x a hw.1 (hk x (by simp [Ex.flat])).1 (ih hw.2 fun y hy => hk y (by simp [Ex.flat,hy])).1
  exact ⟨h,weak _ h rfl⟩
 | bin x a b iha ihb =>
  have h:=pb_bin x a b hw.1 (hk x (by simp [Ex.flat])).1 (iha hw.2.1 fun y hy => hk y (by simp [Ex.flat,hy])).1 (ihb hw.2.2 fun y hy => hk y (by simp [Ex.flat,hy])).1
  exact ⟨pa_bin x a b h,fun l i d post hr hn hno hd => h l i d post hr hn hno (by omega)⟩
def Fit (e : Ex) : Prop:=e.wf ∧ ∀ x ∈ e.flat,okN x = true ∧ x.op ≠ 3
def GoodR (N : Nat) : Res → Prop
 | .ok e _ => Fit e
 | .err k a => k ≠ 0 ∧ a ≤ N
def PlOK (N : Nat) (l : List Tok) : Prop:=∀ i,(tokO l i).2.2.2 + (tokO l i).2.1.length ≤ N
theorem plc_good {N : Nat} {l : List Tok} (h : PlOK N l) (i : Nat) : plc l i ≤ N:=by have:=h i; unfold plc; omega
theorem refR_good {N : Nat} {l : List Tok} (h : PlOK N l) (i : Nat) : GoodR N (refR l i):=by
 unfold refR refK
 by_cases h1 : i < l.length
 ·rw [if_pos h1]; exact ⟨by show 5 ≠ 0; decide,plc_good h i⟩
 ·rw [if_neg h1]
  refine ⟨by show 6 ≠ 0; decide,?_⟩
  show (if l.length = 0 then 0 else _) ≤ N
  split
  ·exact Nat.zero_le _
  ·exact h _
theorem opN_ok (o pl : Nat) (h : 5 ≤ o) : okN (opN o pl) = true ∧ (opN o pl).op ≠ 3:=by
 refine ⟨?_,by show (o : Int) ≠ 3; omega⟩
 have h1 : ¬ ((o : Int) = 1):=by omega
 have h2 : ¬ ((o : Int) = 2 ∨ (o : Int) = 3):=by omega
 have h3 : ¬ ((o : Int) = 4):=by omega
 unfold okN opN
 simp only [if_neg h1,if_neg h2,if_neg h3]
 simp [ByteArray.size]
theorem ops_ar (n o : Nat) (h : o ∈ opsOf n) : ar (o : Int) = 2 ∧ 5 ≤ o:=by
 have key : ∀ m : Nat,m < 15 → 6 ≤ m → ar (m : Int) = 2 ∧ 5 ≤ m:=by decide
 unfold opsOf at h
 split at h <;> simp at h
 all_goals exact key o (by omega) (by omega)
theorem named_good {N : Nat} {l : List Tok} (h : PlOK N l) (i : Nat) (hn : nmAt l i = true) : GoodR N (namedR l i):=by
 have hb : ∀ j,nmAt l j = true → nameB (txt l j) = true:=by
  intro j hj
  unfold nmAt at hj
  rw [Bool.and_eq_true] at hj
  exact hj.2
 have h1:=hb i hn
 unfold namedR
 by_cases h46 : sgAt l (i + 1) [46] = true
 ·rw [if_pos h46]
  by_cases h2 : nmAt l (i + 2) = true
  ·rw [if_pos h2]
   have h3:=hb _ h2
   refine ⟨by show ar 4 = 0; decide,fun x hx => ?_⟩
   obtain rfl:=List.mem_singleton.1 hx
   exact ⟨by simp [okN,h1,h3],by show (4 : Int) ≠ 3; decide⟩
  ·rw [if_neg h2]; exact refR_good h _
 ·rw [if_neg h46]
  refine ⟨by show ar 2 = 0; decide,fun x hx => ?_⟩
  obtain rfl:=List.mem_singleton.1 hx
  exact ⟨by simp [okN,h1,ByteArray.size],by show (2 : Int) ≠ 3; decide⟩
theorem run_good {N : Nat} {l : List Tok} (h : PlOK N l) : ∀ (f : Nat) (c : Cmd) (d i : Nat) (r : Res),(∀ n e,c = .more n e → Fit e) → run l f c d i = some r → GoodR N r:=by
 intro f
 induction f with
 | zero => intro c d i r _ hr; cases hr
 | succ f ih =>
  intro c d i r hc hr
  cases c with
  | lv n =>
   by_cases h5 : n = 5
   ·subst h5
    rw [run_op] at hr
    by_cases h33 : sgAt l i [33] = true
    ·rw [if_pos h33] at hr
     by_cases hd : d = 30
     ·rw [if_pos hd] at hr
      cases hr
      exact ⟨by decide,plc_good h i⟩
     ·rw [if_neg hd] at hr
      cases h1 : run l f (.lv 5) (d + 1) (i + 1) with
      | none => rw [h1] at hr; cases hr
      | some r1 =>
       rw [h1] at hr
       have hg:=ih (.lv 5) _ _ _ (fun n e hh => by cases hh) h1
       cases r1 with
       | err k a => cases hr; exact hg
       | ok e j =>
        cases hr
        refine ⟨⟨by show ar 5 = 1; decide,hg.1⟩,fun x hx => ?_⟩
        rcases List.mem_cons.1 hx with rfl | hx
        ·exact opN_ok 5 _ (by decide)
        ·exact hg.2 x hx
    ·rw [if_neg h33] at hr
     by_cases h40 : sgAt l i [40] = true
     ·rw [if_pos h40] at hr
      by_cases hd : d = 30
      ·rw [if_pos hd] at hr
       cases hr
       exact ⟨by decide,plc_good h i⟩
      ·rw [if_neg hd] at hr
       cases h1 : run l f (.lv 0) (d + 1) (i + 1) with
       | none => rw [h1] at hr; cases hr
       | some r1 =>
        rw [h1] at hr
        have hg:=ih (.lv 0) _ _ _ (fun n e hh => by cases hh) h1
        cases r1 with
        | err k a => cases hr; exact hg
        | ok e j =>
         by_cases h41 : sgAt l j [41] = true
         ·simp only [if_pos h41] at hr
          cases hr
          exact hg
         ·simp only [if_neg h41] at hr
          cases hr
          exact refR_good h j
     ·rw [if_neg h40] at hr
      by_cases hn : nmAt l i = true
      ·rw [if_pos hn] at hr
       cases hr
       exact named_good h i hn
      ·rw [if_neg hn] at hr
       by_cases hu : nuAt l i = true
       ·rw [if_pos hu] at hr
        cases hr
        refine ⟨by show ar 1 = 0; decide,fun x hx => ?_⟩
        obtain rfl:=List.mem_singleton.1 hx
        unfold nuAt at hu
        rw [Bool.and_eq_true] at hu
        exact ⟨by simp [okN,hu.2,ByteArray.size],by show (1 : Int) ≠ 3; decide⟩
       ·rw [if_neg hu] at hr
        cases hr
        exact refR_good h i
   ·rw [run_lv _ _ _ _ _ h5] at hr
    cases h1 : run l f (.lv (n + 1)) d i with
    | none => rw [h1] at hr; cases hr
    | some r1 =>
     rw [h1] at hr
     have hg:=ih (.lv (n + 1)) _ _ _ (fun n e hh => by cases hh) h1
     cases r1 with
     | err k a => cases hr; exact hg
     | ok e j => exact ih _ _ _ _ (fun n e hh => by cases hh; exact hg) hr
  | more n e =>
   have he:=hc n e rfl
   rw [run_mo] at hr
   by_cases hw : which l i (opsOf n) = 0
   ·rw [if_pos hw] at hr
    cases hr
    exact he
   ·rw [if_neg hw] at hr
    obtain ⟨ho1,ho2⟩:=ops_ar n _ (which_mem hw)
    cases h1 : run l f (.lv (n + 1)) d (i + 1) with
    | none => rw [h1] at hr; cases hr
    | some r1 =>
     rw [h1] at hr
     have hg:=ih (.lv (n + 1)) _ _ _ (fun n e hh => by cases hh) h1
     cases r1 with
     | err k a => cases hr; exact hg
     | ok y j =>
      have hb : Fit (.bin (opN (which l i (opsOf n)) (plc l i)) e y):=by
       refine ⟨⟨ho1,he.1,hg.1⟩,fun x hx => ?_⟩
       rcases List.mem_cons.1 hx with rfl | hx
       ·exact opN_ok _ _ ho2
       ·rcases List.mem_append.1 hx with hx | hx
        ·exact he.2 x hx
        ·exact hg.2 x hx
      by_cases h2 : n = 2
      ·simp only [if_pos h2] at hr
       cases hr
       exact hb
      ·simp only [if_neg h2] at hr
       exact ih _ _ _ _ (fun n e hh => by cases hh; exact hb) hr
theorem scan_plOK (l : List UInt8) (h : l.length ≤ 20000) : PlOK l.length (scanL l).1:=by
 intro i
 have hp:=(scanL_place l h).1
 obtain ⟨ts,hts⟩ : ∃ ts,ts = (scanL l).1:=⟨_,rfl⟩
 rw [← hts] at hp ⊢
 by_cases hi : i < ts.length
 ·have e : tokO ts i = ts[i]:=by simp [tokO,hi]
  rw [e]
  exact (hp _ (List.getElem_mem hi)).1
 ·have e : tokO ts i = (0,[],0,0):=by simp [tokO,hi]
  rw [e]
  simp
theorem fit_right {e : Ex} (h : Fit e) (hd : e.depth ≤ 30) (hs : e.size ≤ 200) : rightP e.flat:=
 ⟨e,h.1,rfl,by rw [e.flat_length]; exact hs,List.all_eq_true.2 fun x hx => (h.2 x hx).1,hd⟩
end Go.Proofs.YtcghccjnadagcaaGreatDoor
