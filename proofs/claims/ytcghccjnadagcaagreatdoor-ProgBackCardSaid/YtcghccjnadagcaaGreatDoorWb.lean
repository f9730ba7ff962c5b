/- Facts. -/
import Derived.Test.YtcghccjnadagcaaGreatDoorYk
import Derived.Test.YtcghccjnadagcaaGreatDoorWa
set_option maxRecDepth 100000
set_option maxHeartbeats 32000000
namespace Go.Proofs.YtcghccjnadagcaaGreatDoor
open Go.RowKit
def St.er (x : St) : St:={ x with e:=x.e.map Nd.er,f:=x.f.map Nd.er,pl:=0 }
theorem rst_len {l : List Tok} {i : Nat} {ts : List Tri} (h : Rst l i = ts) : l.length - i = ts.length:=by
 rw [← h]; unfold Rst; rw [List.length_map,List.length_drop]
theorem rst_lt {l : List Tok} {i : Nat} {t : Tri} {b : List Tri} (h : Rst l i = t :: b) : i < l.length:=by
 have:=rst_len h
 rw [List.length_cons] at this
 omega
theorem rst_le {l : List Tok} {i : Nat} {a b : List Tri} (h : Rst l i = a ++ b) (hi : i ≤ l.length) : i + a.length ≤ l.length:=by
 have:=rst_len h
 rw [List.length_append] at this
 omega
theorem parse_at (e : Ex) (hf : Fit e) (hd : e.depth ≤ 30) (hs : e.size ≤ 200) (l : List Tok) (i : Nat) (post : List Tri) (hr : Rst l i = tokE e ++ post) (hn : NoDot post) (ho : NoOp post) (hi : i ≤ l.length) :
  ∃ e',parseR l i = .ok e' (i + (tokE e).length) ∧ e'.er = e.er:=by
 obtain ⟨f,e',h1,h2⟩:=(pa_any e hf.1 hf.2).2 l i 0 post hr hn ho (by omega)
 refine ⟨e',?_,h2⟩
 rw [parse_of l i f _ hi h1,finR_ok]
 have h3:=e'.er_depth
 have h4:=e'.er_size
 rw [h2,Ex.er_depth] at h3
 rw [h2,Ex.er_size] at h4
 rw [if_neg (by omega),if_neg (by omega)]
theorem regsO_er (l : List Nd) : regsO (l.map Nd.er) = regsO l:=by
 unfold regsO
 rw [List.all_map]
 rfl
theorem plain_at (x : List Nd) (hx : rightP x) (hg : regsO x = true) (l : List Tok) (i : Nat) (post : List Tri) (hr : Rst l i = tokN x ++ post) (hn : NoDot post) (ho : NoOp post) (hi : i ≤ l.length) :
  ∃ y,plainR l i = .ok y (i + (tokN x).length) ∧ y.flat.map Nd.er = x.map Nd.er:=by
 obtain ⟨e,hw,he,h1,h2,h3⟩:=id hx
 have ht:=tokN_tree x hx e hw he
 rw [ht] at hr ⊢
 subst he
 have hfit : Fit e:=⟨hw,fun y hy => ⟨List.all_eq_true.1 h2 y hy,fun h => by
  have:=List.all_eq_true.1 hg y hy
  unfold forN at this
  simp [h] at this⟩⟩
 obtain ⟨e',h4,h5⟩:=parse_at e hfit h3 (by rw [← e.flat_length]; exact h1) l i post hr hn ho hi
 have h6 : e'.flat.map Nd.er = e.flat.map Nd.er:=by rw [← Ex.er_flat,← Ex.er_flat,h5]
 refine ⟨e',?_,h6⟩
 unfold plainR
 rw [h4]
 show (if regsB e'.flat then Res.ok e' _ else _) = _
 rw [regs_is,← regsO_er,h6,regsO_er,hg]
 rfl
def updS (x : St) : List UInt8 → St → St
 | [],y => y
 | c :: cs,y => updS x cs (if c = 114 then { y with reg:=x.reg } else if c = 108 then { y with loc:=x.loc } else if c = 101 then { y with e:=x.e } else if c = 102 then { y with f:=x.f } else if c = 113 then { y with ne:=x.ne } else y)
def endOK (b : Bool) : List UInt8 → Bool
 | [] => b
 | d :: _ => d == 44 || d == 59
def saf (b : Bool) : List UInt8 → Bool
 | [] => true
 | c :: cs => (if c = 101 ∨ c = 102 then endOK b cs else true) && saf b cs
theorem saf_form : ∀ k,k < 14 → 1 ≤ k → saf (blkB k) (formL k) = true:=by decide
theorem noop_sg (c : UInt8) (h : c = 44 ∨ c = 59 ∨ c = 123 ∨ c = 125) (post : List Tri) : NoOp ((3,[c],0) :: post) ∧ NoDot ((3,[c],0) :: post):=by
 rcases h with rfl | rfl | rfl | rfl
 all_goals
  constructor
  ·intro q hq
   show whT (3,_,0) (opsOf q) = 0
   revert q
   decide
  ·show isT (3,_,0) [46] = false
   decide
theorem St.er_reg {y z : St} (h : y.er = z.er) (u : ByteArray) : ({ y with reg:=u } : St).er = ({ z with reg:=u } : St).er:=by
 obtain ⟨_,_,_,_,_,_,_,_,_⟩:=y
 obtain ⟨_,_,_,_,_,_,_,_,_⟩:=z
 simp only [St.er,St.mk.injEq] at h ⊢
 simp_all
theorem St.er_loc {y z : St} (h : y.er = z.er) (u : ByteArray) : ({ y with loc:=u } : St).er = ({ z with loc:=u } : St).er:=by
 obtain ⟨_,_,_,_,_,_,_,_,_⟩:=y
 obtain ⟨_,_,_,_,_,_,_,_,_⟩:=z
 simp only [St.er,St.mk.injEq] at h ⊢
 simp_all
theorem St.er_e {y z : St} (h : y.er = z.er) {u v : List Nd} (hu : u.map Nd.er = v.map Nd.er) : ({ y with e:=u } : St).er = ({ z with e:=v } : St).er:=by
 obtain ⟨_,_,_,_,_,_,_,_,_⟩:=y
 obtain ⟨_,_,_,_,_,_,_,_,_⟩:=z
 simp only [St.er,St.mk.injEq] at h ⊢
 simp_all
theorem St.er_f {y z : St} (h : y.er = z.er) {u v : List Nd} (hu : u.map Nd.er = v.map Nd.er) : ({ y with f:=u } : St).er = ({ z with f:=v } : St).er:=by
 obtain ⟨_,_,_,_,_,_,_,_,_⟩:=y
 obtain ⟨_,_,_,_,_,_,_,_,_⟩:=z
 simp only [St.er,St.mk.injEq] at h ⊢
 simp_all
theorem St.er_ne {y z : St} (h : y.er = z.er) (u : Bool) : ({ y with ne:=u } : St).er = ({ z with ne:=u } : St).er:=by
 obtain ⟨_,_,_,_,_,_,_,_,_⟩:=y
 obtain ⟨_,_,_,_,_,_,_,_,_⟩:=z
 simp only [St.er,St.mk.injEq] at h ⊢
 simp_all
theorem St.er_be {y z : St} {b o : Int} (h : y.er = ({ z with body:=b,els:=o } : St).er) (n m : Int) : ({ y with body:=n,els:=m } : St).er = ({ z with body:=n,els:=m } : St).er:=by
 obtain ⟨_,_,_,_,_,_,_,_,_⟩:=y
 obtain ⟨_,_,_,_,_,_,_,_,_⟩:=z
 simp only [St.er,St.mk.injEq] at h ⊢
 simp_all
theorem nm_at {l : List Tok} {i : Nat} {s : ByteArray} {ts : List Tri} (h : Rst l i = (1,s.data.toList,0) :: ts) (hs : nameB s = true) : nmAt l i = true ∧ txt l i = s:=by
 have h0 : strip (tokO l i) = (1,s.data.toList,0):=rst_hd h
 have h1 : (tokO l i).1 = 1:=congrArg (·.1) h0
 have h2 : (tokO l i).2.1 = s.data.toList:=congrArg (·.2.1) h0
 constructor
 ·unfold nmAt; rw [h1,h2,ba_back,hs]; rfl
 ·unfold txt; rw [h2]
theorem head_sign (x : St) (b : Bool) (cs : List UInt8) (post : List Tri) (hp : b = true → NoOp post ∧ NoDot post) (h : endOK b cs = true) : NoOp (fieldT x cs ++ post) ∧ NoDot (fieldT x cs ++ post):=by
 cases cs with
 | nil => exact hp h
 | cons d r =>
  simp only [endOK,Bool.or_eq_true,beq_iff_eq] at h
  have hd : fieldT x (d :: r) = (3,[d],0) :: fieldT x r:=by
   rw [fieldT]
   rcases h with rfl | rfl <;> rfl
  rw [hd,List.cons_append]
  exact noop_sg d (by rcases h with h | h <;> simp [h]) _
theorem fld_at (x : St) (l : List Tok) (b : Bool) (post : List Tri) (hp : b = true → NoOp post ∧ NoDot post) : ∀ (cs : List UInt8) (i : Nat) (y z : St),fOK x cs → saf b cs = true → Rst l i = fieldT x cs ++ post → i ≤ l.length → y.er = z.er →
  ∃ y',fld l cs i y = .ok y' (i + (fieldT x cs).length) ∧ y'.er = (updS x cs z).er:=by
 intro cs
 induction cs with
 | nil => intro i y z _ _ _ _ he; exact ⟨y,rfl,he⟩
 | cons c cs ih =>
  intro i y z hk hs hr hi he
  have hk2:=hk.tail
  obtain ⟨a1,a2,a3,a4,a5⟩:=hk c (List.mem_cons_self ..)
  rw [saf,Bool.and_eq_true] at hs
  obtain ⟨s1,s2⟩:=hs
  rcases a5 with rfl | rfl | rfl | rfl | rfl | rfl | rfl | rfl
  ·simp (config:={decide:=true}) only [fld_cons,updS,fieldT,if_true,if_false] at hr ⊢
   rw [List.append_assoc] at hr
   obtain ⟨n1,n2⟩:=nm_at hr (a1 rfl)
   rw [if_pos n1,n2,List.length_append,List.length_singleton,← Nat.add_assoc]
   exact ih _ _ _ hk2 s2 (rst_tl hr) (rst_lt hr) (St.er_reg he _)
  ·simp (config:={decide:=true}) only [fld_cons,updS,fieldT,if_true,if_false] at hr ⊢
   rw [List.append_assoc] at hr
   obtain ⟨n1,n2⟩:=nm_at hr (a2 rfl)
   rw [if_pos n1,n2,List.length_append,List.length_singleton,← Nat.add_assoc]
   exact ih _ _ _ hk2 s2 (rst_tl hr) (rst_lt hr) (St.er_loc he _)
  ·simp (config:={decide:=true}) only [fld_cons,updS,fieldT,if_true,if_false] at hr s1 ⊢
   rw [List.append_assoc] at hr
   obtain ⟨q1,q2⟩:=head_sign x b cs post hp s1
   obtain ⟨u,h1,h2⟩:=plain_at x.e (a3 rfl).1 (a3 rfl).2 l i _ hr q2 q1 hi
   rw [h1,List.length_append,← Nat.add_assoc]
   exact ih _ _ _ hk2 s2 (rst_app hr) (rst_le hr hi) (St.er_e he h2)
  ·simp (config:={decide:=true}) only [fld_cons,updS,fieldT,if_true,if_false] at hr s1 ⊢
   rw [List.append_assoc] at hr
   obtain ⟨q1,q2⟩:=head_sign x b cs post hp s1
   obtain ⟨u,h1,h2⟩:=plain_at x.f (a4 rfl).1 (a4 rfl).2 l i _ hr q2 q1 hi
   rw [h1,List.length_append,← Nat.add_assoc]
   exact ih _ _ _ hk2 s2 (rst_app hr) (rst_le hr hi) (St.er_f he h2)
  ·simp (config:={decide:=true}) only [fld_cons,updS,fieldT,if_true,if_false] at hr ⊢
   rw [List.append_assoc] at hr
   by_cases hne : x.ne = true
   ·rw [if_pos hne] at hr ⊢
    rw [sgAt_is hr,if_pos (by show isT (3,[33,61],0) [33,61] = true; decide),List.length_append,List.length_singleton,← Nat.add_assoc,hne]
    exact ih _ _ _ hk2 s2 (rst_tl hr) (rst_lt hr) (St.er_ne he _)
   ·rw [if_neg hne] at hr ⊢
    have hne' : x.ne = false:=by simpa using hne
    rw [sgAt_is hr,if_neg (by show ¬ isT (3,[61,61],0) [33,61] = true; decide),sgAt_is hr,if_pos (by show isT (3,[61,61],0) [61,61] = true; decide),List.length_append,List.length_singleton,← Nat.add_assoc,hne']
    exact ih _ _ _ hk2 s2 (rst_tl hr) (rst_lt hr) (St.er_ne he _)
  all_goals
   simp (config:={decide:=true}) only [fld_cons,updS,fieldT,if_false] at hr ⊢
   rw [List.append_assoc] at hr
   rw [sgAt_is hr,if_pos (by show isT (3,_,0) _ = true; decide),List.length_append,List.length_singleton,← Nat.add_assoc]
   exact ih _ _ _ hk2 s2 (rst_tl hr) (rst_lt hr) he
theorem upd_form {x : St} (h : okSt x) (pl : Int) : (updS x (formL x.kind.toNat) (st0 (x.kind.toNat : Nat) pl)).er = ({ x with body:=0,els:=0 } : St).er:=by
 obtain ⟨h1,h2,_,hr,hl,he,hf,hne,_,_⟩:=h
 obtain ⟨k,reg,loc,e,f,ne,body,els,p⟩:=x
 simp only [] at h1 h2 hr hl he hf hne ⊢
 have hz : ∀ s : ByteArray,s.size = 0 → (⟨#[]⟩ : ByteArray) = s:=fun s hs => (empty_of_size s hs).symm
 rcases kind_cases h1 h2 with rfl | rfl | rfl | rfl | rfl | rfl | rfl | rfl | rfl | rfl | rfl | rfl | rfl
 all_goals
  simp [hasR,hasL,hasE,hasF] at hr hl he hf hne
  simp [formL,updS,st0,St.er]
  try simp_all
theorem kind_kwd : ∀ k,k < 14 → 1 ≤ k → kindF (kwds.getD k []) 1 13 = k:=by decide
theorem kwd_else : ∀ k,k < 14 → kwds.getD k [] ≠ [101,108,115,101]:=by decide
theorem kind_at {l : List Tok} {i k : Nat} {ts : List Tri} (h : Rst l i = (1,kwds.getD k [],0) :: ts) (h1 : 1 ≤ k) (h2 : k ≤ 13) : kindL l i = k:=by
 have h0 : strip (tokO l i) = (1,kwds.getD k [],0):=rst_hd h
 have h3 : (tokO l i).1 = 1:=congrArg (·.1) h0
 have h4 : (tokO l i).2.1 = kwds.getD k []:=congrArg (·.2.1) h0
 unfold kindL
 rw [if_pos ⟨rst_lt h,h3⟩,h4]
 exact kind_kwd k (by omega) h1
def Stop (post : List Tri) : Prop:=post = [] ∨ ∃ q,post = (3,[125],0) :: q
theorem stop_at {l : List Tok} {i : Nat} {post : List Tri} (h : Rst l i = post) (hs : Stop post) (_hi : i ≤ l.length) : ¬ (i < l.length ∧ sgAt l i [125] = false):=by
 rintro ⟨h1,h2⟩
 rcases hs with rfl | ⟨q,rfl⟩
 ·have:=rst_len h
  rw [List.length_nil] at this
  omega
 ·rw [sgAt_is h] at h2
  exact absurd h2 (by show ¬ isT (3,[125],0) [125] = false; decide)
theorem tok_noelse (t : Tr) (hok : ∀ x ∈ t.flat,okSt x) (post : List Tri) (hs : Stop post) (l : List Tok) (i : Nat) (h : Rst l i = t.tok ++ post) : elseAt l i = false:=by
 have hd : strip (tokO l i) = hdT (t.tok ++ post):=rst_hd h
 have key : ∀ k x n,hdT (t.tok ++ post) = (k,x,n) → (k ≠ 1 ∨ x ≠ [101,108,115,101]) → elseAt l i = false:=by
  intro k x n he hk
  rw [he] at hd
  have h3 : (tokO l i).1 = k:=congrArg (·.1) hd
  have h4 : (tokO l i).2.1 = x:=congrArg (·.2.1) hd
  unfold elseAt
  rw [h3,h4]
  rcases hk with hk | hk <;> simp [hk]
 cases t with
 | nil =>
  rcases hs with rfl | ⟨q,rfl⟩
  ·exact key 0 [] 0 rfl (.inl (by decide))
  ·exact key 3 [125] 0 rfl (.inl (by decide))
 | node s b o r =>
  have h0:=hok _ (by rw [Tr.flat]; exact List.mem_cons_self ..)
  have h13 : s.kind ≤ 13:=h0.k13
  refine key 1 (kwds.getD s.kind.toNat []) 0 ?_ (.inr (kwd_else _ (by omega)))
  rw [Tr.tok,lineT]
  rfl
theorem brc_at {l : List Tok} {L : Nat → Nat → Option SRes} {inn i n : Nat} {xs : List St} {ts : List Tri} (h1 : Rst l i = (3,[123],0) :: ts) (h2 : inn < 30) (h3 : L (inn + 1) (i + 1) = some (.ok xs (i + 1 + n))) {us : List Tri} (h4 : Rst l (i + 1 + n) = (3,[125],0) :: us) :
  brc L l inn i = some (.ok xs (i + 1 + n + 1)):=by
 unfold brc
 rw [sgAt_is h1,if_pos (by show isT (3,[123],0) [123] = true; decide),if_neg (by omega),h3]
 show (if sgAt l (i + 1 + n) [125] = true then _ else _) = _
 rw [sgAt_is h4,if_pos (by show isT (3,[125],0) [125] = true; decide)]
theorem okSt.tree {s : St} {b o : Tr} (h : okSt { s with body:=(b.flat.length : Nat),els:=(o.flat.length : Nat) }) : (nestK s.kind = false → b.flat.length = 0) ∧ (s.kind ≠ 10 → o.flat.length = 0) ∧ (nestK s.kind = false → o.flat.length = 0):=by
 have h1:=h.body
 have h2:=h.els
 simp only [] at h1 h2
 refine ⟨fun hn => ?_,fun hk => ?_,fun hn => ?_⟩
 ·by_cases h0 : b.flat.length = 0
  ·exact h0
  ·rw [h1 (by omega)] at hn; cases hn
 ·by_cases h0 : o.flat.length = 0
  ·exact h0
  ·exact absurd (h2 (by omega)) hk
 ·by_cases h0 : o.flat.length = 0
  ·exact h0
  ·rw [h2 (by omega)] at hn; exact absurd hn (by decide)
theorem flat_nil {t : Tr} (h : t.flat.length = 0) : t = .nil:=by
 cases t with
 | nil => rfl
 | node s b o r => rw [Tr.flat,List.length_cons] at h; omega
theorem lst_at (l : List Tok) (t : Tr) : (∀ x ∈ t.flat,okSt x) → ∀ (inn i f : Nat) (post : List Tri),inn + t.hgt ≤ 30 → Rst l i = t.tok ++ post → Stop post → i ≤ l.length → t.flat.length + 1 ≤ f →
  ∃ xs,lst l f inn i = some (.ok xs (i + t.tok.length)) ∧ xs.map St.er = t.flat.map St.er:=by
 induction t with
 | nil =>
  intro _ inn i f post _ hr hs hi hf
  obtain ⟨f,rfl⟩ : ∃ g,f = g + 1:=⟨f - 1,by omega⟩
  refine ⟨[],?_,rfl⟩
  rw [lst,if_neg (stop_at (post:=post) hr hs hi)]
  rfl
 | node s b o r hb ho hrr =>
  intro hok inn i f post hh hr hs hi hf
  obtain ⟨f,rfl⟩ : ∃ g,f = g + 1:=⟨f - 1,by omega⟩
  have h0:=hok _ (by rw [Tr.flat]; exact List.mem_cons_self ..)
  have kb:=hb fun x hx => hok x (by rw [Tr.flat]; simp [hx])
  have ko:=ho fun x hx => hok x (by rw [Tr.flat]; simp [hx])
  have kro : ∀ x ∈ r.flat,okSt x:=fun x hx => hok x (by rw [Tr.flat]; simp [hx])
  have kr:=hrr kro
  obtain ⟨tb,tk,tn⟩:=h0.tree
  have hform:=h0.form
  have hupd:=fun pl => upd_form h0 pl
  have h1 : 1 ≤ s.kind:=h0.k1
  have h13 : s.kind ≤ 13:=h0.k13
  have hbare:=(bareS s (b.flat.length : Nat) (o.flat.length : Nat)).2
  rw [Tr.flat] at hf ⊢
  rw [List.length_cons,List.length_append,List.length_append] at hf
  rw [Tr.hgt] at hh
  obtain ⟨x,hx⟩ : ∃ x : St,x = { s with body:=(b.flat.length : Nat),els:=(o.flat.length : Nat) }:=⟨_,rfl⟩
  have hxk : x.kind = s.kind:=by rw [hx]
  rw [← hx] at hform hupd hbare h0
  rw [Tr.tok,← hbare] at hr ⊢
  unfold lineT at hr ⊢
  rw [hxk] at hr hform hupd ⊢
  obtain ⟨k,hk⟩ : ∃ k,k = s.kind.toNat:=⟨_,rfl⟩
  have hkk : s.kind = (k : Nat):=by omega
  rw [← hk] at hr hform hupd ⊢
  have hnb : nestK s.kind = blkB k:=by rw [hkk]; unfold nestK blkB; congr 1; apply propext; omega
  rw [hnb] at hr tb tn hh ⊢
  have k10 : s.kind = 10 ↔ k = 10:=by omega
  -- the keyword
  obtain ⟨T1,hT1⟩ : ∃ T1,T1 = fieldT x (formL k):=⟨_,rfl⟩
  rw [← hT1] at hr ⊢
  have hr0 : Rst l i = (1,kwds.getD k [],0) :: (T1 ++ ((if blkB k = true then [(3,[123],0)] else []) ++ ((if blkB k = true then b.tok ++ (if o.flat.length = 0 then [] else elseT ++ o.tok) ++ [(3,[125],0)] else []) ++ (r.tok ++ post)))):=by
   rw [hr]; simp [List.append_assoc]
  have hil:=rst_lt hr0
  have hkind:=kind_at hr0 (by omega) (by omega)
  have hno : sgAt l i [125] = false:=by rw [sgAt_is hr0]; rfl
  have hr1:=rst_tl hr0
  have hi1 : i + 1 ≤ l.length:=hil
  obtain ⟨y,hy1,hy2⟩:=fld_at x l (blkB k) ((if blkB k = true then [(3,[123],0)] else []) ++ ((if blkB k = true then b.tok ++ (if o.flat.length = 0 then [] else elseT ++ o.tok) ++ [(3,[125],0)] else []) ++ (r.tok ++ post)))
   (fun hbk => by rw [if_pos hbk]; exact noop_sg 123 (.inr (.inr (.inl rfl))) _) (formL k) (i + 1) (st0 (k : Nat) (plc l i : Nat)) (st0 (k : Nat) (plc l i : Nat)) hform (saf_form k (by omega) (by omega)) (by rw [← hT1]; exact hr1) hi1 rfl
  rw [← hT1] at hy1
  rw [hupd] at hy2
  have hye : y.er = ({ s with body:=0,els:=0 } : St).er:=by rw [hy2,hx]
  have hr2:=rst_app hr1
  have hi2:=rst_le hr1 hi1
  rw [lst,if_pos ⟨hil,hno⟩,hkind,if_neg (by omega),hy1]
  simp only []
  by_cases hbk : blkB k = true
  ·simp only [hbk,if_true] at hr2 hh ⊢
   obtain ⟨j,hj⟩ : ∃ j,j = i + 1 + T1.length:=⟨_,rfl⟩
   rw [← hj] at hr2 hi2 ⊢
   rw [List.singleton_append] at hr2
   have hr3:=rst_tl hr2
   rw [List.append_assoc,List.append_assoc] at hr3
   -- the body
   have hstop : ∃ us,(if o.flat.length = 0 then [] else elseT ++ o.tok) ++ ([(3,[125],0)] ++ (r.tok ++ post)) = (3,[125],0) :: us:=by
    by_cases h00 : o.flat.length = 0
    ·rw [if_pos h00]; exact ⟨_,rfl⟩
    ·rw [if_neg h00]; exact ⟨_,rfl⟩
   obtain ⟨us,hus⟩:=hstop
   obtain ⟨xb,hb1,hb2⟩:=kb (inn + 1) (j + 1) f _ (by omega) hr3 (.inr ⟨us,hus⟩) (rst_lt hr2) (by omega)
   have hr4:=rst_app hr3
   have hi4:=rst_le hr3 (rst_lt hr2)
   have hbr:=brc_at (L:=lst l f) hr2 (by omega) hb1 (hr4.trans hus)
   rw [hbr]
   simp only []
   have hr5:=rst_tl (hr4.trans hus)
   have hi5:=rst_lt (hr4.trans hus)
   obtain ⟨j2,hj2⟩ : ∃ j2,j2 = j + 1 + b.tok.length + 1:=⟨_,rfl⟩
   rw [← hj2] at hr5 ⊢
   have hi5' : j2 ≤ l.length:=by omega
   have lb : xb.length = b.flat.length:=by simpa using congrArg List.length hb2
   by_cases h00 : o.flat.length = 0
   ·rw [if_pos h00] at hus ⊢
    have hus' : us = r.tok ++ post:=by simpa using hus.symm
    rw [hus'] at hr5
    have hel:=tok_noelse r kro post hs l j2 hr5
    rw [if_neg (by rw [hel]; simp)]
    simp only []
    obtain ⟨xr,hc1,hc2⟩:=kr inn j2 f post (by omega) hr5 hs hi5' (by omega)
    rw [hc1]
    simp only []
    refine ⟨_,congrArg some (congrArg (SRes.ok _) ?_),?_⟩
    ·simp only [List.length_append,List.length_cons,List.length_nil]
     omega
    ·rw [flat_nil h00]
     simp only [Tr.flat,List.map_cons,List.map_append,List.map_nil,hb2,hc2,List.length_nil,lb]
     rw [St.er_be hye]
   ·rw [if_neg h00] at hus ⊢
    have hk10 : k = 10:=by
     by_cases hk : k = 10
     ·exact hk
     ·exact absurd (tk (fun h => hk (k10.1 h))) h00
    have hus' : us = (1,[101,108,115,101],0) :: (3,[123],0) :: (o.tok ++ ([(3,[125],0)] ++ (r.tok ++ post))):=by
     have : (3,[125],0) :: ((1,[101,108,115,101],0) :: (3,[123],0) :: (o.tok ++ ([(3,[125],0)] ++ (r.tok ++ post)))) = (3,[125],0) :: us:=by rw [← hus,List.append_assoc]; rfl
     exact ((List.cons.inj this).2).symm
    rw [hus'] at hr5
    have hel : elseAt l j2 = true:=by
     have hd : strip (tokO l j2) = (1,[101,108,115,101],0):=rst_hd hr5
     have h3 : (tokO l j2).1 = 1:=congrArg (·.1) hd
     have h4 : (tokO l j2).2.1 = [101,108,115,101]:=congrArg (·.2.1) hd
     unfold elseAt
     rw [h3,h4]; rfl
    have hr6:=rst_tl hr5
    have hr7:=rst_tl hr6
    obtain ⟨xo,ho1,ho2⟩:=ko (inn + 1) (j2 + 1 + 1) f _ (by omega) hr7 (.inr ⟨_,rfl⟩) (rst_lt hr6) (by omega)
    have hr8:=rst_app hr7
    have hbr2:=brc_at (L:=lst l f) hr6 (by omega) ho1 hr8
    rw [if_pos ⟨hk10,hel⟩,hbr2]
    simp only []
    have hr9:=rst_tl hr8
    have hi9:=rst_lt hr8
    obtain ⟨xr,hc1,hc2⟩:=kr inn (j2 + 1 + 1 + o.tok.length + 1) f post (by omega) hr9 hs (by omega) (by omega)
    rw [hc1]
    simp only []
    have lo : xo.length = o.flat.length:=by simpa using congrArg List.length ho2
    refine ⟨_,congrArg some (congrArg (SRes.ok _) ?_),?_⟩
    ·simp only [List.length_append,List.length_cons,List.length_nil,elseT]
     omega
    ·simp only [List.map_cons,List.map_append,hb2,ho2,hc2,lb,lo]
     rw [St.er_be hye]
  ·have hbf : blkB k = false:=by simpa using hbk
   have b0:=tb hbf
   have o0:=tn hbf
   simp only [hbf,Bool.false_eq_true,if_false] at hr2 hh ⊢
   rw [List.nil_append,List.nil_append] at hr2
   rw [if_neg (by rintro ⟨h,_⟩; subst h; exact hbk (by decide))]
   simp only []
   obtain ⟨xr,hc1,hc2⟩:=kr inn (i + 1 + T1.length) f post (by omega) hr2 hs hi2 (by omega)
   rw [hc1]
   simp only []
   refine ⟨_,congrArg some (congrArg (SRes.ok _) ?_),?_⟩
   ·simp only [List.length_append,List.length_cons,List.length_nil]
    omega
   ·rw [flat_nil b0,flat_nil o0]
    simp only [Tr.flat,List.map_cons,hc2,List.length_nil,List.nil_append]
    rw [St.er_be hye]
theorem tok_len (t : Tr) : (∀ x ∈ t.flat,okSt x) → t.flat.length ≤ t.tok.length:=by
 induction t with
 | nil => intro _; exact Nat.le_refl _
 | node s b o r hb ho hr =>
  intro hok
  have h0:=hok _ (by rw [Tr.flat]; exact List.mem_cons_self ..)
  have kb:=hb fun x hx => hok x (by rw [Tr.flat]; simp [hx])
  have ko:=ho fun x hx => hok x (by rw [Tr.flat]; simp [hx])
  have kr:=hr fun x hx => hok x (by rw [Tr.flat]; simp [hx])
  obtain ⟨tb,tk,tn⟩:=h0.tree
  rw [Tr.flat,Tr.tok,lineT]
  simp only [List.length_append,List.length_cons]
  by_cases hn : nestK s.kind = true
  ·rw [if_pos hn,if_pos hn]
   simp only [List.length_append,List.length_cons,List.length_nil]
   by_cases h00 : o.flat.length = 0
   ·rw [if_pos h00]; simp only [List.length_nil]; omega
   ·rw [if_neg h00]; simp only [List.length_append]; omega
  ·have hn' : nestK s.kind = false:=by simpa using hn
   have:=tb hn'
   have:=tn hn'
   rw [if_neg hn,if_neg hn]
   simp only [List.length_nil]
   omega
theorem fld_good (l : List Tok) (hp : ∀ i,(tokO l i).2.2.2 + (tokO l i).2.1.length ≤ 200000) : ∀ (cs : List UInt8) (i : Nat) (y x : St) (j : Nat),i ≤ l.length → fld l cs i y = .ok x j →
  x.kind = y.kind ∧ x.pl = y.pl ∧ x.body = y.body ∧ x.els = y.els ∧ (if 114 ∈ cs then nameB x.reg = true else x.reg = y.reg) ∧ (if 108 ∈ cs then nameB x.loc = true else x.loc = y.loc) ∧
  (if 101 ∈ cs then rightP x.e ∧ regsO x.e = true else x.e = y.e) ∧ (if 102 ∈ cs then rightP x.f ∧ regsO x.f = true else x.f = y.f) ∧ (113 ∉ cs → x.ne = y.ne):=by
 intro cs
 induction cs with
 | nil => intro i y x j _ h; rw [fld] at h; cases h; simp
 | cons c cs ih =>
  intro i y x j hi h
  have hplain : ∀ u k,plainR l i = .ok u k → rightP u.flat ∧ regsO u.flat = true ∧ k ≤ l.length:=by
   intro u k hu
   have ho:=parse_out' l i hi hp
   unfold plainR at hu
   cases hq : parseR l i with
   | err k a => rw [hq] at hu; cases hu
   | ok e m =>
    rw [hq] at hu ho
    obtain ⟨p1,p2,p3,p4,p5⟩:=ho
    simp only [] at hu
    by_cases hg : regsB e.flat = true
    ·rw [if_pos hg] at hu
     cases hu
     exact ⟨fit_right p1 p2 p3,by rw [← regs_is]; exact hg,p5⟩
    ·rw [if_neg hg] at hu; cases hu
  rw [fld_cons] at h
  by_cases c1 : c = 114
  ·subst c1
   rw [if_pos rfl] at h
   by_cases hn : nmAt l i = true
   ·rw [if_pos hn] at h
    have hlt:=nmAt_lt hn
    have hnm : nameB (txt l i) = true:=by unfold nmAt at hn; rw [Bool.and_eq_true] at hn; exact hn.2
    obtain ⟨g1,g2,g3,g4,g5,g6,g7,g8,g9⟩:=ih _ _ _ _ (by omega) h
    refine ⟨g1,g2,g3,g4,?_,by simpa using g6,by simpa using g7,by simpa using g8,by simpa using g9⟩
    rw [if_pos (by simp)]
    split at g5
    ·exact g5
    ·rw [g5]; exact hnm
   ·rw [if_neg hn] at h; cases h
  ·rw [if_neg c1] at h
   by_cases c2 : c = 108
   ·subst c2
    rw [if_pos rfl] at h
    by_cases hn : nmAt l i = true
    ·rw [if_pos hn] at h
     have hlt:=nmAt_lt hn
     have hnm : nameB (txt l i) = true:=by unfold nmAt at hn; rw [Bool.and_eq_true] at hn; exact hn.2
     obtain ⟨g1,g2,g3,g4,g5,g6,g7,g8,g9⟩:=ih _ _ _ _ (by omega) h
     refine ⟨g1,g2,g3,g4,by simpa using g5,?_,by simpa using g7,by simpa using g8,by simpa using g9⟩
     rw [if_pos (by simp)]
     split at g6
     ·exact g6
     ·rw [g6]; exact hnm
    ·rw [if_neg hn] at h; cases h
   ·rw [if_neg c2] at h
    by_cases c3 : c = 101
    ·subst c3
     rw [if_pos rfl] at h
     cases hq : plainR l i with
     | err k a => rw [hq] at h; cases h
     | ok u k =>
      rw [hq] at h
      obtain ⟨p1,p2,p3⟩:=hplain u k hq
      obtain ⟨g1,g2,g3,g4,g5,g6,g7,g8,g9⟩:=ih _ _ _ _ p3 h
      refine ⟨g1,g2,g3,g4,by simpa using g5,by simpa using g6,?_,by simpa using g8,by simpa using g9⟩
      rw [if_pos (by simp)]
      split at g7
      ·exact g7
      ·rw [g7]; exact ⟨p1,p2⟩
    ·rw [if_neg c3] at h
     by_cases c4 : c = 102
     ·subst c4
      rw [if_pos rfl] at h
      cases hq : plainR l i with
      | err k a => rw [hq] at h; cases h
      | ok u k =>
       rw [hq] at h
       obtain ⟨p1,p2,p3⟩:=hplain u k hq
       obtain ⟨g1,g2,g3,g4,g5,g6,g7,g8,g9⟩:=ih _ _ _ _ p3 h
       refine ⟨g1,g2,g3,g4,by simpa using g5,by simpa using g6,by simpa using g7,?_,by simpa using g9⟩
       rw [if_pos (by simp)]
       split at g8
       ·exact g8
       ·rw [g8]; exact ⟨p1,p2⟩
     ·rw [if_neg c4] at h
      by_cases c5 : c = 113
      ·subst c5
       rw [if_pos rfl] at h
       by_cases hn : sgAt l i [33,61] = true
       ·rw [if_pos hn] at h
        have hlt:=sgAt_lt hn
        obtain ⟨g1,g2,g3,g4,g5,g6,g7,g8,g9⟩:=ih _ _ _ _ (by omega) h
        exact ⟨g1,g2,g3,g4,by simpa using g5,by simpa using g6,by simpa using g7,by simpa using g8,fun hh => absurd (List.mem_cons_self ..) hh⟩
       ·rw [if_neg hn] at h
        by_cases hm : sgAt l i [61,61] = true
        ·rw [if_pos hm] at h
         have hlt:=sgAt_lt hm
         obtain ⟨g1,g2,g3,g4,g5,g6,g7,g8,g9⟩:=ih _ _ _ _ (by omega) h
         exact ⟨g1,g2,g3,g4,by simpa using g5,by simpa using g6,by simpa using g7,by simpa using g8,fun hh => absurd (List.mem_cons_self ..) hh⟩
        ·rw [if_neg hm] at h; cases h
      ·rw [if_neg c5] at h
       by_cases hn : sgAt l i [c] = true
       ·rw [if_pos hn] at h
        have hlt:=sgAt_lt hn
        obtain ⟨g1,g2,g3,g4,g5,g6,g7,g8,g9⟩:=ih _ _ _ _ (by omega) h
        have m1 : ∀ d : UInt8,c ≠ d → (d ∈ c :: cs ↔ d ∈ cs):=fun d hd => by simp [Ne.symm hd]
        simp only [m1 114 c1,m1 108 c2,m1 101 c3,m1 102 c4,m1 113 c5]
        exact ⟨g1,g2,g3,g4,g5,g6,g7,g8,g9⟩
       ·rw [if_neg hn] at h; cases h
theorem fld_okSt (l : List Tok) (hp : ∀ i,(tokO l i).2.2.2 + (tokO l i).2.1.length ≤ 200000) (i k pl : Nat) (x : St) (j : Nat) (hi : i ≤ l.length) (h1 : 1 ≤ k) (h13 : k ≤ 13) (h : fld l (formL k) i (st0 (k : Nat) (pl : Nat)) = .ok x j) (n m : Nat) (hn : n ≠ 0 → blkB k = true) (hm : m ≠ 0 → k = 10) :
  okSt { x with body:=(n : Nat),els:=(m : Nat) } ∧ x.kind = (k : Nat):=by
 obtain ⟨g1,g2,g3,g4,g5,g6,g7,g8,g9⟩:=fld_good l hp _ _ _ _ _ hi h
 obtain ⟨xk,reg,loc,e,f,ne,body,els,p⟩:=x
 simp only [st0] at g1 g2 g3 g4 g5 g6 g7 g8 g9 ⊢
 subst g1 g2
 have hz : (⟨#[]⟩ : ByteArray).size = 0:=rfl
 refine ⟨?_,rfl⟩
 have hkk : k = 1 ∨ k = 2 ∨ k = 3 ∨ k = 4 ∨ k = 5 ∨ k = 6 ∨ k = 7 ∨ k = 8 ∨ k = 9 ∨ k = 10 ∨ k = 11 ∨ k = 12 ∨ k = 13:=by omega
 rcases hkk with rfl | rfl | rfl | rfl | rfl | rfl | rfl | rfl | rfl | rfl | rfl | rfl | rfl
 all_goals
  simp [formL,blkB] at g5 g6 g7 g8 g9 hn hm
  refine ⟨by simp,by simp,by simp,?_,?_,?_,?_,?_,?_,?_⟩
  all_goals
   simp [hasR,hasL,hasE,hasF,nestK]
   try simp_all
theorem brc_parts {L : Nat → Nat → Option SRes} {l : List Tok} {inn i : Nat} {xs : List St} {j : Nat} (h : brc L l inn i = some (.ok xs j)) : inn < 30 ∧ i < l.length ∧ ∃ j2,L (inn + 1) (i + 1) = some (.ok xs j2) ∧ j = j2 + 1 ∧ sgAt l j2 [125] = true:=by
 unfold brc at h
 by_cases h1 : sgAt l i [123] = true
 ·rw [if_pos h1] at h
  by_cases h2 : 30 ≤ inn
  ·rw [if_pos h2] at h; cases h
  ·rw [if_neg h2] at h
   cases h3 : L (inn + 1) (i + 1) with
   | none => rw [h3] at h; cases h
   | some r =>
    rw [h3] at h
    cases r with
    | err k a => cases h
    | ok b j2 =>
     simp only [] at h
     by_cases h4 : sgAt l j2 [125] = true
     ·rw [if_pos h4] at h
      cases h
      exact ⟨by omega,sgAt_lt h1,j2,rfl,rfl,h4⟩
     ·rw [if_neg h4] at h; cases h
 ·rw [if_neg h1] at h; cases h
theorem lst_good (l : List Tok) (hp : ∀ i,(tokO l i).2.2.2 + (tokO l i).2.1.length ≤ 200000) : ∀ (f inn i : Nat) (xs : List St) (j : Nat),i ≤ l.length → inn ≤ 30 → lst l f inn i = some (.ok xs j) →
  ∃ t : Tr,t.flat = xs ∧ (∀ x ∈ xs,okSt x) ∧ inn + t.hgt ≤ 30 ∧ (j = l.length ∨ sgAt l j [125] = true) ∧ j ≤ l.length:=by
 intro f
 induction f with
 | zero => intro inn i xs j _ _ h; cases h
 | succ f ih =>
  intro inn i xs j hi hinn h
  rw [lst] at h
  by_cases h0 : i < l.length ∧ sgAt l i [125] = false
  ·rw [if_pos h0] at h
   by_cases hk : kindL l i = 0
   ·rw [if_pos hk] at h; cases h
   ·rw [if_neg hk] at h
    have hk13:=kindL_le l i
    have hff:=fld_fit l hp (formL (kindL l i)) (i + 1) (st0 (kindL l i : Nat) (plc l i : Nat)) (by omega)
    cases h1 : fld l (formL (kindL l i)) (i + 1) (st0 (kindL l i : Nat) (plc l i : Nat)) with
    | err k a => rw [h1] at h; cases h
    | ok x j1 =>
     rw [h1] at h hff
     obtain ⟨k,hkk⟩ : ∃ k,k = kindL l i:=⟨_,rfl⟩
     rw [← hkk] at h h1 hk hk13
     simp only [] at h
     have hx:=fun n m hn hm => fld_okSt l hp (i + 1) k (plc l i) x j1 (by omega) (by omega) hk13 h1 n m hn hm
     cases h2 : (if blkB k then brc (lst l f) l inn j1 else some (.ok [] j1)) with
     | none => rw [h2] at h; cases h
     | some r2 =>
      rw [h2] at h
      cases r2 with
      | err k a => cases h
      | ok b j2 =>
       simp only [] at h
       have hb : ∃ tb : Tr,tb.flat = b ∧ (∀ x ∈ b,okSt x) ∧ (b.length ≠ 0 → blkB k = true) ∧ (blkB k = true → inn + 1 + tb.hgt ≤ 30) ∧ j2 ≤ l.length:=by
        by_cases hbk : blkB k = true
        ·rw [if_pos hbk] at h2
         obtain ⟨q1,q2,j3,q3,q4,q5⟩:=brc_parts h2
         obtain ⟨tb,t1,t2,t3,_,_⟩:=ih (inn + 1) (j1 + 1) b j3 q2 (by omega) q3
         exact ⟨tb,t1,t2,fun _ => hbk,fun _ => t3,by have:=sgAt_lt q5; omega⟩
        ·rw [if_neg hbk] at h2
         cases h2
         exact ⟨.nil,rfl,fun x hx => (by cases hx),fun hh => absurd rfl hh,fun hh => absurd hh hbk,hff.2⟩
       obtain ⟨tb,b1,b2,b3,b4,b5⟩:=hb
       cases h3 : (if k = 10 ∧ elseAt l j2 = true then brc (lst l f) l inn (j2 + 1) else some (.ok [] j2)) with
       | none => rw [h3] at h; cases h
       | some r3 =>
        rw [h3] at h
        cases r3 with
        | err k a => cases h
        | ok o j3 =>
         simp only [] at h
         have ho : ∃ tq : Tr,tq.flat = o ∧ (∀ x ∈ o,okSt x) ∧ (o.length ≠ 0 → k = 10) ∧ (blkB k = true → inn + 1 + tq.hgt ≤ 30) ∧ j3 ≤ l.length:=by
          by_cases hk10 : k = 10 ∧ elseAt l j2 = true
          ·rw [if_pos hk10] at h3
           obtain ⟨q1,q2,j4,q3,q4,q5⟩:=brc_parts h3
           obtain ⟨tq,t1,t2,t3,_,_⟩:=ih (inn + 1) (j2 + 1 + 1) o j4 q2 (by omega) q3
           exact ⟨tq,t1,t2,fun _ => hk10.1,fun _ => t3,by have:=sgAt_lt q5; omega⟩
          ·rw [if_neg hk10] at h3
           cases h3
           refine ⟨.nil,rfl,fun x hx => (by cases hx),fun hh => absurd rfl hh,fun hh => ?_,b5⟩
           have:=b4 hh
           show inn + 1 + 0 ≤ 30
           omega
         obtain ⟨tq,o1,o2,o3,o4,o5⟩:=ho
         cases h4 : lst l f inn j3 with
         | none => rw [h4] at h; cases h
         | some r4 =>
          rw [h4] at h
          cases r4 with
          | err k a => cases h
          | ok r j4 =>
           simp only [] at h
           obtain ⟨tr,r1,r2,r3,r4,r5⟩:=ih inn j3 r j4 o5 hinn h4
           cases h
           obtain ⟨hx1,hx2⟩:=hx b.length o.length b3 o3
           refine ⟨.node x tb tq tr,?_,?_,?_,r4,r5⟩
           ·rw [Tr.flat,b1,o1,r1]
           ·intro z hz
            rcases List.mem_cons.1 hz with rfl | hz
            ·exact hx1
            ·rcases List.mem_append.1 hz with hz | hz
             ·rcases List.mem_append.1 hz with hz | hz
              ·exact b2 z hz
              ·exact o2 z hz
             ·exact r2 z hz
           ·rw [Tr.hgt]
            have hnb : nestK x.kind = blkB k:=by rw [hx2]; unfold nestK blkB; congr 1; apply propext; omega
            rw [hnb]
            by_cases hbk : blkB k = true
            ·have:=b4 hbk
             have:=o4 hbk
             rw [if_pos hbk]
             omega
            ·rw [if_neg hbk]
             omega
  ·rw [if_neg h0] at h
   cases h
   refine ⟨.nil,rfl,fun x hx => (by cases hx),(by show inn + 0 ≤ 30; omega),?_,hi⟩
   by_cases hlt : i < l.length
   ·refine .inr ?_
    cases hs : sgAt l i [125] with
    | true => rfl
    | false => exact absurd ⟨hlt,hs⟩ h0
   ·exact .inl (by omega)
theorem stmt_good (l : List Tok) (hp : ∀ i,(tokO l i).2.2.2 + (tokO l i).2.1.length ≤ 200000) (xs : List St) (j i : Nat) (hi : i ≤ l.length) (h : stmtR l i = .ok xs j) : rightS xs ∧ (j = l.length ∨ sgAt l j [125] = true) ∧ j ≤ l.length:=by
 obtain ⟨r,hr⟩:=lst_total l hp (l.length + 1) 0 i hi (by omega)
 rw [stmtR_of l i r hi hr] at h
 cases r with
 | err k a => cases h
 | ok ys m =>
  have h2 : (if 200 < ys.length then SRes.err 2 (refK l i).2 else .ok ys m) = .ok xs j:=h
  by_cases hb : 200 < ys.length
  ·rw [if_pos hb] at h2; cases h2
  ·rw [if_neg hb] at h2
   cases h2
   obtain ⟨t,t1,t2,t3,t4,t5⟩:=lst_good l hp _ _ _ _ _ hi (by omega) hr
   exact ⟨⟨by omega,t,t1,t2,by omega⟩,t4,t5⟩
theorem plain_err {N : Nat} (l : List Tok) (hp : PlOK N l) (i : Nat) (hi : i ≤ l.length) (k a : Nat) (h : plainR l i = .err k a) : k ≠ 0 ∧ a ≤ N:=by
 obtain ⟨r,hr,_⟩:=run_total l (7 * l.length + 6) (.lv 0) 0 i hi (fun n h => by cases h; omega) (fun n e h => by cases h) (by simp only [need]; omega)
 have hg:=run_good hp _ _ _ _ _ (fun n e h => by cases h) hr
 unfold plainR at h
 rw [parse_of l i _ r hi hr] at h
 cases r with
 | err k2 a2 => cases h; exact hg
 | ok e j =>
  rw [finR_ok] at h
  by_cases h1 : 30 < e.depth
  ·rw [if_pos h1] at h; cases h; exact ⟨by decide,plc_good hp i⟩
  ·rw [if_neg h1] at h
   by_cases h2 : 200 < e.size
   ·rw [if_pos h2] at h; cases h; exact ⟨by decide,plc_good hp i⟩
   ·rw [if_neg h2] at h
    simp only [] at h
    split at h
    ·cases h
    ·cases h; exact ⟨by decide,plc_good hp i⟩
theorem refK_good {N : Nat} {l : List Tok} (h : PlOK N l) (i : Nat) : (refK l i).1 ≠ 0 ∧ (refK l i).2 ≤ N:=refR_good h i
theorem fld_err {N : Nat} (l : List Tok) (hN : PlOK N l) (hp : ∀ i,(tokO l i).2.2.2 + (tokO l i).2.1.length ≤ 200000) : ∀ (cs : List UInt8) (i : Nat) (y : St) (k a : Nat),i ≤ l.length → fld l cs i y = .err k a → k ≠ 0 ∧ a ≤ N:=by
 intro cs
 induction cs with
 | nil => intro i y k a _ h; rw [fld] at h; cases h
 | cons c cs ih =>
  intro i y k a hi h
  have hpo:=plain_out2 l i hi hp
  rw [fld_cons] at h
  split at h
  ·split at h
   ·have:=nmAt_lt (by assumption); exact ih _ _ _ _ (by omega) h
   ·cases h; exact refK_good hN i
  ·split at h
   ·split at h
    ·have:=nmAt_lt (by assumption); exact ih _ _ _ _ (by omega) h
    ·cases h; exact refK_good hN i
   ·split at h
    ·cases hq : plainR l i with
     | err k2 a2 => rw [hq] at h; cases h; exact plain_err l hN i hi _ _ hq
     | ok u m => rw [hq] at h hpo; exact ih _ _ _ _ hpo.2 h
    ·split at h
     ·cases hq : plainR l i with
      | err k2 a2 => rw [hq] at h; cases h; exact plain_err l hN i hi _ _ hq
      | ok u m => rw [hq] at h hpo; exact ih _ _ _ _ hpo.2 h
     ·split at h
      ·split at h
       ·have:=sgAt_lt (by assumption); exact ih _ _ _ _ (by omega) h
       ·split at h
        ·have:=sgAt_lt (by assumption); exact ih _ _ _ _ (by omega) h
        ·cases h; exact refK_good hN i
      ·split at h
       ·have:=sgAt_lt (by assumption); exact ih _ _ _ _ (by omega) h
       ·cases h; exact refK_good hN i
theorem brc_err {N : Nat} {l : List Tok} {L : Nat → Nat → Option SRes} {inn i : Nat} (hN : PlOK N l) (hL : ∀ i' k a,i' ≤ l.length → L (inn + 1) i' = some (.err k a) → k ≠ 0 ∧ a ≤ N) {k a : Nat} (h : brc L l inn i = some (.err k a)) : k ≠ 0 ∧ a ≤ N:=by
 unfold brc at h
 by_cases h1 : sgAt l i [123] = true
 ·rw [if_pos h1] at h
  by_cases h2 : 30 ≤ inn
  ·rw [if_pos h2] at h; cases h; exact ⟨by decide,plc_good hN i⟩
  ·rw [if_neg h2] at h
   cases h3 : L (inn + 1) (i + 1) with
   | none => rw [h3] at h; cases h
   | some r =>
    rw [h3] at h
    cases r with
    | err k2 a2 => cases h; exact hL _ _ _ (sgAt_lt h1) h3
    | ok b j2 =>
     simp only [] at h
     by_cases h4 : sgAt l j2 [125] = true
     ·rw [if_pos h4] at h; cases h
     ·rw [if_neg h4] at h; cases h; exact refK_good hN j2
 ·rw [if_neg h1] at h; cases h; exact refK_good hN i
theorem lst_err {N : Nat} (l : List Tok) (hN : PlOK N l) (hp : ∀ i,(tokO l i).2.2.2 + (tokO l i).2.1.length ≤ 200000) : ∀ (f inn i k a : Nat),i ≤ l.length → lst l f inn i = some (.err k a) → k ≠ 0 ∧ a ≤ N:=by
 intro f
 induction f with
 | zero => intro inn i k a _ h; cases h
 | succ f ih =>
  intro inn i k a hi h
  have hfit:=fun inn' i' r' (h1 : i' ≤ l.length) (h2 : lst l f inn' i' = some r') => lst_fit l hp f inn' i' r' h1 h2
  rw [lst] at h
  by_cases h0 : i < l.length ∧ sgAt l i [125] = false
  ·rw [if_pos h0] at h
   by_cases hk : kindL l i = 0
   ·rw [if_pos hk] at h; cases h; exact ⟨by decide,plc_good hN i⟩
   ·rw [if_neg hk] at h
    have hff:=fld_fit l hp (formL (kindL l i)) (i + 1) (st0 (kindL l i : Nat) (plc l i : Nat)) (by omega)
    cases h1 : fld l (formL (kindL l i)) (i + 1) (st0 (kindL l i : Nat) (plc l i : Nat)) with
    | err k2 a2 => rw [h1] at h; cases h; exact fld_err l hN hp _ _ _ _ _ (by omega) h1
    | ok x j1 =>
     rw [h1] at h hff
     simp only [] at h
     obtain ⟨hf1,hf2⟩:=hff
     cases h2 : (if blkB (kindL l i) then brc (lst l f) l inn j1 else some (.ok [] j1)) with
     | none => rw [h2] at h; cases h
     | some r2 =>
      rw [h2] at h
      cases r2 with
      | err k2 a2 =>
       cases h
       split at h2
       ·exact brc_err hN (fun i' k a hi' hh => ih _ _ _ _ hi' hh) h2
       ·cases h2
      | ok b j2 =>
       simp only [] at h
       have hj2 : j2 ≤ l.length:=by
        split at h2
        ·exact (brc_fit l _ _ _ _ hf2 hfit h2).2.1
        ·cases h2; exact hf2
       cases h3 : (if kindL l i = 10 ∧ elseAt l j2 = true then brc (lst l f) l inn (j2 + 1) else some (.ok [] j2)) with
       | none => rw [h3] at h; cases h
       | some r3 =>
        rw [h3] at h
        cases r3 with
        | err k2 a2 =>
         cases h
         split at h3
         ·exact brc_err hN (fun i' k a hi' hh => ih _ _ _ _ hi' hh) h3
         ·cases h3
        | ok o j3 =>
         simp only [] at h
         have hj3 : j3 ≤ l.length:=by
          split at h3
          ·obtain ⟨_,_,j4,_,q4,q5⟩:=brc_parts h3
           have:=sgAt_lt q5; omega
          ·cases h3; exact hj2
         cases h4 : lst l f inn j3 with
         | none => rw [h4] at h; cases h
         | some r4 =>
          rw [h4] at h
          cases r4 with
          | err k2 a2 => cases h; exact ih _ _ _ _ hj3 h4
          | ok r j4 => cases h
  ·rw [if_neg h0] at h; cases h
theorem stmt_err {N : Nat} (l : List Tok) (hN : PlOK N l) (hp : ∀ i,(tokO l i).2.2.2 + (tokO l i).2.1.length ≤ 200000) (i k a : Nat) (hi : i ≤ l.length) (h : stmtR l i = .err k a) : k ≠ 0 ∧ a ≤ N:=by
 obtain ⟨r,hr⟩:=lst_total l hp (l.length + 1) 0 i hi (by omega)
 rw [stmtR_of l i r hi hr] at h
 cases r with
 | err k2 a2 => cases h; exact lst_err l hN hp _ _ _ _ _ hi hr
 | ok ys m =>
  have h2 : (if 200 < ys.length then SRes.err 2 (refK l i).2 else .ok ys m) = .err k a:=h
  by_cases hb : 200 < ys.length
  ·rw [if_pos hb] at h2; cases h2; exact ⟨by decide,(refK_good hN i).2⟩
  ·rw [if_neg hb] at h2; cases h2
end Go.Proofs.YtcghccjnadagcaaGreatDoor
