/- Facts. -/
import Derived.Test.YtcghccjnadagcaaGreatDoorKa
import Derived.Test.YtcghccjnadagcaaGreatDoorH
import Derived.Laws.StructEq
set_option maxRecDepth 100000
set_option maxHeartbeats 32000000
namespace Go.Proofs.YtcghccjnadagcaaGreatDoor
open Go.RowKit
inductive Ex where
 | leaf (x : Nd)
 | un (x : Nd) (a : Ex)
 | bin (x : Nd) (a b : Ex)
def Ex.flat : Ex → List Nd
 | .leaf x => [x]
 | .un x a => x :: a.flat
 | .bin x a b => x :: (a.flat ++ b.flat)
def Ex.size : Ex → Nat
 | .leaf _ => 1
 | .un _ a => a.size + 1
 | .bin _ a b => a.size + b.size + 1
def Ex.depth : Ex → Nat
 | .leaf _ => 0
 | .un _ a => a.depth + 1
 | .bin _ a b => max a.depth b.depth + 1
theorem Ex.flat_length (e : Ex) : e.flat.length = e.size:=by
 induction e with
 | leaf x => rfl
 | un x a ih => simp [flat,size,ih]
 | bin x a b iha ihb => simp [flat,size,iha,ihb]
inductive Res where
 | ok (e : Ex) (j : Nat)
 | err (k a : Nat)
inductive Cmd where
 | lv (n : Nat)
 | more (n : Nat) (e : Ex)
def opsOf : Nat → List Nat
 | 0 => [14]
 | 1 => [13]
 | 2 => [9,10,11,12]
 | 3 => [6,7]
 | _ => [8]
def plc (l : List Tok) (i : Nat) : Nat:=(tokO l i).2.2.2
def txt (l : List Tok) (i : Nat) : ByteArray:=⟨(tokO l i).2.1.toArray⟩
def opN (op pl : Nat) : Nd:=⟨op,0,⟨#[]⟩,⟨#[]⟩,pl⟩
def nuAt (l : List Tok) (i : Nat) : Bool:=decide ((tokO l i).1 = 2) && numB ((tokO l i).2.2.1 : Int)
def refR (l : List Tok) (i : Nat) : Res:=.err (refK l i).1 (refK l i).2
def namedR (l : List Tok) (i : Nat) : Res:=
 if sgAt l (i + 1) [46] then
  if nmAt l (i + 2) then .ok (.leaf ⟨4,0,txt l (i + 2),txt l i,plc l i⟩) (i + 3) else refR l (i + 2)
 else .ok (.leaf ⟨2,0,txt l i,⟨#[]⟩,plc l i⟩) (i + 1)
def run (l : List Tok) : Nat → Cmd → Nat → Nat → Option Res
 | 0,_,_,_ => none
 | f + 1,.lv n,d,i =>
  if n = 5 then
   if sgAt l i [33] then
    if d = 30 then some (.err 7 (plc l i)) else
    match run l f (.lv 5) (d + 1) (i + 1) with
    | none => none
    | some (.err k a) => some (.err k a)
    | some (.ok e j) => some (.ok (.un (opN 5 (plc l i)) e) j)
   else if sgAt l i [40] then
    if d = 30 then some (.err 7 (plc l i)) else
    match run l f (.lv 0) (d + 1) (i + 1) with
    | none => none
    | some (.err k a) => some (.err k a)
    | some (.ok e j) => if sgAt l j [41] then some (.ok e (j + 1)) else some (refR l j)
   else if nmAt l i then some (namedR l i)
   else if nuAt l i then some (.ok (.leaf ⟨1,(tokO l i).2.2.1,⟨#[]⟩,⟨#[]⟩,plc l i⟩) (i + 1))
   else some (refR l i)
  else match run l f (.lv (n + 1)) d i with
   | none => none
   | some (.err k a) => some (.err k a)
   | some (.ok e j) => run l f (.more n e) d j
 | f + 1,.more n e,d,i =>
  if which l i (opsOf n) = 0 then some (.ok e i) else
  match run l f (.lv (n + 1)) d (i + 1) with
  | none => none
  | some (.err k a) => some (.err k a)
  | some (.ok y j) => if n = 2 then some (.ok (.bin (opN (which l i (opsOf n)) (plc l i)) e y) j) else run l f (.more n (.bin (opN (which l i (opsOf n)) (plc l i)) e y)) d j
def ResOK (r : Res) (p : PtR) (j : Nat) (er pl : Int) : Prop:=match r with
 | .ok e j0 => j = j0 ∧ er = 0 ∧ pl = 0 ∧ p.s = e.size ∧ p.d = e.depth ∧ (p.s ≤ 200 ∧ p.d ≤ 30 → p.xs = e.flat)
 | .err k a => er = k ∧ pl = a ∧ k ≠ 0
def PtIn (w : World) (B : Nat) (p : PtR) (c : Nat) : Prop:=w.ownsRow B 46 5 p.nv p.xs.length (rowN p.xs) ∧ p.xs.length ≤ 200 ∧ (p.xs.length : Int) ≤ p.s ∧ p.s ≤ c ∧ 0 ≤ p.d ∧ p.d ≤ p.s
def slack (er : Int) : Nat:=if er = 0 then 0 else 1
def PPost (l : List Tok) (lv : Value) (b d i : Nat) (r : Res) (W : World) (e : Ending) (W' : World) : Prop:=
 ∃ (p : PtR) (j : Nat) (er pl : Int),e = .returned (.agg #[p.nv,.int .i64 p.s,.int .i64 p.d]) ∧ Pst W' b lv j d er pl ∧ PtIn W' (b + 1) p (j - i + slack er) ∧ i ≤ j ∧ j ≤ l.length ∧ Keep b W W' ∧ ResOK r p j er pl ∧ (er = 0 → pl = 0)
theorem PtIn.own {w : World} {B c : Nat} {p : PtR} (h : PtIn w B p c) (hc : c ≤ 1000000) : PtOwn w B p:=by
 obtain ⟨h1,h2,h3,h4,h5,h6⟩:=h
 exact ⟨h1,h2,by omega,by omega,h5,by omega⟩
theorem join_part {x : Nd} {ps : List PtR} {B : Nat} {w : World} {e : Ending} {w' : World} (h : JoinAns x ps B w e w') (hl : (xsF x ps).length ≤ szF ps 1) (h0 : 0 ≤ szF ps 1) :
  ∃ p : PtR,e = .returned (.agg #[p.nv,.int .i64 p.s,.int .i64 p.d]) ∧ w'.ownsRow B 46 5 p.nv p.xs.length (rowN p.xs) ∧ p.xs.length ≤ 200 ∧ (p.xs.length : Int) ≤ p.s ∧ p.s = szF ps 1 ∧ p.d = dpF ps 0 ∧ (p.s ≤ 200 ∧ p.d ≤ 30 → p.xs = xsF x ps) ∧ Below w.heap.size w w':=by
 obtain ⟨nv,xs,rfl,ho,h1,h2,hb⟩:=h
 obtain ⟨ad,cap,rfl,_⟩:=own_shape ho
 refine ⟨⟨ad,cap,szF ps 1,dpF ps 0,xs⟩,rfl,ho,?_,?_,rfl,rfl,h1,hb⟩
 ·by_cases h : szF ps 1 ≤ 200 ∧ dpF ps 0 ≤ 30
  ·rw [h1 h]
   have:=h.1
   have e1 : ((xsF x ps).length : Int) ≤ 200:=by omega
   show (xsF x ps).length ≤ 200
   omega
  ·rw [h2 h]; simp
 ·show (xs.length : Int) ≤ szF ps 1
  by_cases h : szF ps 1 ≤ 200 ∧ dpF ps 0 ≤ 30
  ·rw [h1 h]; exact hl
  ·rw [h2 h]; exact h0
def nodeV (x : Nd) : Value:=.agg #[.int .i64 x.op,.int .i64 x.n,.string x.nm,.string x.inn,.int .i64 x.pl]
def JoinTo (x : Nd) (s d : Int) (xs : List Nd) (B : Nat) (w : World) (e : Ending) (w' : World) : Prop:=
 ∃ p : PtR,e = .returned (.agg #[p.nv,.int .i64 p.s,.int .i64 p.d]) ∧ w'.ownsRow B 46 5 p.nv p.xs.length (rowN p.xs) ∧ p.xs.length ≤ 200 ∧ (p.xs.length : Int) ≤ p.s ∧ p.s = s ∧ p.d = d ∧ (p.s ≤ 200 ∧ p.d ≤ 30 → p.xs = x :: xs) ∧ Below w.heap.size w w'
theorem join0 (x : Nd) (B : Nat) (w : World) (hB : B ≤ w.heap.size) : Calls Tryz.prog 238 #[nodeV x,.slice none 0 0] w (JoinTo x 1 0 [] B w):=by
 refine (join_any x (.slice none 0 0) [] B w ⟨none,0,rfl,fun i hi => absurd hi (Nat.not_lt_zero _)⟩ (by simp) (by simp) hB).mono fun e w' h => ?_
 obtain ⟨p,h1,h2,h3,h4,h5,h6,h7,h8⟩:=join_part h (by simp [xsF,szF]) (by simp [szF])
 exact ⟨p,h1,h2,h3,h4,h5,h6,h7,h8⟩
theorem pts_one (w : World) (p : PtR) : PtsAt (w.alloc (.cells #[p.nv,.int .i64 p.s,.int .i64 p.d] 201)) (.slice (some ⟨w.heap.size,0,none⟩) 1 1) [p]:=by
 refine ⟨_,1,rfl,fun i hi => ?_⟩
 obtain rfl : i = 0:=by simpa using hi
 have h : (w.alloc (.cells #[p.nv,.int .i64 p.s,.int .i64 p.d] 201)).heap[w.heap.size]? = _:=heap_alloc_new w _
 refine ⟨w.heap.size,rfl,by simp,?_,?_,?_⟩ <;> (simp only [World.cell?,h]; rfl)
theorem pts_two (w : World) (p q : PtR) : PtsAt (w.alloc (.cells #[p.nv,.int .i64 p.s,.int .i64 p.d,q.nv,.int .i64 q.s,.int .i64 q.d] 201)) (.slice (some ⟨w.heap.size,0,none⟩) 2 2) [p,q]:=by
 refine ⟨_,2,rfl,fun i hi => ?_⟩
 have h : (w.alloc (.cells #[p.nv,.int .i64 p.s,.int .i64 p.d,q.nv,.int .i64 q.s,.int .i64 q.d] 201)).heap[w.heap.size]? = _:=heap_alloc_new w _
 have hi2 : i < 2:=by simpa using hi
 match i,hi2 with
 | 0,_ => refine ⟨w.heap.size,rfl,by simp,?_,?_,?_⟩ <;> (simp only [World.cell?,h]; rfl)
 | 1,_ => refine ⟨w.heap.size,rfl,by simp,?_,?_,?_⟩ <;> (simp only [World.cell?,h]; rfl)
theorem join1 (x : Nd) (p : PtR) (c B : Nat) (w : World) (hB : B ≤ w.heap.size) (hp : PtIn w B p c) (hc : c ≤ 1000000) :
  Calls Tryz.prog 238 #[nodeV x,.slice (some ⟨w.heap.size,0,none⟩) 1 1] (w.alloc (.cells #[p.nv,.int .i64 p.s,.int .i64 p.d] 201)) (JoinTo x (p.s + 1) (p.d + 1) p.xs B (w.alloc (.cells #[p.nv,.int .i64 p.s,.int .i64 p.d] 201))):=by
 have hb : Below w.heap.size w (w.alloc (.cells #[p.nv,.int .i64 p.s,.int .i64 p.d] 201)):=(Below.refl _ _).alloc (Nat.le_refl _) _
 obtain ⟨a1,a2,a3,a4,a5,a6⟩:=hp.own hc
 obtain ⟨_,_,b3,_,_,_⟩:=hp
 refine (join_any x _ [p] B _ (pts_one w p) (by simp) (fun q hq => by rw [List.mem_singleton.1 hq]; exact ⟨own_below a1 hb,a2,a3,a4,a5,a6⟩) (Nat.le_trans hB hb.size)).mono fun e w' h => ?_
 obtain ⟨p',h1,h2,h3,h4,h5,h6,h7,h8⟩:=join_part h (by simp [xsF,szF]; omega) (by simp [szF]; omega)
 refine ⟨p',h1,h2,h3,h4,h5.trans (by simp [szF]; omega),h6.trans (by simp [dpF]; omega),fun h => (h7 h).trans (by simp [xsF]),h8⟩
theorem join2 (x : Nd) (p q : PtR) (c c' B : Nat) (w : World) (hB : B ≤ w.heap.size) (hp : PtIn w B p c) (hq : PtIn w B q c') (hc : c ≤ 100000) (hc' : c' ≤ 100000) :
  Calls Tryz.prog 238 #[nodeV x,.slice (some ⟨w.heap.size,0,none⟩) 2 2] (w.alloc (.cells #[p.nv,.int .i64 p.s,.int .i64 p.d,q.nv,.int .i64 q.s,.int .i64 q.d] 201)) (JoinTo x (p.s + q.s + 1) (max p.d q.d + 1) (p.xs ++ q.xs) B (w.alloc (.cells #[p.nv,.int .i64 p.s,.int .i64 p.d,q.nv,.int .i64 q.s,.int .i64 q.d] 201))):=by
 have hb : Below w.heap.size w (w.alloc (.cells #[p.nv,.int .i64 p.s,.int .i64 p.d,q.nv,.int .i64 q.s,.int .i64 q.d] 201)):=(Below.refl _ _).alloc (Nat.le_refl _) _
 obtain ⟨a1,a2,a3,a4,a5,a6⟩:=hp.own (by omega)
 obtain ⟨b1,b2,b3,b4,b5,b6⟩:=hq.own (by omega)
 obtain ⟨_,_,c3,_,_,_⟩:=hp
 obtain ⟨_,_,d3,_,_,_⟩:=hq
 refine (join_any x _ [p,q] B _ (pts_two w p q) (by simp) (fun t ht => by
  rcases List.mem_cons.1 ht with rfl | ht
  ·exact ⟨own_below a1 hb,a2,a3,a4,a5,a6⟩
  ·rw [List.mem_singleton.1 ht]; exact ⟨own_below b1 hb,b2,b3,b4,b5,b6⟩) (Nat.le_trans hB hb.size)).mono fun e w' h => ?_
 obtain ⟨p',h1,h2,h3,h4,h5,h6,h7,h8⟩:=join_part h (by simp [xsF,szF]; omega) (by simp [szF]; omega)
 refine ⟨p',h1,h2,h3,h4,h5.trans (by simp [szF]; omega),h6.trans (by simp [dpF]; omega),fun h => (h7 h).trans (by simp [xsF]),h8⟩
def okN (x : Nd) : Bool:=decide (0 ≤ x.pl) &&
 if x.op = 1 then numB x.n && (decide (x.nm.size = 0) && decide (x.inn.size = 0))
 else if x.op = 2 ∨ x.op = 3 then decide (x.n = 0) && (nameB x.nm && decide (x.inn.size = 0))
 else if x.op = 4 then decide (x.n = 0) && (nameB x.nm && nameB x.inn)
 else decide (x.n = 0) && (decide (x.nm.size = 0) && decide (x.inn.size = 0))
theorem empty_of_size (s : ByteArray) (h : s.size = 0) : s = ⟨#[]⟩:=ByteArray.ext (Array.eq_empty_of_size_eq_zero h)
def nodeV' (x : Nd) : Value:=.agg #[.int .i64 x.op,.int .i64 x.n,.string x.nm,.string x.inn,.int .i64 x.pl]
theorem name_is2 (s : ByteArray) (w : World) (hs : s.size ≤ 100000) (b : Bool) (h : nameB s = b) : Calls Tryz.prog 90 #[.string s] w fun e w' => e = .returned (.bool b) ∧ Below w.heap.size w w':=by
 subst h; exact name_any s w (by unfold maxLen; omega)
theorem size_nil (s : ByteArray) : s.toList = [] ↔ s.size = 0:=by
 rw [Lib.toList_data,Lib.size_eq]
 constructor
 ·intro h; rw [h]; rfl
 ·intro h; exact List.eq_nil_of_length_eq_zero h
theorem below_two_new (w : World) (o1 o2 : Obj) : Below w.heap.size w ((w.alloc o1).alloc o2):=((Below.refl _ _).alloc (Nat.le_refl _) _).alloc (by simp) _
theorem below_three {w w3 : World} {o1 o2 : Obj} (h : Below ((w.alloc o1).alloc o2).heap.size ((w.alloc o1).alloc o2) w3) : Below w.heap.size w w3:=(below_two_new w o1 o2).trans (h.mono (by simp; omega))
theorem flawed_not (x : Nd) (w : World) (ho : ((x.op == 1) = false) ∧ ((x.op == 2) = false) ∧ ((x.op == 3) = false) ∧ ((x.op == 4) = false)) (hz : x.nm.size ≤ 100000 ∧ x.inn.size ≤ 100000) :
  Calls Tryz.prog 142 #[nodeV' x] w fun e w' => e = .returned (.bool (!okN x)) ∧ Below w.heap.size w w':=by
 obtain ⟨xo,xn,xm,xi,xp⟩:=x
 unfold nodeV'
 simp only [] at *
 obtain ⟨o1,o2,o3,o4⟩:=ho
 go_enter Tryz.func142,Tryz.ntmps142
 go_wp2
 all_goals
  go_ret
  exact ⟨ret_bool (by simp_all [okN,size_nil]),below_two_new _ _ _⟩
theorem flawed_num (x : Nd) (w : World) (ho : x.op = 1) (hz : x.nm.size ≤ 100000 ∧ x.inn.size ≤ 100000) :
  Calls Tryz.prog 142 #[nodeV' x] w fun e w' => e = .returned (.bool (!okN x)) ∧ Below w.heap.size w w':=by
 obtain ⟨xo,xn,xm,xi,xp⟩:=x
 unfold nodeV'
 simp only [] at *
 subst ho
 have HN:=fun w => number_any xn w
 obtain ⟨r,hr⟩ : ∃ r,numB xn = r:=⟨_,rfl⟩
 rw [hr] at HN
 have HR:=Lib.hid hr
 clear hr
 by_cases hp : 0 ≤ xp
 all_goals cases r
 all_goals
  go_enter Tryz.func142,Tryz.ntmps142
  go_wp2_with (go_at_call 184; refine (HN _).mono ?_; rintro e w2 ⟨rfl,rfl⟩)
  all_goals
   go_ret
   exact ⟨ret_bool (by have:=HR.out; simp_all [okN,size_nil]),below_two_new _ _ _⟩
def BlkN (W : World) (b : Nat) (x : Nd) : Prop:=W.heap[b]? = some (.cells #[.int .i64 x.op,.int .i64 x.n,.string x.nm,.string x.inn,.int .i64 x.pl] 46 (0,0))
theorem BlkN.facts {W : World} {b : Nat} {x : Nd} (h : BlkN W b x) :
  (W.cell? ⟨b,0,none⟩ = some (.int .i64 x.op) ∧ W.cell? ⟨b,1,none⟩ = some (.int .i64 x.n) ∧ W.cell? ⟨b,2,none⟩ = some (.string x.nm) ∧ W.cell? ⟨b,3,none⟩ = some (.string x.inn) ∧ W.cell? ⟨b,4,none⟩ = some (.int .i64 x.pl)):=by
 unfold BlkN at h
 simp [World.cell?,h]
theorem blk_first {w w3 : World} {o1 o2 : Obj} (h : Below ((w.alloc o1).alloc o2).heap.size ((w.alloc o1).alloc o2) w3) : w3.heap[w.heap.size]? = some o1:=by
 rw [h.block _ (by simp; omega),Below.heap_alloc _ _ _ (by simp)]
 exact heap_alloc_new w o1
theorem blk_second {w w3 : World} {o1 o2 : Obj} (h : Below ((w.alloc o1).alloc o2).heap.size ((w.alloc o1).alloc o2) w3) : w3.heap[w.heap.size + 1]? = some o2:=by
 rw [h.block _ (by simp)]
 have:=heap_alloc_new (w.alloc o1) o2
 simpa using this
theorem flawed_name (x : Nd) (w : World) (ho : x.op = 2 ∨ x.op = 3) (hz : x.nm.size ≤ 100000 ∧ x.inn.size ≤ 100000) :
  Calls Tryz.prog 142 #[nodeV' x] w fun e w' => e = .returned (.bool (!okN x)) ∧ Below w.heap.size w w':=by
 obtain ⟨xo,xn,xm,xi,xp⟩:=x
 unfold nodeV'
 simp only [] at *
 obtain ⟨r,hr⟩ : ∃ r,nameB xm = r:=⟨_,rfl⟩
 have HN:=fun w => name_is2 xm w hz.1 r hr
 have HR:=Lib.hid hr
 clear hr
 by_cases hp : 0 ≤ xp
 ·rcases ho with rfl | rfl
  all_goals
   go_enter Tryz.func142,Tryz.ntmps142
   go_wp2_with fail
   refine (HN _).mono ?_
   rintro e w3 ⟨rfl,hb3⟩
   have hA : BlkN w3 w.heap.size ⟨_,xn,xm,xi,xp⟩:=blk_first hb3
   have hB : BlkN w3 (w.heap.size + 1) ⟨_,0,xm,⟨#[]⟩,xp⟩:=blk_second hb3
   obtain ⟨a0,a1,a2,a3,a4⟩:=hA.facts
   obtain ⟨b0,b1,b2,b3,b4⟩:=hB.facts
   simp only [] at a0 a1 a2 a3 a4 b0 b1 b2 b3 b4
   clear hA hB
   cases r
   all_goals
    go_wp2
    all_goals
     go_ret
     exact ⟨ret_bool (by have:=HR.out; simp_all [okN,size_nil]),below_three hb3⟩
 ·rcases ho with rfl | rfl
  all_goals
   go_enter Tryz.func142,Tryz.ntmps142
   go_wp2
   all_goals
    go_ret
    exact ⟨ret_bool (by simp_all [okN]),below_two_new _ _ _⟩
theorem flawed_of (x : Nd) (w : World) (ho : x.op = 4) (hz : x.nm.size ≤ 100000 ∧ x.inn.size ≤ 100000) :
  Calls Tryz.prog 142 #[nodeV' x] w fun e w' => e = .returned (.bool (!okN x)) ∧ Below w.heap.size w w':=by
 obtain ⟨xo,xn,xm,xi,xp⟩:=x
 unfold nodeV'
 simp only [] at *
 subst ho
 obtain ⟨r,hr⟩ : ∃ r,nameB xm = r:=⟨_,rfl⟩
 have HN:=fun w => name_is2 xm w hz.1 r hr
 obtain ⟨q,hq⟩ : ∃ q,nameB xi = q:=⟨_,rfl⟩
 have HM:=fun w => name_is2 xi w hz.2 q hq
 have HR:=Lib.hid hr
 have HQ:=Lib.hid hq
 clear hr hq
 by_cases hp : 0 ≤ xp
 ·go_enter Tryz.func142,Tryz.ntmps142
  go_wp2_with fail
  go_region
  go_wp2_with fail
  refine (HN _).mono ?_
  rintro e w3 ⟨rfl,hb3'⟩
  have hb3:=((Below.refl _ ((w.alloc (.cells #[.int .i64 4,.int .i64 xn,.string xm,.string xi,.int .i64 xp] 46)).alloc (.cells #[.int .i64 4,.int .i64 0,.string xm,.string xi,.int .i64 xp] 46))).drew).trans hb3'
  clear hb3'
  cases r with
  | false =>
   go_wp2
   all_goals
    go_ret
    exact ⟨ret_bool (by have:=HR.out; simp_all [okN]),below_three hb3⟩
  | true =>
   have hA : BlkN w3 w.heap.size ⟨4,xn,xm,xi,xp⟩:=blk_first hb3
   obtain ⟨a0,a1,a2,a3,a4⟩:=hA.facts
   simp only [] at a0 a1 a2 a3 a4
   clear hA
   go_wp2_with fail
   refine (HM _).mono ?_
   rintro e w4 ⟨rfl,hb4'⟩
   clear a0 a1 a2 a3 a4
   have hb4:=hb3.trans (hb4'.mono hb3.size)
   clear hb4' hb3
   have hA : BlkN w4 w.heap.size ⟨4,xn,xm,xi,xp⟩:=blk_first hb4
   have hB : BlkN w4 (w.heap.size + 1) ⟨4,0,xm,xi,xp⟩:=blk_second hb4
   obtain ⟨a0,a1,a2,a3,a4⟩:=hA.facts
   obtain ⟨b0,b1,b2,b3,b4⟩:=hB.facts
   simp only [] at a0 a1 a2 a3 a4 b0 b1 b2 b3 b4
   clear hA hB
   cases q
   all_goals
    go_wp2
    all_goals
     go_ret
     exact ⟨ret_bool (by have:=HR.out; have:=HQ.out; simp_all [okN]),below_three hb4⟩
 ·go_enter Tryz.func142,Tryz.ntmps142
  go_wp2
  go_region
  go_wp2
  go_ret
  exact ⟨ret_bool (by simp_all [okN]),(below_two_new w _ _).drew⟩
theorem flawed_any (x : Nd) (w : World) (hz : x.nm.size ≤ 100000 ∧ x.inn.size ≤ 100000) :
  Calls Tryz.prog 142 #[nodeV' x] w fun e w' => e = .returned (.bool (!okN x)) ∧ Below w.heap.size w w':=by
 by_cases h1 : x.op = 1
 ·exact flawed_num x w h1 hz
 ·by_cases h2 : x.op = 2 ∨ x.op = 3
  ·exact flawed_name x w h2 hz
  ·by_cases h4 : x.op = 4
   ·exact flawed_of x w h4 hz
   ·exact flawed_not x w ⟨by simpa using h1,by simp; omega,by simp; omega,by simpa using h4⟩ hz
def Ex.wf : Ex → Prop
 | .leaf x => ar x.op = 0
 | .un x a => ar x.op = 1 ∧ a.wf
 | .bin x a b => ar x.op = 2 ∧ a.wf ∧ b.wf
theorem Ex.size_pos' (e : Ex) : 1 ≤ e.size:=by cases e <;> simp [Ex.size]
theorem addr_add' (g j : Nat) : (⟨g,0,none⟩ : Addr).add j = ⟨g,j,none⟩:=by unfold Addr.add; split <;> simp_all
theorem endF_flat (e : Ex) : e.wf → ∀ (r : List Nd) (m : Nat) (k : Nat),1 ≤ m → endF (e.flat ++ r) m k = if m = 1 then some (k + e.size) else endF r ((m - 1 : Nat) : Int) (k + e.size):=by
 induction e with
 | leaf x =>
  intro h r m k hm
  have h' : ar x.op = 0:=h
  show endF (x :: r) m k = _
  rw [endF,h',if_neg (by omega)]
  by_cases h1 : m = 1
  ·rw [if_pos (by omega),if_pos h1]; rfl
  ·rw [if_neg (by omega),if_neg h1]
   show endF r _ (k + 1) = endF r _ (k + 1)
   congr 1; omega
 | un x a ih =>
  intro h r m k hm
  obtain ⟨h1,h2⟩:=h
  show endF (x :: (a.flat ++ r)) m k = _
  rw [endF,h1,if_neg (by omega),if_neg (by omega),show (m : Int) + (1 - 1) = (m : Int) by omega,ih h2 r m (k + 1) hm]
  show (if m = 1 then some (k + 1 + a.size) else endF r _ (k + 1 + a.size)) = if m = 1 then some (k + (a.size + 1)) else endF r _ (k + (a.size + 1))
  rw [show k + 1 + a.size = k + (a.size + 1) by omega]
 | bin x a b iha ihb =>
  intro h r m k hm
  obtain ⟨h1,h2,h3⟩:=h
  show endF (x :: ((a.flat ++ b.flat) ++ r)) m k = _
  rw [endF,h1,if_neg (by omega),if_neg (by omega),show (m : Int) + (2 - 1) = ((m + 1 : Nat) : Int) by omega,List.append_assoc,iha h2 _ (m + 1) (k + 1) (by omega),if_neg (by omega),show m + 1 - 1 = m by omega,ihb h3 r m _ hm]
  show (if m = 1 then some (k + 1 + a.size + b.size) else endF r _ (k + 1 + a.size + b.size)) = if m = 1 then some (k + (a.size + b.size + 1)) else endF r _ (k + (a.size + b.size + 1))
  rw [show k + 1 + a.size + b.size = k + (a.size + b.size + 1) by omega]
theorem endF_tree : ∀ (l : List Nd) (m k j : Nat),1 ≤ m → endF l m k = some j → ∃ (es : List Ex) (r : List Nd),es.length = m ∧ (∀ e ∈ es,e.wf) ∧ l = es.flatMap Ex.flat ++ r ∧ j = k + (es.flatMap Ex.flat).length:=by
 intro l
 induction l with
 | nil => intro m k j _ h; cases h
 | cons x l ih =>
  intro m k j hm h
  rw [endF] at h
  have hc:=ar_cases x.op
  by_cases h1 : ar x.op < 0
  ·rw [if_pos h1] at h; cases h
  ·rw [if_neg h1] at h
   by_cases h2 : (m : Int) + (ar x.op - 1) = 0
   ·rw [if_pos h2] at h
    cases h
    exact ⟨[.leaf x],l,by simp; omega,fun e he => by rw [List.mem_singleton.1 he]; show ar x.op = 0; omega,rfl,rfl⟩
   ·rw [if_neg h2] at h
    obtain ⟨m',hm'⟩ : ∃ m' : Nat,(m : Int) + (ar x.op - 1) = m':=⟨((m : Int) + (ar x.op - 1)).toNat,by omega⟩
    rw [hm'] at h
    obtain ⟨es,r,e1,e2,e3,e4⟩:=ih m' (k + 1) j (by omega) h
    rcases hc with h3 | h3 | h3 | h3
    ·omega
    ·refine ⟨.leaf x :: es,r,by simp; omega,fun e he => ?_,?_,?_⟩
     ·rcases List.mem_cons.1 he with rfl | he
      ·exact h3
      ·exact e2 e he
     ·rw [e3]; rfl
     ·rw [e4]; simp [Ex.flat]; omega
    ·match es,e1 with
     | e :: es,e1 =>
      refine ⟨.un x e :: es,r,by simp at e1 ⊢; omega,fun t ht => ?_,?_,?_⟩
      ·rcases List.mem_cons.1 ht with rfl | ht
       ·exact ⟨h3,e2 e (by simp)⟩
       ·exact e2 t (List.mem_cons_of_mem _ ht)
      ·rw [e3]; simp [Ex.flat]
      ·rw [e4]; simp [Ex.flat]; omega
     | [],e1 => simp at e1; omega
    ·match es,e1 with
     | e :: e' :: es,e1 =>
      refine ⟨.bin x e e' :: es,r,by simp at e1 ⊢; omega,fun t ht => ?_,?_,?_⟩
      ·rcases List.mem_cons.1 ht with rfl | ht
       ·exact ⟨h3,e2 e (by simp),e2 e' (by simp)⟩
       ·exact e2 t (List.mem_cons_of_mem _ (List.mem_cons_of_mem _ ht))
      ·rw [e3]; simp [Ex.flat]
      ·rw [e4]; simp [Ex.flat]; omega
     | [],e1 => simp at e1; omega
     | [_],e1 => simp at e1; omega
theorem tree_of_end (l : List Nd) (h : endL l 0 = l.length) (_h0 : l ≠ []) : ∃ e : Ex,e.wf ∧ e.flat = l:=by
 have e0 : endL l 0 = endI (endF l 1 0):=by rw [show (0 : Int) = ((0 : Nat) : Int) from rfl,endL_nat]; rfl
 rw [e0] at h
 cases h1 : endF l 1 0 with
 | none => rw [h1] at h; simp only [endI] at h; omega
 | some j =>
  rw [h1] at h
  simp only [endI] at h
  obtain ⟨es,r,e1,e2,e3,e4⟩:=endF_tree l 1 0 j (Nat.le_refl _) h1
  match es,e1 with
  | [e],_ =>
   refine ⟨e,e2 e (by simp),?_⟩
   have hl:=congrArg List.length e3
   simp only [List.flatMap_cons,List.flatMap_nil,List.append_nil,List.length_append] at hl e3 e4
   have hr : r = []:=List.eq_nil_of_length_eq_zero (by omega)
   rw [e3,hr,List.append_nil]
theorem end_of_tree (e : Ex) (h : e.wf) : endL e.flat 0 = e.flat.length:=by
 rw [show (0 : Int) = ((0 : Nat) : Int) from rfl,endL_nat]
 have:=endF_flat e h [] 1 0 (Nat.le_refl _)
 rw [List.append_nil,if_pos rfl] at this
 rw [List.drop_zero,show (1 : Int) = ((1 : Nat) : Int) from rfl,this,e.flat_length]
 simp [endI]
theorem Ex.flat_pre (e : Ex) : ∀ (e' : Ex) (r r' : List Nd),e.wf → e'.wf → e.flat ++ r = e'.flat ++ r' → e = e' ∧ r = r':=by
 induction e with
 | leaf x =>
  intro e' r r' h h' he
  cases e' with
  | leaf y => have h0:=List.cons.inj he; exact ⟨by rw [h0.1],h0.2⟩
  | un y a => have h0:=(List.cons.inj he).1; subst h0; have:=h'.1; have h2 : ar x.op = 0:=h; omega
  | bin y a b => have h0:=(List.cons.inj he).1; subst h0; have:=h'.1; have h2 : ar x.op = 0:=h; omega
 | un x a ih =>
  intro e' r r' h h' he
  cases e' with
  | leaf y => have h0:=(List.cons.inj he).1; subst h0; have:=h.1; have h2 : ar x.op = 0:=h'; omega
  | un y b =>
   have h0:=List.cons.inj he
   obtain ⟨h1,h2⟩:=ih b r r' h.2 h'.2 h0.2
   exact ⟨by rw [h0.1,h1],h2⟩
  | bin y a b => have h0:=(List.cons.inj he).1; subst h0; have:=h.1; have:=h'.1; omega
 | bin x a b iha ihb =>
  intro e' r r' h h' he
  cases e' with
  | leaf y => have h0:=(List.cons.inj he).1; subst h0; have:=h.1; have h2 : ar x.op = 0:=h'; omega
  | un y b => have h0:=(List.cons.inj he).1; subst h0; have:=h.1; have:=h'.1; omega
  | bin y a' b' =>
   have h0:=List.cons.inj he
   have h1 : a.flat ++ (b.flat ++ r) = a'.flat ++ (b'.flat ++ r'):=by simpa [List.append_assoc] using h0.2
   obtain ⟨g1,g2⟩:=iha a' _ _ h.2.1 h'.2.1 h1
   obtain ⟨g3,g4⟩:=ihb b' _ _ h.2.2 h'.2.2 g2
   exact ⟨by rw [h0.1,g1,g3],g4⟩
theorem Ex.flat_inj (e e' : Ex) (h : e.wf) (h' : e'.wf) (he : e.flat = e'.flat) : e = e':=(e.flat_pre e' [] [] h h' (by simpa using he)).1
theorem Ex.depth_le (e : Ex) : e.depth ≤ e.size:=by
 induction e with
 | leaf x => simp [Ex.depth]
 | un x a ih => simp [Ex.depth,Ex.size]; omega
 | bin x a b iha ihb => simp [Ex.depth,Ex.size]; omega
def dF : List (Nat × Ex) → Nat → Nat
 | [],g => g
 | p :: r,g => dF r (max g (p.1 + p.2.depth))
def intsV (l : List Nat) : List Value:=l.map fun (n : Nat) => Value.int .i64 n
theorem own_pop {w : World} {B e n cap : Nat} {ad : Option Addr} {xs : List Value} {x : Value} (h : w.ownsRow B e 1 (.slice ad (n + 1) cap) (n + 1) (xs ++ [x])) : w.ownsRow B e 1 (.slice ad n cap) n xs:=by
 obtain ⟨h1,h2⟩:=h
 have hl : xs.length = n:=by simpa using h1
 refine ⟨by omega,?_⟩
 rcases h2 with ⟨_,h2⟩ | ⟨g,cap',cur,hv,hg,hh,hc1,hc2,hc3,hc4⟩
 ·omega
 ·simp only [Value.slice.injEq] at hv
  obtain ⟨rfl,_,rfl⟩:=hv
  refine .inr ⟨g,cap,cur,rfl,hg,hh,by omega,hc2,hc3,?_⟩
  have:=congrArg (List.take n) hc4
  rw [List.take_take] at this
  rw [Nat.mul_one]
  rw [show min n ((n + 1) * 1) = n by omega] at this
  rw [this,List.take_append_of_le_length (by omega),List.take_of_length_le (by omega)]
theorem info3 : (Tryz.prog.info? 3).map (fun i => (i.zero,i.size,i.bytes)) = some (some (.int .i64 0),1,8):=by kernel_rfl
theorem append_int {w : World} {ops : Array Oper} {rest : List Oper} {o : Oper} {a : Act} {Q : Exit → Act → World → Prop} (hgd : o.guard = none) (s x : Operand)
  (ho : o.op = .call { callee:=.builtin .append,args:=#[s,x],argTypes:=#[158,158] }) (base n : Nat) (v : Value) (xs : List Value) (z : Int) (hs : a.eval s = v) (g : Nat) (hx : a.eval x = .slice (some ⟨g,0,none⟩) 1 1)
  (hown : w.ownsRow base 3 1 v n xs) (hc : w.cell? ⟨g,0,none⟩ = some (.int .i64 z)) (hn : n ≤ 1000000) (hbase : base ≤ w.heap.size)
  (h : ∀ v' w',w'.ownsRow base 3 1 v' (n + 1) (xs ++ [.int .i64 z]) → Below base w w' → wpList Tryz.prog ops Q rest (a.put o.dst v') w') : wpList Tryz.prog ops Q (o :: rest) a w:=by
 obtain ⟨i0,hi,hz0,hz1,hz2⟩:=info_parts info3
 refine wpList_append_own _ hgd s x 158 ho base 3 i0 (.int .i64 0) 1 8 Tryz.underlying158 hi hz0 hz1 hz2 rfl (by decide) v n xs hs hown ⟨g,0,none⟩ 1 1 [.int .i64 z] hx rfl ?_ (fun u hu => by simp at hu; subst hu; rfl) (by unfold maxLen; omega) (by omega) hbase ?_
 ·intro j u hj
  match j,hj with
  | 0,hj => simp at hj; subst hj; rw [show (⟨g,0,none⟩ : Addr).add 0 = ⟨g,0,none⟩ from rfl]; exact hc
  | j + 1,hj => simp at hj
 ·intro v' w' h1 h2 _
  exact h v' w' h1 ((Below.refl base w).grown h2 hbase (fun k hk => (hown.lt k hk).1))
theorem spanN_app (p : Int → Bool) (c : UInt8) (b : List UInt8) (h : p (c.toNat : Int) = false) : ∀ x : List UInt8,spanN p (x ++ c :: b) = spanN p x
 | [] => by simp [spanN,h]
 | d :: x => by
  have ih:=spanN_app p c b h x
  unfold spanN at *
  rcases hd : p (d.toNat : Int) with _ | _
  ·simp [hd]
  ·simp only [List.cons_append,List.takeWhile_cons,hd,if_true,List.length_cons,ih]
def Sep (c : UInt8) : Prop:=wrd (c.toNat : Int) = false ∧ c ≠ 61 ∧ c ≠ 38 ∧ c ≠ 124
theorem sgnN_app (d c : UInt8) (r b : List UInt8) (h : Sep c) : sgnN ((d :: r) ++ c :: b) = sgnN (d :: r):=by
 obtain ⟨_,h1,h2,h3⟩:=h
 cases r with
 | nil =>
  unfold sgnN
  have e1 : [[61,61],[33,61],[60,61],[38,38],[124,124]].contains (([d] ++ c :: b).take 2) = false:=by
   simp [h1,h2,h3]
  have e2 : [[61,61],[33,61],[60,61],[38,38],[124,124]].contains (([d] : List UInt8).take 2) = false:=by simp
  rw [e1,e2]
  rfl
 | cons e r => rfl
theorem wrd_dig (c : Int) (h : wrd c = false) : dig c = false:=by
 unfold wrd at h; rw [Bool.or_eq_false_iff] at h; exact h.2
theorem tk_app (d c : UInt8) (r b : List UInt8) (h : Sep c) : tk ((d :: r) ++ c :: b) = tk (d :: r):=by
 have e1:=spanN_app wrd c b h.1 (d :: r)
 have e2:=spanN_app dig c b (wrd_dig _ h.1) (d :: r)
 have e3:=sgnN_app d c r b h
 have e4 : ((d :: r) ++ c :: b).take (spanN dig (d :: r)) = (d :: r).take (spanN dig (d :: r)):=List.take_append_of_le_length (spanN_le _ _)
 show tk (d :: (r ++ c :: b)) = _
 rw [tk,tk]
 have e0 : d :: (r ++ c :: b) = (d :: r) ++ c :: b:=rfl
 rw [e0,e1,e2,e3,e4]
theorem spanN_take (p : Int → Bool) : ∀ l : List UInt8,spanN p (l.take (spanN p l)) = spanN p l
 | [] => rfl
 | c :: l => by
  have ih:=spanN_take p l
  unfold spanN at *
  rcases h : p (c.toNat : Int) with _ | _
  ·simp [h]
  ·simp only [List.takeWhile_cons,h,if_true,List.length_cons,List.take_succ_cons,ih]
theorem sgnN_take (c : UInt8) (r : List UInt8) : sgnN ((c :: r).take (sgnN (c :: r))) = sgnN (c :: r):=by
 have e : sgnN (c :: r) = if [[61,61],[33,61],[60,61],[38,38],[124,124]].contains ((c :: r).take 2) then 2 else if sgn1 (c.toNat : Int) then 1 else 0:=rfl
 by_cases h : [[61,61],[33,61],[60,61],[38,38],[124,124]].contains ((c :: r).take 2) = true
 ·rw [if_pos h] at e
  rw [e]
  unfold sgnN
  rw [List.take_take,Nat.min_self,if_pos h]
 ·rw [if_neg h] at e
  rcases h1 : sgn1 (c.toNat : Int) with _ | _
  ·rw [h1] at e
   rw [e]; rfl
  ·rw [h1] at e
   rw [e]
   show sgnN [c] = 1
   have e2 : [[61,61],[33,61],[60,61],[38,38],[124,124]].contains (([c] : List UInt8).take 2) = false:=by simp
   unfold sgnN
   rw [e2]
   show (if sgn1 (c.toNat : Int) = true then 1 else 0) = 1
   rw [h1]; rfl
theorem tk_take (l : List UInt8) (h : (tk l).1 = 0) : tk (l.take (tk l).2.2.1) = (0,(tk l).2.1,(l.take (tk l).2.2.1).length,(tk l).2.2.2):=by
 cases l with
 | nil => cases h
 | cons c r =>
  have hl:=tk_len (c :: r) h
  have hlen : ((c :: r).take (tk (c :: r)).2.2.1).length = (tk (c :: r)).2.2.1:=by rw [List.length_take]; omega
  rw [hlen]
  have hw1 : ltr (c.toNat : Int) = true → 0 < spanN wrd (c :: r):=fun h => by simp [spanN,wrd,h]
  have hd1 : dig (c.toNat : Int) = true → 0 < spanN dig (c :: r):=fun h => by simp [spanN,h]
  have e : tk (c :: r) = if ltr (c.toNat : Int) then (if 16 < spanN wrd (c :: r) then (2,0,0,0) else (0,1,spanN wrd (c :: r),0))
   else if dig (c.toNat : Int) then (if 9999 < numV ((c :: r).take (spanN dig (c :: r))) then (4,0,0,0) else (0,2,spanN dig (c :: r),numV ((c :: r).take (spanN dig (c :: r)))))
   else if 0 < sgnN (c :: r) then (0,3,sgnN (c :: r),0) else (3,0,0,0):=rfl
  have key : ∀ n,0 < n → tk ((c :: r).take n) = if ltr (c.toNat : Int) then (if 16 < spanN wrd ((c :: r).take n) then (2,0,0,0) else (0,1,spanN wrd ((c :: r).take n),0))
   else if dig (c.toNat : Int) then (if 9999 < numV (((c :: r).take n).take (spanN dig ((c :: r).take n))) then (4,0,0,0) else (0,2,spanN dig ((c :: r).take n),numV (((c :: r).take n).take (spanN dig ((c :: r).take n)))))
   else if 0 < sgnN ((c :: r).take n) then (0,3,sgnN ((c :: r).take n),0) else (3,0,0,0):=by
   intro n hn
   obtain ⟨m,rfl⟩ : ∃ m,n = m + 1:=⟨n - 1,by omega⟩
   rw [List.take_succ_cons]; rfl
  rcases h1 : ltr (c.toNat : Int) with _ | _
  ·rcases h2 : dig (c.toNat : Int) with _ | _
   ·by_cases h3 : 0 < sgnN (c :: r)
    ·rw [h1,h2,if_pos h3] at e
     simp only [Bool.false_eq_true,if_false] at e
     rw [e]
     show tk ((c :: r).take (sgnN (c :: r))) = _
     rw [key _ h3,sgnN_take,h1,h2,if_pos h3]; rfl
    ·rw [h1,h2,if_neg h3] at e
     rw [e] at h; cases h
   ·by_cases h3 : 9999 < numV ((c :: r).take (spanN dig (c :: r)))
    ·rw [h1,h2,if_pos h3] at e
     rw [e] at h; cases h
    ·rw [h1,h2,if_neg h3] at e
     simp only [Bool.false_eq_true,if_false,if_true] at e
     rw [e]
     show tk ((c :: r).take (spanN dig (c :: r))) = _
     rw [key _ (hd1 h2),spanN_take,List.take_take,Nat.min_self,h1,h2,if_neg h3]; rfl
  ·by_cases h3 : 16 < spanN wrd (c :: r)
   ·rw [h1,if_pos h3] at e
    rw [e] at h; cases h
   ·rw [h1,if_neg h3] at e
    simp only [if_true] at e
    rw [e]
    show tk ((c :: r).take (spanN wrd (c :: r))) = _
    rw [key _ (hw1 h1),spanN_take,h1,if_neg h3]; rfl
theorem sc_cons (f : Nat) (c : UInt8) (r : List UInt8) (p : Nat) (acc : List Tok) : sc (f + 1) (c :: r) p acc =
  if blank (c.toNat : Int) then sc f r (p + 1) acc
  else if (c.toNat : Int) = 35 then sc f ((c :: r).drop (spanN noNl (c :: r))) (p + spanN noNl (c :: r)) acc
  else if (tk (c :: r)).1 ≠ 0 then ([],(tk (c :: r)).1,p)
  else sc f ((c :: r).drop (tk (c :: r)).2.2.1) (p + (tk (c :: r)).2.2.1) (acc ++ [((tk (c :: r)).2.1,(c :: r).take (tk (c :: r)).2.2.1,(tk (c :: r)).2.2.2,p)]):=rfl
def Good (t : Tok) : Prop:=tk t.2.1 = (0,t.1,t.2.1.length,t.2.2.1)
theorem sc_good : ∀ (f : Nat) (l : List UInt8) (p : Nat) (acc : List Tok),∀ t ∈ (sc f l p acc).1,t ∈ acc ∨ Good t:=by
 intro f
 induction f with
 | zero => intro l p acc t ht; exact .inl ht
 | succ f ih =>
  intro l p acc t ht
  cases l with
  | nil => exact .inl ht
  | cons c r =>
   unfold sc at ht
   by_cases hb : blank (c.toNat : Int) = true
   ·rw [if_pos hb] at ht; exact ih _ _ _ t ht
   ·rw [if_neg hb] at ht
    by_cases hc : (c.toNat : Int) = 35
    ·rw [if_pos hc] at ht; exact ih _ _ _ t ht
    ·rw [if_neg hc] at ht
     by_cases he : (tk (c :: r)).1 ≠ 0
     ·rw [if_pos he] at ht; simp at ht
     ·rw [if_neg he] at ht
      rcases ih _ _ _ t ht with h | h
      ·rw [List.mem_append,List.mem_singleton] at h
       rcases h with h | rfl
       ·exact .inl h
       ·exact .inr (tk_take (c :: r) (by simpa using he))
      ·exact .inr h
theorem scanL_good (l : List UInt8) : ∀ t ∈ (scanL l).1,Good t:=by
 intro t ht
 unfold scanL at ht
 split at ht
 ·simp at ht
 ·rcases sc_good _ _ _ _ t ht with h | h
  ·simp at h
  ·exact h
def strip (t : Tok) : Nat × List UInt8 × Nat:=(t.1,t.2.1,t.2.2.1)
theorem sep10 : Sep 10:=⟨by decide,by decide,by decide,by decide⟩
theorem sep32 : Sep 32:=⟨by decide,by decide,by decide,by decide⟩
theorem tk_cons (c : UInt8) (r : List UInt8) : tk (c :: r) = if ltr (c.toNat : Int) then (if 16 < spanN wrd (c :: r) then (2,0,0,0) else (0,1,spanN wrd (c :: r),0))
  else if dig (c.toNat : Int) then (if 9999 < numV ((c :: r).take (spanN dig (c :: r))) then (4,0,0,0) else (0,2,spanN dig (c :: r),numV ((c :: r).take (spanN dig (c :: r)))))
  else if 0 < sgnN (c :: r) then (0,3,sgnN (c :: r),0) else (3,0,0,0):=rfl
theorem sgnN_head (c : UInt8) (r : List UInt8) (h : 0 < sgnN (c :: r)) : sgn1 (c.toNat : Int) = true ∨ c = 38 ∨ c = 124:=by
 have e : sgnN (c :: r) = if [[61,61],[33,61],[60,61],[38,38],[124,124]].contains ((c :: r).take 2) then 2 else if sgn1 (c.toNat : Int) then 1 else 0:=rfl
 by_cases h2 : [[61,61],[33,61],[60,61],[38,38],[124,124]].contains ((c :: r).take 2) = true
 ·have h3 : c = 61 ∨ c = 33 ∨ c = 60 ∨ c = 38 ∨ c = 124:=by
   cases r with
   | nil => simp at h2
   | cons d r =>
    simp at h2
    rcases h2 with h | h | h | h | h <;> simp [h.1]
  rcases h3 with rfl | rfl | rfl | rfl | rfl
  ·exact .inl (by decide)
  ·exact .inl (by decide)
  ·exact .inl (by decide)
  ·exact .inr (.inl rfl)
  ·exact .inr (.inr rfl)
 ·rw [if_neg h2] at e
  rcases h1 : sgn1 (c.toNat : Int) with _ | _
  ·rw [h1] at e; rw [e] at h; exact absurd h (by decide)
  ·exact .inl rfl
theorem tk_head (c : UInt8) (r : List UInt8) (h : (tk (c :: r)).1 = 0) : blank (c.toNat : Int) = false ∧ (c.toNat : Int) ≠ 35:=by
 have key : ltr (c.toNat : Int) = true ∨ dig (c.toNat : Int) = true ∨ 0 < sgnN (c :: r):=by
  rcases h1 : ltr (c.toNat : Int) with _ | _
  ·rcases h2 : dig (c.toNat : Int) with _ | _
   ·by_cases h3 : 0 < sgnN (c :: r)
    ·exact .inr (.inr h3)
    ·simp [tk,h1,h2,h3] at h
   ·exact .inr (.inl rfl)
  ·exact .inl rfl
 rcases key with h1 | h1 | h1
 ·simp [ltr] at h1; simp [blank]; omega
 ·simp [dig] at h1; simp [blank]; omega
 ·rcases sgnN_head c r h1 with h1 | rfl | rfl
  ·simp [sgn1] at h1; simp [blank]; omega
  ·decide
  ·decide
def lenS (ts : List Tok) : Nat:=(ts.map fun t => t.2.1.length + 1).sum
theorem lenS_app (a b : List Tok) : lenS (a ++ b) = lenS a + lenS b:=by simp [lenS]
theorem length_le_lenS (ts : List Tok) : ts.length ≤ lenS ts:=by
 induction ts with
 | nil => simp
 | cons t r ih => simp only [lenS,List.map_cons,List.sum_cons,List.length_cons] at *; omega
theorem sc_lenS : ∀ (f : Nat) (l : List UInt8) (p : Nat) (acc : List Tok),lenS (sc f l p acc).1 ≤ lenS acc + 2 * l.length:=by
 intro f
 induction f with
 | zero => intro l p acc; simp [sc]
 | succ f ih =>
  intro l p acc
  cases l with
  | nil => simp [sc]
  | cons c r =>
   rw [sc_cons]
   by_cases hb : blank (c.toNat : Int) = true
   ·rw [if_pos hb]; have:=ih r (p + 1) acc; simp only [List.length_cons]; omega
   ·rw [if_neg hb]
    by_cases hc : (c.toNat : Int) = 35
    ·rw [if_pos hc]
     have:=ih ((c :: r).drop (spanN noNl (c :: r))) (p + spanN noNl (c :: r)) acc
     rw [List.length_drop] at this; omega
    ·rw [if_neg hc]
     by_cases he : (tk (c :: r)).1 ≠ 0
     ·rw [if_pos he]; simp [lenS]
     ·rw [if_neg he]
      have h1:=ih ((c :: r).drop (tk (c :: r)).2.2.1) (p + (tk (c :: r)).2.2.1) (acc ++ [((tk (c :: r)).2.1,(c :: r).take (tk (c :: r)).2.2.1,(tk (c :: r)).2.2.2,p)])
      obtain ⟨h2,h3⟩:=tk_len (c :: r) (by simpa using he)
      rw [lenS_app,List.length_drop] at h1
      have e : lenS [((tk (c :: r)).2.1,(c :: r).take (tk (c :: r)).2.2.1,(tk (c :: r)).2.2.2,p)] = (tk (c :: r)).2.2.1 + 1:=by
       simp only [lenS,List.map_cons,List.map_nil,List.sum_cons,List.sum_nil,List.length_take]; omega
      rw [e] at h1; omega
theorem scanL_lenS (l : List UInt8) : lenS (scanL l).1 ≤ 2 * l.length:=by
 unfold scanL
 split
 ·simp [lenS]
 ·have:=sc_lenS l.length l 0 []
  simp only [lenS,List.map_nil,List.sum_nil] at this ⊢; omega
def Pl (L : List UInt8) (t : Tok) : Prop:=t.2.2.2 + t.2.1.length ≤ L.length ∧ (L.drop t.2.2.2).take t.2.1.length = t.2.1
theorem sc_place (L : List UInt8) : ∀ (f p : Nat) (acc : List Tok),p ≤ L.length → (∀ t ∈ acc,Pl L t ∧ t.2.2.2 < p) → acc.Pairwise (fun a b => a.2.2.2 < b.2.2.2) →
  (∀ t ∈ (sc f (L.drop p) p acc).1,Pl L t) ∧ (sc f (L.drop p) p acc).1.Pairwise (fun a b => a.2.2.2 < b.2.2.2) ∧ (sc f (L.drop p) p acc).2.2 ≤ L.length ∧ ((sc f (L.drop p) p acc).2.1 ≠ 0 → (sc f (L.drop p) p acc).1 = []):=by
 intro f
 induction f with
 | zero => intro p acc _ h1 h2; exact ⟨fun t ht => (h1 t ht).1,h2,Nat.zero_le _,fun h => absurd rfl h⟩
 | succ f ih =>
  intro p acc hp h1 h2
  have hl : (L.drop p).length = L.length - p:=List.length_drop
  cases hd : L.drop p with
  | nil => exact ⟨fun t ht => (h1 t ht).1,h2,Nat.zero_le _,fun h => absurd rfl h⟩
  | cons c r =>
   have hlt : p < L.length:=by rw [hd,List.length_cons] at hl; omega
   have hr : r = L.drop (p + 1):=by rw [← List.drop_drop,hd]; rfl
   have hk : ∀ k,(c :: r).drop k = L.drop (p + k):=by intro k; rw [← hd,List.drop_drop]
   rw [sc_cons]
   by_cases hb : blank (c.toNat : Int) = true
   ·rw [if_pos hb,hr]
    exact ih (p + 1) acc (by omega) (fun t ht => ⟨(h1 t ht).1,by have:=(h1 t ht).2; omega⟩) h2
   ·rw [if_neg hb]
    by_cases hc : (c.toNat : Int) = 35
    ·rw [if_pos hc,hk]
     have hs:=spanN_le noNl (c :: r)
     rw [← hd,hl] at hs
     rw [← hd]
     exact ih _ acc (by omega) (fun t ht => ⟨(h1 t ht).1,by have:=(h1 t ht).2; omega⟩) h2
    ·rw [if_neg hc]
     by_cases he : (tk (c :: r)).1 ≠ 0
     ·rw [if_pos he]; exact ⟨fun t ht => by simp at ht,List.Pairwise.nil,hp,fun _ => rfl⟩
     ·rw [if_neg he,hk]
      obtain ⟨h3,h4⟩:=tk_len (c :: r) (by simpa using he)
      rw [← hd] at h3 h4 ⊢
      rw [hl] at h4
      have hlen : ((L.drop p).take (tk (L.drop p)).2.2.1).length = (tk (L.drop p)).2.2.1:=by rw [List.length_take]; omega
      refine ih _ _ (by omega) ?_ ?_
      ·intro t ht
       rw [List.mem_append,List.mem_singleton] at ht
       rcases ht with ht | rfl
       ·exact ⟨(h1 t ht).1,by have:=(h1 t ht).2; omega⟩
       ·refine ⟨⟨?_,?_⟩,by simp; omega⟩
        ·show p + _ ≤ _
         rw [hlen]; omega
        ·show (L.drop p).take _ = _
         rw [hlen]
      ·rw [List.pairwise_append]
       refine ⟨h2,by simp,fun a ha b hb => ?_⟩
       rw [List.mem_singleton] at hb
       subst hb
       exact (h1 a ha).2
theorem scanL_place (L : List UInt8) (h : L.length ≤ 20000) : (∀ t ∈ (scanL L).1,Pl L t) ∧ (scanL L).1.Pairwise (fun a b => a.2.2.2 < b.2.2.2) ∧ (scanL L).2.2 ≤ L.length ∧ ((scanL L).2.1 ≠ 0 → (scanL L).1 = []):=by
 unfold scanL
 rw [if_neg (by omega)]
 have:=sc_place L L.length 0 [] (Nat.zero_le _) (fun t ht => by simp at ht) List.Pairwise.nil
 rw [List.drop_zero] at this
 exact this
theorem scanL_small (l : List UInt8) (h : l.length ≤ 20000) : scanL l = sc l.length l 0 []:=by
 unfold scanL; rw [if_neg (by omega)]
def namy (l : List UInt8) : Bool:=headL l && (allW l && decide (l.length ≤ 16))
theorem spanN_full (l : List UInt8) : allW l = true ↔ spanN wrd l = l.length:=by
 rw [← spanN_all,decide_eq_true_eq]
 constructor <;> intro h <;> omega
theorem nameB_namy (s : ByteArray) : nameB s = (!kw s && namy s.data.toList):=by
 unfold nameB namy
 rw [Lib.size_eq]
 rcases h : headL s.data.toList with _ | _
 ·simp
 ·have : 0 < s.data.toList.length:=by
   cases hs : s.data.toList with
   | nil => rw [hs] at h; cases h
   | cons c r => simp
  rcases kw s with _ | _
  ·rcases allW s.data.toList with _ | _
   ·simp
   ·simp only [Bool.not_false,Bool.true_and,Bool.and_true,this,true_and]
  ·simp
end Go.Proofs.YtcghccjnadagcaaGreatDoor
