/- Facts. -/
import Derived.Test.YtcghccjnadagcaaGreatDoorYi
import Derived.Test.YtcghccjnadagcaaGreatDoorVm
set_option maxRecDepth 100000
set_option maxHeartbeats 32000000
namespace Go.Proofs.YtcghccjnadagcaaGreatDoor
open Go.RowKit
def RS (l : List Tok) (xs : List St) (res : SRes) (q' : Pq) (xs' : List St) : Prop:=match res with
 | .ok ys j => q' = ⟨j,0,0⟩ ∧ xs' = xs ++ ys
 | .err k a => q' = ⟨l.length,k,a⟩ ∧ k ≠ 0 ∧ xs.length ≤ xs'.length
def SeqRel (l : List Tok) (f o : Nat) (q : Pq) (xs : List St) (q' : Pq) (xs' : List St) : Prop:=(q.k ≠ 0 → q' = q ∧ xs' = xs) ∧ (q.k = 0 → ∃ res,lst l f o q.n = some res ∧ RS l xs res q' xs')
def BlkRel (l : List Tok) (f o : Nat) (q : Pq) (xs : List St) (q' : Pq) (xs' : List St) : Prop:=(q.k ≠ 0 → q' = q ∧ xs' = xs) ∧ (q.k = 0 → ∃ res,brc (lst l f) l o q.n = some res ∧ RS l xs res q' xs')
def AltRel (l : List Tok) (f o : Nat) (q : Pq) (xs : List St) (q' : Pq) (xs' : List St) : Prop:=(q.k ≠ 0 → q' = q ∧ xs' = xs) ∧ (q.k = 0 → ∃ res,(if elseAt l q.n = true then brc (lst l f) l o (q.n + 1) else some (.ok [] q.n)) = some res ∧ RS l xs res q' xs')
theorem at_end {l : List Tok} {n kd : Nat} {s : List UInt8} (h : n = l.length) (hk : kd ≠ 0) : atB l n kd s = false:=by
 cases hb : atB l n kd s with
 | false => rfl
 | true => have:=atB_lt hb hk; omega
theorem sgP_dead {l : List Tok} {q : Pq} (h : q.ok l.length) (hk : q.k ≠ 0) (s : List UInt8) : sgP l q s = q:=by
 have hn:=h.2.2 hk
 unfold sgP
 rw [sgAt_at,at_end hn (by decide),if_neg (by simp)]
 unfold refP failP
 rw [if_neg hk,← hn]
theorem refP_live {l : List Tok} {n : Nat} : refP l ⟨n,0,0⟩ = ⟨l.length,(refK l n).1,(refK l n).2⟩:=rfl
theorem Pq.live {q : Pq} {L : Nat} (h : q.ok L) (hk : q.k = 0) : q = ⟨q.n,0,0⟩:=by
 obtain ⟨n,k,a⟩:=q
 have ha:=h.2.1 hk
 simp only [] at hk ha
 subst hk ha
 rfl
theorem blk_rel {l : List Tok} {f o : Nat} {q q2 : Pq} {xs xs2 : List St} (h : q.ok l.length) (ho : o ≤ 30) (hr : SeqRel l f (o + 1) (sgP l (opQ l q o) [123]) xs q2 xs2) : BlkRel l f o q xs (sgP l q2 [125]) xs2:=by
 constructor
 ·intro hk
  have hn:=h.2.2 hk
  have e1 : opQ l q o = q:=if_neg fun hh => by have h2:=hh.2; rw [sgAt_at,at_end hn (by decide)] at h2; exact absurd h2 (by simp)
  rw [e1,sgP_dead h hk] at hr
  obtain ⟨rfl,rfl⟩:=hr.1 hk
  exact ⟨sgP_dead h hk _,rfl⟩
 ·intro hk
  obtain ⟨i,hi⟩ : ∃ i,i = q.n:=⟨_,rfl⟩
  have hq : q = ⟨i,0,0⟩:=by rw [hi]; exact Pq.live h hk
  subst hq
  clear hi hk
  show ∃ res,brc (lst l f) l o i = some res ∧ _
  unfold brc
  have dead : ∀ k a,k ≠ 0 → SeqRel l f (o + 1) ⟨l.length,k,a⟩ xs q2 xs2 → RS l xs (.err k a) (sgP l q2 [125]) xs2:=by
   intro k a hk hs
   obtain ⟨rfl,rfl⟩:=hs.1 hk
   exact ⟨sgP_dead (q:=⟨l.length,k,a⟩) ⟨Nat.le_refl _,fun h => absurd h hk,fun _ => rfl⟩ hk _,hk,Nat.le_refl _⟩
  by_cases hb : sgAt l i [123] = true
  ·rw [if_pos hb]
   by_cases h30 : o = 30
   ·have e1 : opQ l ⟨i,0,0⟩ o = ⟨l.length,7,plc l i⟩:=by unfold opQ; rw [if_pos ⟨h30,hb⟩]; rfl
    rw [e1,sgP_dead (q:=⟨l.length,7,plc l i⟩) ⟨Nat.le_refl _,fun h => absurd (show (7 : Nat) = 0 from h) (by decide),fun _ => rfl⟩ (show (7 : Nat) ≠ 0 by decide)] at hr
    rw [if_pos (by omega)]
    exact ⟨_,rfl,dead 7 _ (by decide) hr⟩
   ·have e1 : opQ l ⟨i,0,0⟩ o = ⟨i,0,0⟩:=if_neg fun hh => h30 hh.1
    have e2 : sgP l ⟨i,0,0⟩ [123] = ⟨i + 1,0,0⟩:=if_pos hb
    rw [e1,e2] at hr
    rw [if_neg (by omega)]
    obtain ⟨res,hl,hrs⟩:=hr.2 rfl
    rw [show (⟨i + 1,0,0⟩ : Pq).n = i + 1 from rfl] at hl
    rw [hl]
    cases res with
    | err k a =>
     obtain ⟨rfl,h2,h3⟩:=hrs
     exact ⟨_,rfl,sgP_dead (q:=⟨l.length,k,a⟩) ⟨Nat.le_refl _,fun h => absurd h h2,fun _ => rfl⟩ h2 _,h2,h3⟩
    | ok ys j =>
     obtain ⟨rfl,rfl⟩:=hrs
     by_cases hc : sgAt l j [125] = true
     ·refine ⟨.ok ys (j + 1),by simp only []; rw [if_pos hc],if_pos hc,rfl⟩
     ·refine ⟨.err (refK l j).1 (refK l j).2,by simp only []; rw [if_neg hc],?_,refK_ne l j,by simp⟩
      unfold sgP
      rw [if_neg hc]
      rfl
  ·rw [if_neg hb]
   have e1 : opQ l ⟨i,0,0⟩ o = ⟨i,0,0⟩:=if_neg fun hh => hb hh.2
   have e2 : sgP l ⟨i,0,0⟩ [123] = ⟨l.length,(refK l i).1,(refK l i).2⟩:=if_neg hb
   rw [e1,e2] at hr
   exact ⟨_,rfl,dead _ _ (refK_ne l i) hr⟩
theorem elseAt_at (l : List Tok) (n : Nat) : elseAt l n = atB l n 1 [101,108,115,101]:=rfl
def Track (l : List Tok) (F : FRes) (q : Pq) (x : St) : Prop:=match F with
 | .ok y j => q = ⟨j,0,0⟩ ∧ x = y
 | .err k a => q = ⟨l.length,k,a⟩ ∧ k ≠ 0
theorem fld_snoc (l : List Tok) (c : UInt8) : ∀ (cs : List UInt8) (i : Nat) (x : St),fld l (cs ++ [c]) i x = match fld l cs i x with
  | .err k a => .err k a
  | .ok y j => fld l [c] j y:=by
 intro cs
 induction cs with
 | nil => intro i x; rfl
 | cons d cs ih =>
  intro i x
  rw [List.cons_append,fld,fld]
  simp only [ih]
  repeat' split
  all_goals first | rfl | simp_all
theorem tr_dead {l : List Tok} {k a : Nat} {q : Pq} (h : q = ⟨l.length,k,a⟩) (hk : k ≠ 0) : q.ok l.length ∧ q.k ≠ 0:=by
 subst h; exact ⟨⟨Nat.le_refl _,fun h => absurd h hk,fun _ => rfl⟩,hk⟩
theorem nmP_dead {l : List Tok} {q : Pq} (h : q.ok l.length) (hk : q.k ≠ 0) : (nmP l q).2 = q:=by
 have hn:=h.2.2 hk
 unfold nmP
 have : nmAt l q.n = false:=by
  cases hb : nmAt l q.n with
  | false => rfl
  | true => have:=nmAt_in hb; omega
 rw [this,if_neg (by simp)]
 show refP l q = q
 unfold refP failP
 rw [if_neg hk,← hn]
theorem dfP_dead {l : List Tok} {q : Pq} (h : q.ok l.length) (hk : q.k ≠ 0) : (dfP l q).2 = q:=by
 have hn:=h.2.2 hk
 unfold dfP
 rw [sgAt_at,at_end hn (by decide),if_neg (by simp)]
 exact sgP_dead h hk _
theorem exP_dead {l : List Tok} {q : Pq} (h : q.ok l.length) (hk : q.k ≠ 0) (hp : ∀ i,(tokO l i).2.2.2 + (tokO l i).2.1.length ≤ 200000) : (exP l q).2 = q:=by
 have hn:=h.2.2 hk
 have ho:=parse_out' l q.n h.1 hp
 unfold exP
 cases hr : parseR l q.n with
 | err k a =>
  show failP l.length q k a = q
  unfold failP
  rw [if_neg hk,← hn]
 | ok y j =>
  rw [hr] at ho
  have:=ho.2.2.2
  omega
theorem regs_is (l : List Nd) : regsB l = regsO l:=by
 unfold regsB regsO namesL
 induction l with
 | nil => rfl
 | cons x l ih =>
  rw [List.filter_cons]
  by_cases h2 : x.op = 2
  ·have : isNm x = true:=by simp [isNm,h2]
   rw [if_pos this,List.all_cons,List.all_cons,ih]
   simp [forN,h2]
  ·by_cases h3 : x.op = 3 ∨ x.op = 4
   ·have : isNm x = true:=by simp [isNm]; omega
    rw [if_pos this,List.all_cons,List.all_cons]
    have e1 : decide (x.op = 2) = false:=by simp [h2]
    have e2 : forN x = true:=by simp [forN,h3]
    rw [e1,e2]
    rfl
   ·have : isNm x = false:=by simp [isNm]; omega
    rw [if_neg (by simp [this]),List.all_cons,ih]
    have e2 : forN x = false:=by simp [forN]; omega
    rw [e2]
    simp
section
variable {l : List Tok} {cs : List UInt8} {i : Nat} {x0 x : St} {q : Pq}
theorem tr_sg (h : Track l (fld l cs i x0) q x) (c : UInt8) (hc : c ≠ 114 ∧ c ≠ 108 ∧ c ≠ 101 ∧ c ≠ 102 ∧ c ≠ 113) : Track l (fld l (cs ++ [c]) i x0) (sgP l q [c]) x:=by
 rw [fld_snoc]
 cases hf : fld l cs i x0 with
 | err k a =>
  rw [hf] at h
  obtain ⟨h1,h2⟩:=tr_dead h.1 h.2
  exact ⟨(sgP_dead h1 h2 _).trans h.1,h.2⟩
 | ok y j =>
  rw [hf] at h
  obtain ⟨rfl,rfl⟩:=h
  simp only [fld]
  rw [if_neg hc.1,if_neg hc.2.1,if_neg hc.2.2.1,if_neg hc.2.2.2.1,if_neg hc.2.2.2.2]
  by_cases hs : sgAt l j [c] = true
  ·rw [if_pos hs]; exact ⟨if_pos hs,rfl⟩
  ·rw [if_neg hs]; exact ⟨if_neg hs,refK_ne l j⟩
theorem tr_reg (h : Track l (fld l cs i x0) q x) : Track l (fld l (cs ++ [114]) i x0) (nmP l q).2 { x with reg:=(nmP l q).1 }:=by
 rw [fld_snoc]
 cases hf : fld l cs i x0 with
 | err k a =>
  rw [hf] at h
  obtain ⟨h1,h2⟩:=tr_dead h.1 h.2
  exact ⟨(nmP_dead h1 h2).trans h.1,h.2⟩
 | ok y j =>
  rw [hf] at h
  obtain ⟨rfl,rfl⟩:=h
  simp only [fld]
  unfold nmP
  by_cases hs : nmAt l j = true
  ·simp only [if_pos hs]; exact ⟨rfl,rfl⟩
  ·simp only [if_neg hs]; exact ⟨rfl,refK_ne l j⟩
theorem tr_loc (h : Track l (fld l cs i x0) q x) : Track l (fld l (cs ++ [108]) i x0) (nmP l q).2 { x with loc:=(nmP l q).1 }:=by
 rw [fld_snoc]
 cases hf : fld l cs i x0 with
 | err k a =>
  rw [hf] at h
  obtain ⟨h1,h2⟩:=tr_dead h.1 h.2
  exact ⟨(nmP_dead h1 h2).trans h.1,h.2⟩
 | ok y j =>
  rw [hf] at h
  obtain ⟨rfl,rfl⟩:=h
  simp only [fld]
  unfold nmP
  by_cases hs : nmAt l j = true
  ·simp only [if_pos hs]; exact ⟨rfl,rfl⟩
  ·simp only [if_neg hs]; exact ⟨rfl,refK_ne l j⟩
theorem tr_ne (h : Track l (fld l cs i x0) q x) : Track l (fld l (cs ++ [113]) i x0) (dfP l q).2 { x with ne:=(dfP l q).1 }:=by
 rw [fld_snoc]
 cases hf : fld l cs i x0 with
 | err k a =>
  rw [hf] at h
  obtain ⟨h1,h2⟩:=tr_dead h.1 h.2
  exact ⟨(dfP_dead h1 h2).trans h.1,h.2⟩
 | ok y j =>
  rw [hf] at h
  obtain ⟨rfl,rfl⟩:=h
  simp only [fld]
  unfold dfP
  by_cases hs : sgAt l j [33,61] = true
  ·simp only [if_pos hs]; exact ⟨rfl,rfl⟩
  ·simp only [if_neg hs]
   by_cases ht : sgAt l j [61,61] = true
   ·unfold sgP; simp only [if_pos ht]; exact ⟨rfl,rfl⟩
   ·unfold sgP; simp only [if_neg ht]; exact ⟨rfl,refK_ne l j⟩
theorem exP_plain {j : Nat} (hj : j ≤ l.length) (hp : ∀ i,(tokO l i).2.2.2 + (tokO l i).2.1.length ≤ 200000) : match plainR l j with
  | .err k a => (exP l ⟨j,0,0⟩).2 = ⟨l.length,k,a⟩ ∧ k ≠ 0
  | .ok y jj => exP l ⟨j,0,0⟩ = (y.flat,⟨jj,0,0⟩):=by
 have ho:=parse_out' l j hj hp
 unfold plainR exP
 show match (match parseR l j with | .err k a => Res.err k a | .ok e jj => if regsB e.flat = true then .ok e jj else .err 5 (plc l j)) with
  | .err k a => (match parseR l j with | .err k a => (([],failP l.length ⟨j,0,0⟩ k a) : List Nd × Pq) | .ok y jj => if regsO y.flat = true then (y.flat,⟨jj,0,0⟩) else (y.flat,refP l ⟨j,0,0⟩)).2 = _ ∧ _
  | .ok y jj => (match parseR l j with | .err k a => (([],failP l.length ⟨j,0,0⟩ k a) : List Nd × Pq) | .ok y jj => if regsO y.flat = true then (y.flat,⟨jj,0,0⟩) else (y.flat,refP l ⟨j,0,0⟩)) = _
 cases hr : parseR l j with
 | err k a =>
  rw [hr] at ho
  exact ⟨rfl,ho⟩
 | ok y jj =>
  rw [hr] at ho
  simp only [regs_is]
  by_cases hg : regsO y.flat = true
  ·simp only [if_pos hg]
  ·simp only [if_neg hg]
   have hlt : j < l.length:=by have:=ho.2.2.2; omega
   refine ⟨?_,by decide⟩
   rw [refP_live]
   have : refK l j = (5,plc l j):=by unfold refK plc; rw [if_pos hlt]
   rw [this]
theorem tr_e (h : Track l (fld l cs i x0) q x) (hq : q.n ≤ l.length) (hp : ∀ i,(tokO l i).2.2.2 + (tokO l i).2.1.length ≤ 200000) : Track l (fld l (cs ++ [101]) i x0) (exP l q).2 { x with e:=(exP l q).1 }:=by
 rw [fld_snoc]
 cases hf : fld l cs i x0 with
 | err k a =>
  rw [hf] at h
  obtain ⟨h1,h2⟩:=tr_dead h.1 h.2
  exact ⟨(exP_dead h1 h2 hp).trans h.1,h.2⟩
 | ok y j =>
  rw [hf] at h
  obtain ⟨rfl,rfl⟩:=h
  have he:=exP_plain (l:=l) (j:=j) hq hp
  simp only [fld]
  rw [if_neg (by decide),if_neg (by decide),if_pos trivial]
  cases hr : plainR l j with
  | err k a =>
   rw [hr] at he
   exact he
  | ok y2 jj =>
   rw [hr] at he
   rw [he]
   exact ⟨rfl,rfl⟩
theorem tr_f (h : Track l (fld l cs i x0) q x) (hq : q.n ≤ l.length) (hp : ∀ i,(tokO l i).2.2.2 + (tokO l i).2.1.length ≤ 200000) : Track l (fld l (cs ++ [102]) i x0) (exP l q).2 { x with f:=(exP l q).1 }:=by
 rw [fld_snoc]
 cases hf : fld l cs i x0 with
 | err k a =>
  rw [hf] at h
  obtain ⟨h1,h2⟩:=tr_dead h.1 h.2
  exact ⟨(exP_dead h1 h2 hp).trans h.1,h.2⟩
 | ok y j =>
  rw [hf] at h
  obtain ⟨rfl,rfl⟩:=h
  have he:=exP_plain (l:=l) (j:=j) hq hp
  simp only [fld]
  rw [if_neg (by decide),if_neg (by decide),if_neg (by decide),if_pos trivial]
  cases hr : plainR l j with
  | err k a =>
   rw [hr] at he
   exact he
  | ok y2 jj =>
   rw [hr] at he
   rw [he]
   exact ⟨rfl,rfl⟩
end
theorem Ty.plc {w0 : World} {l : List Tok} {lv : Value} (x : Ty w0 l lv) : ∀ i,(tokO l i).2.2.2 + (tokO l i).2.1.length ≤ 200000:=fun i => by have:=x.x.ok i; omega
def SeqC (w0 : World) (l : List Tok) (lv : Value) (r bx m f : Nat) : Prop:=∀ (o : Nat) (w : World) (q : Pq) (dv : Value) (xs : List St),o ≤ 31 → (q.k = 0 → o ≤ 30) → Stb w0 w r bx m l lv q o dv xs → (q.k = 0 → l.length - q.n + 1 ≤ f) →
 Calls Tryz.prog 195 #[.pointer (some ⟨r,0,none⟩)] w fun e w' => e = .returned (.tuple #[]) ∧ ∃ q' dv' xs',Out w0 w w' r bx m l lv q' o dv dv' xs' ∧ SeqRel l f o q xs q' xs'
def BlkC (w0 : World) (l : List Tok) (lv : Value) (r bx m f : Nat) : Prop:=∀ (o : Nat) (w : World) (q : Pq) (dv : Value) (xs : List St),o ≤ 30 → Stb w0 w r bx m l lv q o dv xs → (q.k = 0 → l.length - q.n ≤ f) →
 Calls Tryz.prog 223 #[.pointer (some ⟨r,0,none⟩)] w fun e w' => ∃ q' dv' xs',e = .returned (.int .i64 ((xs'.length : Int) - (xs.length : Int))) ∧ Out w0 w w' r bx m l lv q' o dv dv' xs' ∧ BlkRel l f o q xs q' xs'
def AltC (w0 : World) (l : List Tok) (lv : Value) (r bx m f : Nat) : Prop:=∀ (o : Nat) (w : World) (q : Pq) (dv : Value) (xs : List St),o ≤ 30 → Stb w0 w r bx m l lv q o dv xs → (q.k = 0 → l.length - q.n ≤ f) →
 Calls Tryz.prog 224 #[.pointer (some ⟨r,0,none⟩)] w fun e w' => ∃ q' dv' xs',e = .returned (.int .i64 ((xs'.length : Int) - (xs.length : Int))) ∧ Out w0 w w' r bx m l lv q' o dv dv' xs' ∧ AltRel l f o q xs q' xs'
theorem sgP_k {l : List Tok} {q : Pq} {s : List UInt8} (h : (sgP l q s).k = 0) : q.k = 0 ∧ (sgP l q s).n = q.n + 1 ∧ q.n < l.length:=by
 unfold sgP at h ⊢
 by_cases hs : sgAt l q.n s = true
 ·rw [if_pos hs] at h ⊢
  exact ⟨h,rfl,atB_lt hs (by decide)⟩
 ·rw [if_neg hs] at h
  unfold refP failP at h
  by_cases hk : q.k = 0
  ·rw [if_pos hk] at h; exact absurd h (refK_ne l q.n)
  ·rw [if_neg hk] at h; exact absurd h hk
theorem opQ_k {l : List Tok} {q : Pq} {o : Nat} (h : (opQ l q o).k = 0) : opQ l q o = q:=by
 unfold opQ at h ⊢
 by_cases hc : o = 30 ∧ sgAt l q.n [123] = true
 ·rw [if_pos hc] at h
  unfold failP at h
  by_cases hk : q.k = 0
  ·rw [if_pos hk] at h; exact absurd (show (7 : Nat) = 0 from h) (by decide)
  ·rw [if_neg hk] at h; exact absurd h hk
 ·rw [if_neg hc]
theorem blk_of_seq {w0 : World} {l : List Tok} {lv : Value} {r bx m f : Nat} (x : Ty w0 l lv) (h : SeqC w0 l lv r bx m f) : BlkC w0 l lv r bx m f:=by
 intro o w q dv xs ho hs hf
 refine (block_walk x w hs ho (SeqRel l f (o + 1) (sgP l (opQ l q o) [123]) xs) fun w' h' => h (o + 1) w' _ dv xs (by omega) (fun hk => ?_) h' fun hk => ?_).mono ?_
 ·obtain ⟨h1,h2,h3⟩:=sgP_k hk
  have e1:=opQ_k h1
  rw [e1] at hk
  have hb : sgAt l q.n [123] = true:=by
   by_cases hb : sgAt l q.n [123] = true
   ·exact hb
   ·unfold sgP at hk
    rw [if_neg hb] at hk
    unfold refP failP at hk
    rw [e1] at h1
    rw [if_pos h1] at hk
    exact absurd hk (refK_ne l q.n)
  have hne : o ≠ 30:=by
   intro h30
   rw [e1] at h1
   unfold opQ at e1
   rw [if_pos ⟨h30,hb⟩] at e1
   have h7:=congrArg Pq.k e1
   unfold failP at h7
   rw [if_pos h1] at h7
   rw [h1] at h7
   exact absurd (show (7 : Nat) = 0 from h7) (by decide)
  omega
 ·obtain ⟨h1,h2,h3⟩:=sgP_k hk
  have e1:=opQ_k h1
  rw [e1] at h1 h2 h3
  have:=hf h1
  rw [e1,h2]
  omega
 ·rintro e w' ⟨q2,dv2,xs2,h1,h2,h3⟩
  exact ⟨_,dv2,xs2,h1,h2,blk_rel hs.sta.ok ho h3⟩
theorem alt_of_blk {w0 : World} {l : List Tok} {lv : Value} {r bx m f : Nat} (x : Ty w0 l lv) (hb : BlkC w0 l lv r bx m f) : AltC w0 l lv r bx m f:=by
 intro o w q dv xs ho h hf
 have HB:=Lib.hid hb
 have HX:=Lib.hid x
 obtain ⟨b,hbb⟩ : ∃ b,atB l q.n 1 [101,108,115,101] = b:=⟨_,rfl⟩
 have HS:=Lib.hid (sees_any l r lv dv (.map (some m)) q.n o q.k q.a 1 ⟨#[101,108,115,101]⟩ w h.sta.prs (x.x.ht.below h.sta.bel) x.x.hn (by decide) b hbb)
 have HH:=Lib.hid h
 cases b with
 | false =>
  have HR : Hid (AltRel l f o q xs q xs):=⟨fun _ => ⟨rfl,rfl⟩,fun hk => ⟨.ok [] q.n,by rw [elseAt_at,hbb,if_neg (by simp)],Pq.live h.sta.ok hk,by simp⟩⟩
  clear x hb h hbb hf
  go_enter Tryz.func224,Tryz.ntmps224
  go_wp2_with fail
  refine HS.out.mono ?_
  rintro e w1 ⟨rfl,hb1⟩
  go_wp2
  go_ret
  exact ⟨q,dv,xs,by rw [Int.sub_self]; rfl,Out.of HH.out (HH.out.sta.below hb1) (Below.keep hb1) (Nat.le_refl _),HR.out⟩
 | true =>
  have hlt:=atB_lt hbb (by decide)
  have HQ:=Lib.hid (Pq.step h.sta.ok hlt)
  have HN : Hid (q.n ≤ 100000):=by have:=x.x.hn; show q.n ≤ 100000; omega
  have hk0 : q.k = 0:=by
   by_cases hk : q.k = 0
   ·exact hk
   ·have:=h.sta.ok.2.2 hk; omega
  have HF : Hid ((⟨q.n + 1,q.k,q.a⟩ : Pq).k = 0 → l.length - (⟨q.n + 1,q.k,q.a⟩ : Pq).n ≤ f):=fun _ => by have:=hf hk0; show l.length - (q.n + 1) ≤ f; omega
  have HR : Hid (∀ q' xs',BlkRel l f o ⟨q.n + 1,q.k,q.a⟩ xs q' xs' → AltRel l f o q xs q' xs'):=fun q' xs' hr => ⟨fun hk => absurd hk0 hk,fun _ => by
   obtain ⟨res,h1,h2⟩:=hr.2 hk0
   exact ⟨res,by rw [elseAt_at,hbb,if_pos rfl]; exact h1,h2⟩⟩
  clear x hb h hbb hf hlt hk0
  go_enter Tryz.func224,Tryz.ntmps224
  go_wp2_with fail
  refine HS.out.mono ?_
  rintro e w1 ⟨rfl,hb1⟩
  have HW1:=Lib.hid (HH.out.below hb1)
  obtain ⟨⟨c0,c1,_,_,_,_,_⟩,f1,_⟩:=HW1.out.sta.prs.facts
  have hn:=HN.out
  have hr:=HW1.out.sta.prs.lt
  obtain ⟨n,hnn⟩ : ∃ n,n = q.n:=⟨_,rfl⟩
  rw [← hnn] at c1 hn
  have HNN:=Lib.hid hnn
  clear hnn
  go_wp2_with fail
  have hst : Sta w0 (w1.setCell ⟨r,1,none⟩ (.int .i64 ((n : Int) + 1))) r l lv ⟨q.n + 1,q.k,q.a⟩ o dv (.map (some m)):=by rw [HNN.out]; exact HW1.out.sta.setN ⟨q.n + 1,q.k,q.a⟩ rfl rfl HQ.out
  have HW2:=Lib.hid (HW1.out.move hst ((Keep.refl r w1).setCell 1 _) (Nat.le_succ _))
  have HK2:=Lib.hid ((Below.keep (b:=r) hb1).setCell 1 (.int .i64 ((n : Int) + 1)))
  clear hst c0 c1 f1 hr
  refine (HB.out o _ _ dv xs ho HW2.out HF.out).mono ?_
  rintro e w3 ⟨q3,dv3,xs3,rfl,h3,h4⟩
  have H3:=Lib.hid h3
  have H4:=Lib.hid h4
  clear h3 h4
  go_wp2
  go_ret
  exact ⟨q3,dv3,xs3,rfl,H3.out.keep HK2.out,HR.out _ _ H4.out⟩
theorem SOwn.blk {w : World} {B : Nat} {v : Value} {xs : List St} (h : SOwn w B v xs) : ∀ g,v.ownBlock = some g → B ≤ g ∧ g < w.heap.size ∧ ∃ cur,w.heap[g]? = some (.cells cur 42 (0,0)):=by
 obtain ⟨ts,_,h2,_⟩:=h
 intro g hg
 rcases h2.2 with ⟨rfl,_⟩ | ⟨g',cap,cur,rfl,hb,hh,_⟩
 ·cases hg
 ·have e : g' = g:=Option.some.inj hg
  subst e
  exact ⟨hb,(Array.getElem?_eq_some_iff.1 hh).1,cur,hh⟩
theorem Out.trans {w0 w w1 w2 : World} {r bx m : Nat} {l : List Tok} {lv : Value} {q1 q2 : Pq} {o1 o2 : Nat} {dv dv1 dv2 : Value} {xs1 xs2 : List St} (h : Out w0 w w1 r bx m l lv q1 o1 dv dv1 xs1) (k : Out w0 w1 w2 r bx m l lv q2 o2 dv1 dv2 xs2) : Out w0 w w2 r bx m l lv q2 o2 dv dv2 xs2:=
 ⟨k.st,h.kd.trans h.pl k.kd,h.pl.trans h.kd.size k.pl⟩
def ToR (w0 : World) (r bx m : Nat) (l : List Tok) (lv : Value) (q' : Pq) (o : Nat) (dv dv' : Value) (xs' : List St) (w : World) (x : St) (e : Ending) (w' : World) : Prop:=
 ∃ ve vf,e = .returned (.agg (x.cells ve vf)) ∧ w'.ownsRow w.heap.size 46 5 ve x.e.length (rowN x.e) ∧ w'.ownsRow w.heap.size 46 5 vf x.f.length (rowN x.f) ∧ Out w0 w w' r bx m l lv q' o dv dv' xs'
theorem row_keepD {w0 w w' : World} {r bx m : Nat} {l : List Tok} {lv : Value} {q : Pq} {o : Nat} {dv : Value} {xs : List St} {B n : Nat} {v : Value} {ys : List Value} (h : w.ownsRow B 46 5 v n ys) (hs : Stb w0 w r bx m l lv q o dv xs) (kd : KeepD r dv.ownBlock w w') : w'.ownsRow B 46 5 v n ys:=by
 obtain ⟨h1,h2⟩:=h
 refine ⟨h1,?_⟩
 rcases h2 with h2 | ⟨g,cap,cur,hv,hg,hh,z⟩
 ·exact .inl h2
 ·refine .inr ⟨g,cap,cur,hv,hg,?_,z⟩
  rw [kd.block g (Array.getElem?_eq_some_iff.1 hh).1 ?_ ?_]; exact hh
  ·rintro rfl
   have hp:=hs.sta.prs
   unfold Prs at hp
   rw [hp] at hh
   cases hh
  ·intro e
   obtain ⟨_,_,cur',hc⟩:=hs.own.blk g e.symm
   rw [hc] at hh
   cases hh
theorem BlkS.keepD {w w' : World} {b r : Nat} {d : Option Nat} {x : St} {ve vf : Value} (h : BlkS w b x ve vf) (hk : KeepD r d w w') (hb : b ≠ r) (hd : some b ≠ d) : BlkS w' b x ve vf:=by
 unfold BlkS at *; rw [hk.block b (BlkS.lt h) hb hd]; exact h
theorem Stb.set9 {w0 W : World} {r bx m b : Nat} {l : List Tok} {lv : Value} {q : Pq} {o : Nat} {dv : Value} {xs : List St} {y : St} {ye yf : Value} (h : Stb w0 W r bx m l lv q o dv xs) (hB : BlkS W b y ye yf) (hb : w0.heap.size ≤ b) (hr : b ≠ r) (hd : dv.ownBlock ≠ some b) (u0 u1 u2 u3 u4 u5 u6 u7 u8 : Value) :
  Stb w0 (Go.Proofs.YtcghccjnadagcaaGreatDoor.set9 W b u0 u1 u2 u3 u4 u5 u6 u7 u8) r bx m l lv q o dv xs:=by
 have hk:=keep_set9 W b u0 u1 u2 u3 u4 u5 u6 u7 u8
 refine ⟨⟨h.sta.prs.keep hk (Ne.symm hr),below_set9 h.sta.bel hb _ _ _ _ _ _ _ _ _,h.sta.hr,h.sta.ok⟩,?_,h.len,?_,?_⟩
 ·obtain ⟨ts,h1,h2,h3⟩:=h.own
  refine ⟨ts,h1,?_,fun t ht => ⟨row_stmt (h3 t ht).1 hB hk,row_stmt (h3 t ht).2 hB hk⟩⟩
  obtain ⟨g1,g2⟩:=h2
  refine ⟨g1,?_⟩
  rcases g2 with g2 | ⟨g,cap,cur,hv,hg,hh,z⟩
  ·exact .inl g2
  ·refine .inr ⟨g,cap,cur,hv,hg,?_,z⟩
   rw [hk.block g (Array.getElem?_eq_some_iff.1 hh).1 ?_]; exact hh
   rintro rfl
   rw [hv] at hd
   exact hd rfl
 ·refine h.mp.keep hk ?_
  rintro rfl
  have h1:=h.mp
  unfold Mp at h1; unfold BlkS at hB
  rw [h1] at hB; cases hB
 ·refine h.bx.keep hk ?_
  rintro rfl
  have h1:=h.bx
  unfold Bx at h1; unfold BlkS at hB
  rw [h1] at hB; cases hB
theorem clo_endB {w0 w w1 W : World} {r bx m : Nat} {l : List Tok} {lv : Value} {q' : Pq} {o : Nat} {dv dv' : Value} {xs' : List St} {y : St} {ye yf : Value} (hB : BlkS w1 w.heap.size y ye yf) (hk : Keep r w w1) (hO : Out w0 w1 W r bx m l lv q' o dv dv' xs') (hdv : dv.ownBlock ≠ some w.heap.size) (hr : w.heap.size ≠ r) (hw : w0.heap.size ≤ w.heap.size)
  (x : St) (ve vf : Value) (h1 : W.ownsRow w.heap.size 46 5 ve x.e.length (rowN x.e)) (h2 : W.ownsRow w.heap.size 46 5 vf x.f.length (rowN x.f)) :
  BlkS (set9 W w.heap.size (.int .i64 x.kind) (.string x.reg) (.string x.loc) ve vf (.bool x.ne) (.int .i64 x.body) (.int .i64 x.els) (.int .i64 x.pl)) w.heap.size x ve vf ∧
  ToR w0 r bx m l lv q' o dv dv' xs' w x (.returned (.agg (x.cells ve vf))) (set9 W w.heap.size (.int .i64 x.kind) (.string x.reg) (.string x.loc) ve vf (.bool x.ne) (.int .i64 x.body) (.int .i64 x.els) (.int .i64 x.pl)):=by
 have hBW : BlkS W w.heap.size y ye yf:=hB.keepD hO.kd hr (Ne.symm hdv)
 have hd' : dv'.ownBlock ≠ some w.heap.size:=by
  rcases hO.pl with p | p
  ·rw [p]; exact hdv
  ·intro e; have:=p _ e; have:=hB.lt; omega
 have hks:=keep_set9 W w.heap.size (.int .i64 x.kind) (.string x.reg) (.string x.loc) ve vf (.bool x.ne) (.int .i64 x.body) (.int .i64 x.els) (.int .i64 x.pl)
 refine ⟨hBW.set9 x ve vf,ve,vf,rfl,row_stmt h1 hBW hks,row_stmt h2 hBW hks,hO.st.set9 hBW hw hr hd' _ _ _ _ _ _ _ _ _,?_,?_⟩
 ·have h0:=(hO.keep hk).kd
  exact ⟨hks.os.trans h0.os,hks.tape.trans h0.tape,hks.output.trans h0.output,Nat.le_trans h0.size hks.size,fun k hk1 hk2 hk3 => (hks.block k (Nat.lt_of_lt_of_le hk1 h0.size) (by omega)).trans (h0.block k hk1 hk2 hk3)⟩
 ·exact (hO.keep hk).pl
theorem stb_expr {w0 : World} {l : List Tok} {lv : Value} {r bx m : Nat} {q : Pq} {o : Nat} {dv : Value} {xs : List St} (x : Ty w0 l lv) (W : World) (h : Stb w0 W r bx m l lv q o dv xs) :
  Calls Tryz.prog 214 #[.pointer (some ⟨r,0,none⟩),.slice none 0 0] W fun e w' => ∃ v,e = .returned v ∧ w'.ownsRow W.heap.size 46 5 v (exP l q).1.length (rowN (exP l q).1) ∧ Stb w0 w' r bx m l lv (exP l q).2 o dv xs ∧ Keep r W w':=by
 refine (sexpr_of x W (.slice none 0 0) (ssigns0_any W h.sta)).mono ?_
 rintro e w' ⟨v,h1,h2,h3,h4⟩
 refine ⟨v,h1,h2,h.move h3 h4 ?_,h4⟩
 have ho:=parse_out' l q.n h.sta.ok.1 x.plc
 unfold exP
 cases hr : parseR l q.n with
 | err k a => exact failP_le h.sta.ok.1 k a
 | ok y j =>
  rw [hr] at ho
  simp only []
  split
  ·have:=ho.2.2.2.1; show q.n ≤ j; omega
  ·exact failP_le h.sta.ok.1 _ _
theorem Stb.drew {w0 w : World} {r bx m : Nat} {l : List Tok} {lv : Value} {q : Pq} {o : Nat} {dv : Value} {xs : List St} (h : Stb w0 w r bx m l lv q o dv xs) : Stb w0 w.drew r bx m l lv q o dv xs:=h.below (Below.refl _ _).drew
theorem Stb.alloc {w0 w : World} {r bx m : Nat} {l : List Tok} {lv : Value} {q : Pq} {o : Nat} {dv : Value} {xs : List St} (h : Stb w0 w r bx m l lv q o dv xs) (u : Obj) : Stb w0 (w.alloc u) r bx m l lv q o dv xs:=h.below ((Below.refl _ _).alloc (Nat.le_refl _) _)
end Go.Proofs.YtcghccjnadagcaaGreatDoor
