/- Facts. -/
import Derived.Test.YtcghccjnadagcaaGreatDoorYq
set_option maxRecDepth 100000
set_option maxHeartbeats 32000000
namespace Go.Proofs.YtcghccjnadagcaaGreatDoor
open Go.RowKit
noncomputable def stR (l : List Tok) (f o i : Nat) : Option SRes:=
 if kindL l i = 0 then some (.err 5 (plc l i)) else
 match fld l (formL (kindL l i)) (i + 1) (st0 (kindL l i : Nat) (plc l i : Nat)) with
 | .err k a => some (.err k a)
 | .ok x j =>
  match (if blkB (kindL l i) then brc (lst l f) l o j else some (.ok [] j)) with
  | none => none
  | some (.err k a) => some (.err k a)
  | some (.ok b j2) =>
   match (if kindL l i = 10 ∧ elseAt l j2 = true then brc (lst l f) l o (j2 + 1) else some (.ok [] j2)) with
   | none => none
   | some (.err k a) => some (.err k a)
   | some (.ok oo j3) => some (.ok ({ x with body:=(b.length : Nat),els:=(oo.length : Nat) } :: (b ++ oo)) j3)
theorem lst_step (l : List Tok) (f o i : Nat) : lst l (f + 1) o i = if i < l.length ∧ sgAt l i [125] = false then
  (match stR l f o i with
  | none => none
  | some (.err k a) => some (.err k a)
  | some (.ok ys j) => match lst l f o j with
   | none => none
   | some (.err k a) => some (.err k a)
   | some (.ok r j4) => some (.ok (ys ++ r) j4)) else some (.ok [] i):=by
 rw [lst]
 unfold stR
 by_cases h0 : i < l.length ∧ sgAt l i [125] = false
 ·rw [if_pos h0,if_pos h0]
  by_cases hk : kindL l i = 0
  ·rw [if_pos hk,if_pos hk]
  ·rw [if_neg hk,if_neg hk]
   cases h1 : fld l (formL (kindL l i)) (i + 1) (st0 (kindL l i : Nat) (plc l i : Nat)) with
   | err k a => rfl
   | ok x j =>
    simp only []
    cases h2 : (if blkB (kindL l i) = true then brc (lst l f) l o j else some (.ok [] j)) with
    | none => rfl
    | some r2 =>
     cases r2 with
     | err k a => rfl
     | ok b j2 =>
      simp only []
      cases h3 : (if kindL l i = 10 ∧ elseAt l j2 = true then brc (lst l f) l o (j2 + 1) else some (.ok [] j2)) with
      | none => rfl
      | some r3 =>
       cases r3 with
       | err k a => rfl
       | ok oo j3 =>
        simp only []
        cases h4 : lst l f o j3 with
        | none => rfl
        | some r4 =>
         cases r4 with
         | err k a => rfl
         | ok r j4 => simp
 ·rw [if_neg h0,if_neg h0]
theorem fld_pl (l : List Tok) (p : Int) : ∀ (cs : List UInt8) (i : Nat) (x : St), fld l cs i { x with pl := p } = match fld l cs i x with
   | .err k a => .err k a
   | .ok y j => .ok { y with pl:=p } j:=by
 intro cs
 induction cs with
 | nil => intro i x; rfl
 | cons c cs ih =>
   intro i x
   rw [fld,fld]
   have e1 : ∀ (u : ByteArray) i,fld l cs i { { x with pl:=p } with reg:=u } = fld l cs i { { x with reg:=u } with pl:=p }:=fun _ _ => rfl
   have e2 : ∀ (u : ByteArray) i,fld l cs i { { x with pl:=p } with loc:=u } = fld l cs i { { x with loc:=u } with pl:=p }:=fun _ _ => rfl
   have e3 : ∀ u i,fld l cs i { { x with pl:=p } with e:=u } = fld l cs i { { x with e:=u } with pl:=p }:=fun _ _ => rfl
   have e4 : ∀ u i,fld l cs i { { x with pl:=p } with f:=u } = fld l cs i { { x with f:=u } with pl:=p }:=fun _ _ => rfl
   have e5 : ∀ u i,fld l cs i { { x with pl:=p } with ne:=u } = fld l cs i { { x with ne:=u } with pl:=p }:=fun _ _ => rfl
   by_cases h1 : c = 114
   · rw [if_pos h1,if_pos h1]
     by_cases h : nmAt l i = true
     · rw [if_pos h,if_pos h]; exact ih (i + 1) { x with reg:=txt l i }
     · rw [if_neg h,if_neg h]
   · rw [if_neg h1,if_neg h1]
     by_cases h2 : c = 108
     · rw [if_pos h2,if_pos h2]
       by_cases h : nmAt l i = true
       · rw [if_pos h,if_pos h]; exact ih (i + 1) { x with loc:=txt l i }
       · rw [if_neg h,if_neg h]
     · rw [if_neg h2,if_neg h2]
       by_cases h3 : c = 101
       · rw [if_pos h3,if_pos h3]
         cases plainR l i with
         | err k a => rfl
         | ok y j => exact ih j { x with e:=y.flat }
       · rw [if_neg h3,if_neg h3]
         by_cases h4 : c = 102
         · rw [if_pos h4,if_pos h4]
           cases plainR l i with
           | err k a => rfl
           | ok y j => exact ih j { x with f:=y.flat }
         · rw [if_neg h4,if_neg h4]
           by_cases h5 : c = 113
           · rw [if_pos h5,if_pos h5]
             by_cases h : sgAt l i [33,61] = true
             · rw [if_pos h,if_pos h]; exact ih (i + 1) { x with ne:=true }
             · rw [if_neg h,if_neg h]
               by_cases h' : sgAt l i [61,61] = true
               · rw [if_pos h',if_pos h']; exact ih (i + 1) { x with ne:=false }
               · rw [if_neg h',if_neg h']
           · rw [if_neg h5,if_neg h5]
             by_cases h : sgAt l i [c] = true
             · rw [if_pos h,if_pos h]; exact ih (i + 1) x
             · rw [if_neg h,if_neg h]
def formC (k : Nat) : List UInt8:=
 if k = 2 then [114,61,101] else if k = 3 then [114,61,108] else if k = 4 then [108,61,101] else if k = 5 then [114,61,108,44,101,44,102]
 else if k = 6 ∨ k = 7 then [114,61,108,44,101] else if k = 9 then [108,113,101] else if k = 10 ∨ k = 11 then [101] else []
theorem formC_is (k : Nat) (h1 : 1 ≤ k) (h2 : k ≤ 13) : formL k = if blkB k = true then formC k else formC k ++ [59]:=by
 have hk : k = 1 ∨ k = 2 ∨ k = 3 ∨ k = 4 ∨ k = 5 ∨ k = 6 ∨ k = 7 ∨ k = 8 ∨ k = 9 ∨ k = 10 ∨ k = 11 ∨ k = 12 ∨ k = 13:=by omega
 rcases hk with rfl | rfl | rfl | rfl | rfl | rfl | rfl | rfl | rfl | rfl | rfl | rfl | rfl <;> decide
def RdRel (l : List Tok) (f o k i : Nat) (ys : List St) (y : St) (q2 : Pq) (xs2 : List St) : Prop:=match fld l (formC k) (i + 1) (st0 (k : Nat) 0) with
 | .err kk a => q2 = ⟨l.length,kk,a⟩ ∧ kk ≠ 0
 | .ok y0 j => ∃ rb,(if blkB k = true then brc (lst l f) l o j else some (.ok [] j)) = some rb ∧ match rb with
  | .err kk a => q2 = ⟨l.length,kk,a⟩ ∧ kk ≠ 0
  | .ok b j2 => ∃ ro,(if k = 10 ∧ elseAt l j2 = true then brc (lst l f) l o (j2 + 1) else some (.ok [] j2)) = some ro ∧ match ro with
   | .err kk a => q2 = ⟨l.length,kk,a⟩ ∧ kk ≠ 0
   | .ok oo j3 => q2 = ⟨j3,0,0⟩ ∧ xs2 = ys ++ (b ++ oo) ∧ y = { y0 with body:=(b.length : Nat),els:=(oo.length : Nat) }
theorem set_mid (xs : List St) (z x : St) (r : List St) : ((xs ++ [z]) ++ r).set xs.length x = xs ++ (x :: r):=by
 induction xs with
 | nil => rfl
 | cons a xs ih => simp only [List.cons_append,List.length_cons,List.set_cons_succ,ih]
theorem stm_rel {l : List Tok} {f o i k : Nat} {xs xs2 : List St} {y : St} {q2 : Pq} (hk : kindL l i = k) (h1 : 1 ≤ k) (h13 : k ≤ 13) (hlen : xs.length < xs2.length) (hr : RdRel l f o k i (xs ++ [zSt]) y q2 xs2) :
  ∃ res,stR l f o i = some res ∧ RS l xs res (if blkB k = true then q2 else sgP l q2 [59]) (xs2.set xs.length { y with pl:=((plc l i : Nat) : Int) }):=by
 have hdead : ∀ kk a,q2 = ⟨l.length,kk,a⟩ → kk ≠ 0 → RS l xs (.err kk a) (if blkB k = true then q2 else sgP l q2 [59]) (xs2.set xs.length { y with pl:=((plc l i : Nat) : Int) }):=by
  intro kk a e1 e2
  obtain ⟨g1,g2⟩:=tr_dead e1 e2
  refine ⟨?_,e2,by rw [List.length_set]; omega⟩
  split
  ·exact e1
  ·rw [sgP_dead g1 g2]; exact e1
 have hpl : fld l (formC k) (i + 1) (st0 (k : Nat) (plc l i : Nat)) = match fld l (formC k) (i + 1) (st0 (k : Nat) 0) with
  | .err k a => .err k a
  | .ok y j => .ok { y with pl:=((plc l i : Nat) : Int) } j:=fld_pl l (plc l i : Nat) (formC k) (i + 1) (st0 (k : Nat) 0)
 unfold stR
 rw [hk,if_neg (by omega),formC_is k h1 h13]
 unfold RdRel at hr
 by_cases hb : blkB k = true
 ·rw [if_pos hb]
  rw [hpl]
  cases hf : fld l (formC k) (i + 1) (st0 (k : Nat) 0) with
  | err kk a =>
   rw [hf] at hr
   exact ⟨_,rfl,hdead kk a hr.1 hr.2⟩
  | ok y0 j =>
   rw [hf] at hr
   obtain ⟨rb,e1,e2⟩:=hr
   simp only []
   rw [e1]
   cases rb with
   | err kk a => exact ⟨_,rfl,hdead kk a e2.1 e2.2⟩
   | ok b j2 =>
    obtain ⟨ro,e3,e4⟩:=e2
    simp only []
    rw [e3]
    cases ro with
    | err kk a => exact ⟨_,rfl,hdead kk a e4.1 e4.2⟩
    | ok oo j3 =>
     obtain ⟨rfl,rfl,rfl⟩:=e4
     refine ⟨_,rfl,if_pos hb,?_⟩
     rw [set_mid]
 ·rw [if_neg hb,fld_snoc,hpl]
  cases hf : fld l (formC k) (i + 1) (st0 (k : Nat) 0) with
  | err kk a =>
   rw [hf] at hr
   exact ⟨_,rfl,hdead kk a hr.1 hr.2⟩
  | ok y0 j =>
   rw [hf] at hr
   obtain ⟨rb,e1,e2⟩:=hr
   rw [if_neg hb] at e1
   cases e1
   obtain ⟨ro,e3,e4⟩:=e2
   have hk10 : ¬ (k = 10 ∧ elseAt l j = true):=fun hh => hb (by rw [hh.1]; rfl)
   rw [if_neg hk10] at e3
   cases e3
   obtain ⟨rfl,rfl,rfl⟩:=e4
   simp only [fld]
   rw [if_neg (by decide),if_neg (by decide),if_neg (by decide),if_neg (by decide),if_neg (by decide)]
   by_cases hs : sgAt l j [59] = true
   ·simp only [if_pos hs]
    rw [if_neg hb]
    simp only []
    rw [if_neg (fun hh : k = 10 ∧ elseAt l (j + 1) = true => hb (by rw [hh.1]; rfl))]
    refine ⟨_,rfl,?_,?_⟩
    ·rw [if_neg hb]; exact if_pos hs
    ·rw [set_mid]
   ·simp only [if_neg hs]
    refine ⟨_,rfl,?_,refK_ne l j,by rw [List.length_set]; omega⟩
    rw [if_neg hb]
    exact if_neg hs
theorem stm_nil {w0 : World} {l : List Tok} {lv : Value} {r bx m : Nat} {q : Pq} {o : Nat} {dv : Value} {xs : List St} (x : Ty w0 l lv) (w : World) (h : Stb w0 w r bx m l lv q o dv xs) (hlt : q.n < l.length) (h1 : (tokO l q.n).1 = 1) (hfn : fnV bx (kindF (tokO l q.n).2.1 1 13) = .nilFunc) :
  Calls Tryz.prog 228 #[.pointer (some ⟨r,0,none⟩)] w fun e w' => e = .returned (.tuple #[]) ∧ ∃ dv2,Out w0 w w' r bx m l lv (refP l q) o dv dv2 xs:=by
 have HX:=Lib.hid x
 have HH:=Lib.hid h
 have HM:=Lib.hid (fun (w' : World) (h' : Mp w' m (entsR bx)) => run_look h' ⟨(tokO l q.n).2.1.toArray⟩)
 obtain ⟨add,capd,rfl⟩:=h.own.shape
 obtain ⟨ad,cp,rfl,hct⟩:=x.x.ht.below h.sta.bel
 obtain ⟨⟨c0,c1,c2,c3,c4,_,_⟩,f1,f2,f3,_⟩:=h.sta.prs.facts
 have hr:=h.sta.prs.lt
 obtain ⟨g,rfl,hg,k0,k1,k2,k3⟩:=hct q.n hlt
 rw [tokO_in l q.n hlt] at h1 hfn HM
 obtain ⟨⟨tk,tx,tn,tp⟩,htk⟩ : ∃ t,t = l[q.n]:=⟨_,rfl⟩
 rw [← htk] at h1 hfn HM k0 k1 k2 k3
 simp only [] at h1 hfn HM k0 k1 k2 k3
 subst h1
 obtain ⟨y,hy⟩ : ∃ y : ByteArray,y = ⟨tx.toArray⟩:=⟨_,rfl⟩
 have hyd : y.data.toList = tx:=by rw [hy]
 rw [← hy] at k1 HM
 rw [hfn] at HM
 have k0 : w.cell? ⟨g,q.n * 4,none⟩ = some (.int .i64 1):=k0
 obtain ⟨L,hL⟩ : ∃ L,L = l.length:=⟨_,rfl⟩
 obtain ⟨n,hn⟩ : ∃ n,n = q.n:=⟨_,rfl⟩
 have hlt' : n < L:=by omega
 rw [← hn] at c1 k0 k1 k2 k3
 rw [← hL] at c0
 have HNN:=Lib.hid hn
 have HLL:=Lib.hid hL
 have m0:=HH.out.mp
 clear hct htk hy hyd hfn hlt hn hL h x f1 f2 f3
 go_enter Tryz.func228,Tryz.ntmps228
 go_wp2_with fail
 go_region
 have HW1 : Hid (Stb w0 (w.alloc (.cells #[.int .i64 1,.string y,.int .i64 tn,.int .i64 tp] 62)).drew r bx m l (.slice (some ⟨g,0,none⟩) l.length cp) q o (.slice add xs.length capd) xs):=(HH.out.alloc _).drew
 have hB1 : (w.alloc (.cells #[.int .i64 1,.string y,.int .i64 tn,.int .i64 tp] 62)).drew.heap[w.heap.size]? = some (.cells #[.int .i64 1,.string y,.int .i64 tn,.int .i64 tp] 62 (0,0)):=heap_alloc_new w _
 have HK1 : Hid (Keep r w (w.alloc (.cells #[.int .i64 1,.string y,.int .i64 tn,.int .i64 tp] 62)).drew):=((Keep.refl r w).alloc _).drew
 clear c0 c1 c2 c3 c4 k0 k1 k2 k3 m0 hr hg hlt'
 generalize (w.alloc (.cells #[.int .i64 1,.string y,.int .i64 tn,.int .i64 tp] 62)).drew = w1 at HW1 hB1 HK1 ⊢
 obtain ⟨⟨e0,e1,e2,e3⟩,_⟩:=Blk4.facts (show Blk4 w1 w.heap.size (.int .i64 1) (.string y) (.int .i64 tn) (.int .i64 tp) from hB1)
 have HB1 : Hid (Blk4 w1 w.heap.size (.int .i64 1) (.string y) (.int .i64 tn) (.int .i64 tp)):=hB1
 obtain ⟨⟨c0,c1,c2,c3,c4,_,_⟩,_⟩:=HW1.out.sta.prs.facts
 have hl1:=HM.out w1 HW1.out.mp
 have hl2:=HM.out w1.drew HW1.out.mp
 have hr1:=HW1.out.sta.prs.lt
 have q1 : decide ((tp : Int) < 0) = false:=by simp
 clear hB1
 go_wp2
 go_region
 have HW2 : Hid (Stb w0 w1.drew r bx m l (.slice (some ⟨g,0,none⟩) l.length cp) q o (.slice add xs.length capd) xs):=HW1.out.drew
 have HK2 : Hid (Keep r w w1.drew):=HK1.out.drew
 have HB2 : Hid (Blk4 w1.drew w.heap.size (.int .i64 1) (.string y) (.int .i64 tn) (.int .i64 tp)):=HB1.out
 clear e0 e1 e2 e3 c0 c1 c2 c3 c4 hl1 hl2 hr1 HW1 HB1 HK1
 generalize w1.drew = w2 at HW2 HK2 HB2 ⊢
 obtain ⟨⟨e0,e1,e2,e3⟩,_⟩:=Blk4.facts HB2.out
 have heq:=eq_nil
 go_wp2_with fail
 refine (srefuse_any HX.out.x _ HW2.out.sta).mono ?_
 rintro e w3 ⟨rfl,s1,s2⟩
 have HF:=Lib.hid (Out.of HW2.out s1 s2 (failP_le HW2.out.sta.ok.1 _ _))
 clear s1 s2
 go_wp2
 refine bodyPost_ret (v:=.tuple #[]) (by simp [results,Tryz.results228,go_sem]) rfl ⟨rfl,.slice add xs.length capd,HF.out.keep HK2.out⟩
theorem stm_no {w0 : World} {l : List Tok} {lv : Value} {r bx m : Nat} {q : Pq} {o : Nat} {dv : Value} {xs : List St} (x : Ty w0 l lv) (w : World) (h : Stb w0 w r bx m l lv q o dv xs) (hlt : q.n < l.length) (h1 : (tokO l q.n).1 ≠ 1) :
  Calls Tryz.prog 228 #[.pointer (some ⟨r,0,none⟩)] w fun e w' => e = .returned (.tuple #[]) ∧ ∃ dv2,Out w0 w w' r bx m l lv (refP l q) o dv dv2 xs:=by
 have HX:=Lib.hid x
 have HH:=Lib.hid h
 have HM:=Lib.hid (fun (w' : World) (h' : Mp w' m (entsR bx)) => run_look h' ⟨(tokO l q.n).2.1.toArray⟩)
 obtain ⟨add,capd,rfl⟩:=h.own.shape
 obtain ⟨ad,cp,rfl,hct⟩:=x.x.ht.below h.sta.bel
 obtain ⟨⟨c0,c1,c2,c3,c4,_,_⟩,f1,f2,f3,_⟩:=h.sta.prs.facts
 have hr:=h.sta.prs.lt
 obtain ⟨g,rfl,hg,k0,k1,k2,k3⟩:=hct q.n hlt
 rw [tokO_in l q.n hlt] at h1 HM
 obtain ⟨⟨tk,tx,tn,tp⟩,htk⟩ : ∃ t,t = l[q.n]:=⟨_,rfl⟩
 rw [← htk] at h1 HM k0 k1 k2 k3
 simp only [] at h1 HM k0 k1 k2 k3
 obtain ⟨y,hy⟩ : ∃ y : ByteArray,y = ⟨tx.toArray⟩:=⟨_,rfl⟩
 have hyd : y.data.toList = tx:=by rw [hy]
 have z1 : ((tk : Int) != 1) = true:=by simp; omega
 have z2 : ((tk : Int) == 1) = false:=by simp; omega
 have z3 : ¬ tk = 1:=h1
 rw [← hy] at k1 HM
 obtain ⟨vf,hvf⟩ : ∃ vf,vf = fnV bx (kindF tx 1 13):=⟨_,rfl⟩
 have HM : Hid (∀ w',Mp w' m (entsR bx) → (Instr.lookup 194 (.map (some m)) (.string y) false).run Tryz.prog w' = .ok vf w'):=by rw [hvf]; exact HM
 obtain ⟨L,hL⟩ : ∃ L,L = l.length:=⟨_,rfl⟩
 obtain ⟨n,hn⟩ : ∃ n,n = q.n:=⟨_,rfl⟩
 have hlt' : n < L:=by omega
 rw [← hn] at c1 k0 k1 k2 k3
 rw [← hL] at c0
 have HNN:=Lib.hid hn
 have HLL:=Lib.hid hL
 have m0:=HH.out.mp
 clear hct htk hy hyd hvf hlt hn hL h x f1 f2 f3
 go_enter Tryz.func228,Tryz.ntmps228
 go_wp2_with fail
 go_region
 have HW1 : Hid (Stb w0 (w.alloc (.cells #[.int .i64 tk,.string y,.int .i64 tn,.int .i64 tp] 62)).drew r bx m l (.slice (some ⟨g,0,none⟩) l.length cp) q o (.slice add xs.length capd) xs):=(HH.out.alloc _).drew
 have hB1 : (w.alloc (.cells #[.int .i64 tk,.string y,.int .i64 tn,.int .i64 tp] 62)).drew.heap[w.heap.size]? = some (.cells #[.int .i64 tk,.string y,.int .i64 tn,.int .i64 tp] 62 (0,0)):=heap_alloc_new w _
 have HK1 : Hid (Keep r w (w.alloc (.cells #[.int .i64 tk,.string y,.int .i64 tn,.int .i64 tp] 62)).drew):=((Keep.refl r w).alloc _).drew
 clear c0 c1 c2 c3 c4 k0 k1 k2 k3 m0 hr hg hlt'
 generalize (w.alloc (.cells #[.int .i64 tk,.string y,.int .i64 tn,.int .i64 tp] 62)).drew = w1 at HW1 hB1 HK1 ⊢
 obtain ⟨⟨e0,e1,e2,e3⟩,_⟩:=Blk4.facts (show Blk4 w1 w.heap.size (.int .i64 tk) (.string y) (.int .i64 tn) (.int .i64 tp) from hB1)
 have HB1 : Hid (Blk4 w1 w.heap.size (.int .i64 tk) (.string y) (.int .i64 tn) (.int .i64 tp)):=hB1
 obtain ⟨⟨c0,c1,c2,c3,c4,_,_⟩,_⟩:=HW1.out.sta.prs.facts
 have hl1:=HM.out w1 HW1.out.mp
 have hl2:=HM.out w1.drew HW1.out.mp
 have hr1:=HW1.out.sta.prs.lt
 have q1 : decide ((tp : Int) < 0) = false:=by simp
 clear hB1
 go_wp2
 go_region
 have HW2 : Hid (Stb w0 w1.drew r bx m l (.slice (some ⟨g,0,none⟩) l.length cp) q o (.slice add xs.length capd) xs):=HW1.out.drew
 have HK2 : Hid (Keep r w w1.drew):=HK1.out.drew
 have HB2 : Hid (Blk4 w1.drew w.heap.size (.int .i64 tk) (.string y) (.int .i64 tn) (.int .i64 tp)):=HB1.out
 clear e0 e1 e2 e3 c0 c1 c2 c3 c4 hl1 hl2 hr1 HW1 HB1 HK1
 generalize w1.drew = w2 at HW2 HK2 HB2 ⊢
 obtain ⟨⟨e0,e1,e2,e3⟩,_⟩:=Blk4.facts HB2.out
 go_wp2_with fail
 refine (srefuse_any HX.out.x _ HW2.out.sta).mono ?_
 rintro e w3 ⟨rfl,s1,s2⟩
 have HF:=Lib.hid (Out.of HW2.out s1 s2 (failP_le HW2.out.sta.ok.1 _ _))
 clear s1 s2
 go_wp2
 refine bodyPost_ret (v:=.tuple #[]) (by simp [results,Tryz.results228,go_sem]) rfl ⟨rfl,.slice add xs.length capd,HF.out.keep HK2.out⟩
end Go.Proofs.YtcghccjnadagcaaGreatDoor
