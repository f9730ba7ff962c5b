/- Facts. -/
import Derived.Test.YtcghccjnadagcaaGreatDoorYd
import Derived.Test.YtcghccjnadagcaaGreatDoorVg
import Derived.MapKept
set_option maxRecDepth 100000
set_option maxHeartbeats 32000000
namespace Go.Proofs.YtcghccjnadagcaaGreatDoor
open Go.RowKit
def clV (f b : Nat) : Value:=.func (.func f) #[] #[.pointer (some ⟨b,0,none⟩)]
def entsR (b : Nat) : List (ByteArray × Value):=
 [(⟨#[115,107,105,112]⟩,.func (.func 209) #[] #[]),(⟨#[102,101,110,99,101]⟩,.func (.func 210) #[] #[]),(⟨#[98,114,101,97,107]⟩,.func (.func 211) #[] #[]),(⟨#[115,101,116]⟩,clV 212 b),(⟨#[108,111,97,100]⟩,clV 215 b),
  (⟨#[115,116,111,114,101]⟩,clV 216 b),(⟨#[99,97,115]⟩,clV 217 b),(⟨#[102,97,100,100]⟩,clV 218 b),(⟨#[120,99,104,103]⟩,clV 219 b),(⟨#[97,119,97,105,116]⟩,clV 220 b),(⟨#[105,102]⟩,clV 222 b),(⟨#[119,104,105,108,101]⟩,clV 225 b),(⟨#[108,111,111,112]⟩,clV 226 b)]
def fnV (b k : Nat) : Value:=
 if k = 1 then .func (.func 209) #[] #[] else if k = 2 then clV 212 b else if k = 3 then clV 215 b else if k = 4 then clV 216 b else if k = 5 then clV 217 b else if k = 6 then clV 218 b else if k = 7 then clV 219 b
 else if k = 8 then .func (.func 210) #[] #[] else if k = 9 then clV 220 b else if k = 10 then clV 222 b else if k = 11 then clV 225 b else if k = 12 then clV 226 b else if k = 13 then .func (.func 211) #[] #[] else .nilFunc
def mkF : Nat → List (ByteArray × Value) → List MapEntry
 | _,[] => []
 | i,p :: r => { key:=.string p.1,val:=p.2,born:=i } :: mkF (i + 1) r
theorem mkF_app (l : List (ByteArray × Value)) (p : ByteArray × Value) : ∀ i,mkF i (l ++ [p]) = mkF i l ++ [{ key:=.string p.1,val:=p.2,born:=i + l.length }]:=by
 induction l with
 | nil => intro i; rfl
 | cons a l ih =>
  intro i
  rw [List.cons_append,mkF,ih,mkF,List.cons_append,List.length_cons]
  rw [show i + 1 + l.length = i + (l.length + 1) by omega]
def Mp (w : World) (m : Nat) (l : List (ByteArray × Value)) : Prop:=w.heap[m]? = some (.map (mkF 0 l).toArray l.length)
theorem Mp.lt {w : World} {m : Nat} {l : List (ByteArray × Value)} (h : Mp w m l) : m < w.heap.size:=(Array.getElem?_eq_some_iff.1 h).1
theorem u46 : Tryz.prog.underlying 194 = some (.map 9 223):=by kernel_rfl
theorem u9s : Tryz.prog.underlying 9 = some .string:=by kernel_rfl
theorem find_none (s : ByteArray) : ∀ (l : List (ByteArray × Value)) (i j : Nat),(∀ p ∈ l,p.1 ≠ s) → Instr.findNow .string (.string s) (mkF i l) j = some none:=by
 intro l
 induction l with
 | nil => intro i j _; rfl
 | cons p l ih =>
  intro i j h
  have h1 : (s == p.1) = false:=by
   have:=h p (List.mem_cons_self ..)
   cases hq : (s == p.1) with
   | false => rfl
   | true => exact absurd ((MapKept.bytes_beq _ _).1 hq).symm this
  rw [mkF,Instr.findNow]
  simp only [Instr.sameNow,h1]
  exact ih (i + 1) (j + 1) fun p hp => h p (List.mem_cons_of_mem _ hp)
theorem run_ins {w : World} {m : Nat} {l : List (ByteArray × Value)} (h : Mp w m l) (s : ByteArray) (v : Value) (hn : ∀ p ∈ l,p.1 ≠ s) :
  ∃ w',(Instr.mapUpdate 194 (.map (some m)) (.string s) v).run Tryz.prog w = .ok () w' ∧ Mp w' m (l ++ [(s,v)]) ∧ w.grownBy w' (some m):=by
 have hc : (Instr.checkKey false 10000 9 (.string s)).run Tryz.prog w = .ok () w:=MapKept.run_checkKey (k:=.string s) u9s (by simp [MapKept.IsKey]) false 9999
 have hf:=find_none s l 0 0 hn
 refine ⟨{ w with heap:=w.heap.setIfInBounds m (.map (mkF 0 (l ++ [(s,v)])).toArray (l.length + 1)) },?_,?_,?_⟩
 ·have e : (mkF 0 (l ++ [(s,v)])).toArray = (mkF 0 l).toArray.push { key:=.string s,val:=v,born:=l.length }:=by rw [mkF_app]; simp
  rw [e]
  simp [Instr.mapUpdate,run_underlying u46,MapKept.run_getObj_map h,hc,MapKept.run_findKey u9s hf,MapKept.run_setObj_map _ h,Result.andThen]
 ·have:=(MapKept.heap_set (w:=w) (o':=.map (mkF 0 (l ++ [(s,v)])).toArray (l.length + 1)) h).1
  unfold Mp
  rw [List.length_append]
  exact this
 ·refine ⟨rfl,rfl,rfl,by simp,fun k hk hne => ?_⟩
  exact (MapKept.heap_set (w:=w) h).2 k (by rintro rfl; exact hne rfl)
theorem wpList_ins {w : World} {ops : Array Oper} {rest : List Oper} {o : Oper} {a : Act} {Q : Exit → Act → World → Prop} (hg : o.guard = none) (x k u : Operand) (hop : o.op = Op.insert 194 x k u) (m : Nat) (l : List (ByteArray × Value)) (s : ByteArray) (v : Value)
  (hx : a.eval x = .map (some m)) (hk : a.eval k = .string s) (hu : a.eval u = v) (h : Mp w m l) (hn : ∀ p ∈ l,p.1 ≠ s)
  (hK : ∀ w',Mp w' m (l ++ [(s,v)]) → w.grownBy w' (some m) → wpList Tryz.prog ops Q rest (a.put o.dst undef) w') : wpList Tryz.prog ops Q (o :: rest) a w:=by
 refine wpList_plain hg fun K' hK' => ?_
 obtain ⟨w',hrun,r1,r2⟩:=run_ins h s v hn
 unfold Oper.wp
 simp [execOp,hop,hx,hk,hu,hrun,Result.andThen]
 exact hK' _ _ (hK w' r1 r2)
theorem zero102 (w : World) : (zeroValue 223).run Tryz.prog w = .ok .nilFunc w:=by kernel_rfl
theorem find_R (b : Nat) (s : ByteArray) : (∃ j,Instr.findNow .string (.string s) (mkF 0 (entsR b)) 0 = some (some (j,fnV b (kindF s.data.toList 1 13)))) ∨ (Instr.findNow .string (.string s) (mkF 0 (entsR b)) 0 = some none ∧ kindF s.data.toList 1 13 = 0):=by
 by_cases h : ∀ p ∈ entsR b,p.1 ≠ s
 ·right
  refine ⟨find_none s _ 0 0 h,?_⟩
  have hd : ∀ u : ByteArray,u ≠ s → s.data.toList ≠ u.data.toList:=fun u hu e => hu (ByteArray.ext (Array.toList_inj.1 e.symm))
  simp only [entsR,List.forall_mem_cons] at h
  obtain ⟨h1,h2,h3,h4,h5,h6,h7,h8,h9,h10,h11,h12,h13,_⟩:=h
  have:=hd _ h1; have:=hd _ h2; have:=hd _ h3; have:=hd _ h4; have:=hd _ h5; have:=hd _ h6; have:=hd _ h7; have:=hd _ h8; have:=hd _ h9; have:=hd _ h10; have:=hd _ h11; have:=hd _ h12; have:=hd _ h13
  simp_all [kindF,kwds]
 ·left
  have h' : ∃ p ∈ entsR b,p.1 = s:=by
   by_cases h2 : ∃ p ∈ entsR b,p.1 = s
   ·exact h2
   ·exact absurd (fun p hp e => h2 ⟨p,hp,e⟩) h
  obtain ⟨p,hp,rfl⟩:=h'
  simp only [entsR,List.mem_cons,List.not_mem_nil,or_false] at hp
  rcases hp with rfl | rfl | rfl | rfl | rfl | rfl | rfl | rfl | rfl | rfl | rfl | rfl | rfl <;> exact ⟨_,rfl⟩
theorem run_look {w : World} {m b : Nat} (h : Mp w m (entsR b)) (s : ByteArray) : (Instr.lookup 194 (.map (some m)) (.string s) false).run Tryz.prog w = .ok (fnV b (kindF s.data.toList 1 13)) w:=by
 have hc : (Instr.checkKey false 10000 9 (.string s)).run Tryz.prog w = .ok () w:=MapKept.run_checkKey (k:=.string s) u9s (by simp [MapKept.IsKey]) false 9999
 have he : ((mkF 0 (entsR b)).toArray.isEmpty) = false:=rfl
 rcases find_R b s with ⟨j,hf⟩ | ⟨hf,h0⟩
 ·simp [Instr.lookup,run_underlying u46,MapKept.run_getObj_map h,he,hc,MapKept.run_findKey u9s hf,Result.andThen]
 ·rw [h0]
  have hz:=zero102 w
  simp [Instr.lookup,run_underlying u46,MapKept.run_getObj_map h,he,hc,MapKept.run_findKey u9s hf,Result.andThen,hz]
  rfl
structure KeepD (r : Nat) (d : Option Nat) (w w' : World) : Prop where
 os : w'.os = w.os
 tape : w'.tape = w.tape
 output : w'.output = w.output
 size : w.heap.size ≤ w'.heap.size
 block : ∀ k,k < w.heap.size → k ≠ r → some k ≠ d → w'.heap[k]? = w.heap[k]?
theorem Keep.toD {r : Nat} {d : Option Nat} {w w' : World} (h : Keep r w w') : KeepD r d w w':=⟨h.os,h.tape,h.output,h.size,fun k h1 h2 _ => h.block k h1 h2⟩
def Plw (w : World) (d d' : Option Nat) : Prop:=d' = d ∨ ∀ g,d' = some g → w.heap.size ≤ g
theorem Plw.refl (w : World) (d : Option Nat) : Plw w d d:=.inl rfl
theorem KeepD.refl (r : Nat) (d : Option Nat) (w : World) : KeepD r d w w:=⟨rfl,rfl,rfl,Nat.le_refl _,fun _ _ _ _ => rfl⟩
theorem KeepD.trans {r : Nat} {d d1 : Option Nat} {x y z : World} (h : KeepD r d x y) (p : Plw x d d1) (k : KeepD r d1 y z) : KeepD r d x z:=
 ⟨k.os.trans h.os,k.tape.trans h.tape,k.output.trans h.output,Nat.le_trans h.size k.size,fun i hi hr hd => (k.block i (Nat.lt_of_lt_of_le hi h.size) hr (by
  rcases p with p | p
  ·rw [p]; exact hd
  ·intro e; have:=p i e.symm; omega)).trans (h.block i hi hr hd)⟩
theorem Plw.trans {x y : World} {d d1 d2 : Option Nat} (p : Plw x d d1) (hs : x.heap.size ≤ y.heap.size) (q : Plw y d1 d2) : Plw x d d2:=by
 rcases q with q | q
 ·rw [q]; exact p
 ·exact .inr fun g hg => Nat.le_trans hs (q g hg)
theorem KeepD.cell {r : Nat} {d : Option Nat} {w w' : World} (h : KeepD r d w w') {p : Addr} (h1 : p.block < w.heap.size) (h2 : p.block ≠ r) (h3 : some p.block ≠ d) : w'.cell? p = w.cell? p:=World.cell?_of_block (w:=w) (h.block p.block h1 h2 h3)
theorem KeepD.bel {r B : Nat} {d : Option Nat} {w0 w w' : World} (h : KeepD r d w w') (hb : Below B w0 w) (hr : B ≤ r) (hd : ∀ g,d = some g → B ≤ g) (hB : B ≤ w.heap.size) : Below B w0 w':=
 ⟨h.os.trans hb.os,h.tape.trans hb.tape,h.output.trans hb.output,Nat.le_trans hb.size h.size,fun k hk => (h.block k (by omega) (by omega) (fun e => by have:=hd k e.symm; omega)).trans (hb.block k hk)⟩
theorem SOwn.shape {w : World} {B : Nat} {v : Value} {xs : List St} (h : SOwn w B v xs) : ∃ ad cap,v = .slice ad xs.length cap:=by
 obtain ⟨ts,h1,h2,_⟩:=h
 obtain ⟨ad,cap,h3,_⟩:=own_shape h2
 exact ⟨ad,cap,by rw [h3,← h1,List.length_map]⟩
theorem row41_keep {w w' : World} {B n r : Nat} {v lv dv mv : Value} {xs : List Value} {a b c d : Int} (h : w.ownsRow B 42 9 v n xs) (hp : Prs w r lv a b dv mv c d) (hk : Keep r w w') : w'.ownsRow B 42 9 v n xs:=by
 obtain ⟨h1,h2⟩:=h
 refine ⟨h1,?_⟩
 rcases h2 with h2 | ⟨g,cap,cur,hv,hg,hh,z⟩
 ·exact .inl h2
 ·refine .inr ⟨g,cap,cur,hv,hg,?_,z⟩
  rw [hk.block g (Array.getElem?_eq_some_iff.1 hh).1 ?_]; exact hh
  rintro rfl
  unfold Prs at hp
  rw [hp] at hh
  cases hh
structure Stb (w0 w : World) (r bx m : Nat) (l : List Tok) (lv : Value) (q : Pq) (o : Nat) (dv : Value) (xs : List St) : Prop where
 sta : Sta w0 w r l lv q o dv (.map (some m))
 own : SOwn w w0.heap.size dv xs
 len : xs.length ≤ q.n
 mp : Mp w m (entsR bx)
 bx : Bx w bx r
theorem Mp.ne {w : World} {m r : Nat} {l : List (ByteArray × Value)} {lv dv mv : Value} {n o k a : Int} (h : Mp w m l) (hp : Prs w r lv n o dv mv k a) : m ≠ r:=by
 rintro rfl
 unfold Mp at h; unfold Prs at hp
 rw [h] at hp
 cases hp
theorem Mp.keep {w w' : World} {m r : Nat} {l : List (ByteArray × Value)} (h : Mp w m l) (hk : Keep r w w') (hm : m ≠ r) : Mp w' m l:=by
 unfold Mp at *; rw [hk.block m (Mp.lt h) hm]; exact h
section
variable {w0 w w' : World} {r bx m : Nat} {l : List Tok} {lv dv dv' : Value} {q q' : Pq} {o o' : Nat} {xs xs' : List St}
theorem Stb.move (h : Stb w0 w r bx m l lv q o dv xs) (hs : Sta w0 w' r l lv q' o' dv (.map (some m))) (hk : Keep r w w') (hn : q.n ≤ q'.n) : Stb w0 w' r bx m l lv q' o' dv xs:=by
 refine ⟨hs,?_,Nat.le_trans h.len hn,h.mp.keep hk (h.mp.ne h.sta.prs),h.bx.keep hk (h.bx.ne h.sta.prs)⟩
 obtain ⟨ts,h1,h2,h3⟩:=h.own
 exact ⟨ts,h1,row41_keep h2 h.sta.prs hk,fun t ht => ⟨own_keep2 (h3 t ht).1 h.sta.prs hk,own_keep2 (h3 t ht).2 h.sta.prs hk⟩⟩
theorem Stb.below (h : Stb w0 w r bx m l lv q o dv xs) (hb : Below w.heap.size w w') : Stb w0 w' r bx m l lv q o dv xs:=h.move (h.sta.below hb) (Below.keep hb) (Nat.le_refl _)
theorem Sta.setO (h : Sta w0 w r l lv q o dv dv') (x : Nat) : Sta w0 (w.setCell ⟨r,2,none⟩ (.int .i64 (x : Int))) r l lv q x dv dv':=
 ⟨h.prs.set.2.1 _,keep_bel h.bel h.hr ((Keep.refl r w).setCell 2 _),h.hr,h.ok⟩
end
structure Out (w0 w w' : World) (r bx m : Nat) (l : List Tok) (lv : Value) (q' : Pq) (o : Nat) (dv dv' : Value) (xs' : List St) : Prop where
 st : Stb w0 w' r bx m l lv q' o dv' xs'
 kd : KeepD r dv.ownBlock w w'
 pl : Plw w dv.ownBlock dv'.ownBlock
theorem Out.keep {w0 w w1 w' : World} {r bx m : Nat} {l : List Tok} {lv : Value} {q' : Pq} {o : Nat} {dv dv' : Value} {xs' : List St} (h : Out w0 w1 w' r bx m l lv q' o dv dv' xs') (hk : Keep r w w1) : Out w0 w w' r bx m l lv q' o dv dv' xs':=
 ⟨h.st,hk.toD.trans (Plw.refl _ _) h.kd,(Plw.refl _ _).trans hk.size h.pl⟩
theorem Out.move {w0 w w1 w' : World} {r bx m : Nat} {l : List Tok} {lv : Value} {q q' : Pq} {o o' : Nat} {dv dv' : Value} {xs' : List St} (h : Out w0 w w1 r bx m l lv q o dv dv' xs') (hs : Sta w0 w' r l lv q' o' dv' (.map (some m))) (hk : Keep r w1 w') (hn : q.n ≤ q'.n) : Out w0 w w' r bx m l lv q' o' dv dv' xs':=
 ⟨h.st.move hs hk hn,h.kd.trans h.pl hk.toD,h.pl⟩
theorem Out.of {w0 w w' : World} {r bx m : Nat} {l : List Tok} {lv : Value} {q q' : Pq} {o o' : Nat} {dv : Value} {xs : List St} (h : Stb w0 w r bx m l lv q o dv xs) (hs : Sta w0 w' r l lv q' o' dv (.map (some m))) (hk : Keep r w w') (hn : q.n ≤ q'.n) : Out w0 w w' r bx m l lv q' o' dv dv xs:=
 ⟨h.move hs hk hn,hk.toD,Plw.refl _ _⟩
theorem failP_le {L : Nat} {q : Pq} (h : q.n ≤ L) (k a : Nat) : q.n ≤ (failP L q k a).n:=by unfold failP; split <;> exact h
theorem sgP_le {l : List Tok} {q : Pq} (h : q.ok l.length) (s : List UInt8) : q.n ≤ (sgP l q s).n:=by
 unfold sgP
 split
 ·show q.n ≤ q.n + 1; omega
 ·exact failP_le h.1 _ _
def opQ (l : List Tok) (q : Pq) (o : Nat) : Pq:=if o = 30 ∧ sgAt l q.n [123] = true then failP l.length q 7 (plc l q.n) else q
theorem block_walk {w0 : World} {l : List Tok} {lv : Value} {r bx m : Nat} {q : Pq} {o : Nat} {dv : Value} {xs : List St} (x : Ty w0 l lv) (w : World) (h : Stb w0 w r bx m l lv q o dv xs) (ho : o ≤ 30) (RR : Pq → List St → Prop)
  (hseq : ∀ w',Stb w0 w' r bx m l lv (sgP l (opQ l q o) [123]) (o + 1) dv xs → Calls Tryz.prog 195 #[.pointer (some ⟨r,0,none⟩)] w' fun e w'' => e = .returned (.tuple #[]) ∧ ∃ q2 dv2 xs2,Out w0 w' w'' r bx m l lv q2 (o + 1) dv dv2 xs2 ∧ RR q2 xs2) :
  Calls Tryz.prog 223 #[.pointer (some ⟨r,0,none⟩)] w fun e w' => ∃ q2 dv2 xs2,e = .returned (.int .i64 ((xs2.length : Int) - (xs.length : Int))) ∧ Out w0 w w' r bx m l lv (sgP l q2 [125]) o dv dv2 xs2 ∧ RR q2 xs2:=by
 have HX:=Lib.hid x
 have HH:=Lib.hid h
 have HSEQ:=Lib.hid hseq
 have HQ:=Lib.hid h.sta.ok
 have HLN : Hid (l.length ≤ 100000):=x.x.hn
 have HO : Hid (o ≤ 30):=ho
 obtain ⟨add,capd,rfl⟩:=h.own.shape
 have HL1 : Hid (xs.length ≤ 100000):=Nat.le_trans h.len (Nat.le_trans h.sta.ok.1 x.x.hn)
 obtain ⟨ad,cap,rfl,hct⟩:=x.x.ht.below h.sta.bel
 obtain ⟨⟨c0,c1,c2,c3,_,_,_⟩,f1,f2,_⟩:=h.sta.prs.facts
 have hr:=h.sta.prs.lt
 by_cases h30 : o = 30
 ·obtain ⟨bb,hbb⟩ : ∃ bb,sgAt l q.n [123] = bb:=⟨_,rfl⟩
  have HS:=Lib.hid (sees_any l r _ _ (.map (some m)) q.n o q.k q.a 3 ⟨#[123]⟩ w h.sta.prs (x.x.ht.below h.sta.bel) x.x.hn (by decide) bb hbb)
  cases bb with
  | true =>
   have hlt:=atB_lt hbb (by decide)
   have hop : opQ l q o = failP l.length q 7 (plc l q.n):=if_pos ⟨h30,hbb⟩
   rw [hop] at HSEQ
   obtain ⟨g,rfl,hg,k0,k1,k2,k3⟩:=hct q.n hlt
   obtain ⟨tp,htp⟩ : ∃ t,t = plc l q.n:=⟨_,rfl⟩
   have htp2 : l[q.n].2.2.2 = tp:=by rw [htp]; unfold plc; rw [tokO_in l q.n hlt]
   rw [htp2] at k3
   rw [← htp] at HSEQ
   have HF:=Lib.hid (fun (w' : World) (h' : Sta w0 w' r l (.slice (some ⟨g,0,none⟩) l.length cap) q o (.slice add xs.length capd) (.map (some m))) => sfail_q HX.out.x w' h' 7 tp (by decide))
   obtain ⟨L,hL⟩ : ∃ L,L = l.length:=⟨_,rfl⟩
   obtain ⟨n,hn⟩ : ∃ n,n = q.n:=⟨_,rfl⟩
   have hlt' : n < L:=by omega
   rw [← hn] at c1 k3
   rw [← hL] at c0
   have HL:=Lib.hid hL
   have q1 : ((o : Int) == 30) = true:=by simp; omega
   have q2 : (o == 30) = true:=by simp; omega
   clear h30
   clear hct k0 k1 k2 htp htp2 hbb hop hlt hn hL h x ho hseq
   go_enter Tryz.func223,Tryz.ntmps223
   go_wp2_with fail
   refine HS.out.mono ?_
   rintro e w1 ⟨rfl,hb1⟩
   have HW1:=Lib.hid (HH.out.below hb1)
   have d0 : w1.cell? ⟨r,0,none⟩ = some (.slice (some ⟨g,0,none⟩) L cap):=(hb1.cell (p:=⟨r,0,none⟩) hr).trans c0
   have d1 : w1.cell? ⟨r,1,none⟩ = some (.int .i64 n):=(hb1.cell (p:=⟨r,1,none⟩) hr).trans c1
   have d3 : w1.cell? ⟨g,n * 4 + 3,none⟩ = some (.int .i64 tp):=(hb1.cell (p:=⟨g,_,none⟩) hg).trans k3
   have HB1:=Lib.hid hb1
   clear hb1 c0 c1 k3 f1 f2 c2 c3
   go_wp2
   go_still_tail 12,(by kernel_rfl)
   change wpList _ _ _ _ _ w1.drew
   have HW2 : Hid (Stb w0 w1.drew r bx m l (.slice (some ⟨g,0,none⟩) l.length cap) q o (.slice add xs.length capd) xs):=HW1.out.below (Below.refl _ _).drew
   have HK2 : Hid (Keep r w w1.drew):=(Below.keep HB1.out).drew
   clear d0 d1 d3 HW1 HB1
   generalize w1.drew = w2 at HW2 HK2 ⊢
   go_wp2_with fail
   refine (HF.out w2 HW2.out.sta).mono ?_
   rintro e w3 ⟨rfl,h3,h4⟩
   have HW3:=Lib.hid (HW2.out.move h3 h4 (failP_le HQ.out.1 _ _))
   have HK3:=Lib.hid (HK2.out.trans h4)
   clear h3 h4 HW2 HK2
   go_wp2_with fail
   refine (ssign_any HX.out.x _ HW3.out.sta ⟨#[123]⟩).mono ?_
   rintro e w4 ⟨rfl,h5,h6⟩
   have HW4:=Lib.hid (HW3.out.move h5 h6 (sgP_le HW3.out.sta.ok _))
   have HK4:=Lib.hid (HK3.out.trans h6)
   clear h5 h6 HW3 HK3
   obtain ⟨⟨c0,c1,c2,c3,_,_,_⟩,f1,f2,_⟩:=HW4.out.sta.prs.facts
   have hr4:=HW4.out.sta.prs.lt
   have ho:=HO.out
   go_wp2_with fail
   have hs5:=HW4.out.sta.setO (o + 1)
   have HW5:=Lib.hid (HW4.out.move hs5 ((Keep.refl r w4).setCell 2 _) (Nat.le_refl _))
   have HK5:=Lib.hid (HK4.out.setCell 2 (.int .i64 ((o + 1 : Nat) : Int)))
   clear hs5 c0 c1 c2 c3 f1 f2 hr4
   refine (HSEQ.out _ HW5.out).mono ?_
   rintro e w6 ⟨rfl,q2,dv2,xs2,h7,h8⟩
   have HW6:=Lib.hid (h7.keep HK5.out)
   have HRR:=Lib.hid h8
   clear h7 h8
   obtain ⟨ad2,cp2,hdv2⟩:=HW6.out.st.own.shape
   subst hdv2
   have HL2 : Hid (xs2.length ≤ 100000):=Nat.le_trans HW6.out.st.len (Nat.le_trans HW6.out.st.sta.ok.1 HLN.out)
   obtain ⟨⟨c0,c1,c2,c3,_,_,_⟩,f1,f2,_⟩:=HW6.out.st.sta.prs.facts
   have hr6:=HW6.out.st.sta.prs.lt
   go_wp2_with fail
   have hs7:=HW6.out.st.sta.setO o
   have HW7:=Lib.hid (HW6.out.move hs7 ((Keep.refl r w6).setCell 2 _) (Nat.le_refl _))
   clear hs7 c0 c1 c2 c3 f1 f2 hr6
   refine (ssign_any HX.out.x _ HW7.out.st.sta ⟨#[125]⟩).mono ?_
   rintro e w8 ⟨rfl,h9,h10⟩
   have HW8:=Lib.hid (HW7.out.move h9 h10 (sgP_le HW7.out.st.sta.ok _))
   clear h9 h10 HW7
   obtain ⟨⟨c0,c1,c2,c3,_,_,_⟩,f1,f2,_⟩:=HW8.out.st.sta.prs.facts
   have hr8:=HW8.out.st.sta.prs.lt
   have hl1:=HL1.out
   have hl2:=HL2.out
   go_wp2
   go_ret
   exact ⟨q2,_,xs2,rfl,HW8.out,HRR.out⟩
  | false =>
   have hop : opQ l q o = q:=if_neg fun hh => by rw [hbb] at hh; exact absurd hh.2 (by simp)
   rw [hop] at HSEQ
   have q1 : ((o : Int) == 30) = true:=by simp; omega
   have q2 : (o == 30) = true:=by simp; omega
   clear h30
   clear hct hbb hop h x ho hseq
   go_enter Tryz.func223,Tryz.ntmps223
   go_wp2_with fail
   refine HS.out.mono ?_
   rintro e w3 ⟨rfl,hb1⟩
   have HW3:=Lib.hid (HH.out.below hb1)
   have HK3 : Hid (Keep r w w3):=Below.keep hb1
   clear hb1 c0 c1 f1 f2 c2 c3
   go_wp2_with fail
   refine (ssign_any HX.out.x _ HW3.out.sta ⟨#[123]⟩).mono ?_
   rintro e w4 ⟨rfl,h5,h6⟩
   have HW4:=Lib.hid (HW3.out.move h5 h6 (sgP_le HW3.out.sta.ok _))
   have HK4:=Lib.hid (HK3.out.trans h6)
   clear h5 h6 HW3 HK3
   obtain ⟨⟨c0,c1,c2,c3,_,_,_⟩,f1,f2,_⟩:=HW4.out.sta.prs.facts
   have hr4:=HW4.out.sta.prs.lt
   have ho:=HO.out
   go_wp2_with fail
   have hs5:=HW4.out.sta.setO (o + 1)
   have HW5:=Lib.hid (HW4.out.move hs5 ((Keep.refl r w4).setCell 2 _) (Nat.le_refl _))
   have HK5:=Lib.hid (HK4.out.setCell 2 (.int .i64 ((o + 1 : Nat) : Int)))
   clear hs5 c0 c1 c2 c3 f1 f2 hr4
   refine (HSEQ.out _ HW5.out).mono ?_
   rintro e w6 ⟨rfl,q2,dv2,xs2,h7,h8⟩
   have HW6:=Lib.hid (h7.keep HK5.out)
   have HRR:=Lib.hid h8
   clear h7 h8
   obtain ⟨ad2,cp2,hdv2⟩:=HW6.out.st.own.shape
   subst hdv2
   have HL2 : Hid (xs2.length ≤ 100000):=Nat.le_trans HW6.out.st.len (Nat.le_trans HW6.out.st.sta.ok.1 HLN.out)
   obtain ⟨⟨c0,c1,c2,c3,_,_,_⟩,f1,f2,_⟩:=HW6.out.st.sta.prs.facts
   have hr6:=HW6.out.st.sta.prs.lt
   go_wp2_with fail
   have hs7:=HW6.out.st.sta.setO o
   have HW7:=Lib.hid (HW6.out.move hs7 ((Keep.refl r w6).setCell 2 _) (Nat.le_refl _))
   clear hs7 c0 c1 c2 c3 f1 f2 hr6
   refine (ssign_any HX.out.x _ HW7.out.st.sta ⟨#[125]⟩).mono ?_
   rintro e w8 ⟨rfl,h9,h10⟩
   have HW8:=Lib.hid (HW7.out.move h9 h10 (sgP_le HW7.out.st.sta.ok _))
   clear h9 h10 HW7
   obtain ⟨⟨c0,c1,c2,c3,_,_,_⟩,f1,f2,_⟩:=HW8.out.st.sta.prs.facts
   have hr8:=HW8.out.st.sta.prs.lt
   have hl1:=HL1.out
   have hl2:=HL2.out
   go_wp2
   go_ret
   exact ⟨q2,_,xs2,rfl,HW8.out,HRR.out⟩
 ·have hop : opQ l q o = q:=if_neg fun hh => h30 hh.1
  rw [hop] at HSEQ
  have q1 : ((o : Int) == 30) = false:=by simp; omega
  have q2 : (o == 30) = false:=by simp; omega
  have HW3:=HH
  have HK3 : Hid (Keep r w w):=Keep.refl _ _
  clear hct hop h x ho hseq
  go_enter Tryz.func223,Tryz.ntmps223
  go_wp2_with fail
  go_wp2_with fail
  refine (ssign_any HX.out.x _ HW3.out.sta ⟨#[123]⟩).mono ?_
  rintro e w4 ⟨rfl,h5,h6⟩
  have HW4:=Lib.hid (HW3.out.move h5 h6 (sgP_le HW3.out.sta.ok _))
  have HK4:=Lib.hid (HK3.out.trans h6)
  clear h5 h6 HW3 HK3
  obtain ⟨⟨c0,c1,c2,c3,_,_,_⟩,f1,f2,_⟩:=HW4.out.sta.prs.facts
  have hr4:=HW4.out.sta.prs.lt
  have ho:=HO.out
  go_wp2_with fail
  have hs5:=HW4.out.sta.setO (o + 1)
  have HW5:=Lib.hid (HW4.out.move hs5 ((Keep.refl r w4).setCell 2 _) (Nat.le_refl _))
  have HK5:=Lib.hid (HK4.out.setCell 2 (.int .i64 ((o + 1 : Nat) : Int)))
  clear hs5 c0 c1 c2 c3 f1 f2 hr4
  refine (HSEQ.out _ HW5.out).mono ?_
  rintro e w6 ⟨rfl,q2,dv2,xs2,h7,h8⟩
  have HW6:=Lib.hid (h7.keep HK5.out)
  have HRR:=Lib.hid h8
  clear h7 h8
  obtain ⟨ad2,cp2,hdv2⟩:=HW6.out.st.own.shape
  subst hdv2
  have HL2 : Hid (xs2.length ≤ 100000):=Nat.le_trans HW6.out.st.len (Nat.le_trans HW6.out.st.sta.ok.1 HLN.out)
  obtain ⟨⟨c0,c1,c2,c3,_,_,_⟩,f1,f2,_⟩:=HW6.out.st.sta.prs.facts
  have hr6:=HW6.out.st.sta.prs.lt
  go_wp2_with fail
  have hs7:=HW6.out.st.sta.setO o
  have HW7:=Lib.hid (HW6.out.move hs7 ((Keep.refl r w6).setCell 2 _) (Nat.le_refl _))
  clear hs7 c0 c1 c2 c3 f1 f2 hr6
  refine (ssign_any HX.out.x _ HW7.out.st.sta ⟨#[125]⟩).mono ?_
  rintro e w8 ⟨rfl,h9,h10⟩
  have HW8:=Lib.hid (HW7.out.move h9 h10 (sgP_le HW7.out.st.sta.ok _))
  clear h9 h10 HW7
  obtain ⟨⟨c0,c1,c2,c3,_,_,_⟩,f1,f2,_⟩:=HW8.out.st.sta.prs.facts
  have hr8:=HW8.out.st.sta.prs.lt
  have hl1:=HL1.out
  have hl2:=HL2.out
  go_wp2
  go_ret
  exact ⟨q2,_,xs2,rfl,HW8.out,HRR.out⟩
end Go.Proofs.YtcghccjnadagcaaGreatDoor
