/- Facts. -/
import Derived.Test.YtcghccjnadagcaaGreatDoorZf
set_option maxRecDepth 100000
set_option maxHeartbeats 32000000
namespace Go.Proofs.YtcghccjnadagcaaGreatDoor
open Go.RowKit
def SmOK (xs : List St) : Prop:=∀ x ∈ xs,x.reg.size ≤ 100000 ∧ x.loc.size ≤ 100000 ∧ x.e.length ≤ 100000 ∧ x.f.length ≤ 100000 ∧ NmOK x.e ∧ NmOK x.f
noncomputable def goodB (xs : List St) : Bool:=xs.all fun x => !flawB x
theorem sidx_any (ts : List SI) (v : Value) (w : World) (hv : StsD w v ts) (hn : ts.length ≤ 100000) (hz : SmOK (ts.map (·.1))) (ht : Flds w) :
  Calls Tryz.prog 180 #[v,.func (.func 139) #[] #[]] w (IdxAns (!goodB (ts.map (·.1))) w):=by
 obtain ⟨B,hB⟩ : ∃ B,goodB ((ts.drop 0).map (·.1)) = B:=⟨_,rfl⟩
 rw [show goodB (ts.map (·.1)) = B from hB]
 have HB0:=Lib.hid hB
 have HV:=Lib.hid hv
 obtain ⟨ad,cap,rfl⟩:=hv.shape
 obtain ⟨n,hN⟩ : ∃ n,n = ts.length:=⟨_,rfl⟩
 rw [← hN] at hn HV ⊢
 have HN:=Lib.hid hN
 have HZ:=Lib.hid hz
 have HT:=Lib.hid ht
 clear hN hv hz hB ht
 go_enter Tryz.func180,Tryz.ntmps180
 go_wp2_with fail
 go_loopg [8] n (fun fuel i' wr => ∃ k : Nat,i' = .int .i64 k ∧ k ≤ n ∧ n - k ≤ fuel ∧ goodB ((ts.drop k).map (·.1)) = B ∧ Below w.heap.size w wr)
 case atStart => exact ⟨0,rfl,Nat.zero_le _,Nat.le_refl _,HB0.out,Below.refl _ _⟩
 case round =>
  obtain ⟨k,rfl,hk,hf,ha,hb⟩:=hrel
  have HA:=Lib.hid ha
  have HB:=Lib.hid hb
  have hww:=hb.size
  clear ha hb
  by_cases hlt : k < n
  ·have hk' : k < ts.length:=by have:=HN.out; omega
   have HD:=Lib.hid (List.drop_eq_getElem_cons hk')
   obtain ⟨ad',cap',hv',_,_,hc⟩:=HV.out.below HB.out
   injection hv' with e1 e2 e3
   subst e1 e3
   obtain ⟨b,off,rfl,hbl,⟨x0,x1,x2,x3,x4,x5,x6,x7,x8⟩,hE,hF⟩:=hc k hk'
   have hsm:=HZ.out ts[k].1 (List.mem_map_of_mem (List.getElem_mem hk'))
   obtain ⟨t,hx⟩ : ∃ t,t = ts[k]:=⟨_,rfl⟩
   have HX:=Lib.hid hx
   rw [← hx] at x0 x1 x2 x3 x4 x5 x6 x7 x8 hE hF hsm
   have HFL:=Lib.hid (sflawed_any t.1 t.2.1 t.2.2 wr hE hF hsm.2.2.1 hsm.2.2.2.1 hsm.2.2.2.2.1 hsm.2.2.2.2.2 hsm.1 hsm.2.1 (HT.out.below HB.out))
   obtain ⟨q,hq⟩ : ∃ q,flawB t.1 = q:=⟨_,rfl⟩
   rw [hq] at HFL
   have HQ:=Lib.hid hq
   obtain ⟨a1,p1,e4,_⟩:=hE
   obtain ⟨a2,p2,e5,_⟩:=hF
   rw [e4] at x3 HFL
   rw [e5] at x4 HFL
   obtain ⟨⟨tk,tr,tl,te,tf,tn,tb,tq,tp⟩,v1,v2⟩:=t
   simp only [St.cells] at x0 x1 x2 x3 x4 x5 x6 x7 x8 HFL
   clear hc hx hq hsm e4 e5 e2
   go_wp2_with fail
   refine HFL.out.mono ?_
   rintro e w2 ⟨rfl,hb2⟩
   have HB2:=Lib.hid (HB.out.trans (hb2.mono hww))
   clear hb2 x0 x1 x2 x3 x4 x5 x6 x7 x8
   cases q with
   | false =>
    go_wp2
    go_roundg (gk - 1)
    case measure => omega
    case rel =>
     refine ⟨k + 1,by go_num,by omega,by omega,?_,HB2.out⟩
     have h2:=HA.out
     rw [HD.out,List.map_cons] at h2
     unfold goodB at h2 ⊢
     rw [List.all_cons,← HX.out] at h2
     simp only [] at h2
     rw [HQ.out] at h2
     simpa using h2
   | true =>
    go_wp2
    go_ret
    refine ⟨k,rfl,?_,HB2.out⟩
    have h2:=HA.out
    rw [HD.out,List.map_cons] at h2
    unfold goodB at h2
    rw [List.all_cons,← HX.out] at h2
    simp only [] at h2
    rw [HQ.out] at h2
    rw [← h2]; simp
  ·have HE:=Lib.hid (drop_over ts k (by have:=HN.out; omega))
   go_wp2
   go_ret
   refine ⟨-1,rfl,?_,HB.out⟩
   have:=HA.out
   rw [HE.out] at this
   rw [← this]; rfl
theorem scontains_any (ts : List SI) (v : Value) (w : World) (hv : StsD w v ts) (hn : ts.length ≤ 100000) (hz : SmOK (ts.map (·.1))) (ht : Flds w) (b : Bool) (hb : goodB (ts.map (·.1)) = b) :
  Calls Tryz.prog 138 #[v,.func (.func 139) #[] #[]] w fun e w' => e = .returned (.bool (!b)) ∧ Below w.heap.size w w':=by
 have H:=sidx_any ts v w hv hn hz ht
 rw [hb] at H
 clear hv hn hz hb ht
 go_enter Tryz.func138,Tryz.ntmps138
 go_wp2_with fail
 refine H.mono ?_
 rintro e w2 ⟨z,rfl,hz,hb2⟩
 have HZ:=Lib.hid hz
 clear hz
 go_wp2
 go_ret
 exact ⟨ret_bool HZ.out,hb2⟩
open Classical in
noncomputable def rightSB (xs : List St) : Bool:=decide (xs.length ≤ 200 ∧ Cpl xs ∧ goodB xs = true ∧ ∃ t : Tr,t.flat = xs ∧ t.hgt ≤ 30)
open Classical in
theorem rightSB_no {xs : List St} (h : ¬ (xs.length ≤ 200 ∧ Cpl xs ∧ goodB xs = true ∧ ∃ t : Tr,t.flat = xs ∧ t.hgt ≤ 30)) : rightSB xs = false:=by unfold rightSB; exact decide_eq_false h
open Classical in
theorem rightSB_yes {xs : List St} (h : xs.length ≤ 200 ∧ Cpl xs ∧ goodB xs = true ∧ ∃ t : Tr,t.flat = xs ∧ t.hgt ≤ 30) : rightSB xs = true:=by unfold rightSB; exact decide_eq_true h
theorem hgt_inj : ∀ (t t' : Tr),t.flat = t'.flat → t.hgt = t'.hgt:=by
 intro t
 induction t with
 | nil => intro t' h; cases t' with
  | nil => rfl
  | node s b o r => cases h
 | node s b o r hb ho hr =>
  intro t' h
  cases t' with
  | nil => cases h
  | node s' b' o' r' =>
   rw [Tr.flat,Tr.flat,List.append_assoc,List.append_assoc] at h
   injection h with e1 e2
   have g0 : s.kind = s'.kind:=by have:=congrArg St.kind e1; exact this
   have g1 : b.flat.length = b'.flat.length:=by have:=congrArg St.body e1; exact Int.ofNat_inj.1 this
   have g2 : o.flat.length = o'.flat.length:=by have:=congrArg St.els e1; exact Int.ofNat_inj.1 this
   obtain ⟨h1,h2⟩:=List.append_inj e2 g1
   obtain ⟨h3,h4⟩:=List.append_inj h2 g2
   rw [Tr.hgt,Tr.hgt,g0,hb _ h1,ho _ h3,hr _ h4]
theorem sright_any (ts : List SI) (v : Value) (w : World) (hv : StsD w v ts) (hn : ts.length ≤ 100000) (hz : SmOK (ts.map (·.1))) (ht : Flds w) :
  Calls Tryz.prog 94 #[v] w fun e w' => e = .returned (.bool (rightSB (ts.map (·.1)))) ∧ Below w.heap.size w w':=by
 have HC:=Lib.hid (complete_any ts.length ts v w (Nat.le_refl _) hn hv)
 have HG:=Lib.hid (fun (W : World) (h : Below w.heap.size w W) b hb => scontains_any ts v W (hv.below h) hn hz (ht.below h) b hb)
 have HH:=Lib.hid (fun (W : World) (h : Below w.heap.size w W) t hf => sheight_any ts.length t ts v W (Nat.le_refl _) hn hf (hv.below h))
 obtain ⟨ad,cap,rfl⟩:=hv.shape
 have hlen : (ts.map (·.1)).length = ts.length:=List.length_map ..
 obtain ⟨xs,hxs⟩ : ∃ xs,xs = ts.map (·.1):=⟨_,rfl⟩
 rw [← hxs] at HC HG HH hlen ⊢
 obtain ⟨n,hN⟩ : ∃ n,n = ts.length:=⟨_,rfl⟩
 rw [← hN] at hn HC HG HH hlen ⊢
 clear hxs hN hv hz ht
 by_cases h200 : 200 < n
 ·have q1 : decide ((200 : Int) < (n : Int)) = true:=by simp; omega
  have q2 : decide (200 < n) = true:=by simp; omega
  rw [rightSB_no (fun h => by omega)]
  clear hlen h200
  go_enter Tryz.func94,Tryz.ntmps94
  go_wp2
  go_ret
  exact ⟨rfl,Below.refl _ _⟩
 ·have q1 : decide ((200 : Int) < (n : Int)) = false:=by simp; omega
  have q2 : decide (200 < n) = false:=by simp; omega
  by_cases hc : Cpl xs
  ·rw [cplB_yes hc] at HC
   obtain ⟨t,htf⟩:=hc
   have HT:=Lib.hid (fun (W : World) (h : Below w.heap.size w W) => HH.out W h t htf.symm)
   obtain ⟨g,hg⟩ : ∃ g,goodB xs = g:=⟨_,rfl⟩
   have HGG:=Lib.hid (fun (W : World) (h : Below w.heap.size w W) => HG.out W h g hg)
   cases g with
   | false =>
    rw [rightSB_no (fun h => by rw [hg] at h; exact absurd h.2.2.1 (by simp))]
    clear hlen h200 htf hg HG HH
    go_enter Tryz.func94,Tryz.ntmps94
    go_wp2_with fail
    refine HC.out.mono ?_
    rintro e w2 ⟨rfl,hb2⟩
    go_wp2_with fail
    refine (HGG.out w2 hb2).mono ?_
    rintro e w3 ⟨rfl,hb3⟩
    go_wp2
    go_ret
    exact ⟨rfl,hb2.trans (hb3.mono hb2.size)⟩
   | true =>
    have hbd : t.hgt ≤ n:=by have:=hgt_le t; rw [htf,hlen] at this; exact this
    obtain ⟨z,hz⟩ : ∃ z,z = t.hgt:=⟨_,rfl⟩
    have hrs : rightSB xs = decide ((z : Int) ≤ 30):=by
     by_cases h30 : t.hgt ≤ 30
     ·rw [rightSB_yes ⟨by omega,⟨t,htf⟩,hg,t,htf,h30⟩,hz]
      symm; simp; omega
     ·rw [rightSB_no (fun h => by obtain ⟨_,_,_,t',h1,h2⟩:=h; rw [hgt_inj t t' (htf.trans h1.symm)] at h30; exact h30 h2),hz]
      symm; simp; omega
    rw [hrs]
    rw [← hz] at HT hbd
    clear hlen h200 htf hg HG HH hrs hz
    go_enter Tryz.func94,Tryz.ntmps94
    go_wp2_with fail
    refine HC.out.mono ?_
    rintro e w2 ⟨rfl,hb2⟩
    go_wp2_with fail
    refine (HGG.out w2 hb2).mono ?_
    rintro e w3 ⟨rfl,hb3⟩
    have hb23:=hb2.trans (hb3.mono hb2.size)
    go_wp2_with fail
    refine (HT.out w3 hb23).mono ?_
    rintro e w4 ⟨rfl,hb4⟩
    go_wp2
    go_ret
    refine ⟨ret_bool (by simp),hb23.trans (hb4.mono hb23.size)⟩
  ·rw [cplB_no hc] at HC
   rw [rightSB_no (fun h => hc h.2.1)]
   clear hlen h200 hc HG HH
   go_enter Tryz.func94,Tryz.ntmps94
   go_wp2_with fail
   refine HC.out.mono ?_
   rintro e w2 ⟨rfl,hb2⟩
   go_wp2
   go_ret
   exact ⟨rfl,hb2⟩
theorem textOf_len {l : List Nd} : (textOf l).length ≤ 8000:=by
 by_cases h : rightP l
 ·obtain ⟨e,hw,he,h200,ha,_⟩:=id h
  rw [textOf_tree l h e hw he]
  have h1:=showE_len e (fun x hx => List.all_eq_true.1 ha x (by rw [← he]; exact hx))
  have h2:=e.flat_length
  rw [he] at h2
  omega
 ·rw [textOf_no l h]; simp
theorem line1 (r l : ByteArray) (e f : List Nd) (n : Bool) (b o p : Int) (ve vf : Value) (w : World) (he : NdsC w ve e) (hf : NdsC w vf f) (hn1 : e.length ≤ 100000) (hn2 : f.length ≤ 100000) (hz1 : NmOK e) (hz2 : NmOK f) (_hs1 : r.size ≤ 100) (_hs2 : l.size ≤ 100) (ht : Tabs w) :
  Calls Tryz.prog 158 #[.agg (St.cells ⟨(1 : Nat),r,l,e,f,n,b,o,p⟩ ve vf)] w (TextIs (lineB ⟨(1 : Nat),r,l,e,f,n,b,o,p⟩) w):=by
 have HE:=Lib.hid (fun (W : World) (h : Below w.heap.size w W) => shown_any e ve W (he.below h) hn1 hz1 (ht.below h))
 have HF:=Lib.hid (fun (W : World) (h : Below w.heap.size w W) => shown_any f vf W (hf.below h) hn2 hz2 (ht.below h))
 obtain ⟨y,hy⟩ : ∃ y : ByteArray,y = ⟨(textOf e).toArray⟩:=⟨_,rfl⟩
 have hyl : y.data.toList = textOf e:=by rw [hy]
 have hys : y.size ≤ 8000:=by rw [Lib.size_eq,hyl]; exact textOf_len
 obtain ⟨z,hz⟩ : ∃ z : ByteArray,z = ⟨(textOf f).toArray⟩:=⟨_,rfl⟩
 have hzl : z.data.toList = textOf f:=by rw [hz]
 have hzs : z.size ≤ 8000:=by rw [Lib.size_eq,hzl]; exact textOf_len
 have HYL:=Lib.hid hyl
 have HZL:=Lib.hid hzl
 unfold TextIs at HE HF
 rw [← hy] at HE
 rw [← hz] at HF
 obtain ⟨a1,p1,rfl,_⟩:=he
 obtain ⟨a2,p2,rfl,_⟩:=hf
 have hB : BlkS (w.alloc (.cells #[.int .i64 (1 : Int),.string r,.string l,.slice a1 e.length p1,.slice a2 f.length p2,.bool n,.int .i64 b,.int .i64 o,.int .i64 p] 42)) w.heap.size ⟨(1 : Int),r,l,e,f,n,b,o,p⟩ (.slice a1 e.length p1) (.slice a2 f.length p2):=heap_alloc_new w _
 have hbw : Below w.heap.size w (w.alloc (.cells #[.int .i64 (1 : Int),.string r,.string l,.slice a1 e.length p1,.slice a2 f.length p2,.bool n,.int .i64 b,.int .i64 o,.int .i64 p] 42)):=(Below.refl _ _).alloc (Nat.le_refl _) _
 have hlt:=hB.lt
 obtain ⟨⟨b0,b1,b2,b3,b4,b5,b6,b7,b8⟩,_⟩:=hB.facts
 simp only [] at b0 b1 b2 b3 b4 b5
 have HBW:=Lib.hid hbw
 have HK : Hid (∀ W,Below (w.alloc (.cells #[.int .i64 (1 : Int),.string r,.string l,.slice a1 e.length p1,.slice a2 f.length p2,.bool n,.int .i64 b,.int .i64 o,.int .i64 p] 42)).heap.size (w.alloc (.cells #[.int .i64 (1 : Int),.string r,.string l,.slice a1 e.length p1,.slice a2 f.length p2,.bool n,.int .i64 b,.int .i64 o,.int .i64 p] 42)) W → W.cell? ⟨w.heap.size,0,none⟩ = some (.int .i64 (1 : Int)) ∧ W.cell? ⟨w.heap.size,1,none⟩ = some (.string r) ∧ W.cell? ⟨w.heap.size,2,none⟩ = some (.string l) ∧ W.cell? ⟨w.heap.size,4,none⟩ = some (.slice a2 f.length p2) ∧ W.cell? ⟨w.heap.size,5,none⟩ = some (.bool n)):=
  fun W hW => ⟨(hW.cell (p:=⟨_,_,none⟩) hlt).trans b0,(hW.cell (p:=⟨_,_,none⟩) hlt).trans b1,(hW.cell (p:=⟨_,_,none⟩) hlt).trans b2,(hW.cell (p:=⟨_,_,none⟩) hlt).trans b4,(hW.cell (p:=⟨_,_,none⟩) hlt).trans b5⟩
 clear hB hbw b0 b1 b2 b4 b5 b6 b7 b8 hn1 hn2 hz1 hz2 ht hy hz hyl hzl hlt b3
 unfold St.cells
 simp only []
 go_enter Tryz.func158,Tryz.ntmps158
 go_wp2_with fail
 refine (HE.out _ HBW.out).mono ?_
 rintro e1 w2 ⟨rfl,hb2⟩
 obtain ⟨c0,c1,c2,c4,c5⟩:=HK.out w2 hb2
 have HB2:=Lib.hid (HBW.out.trans (hb2.mono HBW.out.size))
 have HB22:=Lib.hid hb2
 clear hb2
 go_wp2
 go_ret
 exact ⟨ret_str (ba_eq (by simp [lineB,fieldB,formL,kwds,nestK])),HB2.out⟩
theorem line2 (r l : ByteArray) (e f : List Nd) (n : Bool) (b o p : Int) (ve vf : Value) (w : World) (he : NdsC w ve e) (hf : NdsC w vf f) (hn1 : e.length ≤ 100000) (hn2 : f.length ≤ 100000) (hz1 : NmOK e) (hz2 : NmOK f) (hs1 : r.size ≤ 100) (_hs2 : l.size ≤ 100) (ht : Tabs w) :
  Calls Tryz.prog 158 #[.agg (St.cells ⟨(2 : Nat),r,l,e,f,n,b,o,p⟩ ve vf)] w (TextIs (lineB ⟨(2 : Nat),r,l,e,f,n,b,o,p⟩) w):=by
 have HE:=Lib.hid (fun (W : World) (h : Below w.heap.size w W) => shown_any e ve W (he.below h) hn1 hz1 (ht.below h))
 have HF:=Lib.hid (fun (W : World) (h : Below w.heap.size w W) => shown_any f vf W (hf.below h) hn2 hz2 (ht.below h))
 obtain ⟨y,hy⟩ : ∃ y : ByteArray,y = ⟨(textOf e).toArray⟩:=⟨_,rfl⟩
 have hyl : y.data.toList = textOf e:=by rw [hy]
 have hys : y.size ≤ 8000:=by rw [Lib.size_eq,hyl]; exact textOf_len
 obtain ⟨z,hz⟩ : ∃ z : ByteArray,z = ⟨(textOf f).toArray⟩:=⟨_,rfl⟩
 have hzl : z.data.toList = textOf f:=by rw [hz]
 have hzs : z.size ≤ 8000:=by rw [Lib.size_eq,hzl]; exact textOf_len
 have HYL:=Lib.hid hyl
 have HZL:=Lib.hid hzl
 unfold TextIs at HE HF
 rw [← hy] at HE
 rw [← hz] at HF
 obtain ⟨a1,p1,rfl,_⟩:=he
 obtain ⟨a2,p2,rfl,_⟩:=hf
 have hB : BlkS (w.alloc (.cells #[.int .i64 (2 : Int),.string r,.string l,.slice a1 e.length p1,.slice a2 f.length p2,.bool n,.int .i64 b,.int .i64 o,.int .i64 p] 42)) w.heap.size ⟨(2 : Int),r,l,e,f,n,b,o,p⟩ (.slice a1 e.length p1) (.slice a2 f.length p2):=heap_alloc_new w _
 have hbw : Below w.heap.size w (w.alloc (.cells #[.int .i64 (2 : Int),.string r,.string l,.slice a1 e.length p1,.slice a2 f.length p2,.bool n,.int .i64 b,.int .i64 o,.int .i64 p] 42)):=(Below.refl _ _).alloc (Nat.le_refl _) _
 have hlt:=hB.lt
 obtain ⟨⟨b0,b1,b2,b3,b4,b5,b6,b7,b8⟩,_⟩:=hB.facts
 simp only [] at b0 b1 b2 b3 b4 b5
 have HBW:=Lib.hid hbw
 have HK : Hid (∀ W,Below (w.alloc (.cells #[.int .i64 (2 : Int),.string r,.string l,.slice a1 e.length p1,.slice a2 f.length p2,.bool n,.int .i64 b,.int .i64 o,.int .i64 p] 42)).heap.size (w.alloc (.cells #[.int .i64 (2 : Int),.string r,.string l,.slice a1 e.length p1,.slice a2 f.length p2,.bool n,.int .i64 b,.int .i64 o,.int .i64 p] 42)) W → W.cell? ⟨w.heap.size,0,none⟩ = some (.int .i64 (2 : Int)) ∧ W.cell? ⟨w.heap.size,1,none⟩ = some (.string r) ∧ W.cell? ⟨w.heap.size,2,none⟩ = some (.string l) ∧ W.cell? ⟨w.heap.size,4,none⟩ = some (.slice a2 f.length p2) ∧ W.cell? ⟨w.heap.size,5,none⟩ = some (.bool n)):=
  fun W hW => ⟨(hW.cell (p:=⟨_,_,none⟩) hlt).trans b0,(hW.cell (p:=⟨_,_,none⟩) hlt).trans b1,(hW.cell (p:=⟨_,_,none⟩) hlt).trans b2,(hW.cell (p:=⟨_,_,none⟩) hlt).trans b4,(hW.cell (p:=⟨_,_,none⟩) hlt).trans b5⟩
 clear hB hbw b0 b1 b2 b4 b5 b6 b7 b8 hn1 hn2 hz1 hz2 ht hy hz hyl hzl hlt b3
 unfold St.cells
 simp only []
 go_enter Tryz.func158,Tryz.ntmps158
 go_wp2_with fail
 refine (HE.out _ HBW.out).mono ?_
 rintro e1 w2 ⟨rfl,hb2⟩
 obtain ⟨c0,c1,c2,c4,c5⟩:=HK.out w2 hb2
 have HB2:=Lib.hid (HBW.out.trans (hb2.mono HBW.out.size))
 have HB22:=Lib.hid hb2
 clear hb2
 go_wp2
 go_ret
 exact ⟨ret_str (ba_eq (by simp [lineB,fieldB,formL,kwds,nestK,← HYL.out])),HB2.out⟩
theorem line3 (r l : ByteArray) (e f : List Nd) (n : Bool) (b o p : Int) (ve vf : Value) (w : World) (he : NdsC w ve e) (hf : NdsC w vf f) (hn1 : e.length ≤ 100000) (hn2 : f.length ≤ 100000) (hz1 : NmOK e) (hz2 : NmOK f) (hs1 : r.size ≤ 100) (hs2 : l.size ≤ 100) (ht : Tabs w) :
  Calls Tryz.prog 158 #[.agg (St.cells ⟨(3 : Nat),r,l,e,f,n,b,o,p⟩ ve vf)] w (TextIs (lineB ⟨(3 : Nat),r,l,e,f,n,b,o,p⟩) w):=by
 have HE:=Lib.hid (fun (W : World) (h : Below w.heap.size w W) => shown_any e ve W (he.below h) hn1 hz1 (ht.below h))
 have HF:=Lib.hid (fun (W : World) (h : Below w.heap.size w W) => shown_any f vf W (hf.below h) hn2 hz2 (ht.below h))
 obtain ⟨y,hy⟩ : ∃ y : ByteArray,y = ⟨(textOf e).toArray⟩:=⟨_,rfl⟩
 have hyl : y.data.toList = textOf e:=by rw [hy]
 have hys : y.size ≤ 8000:=by rw [Lib.size_eq,hyl]; exact textOf_len
 obtain ⟨z,hz⟩ : ∃ z : ByteArray,z = ⟨(textOf f).toArray⟩:=⟨_,rfl⟩
 have hzl : z.data.toList = textOf f:=by rw [hz]
 have hzs : z.size ≤ 8000:=by rw [Lib.size_eq,hzl]; exact textOf_len
 have HYL:=Lib.hid hyl
 have HZL:=Lib.hid hzl
 unfold TextIs at HE HF
 rw [← hy] at HE
 rw [← hz] at HF
 obtain ⟨a1,p1,rfl,_⟩:=he
 obtain ⟨a2,p2,rfl,_⟩:=hf
 have hB : BlkS (w.alloc (.cells #[.int .i64 (3 : Int),.string r,.string l,.slice a1 e.length p1,.slice a2 f.length p2,.bool n,.int .i64 b,.int .i64 o,.int .i64 p] 42)) w.heap.size ⟨(3 : Int),r,l,e,f,n,b,o,p⟩ (.slice a1 e.length p1) (.slice a2 f.length p2):=heap_alloc_new w _
 have hbw : Below w.heap.size w (w.alloc (.cells #[.int .i64 (3 : Int),.string r,.string l,.slice a1 e.length p1,.slice a2 f.length p2,.bool n,.int .i64 b,.int .i64 o,.int .i64 p] 42)):=(Below.refl _ _).alloc (Nat.le_refl _) _
 have hlt:=hB.lt
 obtain ⟨⟨b0,b1,b2,b3,b4,b5,b6,b7,b8⟩,_⟩:=hB.facts
 simp only [] at b0 b1 b2 b3 b4 b5
 have HBW:=Lib.hid hbw
 have HK : Hid (∀ W,Below (w.alloc (.cells #[.int .i64 (3 : Int),.string r,.string l,.slice a1 e.length p1,.slice a2 f.length p2,.bool n,.int .i64 b,.int .i64 o,.int .i64 p] 42)).heap.size (w.alloc (.cells #[.int .i64 (3 : Int),.string r,.string l,.slice a1 e.length p1,.slice a2 f.length p2,.bool n,.int .i64 b,.int .i64 o,.int .i64 p] 42)) W → W.cell? ⟨w.heap.size,0,none⟩ = some (.int .i64 (3 : Int)) ∧ W.cell? ⟨w.heap.size,1,none⟩ = some (.string r) ∧ W.cell? ⟨w.heap.size,2,none⟩ = some (.string l) ∧ W.cell? ⟨w.heap.size,4,none⟩ = some (.slice a2 f.length p2) ∧ W.cell? ⟨w.heap.size,5,none⟩ = some (.bool n)):=
  fun W hW => ⟨(hW.cell (p:=⟨_,_,none⟩) hlt).trans b0,(hW.cell (p:=⟨_,_,none⟩) hlt).trans b1,(hW.cell (p:=⟨_,_,none⟩) hlt).trans b2,(hW.cell (p:=⟨_,_,none⟩) hlt).trans b4,(hW.cell (p:=⟨_,_,none⟩) hlt).trans b5⟩
 clear hB hbw b0 b1 b2 b4 b5 b6 b7 b8 hn1 hn2 hz1 hz2 ht hy hz hyl hzl hlt b3
 unfold St.cells
 simp only []
 go_enter Tryz.func158,Tryz.ntmps158
 go_wp2_with fail
 refine (HE.out _ HBW.out).mono ?_
 rintro e1 w2 ⟨rfl,hb2⟩
 obtain ⟨c0,c1,c2,c4,c5⟩:=HK.out w2 hb2
 have HB2:=Lib.hid (HBW.out.trans (hb2.mono HBW.out.size))
 have HB22:=Lib.hid hb2
 clear hb2
 go_wp2
 go_ret
 exact ⟨ret_str (ba_eq (by simp [lineB,fieldB,formL,kwds,nestK])),HB2.out⟩
theorem line4 (r l : ByteArray) (e f : List Nd) (n : Bool) (b o p : Int) (ve vf : Value) (w : World) (he : NdsC w ve e) (hf : NdsC w vf f) (hn1 : e.length ≤ 100000) (hn2 : f.length ≤ 100000) (hz1 : NmOK e) (hz2 : NmOK f) (_hs1 : r.size ≤ 100) (hs2 : l.size ≤ 100) (ht : Tabs w) :
  Calls Tryz.prog 158 #[.agg (St.cells ⟨(4 : Nat),r,l,e,f,n,b,o,p⟩ ve vf)] w (TextIs (lineB ⟨(4 : Nat),r,l,e,f,n,b,o,p⟩) w):=by
 have HE:=Lib.hid (fun (W : World) (h : Below w.heap.size w W) => shown_any e ve W (he.below h) hn1 hz1 (ht.below h))
 have HF:=Lib.hid (fun (W : World) (h : Below w.heap.size w W) => shown_any f vf W (hf.below h) hn2 hz2 (ht.below h))
 obtain ⟨y,hy⟩ : ∃ y : ByteArray,y = ⟨(textOf e).toArray⟩:=⟨_,rfl⟩
 have hyl : y.data.toList = textOf e:=by rw [hy]
 have hys : y.size ≤ 8000:=by rw [Lib.size_eq,hyl]; exact textOf_len
 obtain ⟨z,hz⟩ : ∃ z : ByteArray,z = ⟨(textOf f).toArray⟩:=⟨_,rfl⟩
 have hzl : z.data.toList = textOf f:=by rw [hz]
 have hzs : z.size ≤ 8000:=by rw [Lib.size_eq,hzl]; exact textOf_len
 have HYL:=Lib.hid hyl
 have HZL:=Lib.hid hzl
 unfold TextIs at HE HF
 rw [← hy] at HE
 rw [← hz] at HF
 obtain ⟨a1,p1,rfl,_⟩:=he
 obtain ⟨a2,p2,rfl,_⟩:=hf
 have hB : BlkS (w.alloc (.cells #[.int .i64 (4 : Int),.string r,.string l,.slice a1 e.length p1,.slice a2 f.length p2,.bool n,.int .i64 b,.int .i64 o,.int .i64 p] 42)) w.heap.size ⟨(4 : Int),r,l,e,f,n,b,o,p⟩ (.slice a1 e.length p1) (.slice a2 f.length p2):=heap_alloc_new w _
 have hbw : Below w.heap.size w (w.alloc (.cells #[.int .i64 (4 : Int),.string r,.string l,.slice a1 e.length p1,.slice a2 f.length p2,.bool n,.int .i64 b,.int .i64 o,.int .i64 p] 42)):=(Below.refl _ _).alloc (Nat.le_refl _) _
 have hlt:=hB.lt
 obtain ⟨⟨b0,b1,b2,b3,b4,b5,b6,b7,b8⟩,_⟩:=hB.facts
 simp only [] at b0 b1 b2 b3 b4 b5
 have HBW:=Lib.hid hbw
 have HK : Hid (∀ W,Below (w.alloc (.cells #[.int .i64 (4 : Int),.string r,.string l,.slice a1 e.length p1,.slice a2 f.length p2,.bool n,.int .i64 b,.int .i64 o,.int .i64 p] 42)).heap.size (w.alloc (.cells #[.int .i64 (4 : Int),.string r,.string l,.slice a1 e.length p1,.slice a2 f.length p2,.bool n,.int .i64 b,.int .i64 o,.int .i64 p] 42)) W → W.cell? ⟨w.heap.size,0,none⟩ = some (.int .i64 (4 : Int)) ∧ W.cell? ⟨w.heap.size,1,none⟩ = some (.string r) ∧ W.cell? ⟨w.heap.size,2,none⟩ = some (.string l) ∧ W.cell? ⟨w.heap.size,4,none⟩ = some (.slice a2 f.length p2) ∧ W.cell? ⟨w.heap.size,5,none⟩ = some (.bool n)):=
  fun W hW => ⟨(hW.cell (p:=⟨_,_,none⟩) hlt).trans b0,(hW.cell (p:=⟨_,_,none⟩) hlt).trans b1,(hW.cell (p:=⟨_,_,none⟩) hlt).trans b2,(hW.cell (p:=⟨_,_,none⟩) hlt).trans b4,(hW.cell (p:=⟨_,_,none⟩) hlt).trans b5⟩
 clear hB hbw b0 b1 b2 b4 b5 b6 b7 b8 hn1 hn2 hz1 hz2 ht hy hz hyl hzl hlt b3
 unfold St.cells
 simp only []
 go_enter Tryz.func158,Tryz.ntmps158
 go_wp2_with fail
 refine (HE.out _ HBW.out).mono ?_
 rintro e1 w2 ⟨rfl,hb2⟩
 obtain ⟨c0,c1,c2,c4,c5⟩:=HK.out w2 hb2
 have HB2:=Lib.hid (HBW.out.trans (hb2.mono HBW.out.size))
 have HB22:=Lib.hid hb2
 clear hb2
 go_wp2
 go_ret
 exact ⟨ret_str (ba_eq (by simp [lineB,fieldB,formL,kwds,nestK,← HYL.out])),HB2.out⟩
theorem line6 (r l : ByteArray) (e f : List Nd) (n : Bool) (b o p : Int) (ve vf : Value) (w : World) (he : NdsC w ve e) (hf : NdsC w vf f) (hn1 : e.length ≤ 100000) (hn2 : f.length ≤ 100000) (hz1 : NmOK e) (hz2 : NmOK f) (hs1 : r.size ≤ 100) (hs2 : l.size ≤ 100) (ht : Tabs w) :
  Calls Tryz.prog 158 #[.agg (St.cells ⟨(6 : Nat),r,l,e,f,n,b,o,p⟩ ve vf)] w (TextIs (lineB ⟨(6 : Nat),r,l,e,f,n,b,o,p⟩) w):=by
 have HE:=Lib.hid (fun (W : World) (h : Below w.heap.size w W) => shown_any e ve W (he.below h) hn1 hz1 (ht.below h))
 have HF:=Lib.hid (fun (W : World) (h : Below w.heap.size w W) => shown_any f vf W (hf.below h) hn2 hz2 (ht.below h))
 obtain ⟨y,hy⟩ : ∃ y : ByteArray,y = ⟨(textOf e).toArray⟩:=⟨_,rfl⟩
 have hyl : y.data.toList = textOf e:=by rw [hy]
 have hys : y.size ≤ 8000:=by rw [Lib.size_eq,hyl]; exact textOf_len
 obtain ⟨z,hz⟩ : ∃ z : ByteArray,z = ⟨(textOf f).toArray⟩:=⟨_,rfl⟩
 have hzl : z.data.toList = textOf f:=by rw [hz]
 have hzs : z.size ≤ 8000:=by rw [Lib.size_eq,hzl]; exact textOf_len
 have HYL:=Lib.hid hyl
 have HZL:=Lib.hid hzl
 unfold TextIs at HE HF
 rw [← hy] at HE
 rw [← hz] at HF
 obtain ⟨a1,p1,rfl,_⟩:=he
 obtain ⟨a2,p2,rfl,_⟩:=hf
 have hB : BlkS (w.alloc (.cells #[.int .i64 (6 : Int),.string r,.string l,.slice a1 e.length p1,.slice a2 f.length p2,.bool n,.int .i64 b,.int .i64 o,.int .i64 p] 42)) w.heap.size ⟨(6 : Int),r,l,e,f,n,b,o,p⟩ (.slice a1 e.length p1) (.slice a2 f.length p2):=heap_alloc_new w _
 have hbw : Below w.heap.size w (w.alloc (.cells #[.int .i64 (6 : Int),.string r,.string l,.slice a1 e.length p1,.slice a2 f.length p2,.bool n,.int .i64 b,.int .i64 o,.int .i64 p] 42)):=(Below.refl _ _).alloc (Nat.le_refl _) _
 have hlt:=hB.lt
 obtain ⟨⟨b0,b1,b2,b3,b4,b5,b6,b7,b8⟩,_⟩:=hB.facts
 simp only [] at b0 b1 b2 b3 b4 b5
 have HBW:=Lib.hid hbw
 have HK : Hid (∀ W,Below (w.alloc (.cells #[.int .i64 (6 : Int),.string r,.string l,.slice a1 e.length p1,.slice a2 f.length p2,.bool n,.int .i64 b,.int .i64 o,.int .i64 p] 42)).heap.size (w.alloc (.cells #[.int .i64 (6 : Int),.string r,.string l,.slice a1 e.length p1,.slice a2 f.length p2,.bool n,.int .i64 b,.int .i64 o,.int .i64 p] 42)) W → W.cell? ⟨w.heap.size,0,none⟩ = some (.int .i64 (6 : Int)) ∧ W.cell? ⟨w.heap.size,1,none⟩ = some (.string r) ∧ W.cell? ⟨w.heap.size,2,none⟩ = some (.string l) ∧ W.cell? ⟨w.heap.size,4,none⟩ = some (.slice a2 f.length p2) ∧ W.cell? ⟨w.heap.size,5,none⟩ = some (.bool n)):=
  fun W hW => ⟨(hW.cell (p:=⟨_,_,none⟩) hlt).trans b0,(hW.cell (p:=⟨_,_,none⟩) hlt).trans b1,(hW.cell (p:=⟨_,_,none⟩) hlt).trans b2,(hW.cell (p:=⟨_,_,none⟩) hlt).trans b4,(hW.cell (p:=⟨_,_,none⟩) hlt).trans b5⟩
 clear hB hbw b0 b1 b2 b4 b5 b6 b7 b8 hn1 hn2 hz1 hz2 ht hy hz hyl hzl hlt b3
 unfold St.cells
 simp only []
 go_enter Tryz.func158,Tryz.ntmps158
 go_wp2_with fail
 refine (HE.out _ HBW.out).mono ?_
 rintro e1 w2 ⟨rfl,hb2⟩
 obtain ⟨c0,c1,c2,c4,c5⟩:=HK.out w2 hb2
 have HB2:=Lib.hid (HBW.out.trans (hb2.mono HBW.out.size))
 have HB22:=Lib.hid hb2
 clear hb2
 go_wp2
 go_ret
 exact ⟨ret_str (ba_eq (by simp [lineB,fieldB,formL,kwds,nestK,← HYL.out])),HB2.out⟩
theorem line7 (r l : ByteArray) (e f : List Nd) (n : Bool) (b o p : Int) (ve vf : Value) (w : World) (he : NdsC w ve e) (hf : NdsC w vf f) (hn1 : e.length ≤ 100000) (hn2 : f.length ≤ 100000) (hz1 : NmOK e) (hz2 : NmOK f) (hs1 : r.size ≤ 100) (hs2 : l.size ≤ 100) (ht : Tabs w) :
  Calls Tryz.prog 158 #[.agg (St.cells ⟨(7 : Nat),r,l,e,f,n,b,o,p⟩ ve vf)] w (TextIs (lineB ⟨(7 : Nat),r,l,e,f,n,b,o,p⟩) w):=by
 have HE:=Lib.hid (fun (W : World) (h : Below w.heap.size w W) => shown_any e ve W (he.below h) hn1 hz1 (ht.below h))
 have HF:=Lib.hid (fun (W : World) (h : Below w.heap.size w W) => shown_any f vf W (hf.below h) hn2 hz2 (ht.below h))
 obtain ⟨y,hy⟩ : ∃ y : ByteArray,y = ⟨(textOf e).toArray⟩:=⟨_,rfl⟩
 have hyl : y.data.toList = textOf e:=by rw [hy]
 have hys : y.size ≤ 8000:=by rw [Lib.size_eq,hyl]; exact textOf_len
 obtain ⟨z,hz⟩ : ∃ z : ByteArray,z = ⟨(textOf f).toArray⟩:=⟨_,rfl⟩
 have hzl : z.data.toList = textOf f:=by rw [hz]
 have hzs : z.size ≤ 8000:=by rw [Lib.size_eq,hzl]; exact textOf_len
 have HYL:=Lib.hid hyl
 have HZL:=Lib.hid hzl
 unfold TextIs at HE HF
 rw [← hy] at HE
 rw [← hz] at HF
 obtain ⟨a1,p1,rfl,_⟩:=he
 obtain ⟨a2,p2,rfl,_⟩:=hf
 have hB : BlkS (w.alloc (.cells #[.int .i64 (7 : Int),.string r,.string l,.slice a1 e.length p1,.slice a2 f.length p2,.bool n,.int .i64 b,.int .i64 o,.int .i64 p] 42)) w.heap.size ⟨(7 : Int),r,l,e,f,n,b,o,p⟩ (.slice a1 e.length p1) (.slice a2 f.length p2):=heap_alloc_new w _
 have hbw : Below w.heap.size w (w.alloc (.cells #[.int .i64 (7 : Int),.string r,.string l,.slice a1 e.length p1,.slice a2 f.length p2,.bool n,.int .i64 b,.int .i64 o,.int .i64 p] 42)):=(Below.refl _ _).alloc (Nat.le_refl _) _
 have hlt:=hB.lt
 obtain ⟨⟨b0,b1,b2,b3,b4,b5,b6,b7,b8⟩,_⟩:=hB.facts
 simp only [] at b0 b1 b2 b3 b4 b5
 have HBW:=Lib.hid hbw
 have HK : Hid (∀ W,Below (w.alloc (.cells #[.int .i64 (7 : Int),.string r,.string l,.slice a1 e.length p1,.slice a2 f.length p2,.bool n,.int .i64 b,.int .i64 o,.int .i64 p] 42)).heap.size (w.alloc (.cells #[.int .i64 (7 : Int),.string r,.string l,.slice a1 e.length p1,.slice a2 f.length p2,.bool n,.int .i64 b,.int .i64 o,.int .i64 p] 42)) W → W.cell? ⟨w.heap.size,0,none⟩ = some (.int .i64 (7 : Int)) ∧ W.cell? ⟨w.heap.size,1,none⟩ = some (.string r) ∧ W.cell? ⟨w.heap.size,2,none⟩ = some (.string l) ∧ W.cell? ⟨w.heap.size,4,none⟩ = some (.slice a2 f.length p2) ∧ W.cell? ⟨w.heap.size,5,none⟩ = some (.bool n)):=
  fun W hW => ⟨(hW.cell (p:=⟨_,_,none⟩) hlt).trans b0,(hW.cell (p:=⟨_,_,none⟩) hlt).trans b1,(hW.cell (p:=⟨_,_,none⟩) hlt).trans b2,(hW.cell (p:=⟨_,_,none⟩) hlt).trans b4,(hW.cell (p:=⟨_,_,none⟩) hlt).trans b5⟩
 clear hB hbw b0 b1 b2 b4 b5 b6 b7 b8 hn1 hn2 hz1 hz2 ht hy hz hyl hzl hlt b3
 unfold St.cells
 simp only []
 go_enter Tryz.func158,Tryz.ntmps158
 go_wp2_with fail
 refine (HE.out _ HBW.out).mono ?_
 rintro e1 w2 ⟨rfl,hb2⟩
 obtain ⟨c0,c1,c2,c4,c5⟩:=HK.out w2 hb2
 have HB2:=Lib.hid (HBW.out.trans (hb2.mono HBW.out.size))
 have HB22:=Lib.hid hb2
 clear hb2
 go_wp2
 go_ret
 exact ⟨ret_str (ba_eq (by simp [lineB,fieldB,formL,kwds,nestK,← HYL.out])),HB2.out⟩
theorem line8 (r l : ByteArray) (e f : List Nd) (n : Bool) (b o p : Int) (ve vf : Value) (w : World) (he : NdsC w ve e) (hf : NdsC w vf f) (hn1 : e.length ≤ 100000) (hn2 : f.length ≤ 100000) (hz1 : NmOK e) (hz2 : NmOK f) (_hs1 : r.size ≤ 100) (_hs2 : l.size ≤ 100) (ht : Tabs w) :
  Calls Tryz.prog 158 #[.agg (St.cells ⟨(8 : Nat),r,l,e,f,n,b,o,p⟩ ve vf)] w (TextIs (lineB ⟨(8 : Nat),r,l,e,f,n,b,o,p⟩) w):=by
 have HE:=Lib.hid (fun (W : World) (h : Below w.heap.size w W) => shown_any e ve W (he.below h) hn1 hz1 (ht.below h))
 have HF:=Lib.hid (fun (W : World) (h : Below w.heap.size w W) => shown_any f vf W (hf.below h) hn2 hz2 (ht.below h))
 obtain ⟨y,hy⟩ : ∃ y : ByteArray,y = ⟨(textOf e).toArray⟩:=⟨_,rfl⟩
 have hyl : y.data.toList = textOf e:=by rw [hy]
 have hys : y.size ≤ 8000:=by rw [Lib.size_eq,hyl]; exact textOf_len
 obtain ⟨z,hz⟩ : ∃ z : ByteArray,z = ⟨(textOf f).toArray⟩:=⟨_,rfl⟩
 have hzl : z.data.toList = textOf f:=by rw [hz]
 have hzs : z.size ≤ 8000:=by rw [Lib.size_eq,hzl]; exact textOf_len
 have HYL:=Lib.hid hyl
 have HZL:=Lib.hid hzl
 unfold TextIs at HE HF
 rw [← hy] at HE
 rw [← hz] at HF
 obtain ⟨a1,p1,rfl,_⟩:=he
 obtain ⟨a2,p2,rfl,_⟩:=hf
 have hB : BlkS (w.alloc (.cells #[.int .i64 (8 : Int),.string r,.string l,.slice a1 e.length p1,.slice a2 f.length p2,.bool n,.int .i64 b,.int .i64 o,.int .i64 p] 42)) w.heap.size ⟨(8 : Int),r,l,e,f,n,b,o,p⟩ (.slice a1 e.length p1) (.slice a2 f.length p2):=heap_alloc_new w _
 have hbw : Below w.heap.size w (w.alloc (.cells #[.int .i64 (8 : Int),.string r,.string l,.slice a1 e.length p1,.slice a2 f.length p2,.bool n,.int .i64 b,.int .i64 o,.int .i64 p] 42)):=(Below.refl _ _).alloc (Nat.le_refl _) _
 have hlt:=hB.lt
 obtain ⟨⟨b0,b1,b2,b3,b4,b5,b6,b7,b8⟩,_⟩:=hB.facts
 simp only [] at b0 b1 b2 b3 b4 b5
 have HBW:=Lib.hid hbw
 have HK : Hid (∀ W,Below (w.alloc (.cells #[.int .i64 (8 : Int),.string r,.string l,.slice a1 e.length p1,.slice a2 f.length p2,.bool n,.int .i64 b,.int .i64 o,.int .i64 p] 42)).heap.size (w.alloc (.cells #[.int .i64 (8 : Int),.string r,.string l,.slice a1 e.length p1,.slice a2 f.length p2,.bool n,.int .i64 b,.int .i64 o,.int .i64 p] 42)) W → W.cell? ⟨w.heap.size,0,none⟩ = some (.int .i64 (8 : Int)) ∧ W.cell? ⟨w.heap.size,1,none⟩ = some (.string r) ∧ W.cell? ⟨w.heap.size,2,none⟩ = some (.string l) ∧ W.cell? ⟨w.heap.size,4,none⟩ = some (.slice a2 f.length p2) ∧ W.cell? ⟨w.heap.size,5,none⟩ = some (.bool n)):=
  fun W hW => ⟨(hW.cell (p:=⟨_,_,none⟩) hlt).trans b0,(hW.cell (p:=⟨_,_,none⟩) hlt).trans b1,(hW.cell (p:=⟨_,_,none⟩) hlt).trans b2,(hW.cell (p:=⟨_,_,none⟩) hlt).trans b4,(hW.cell (p:=⟨_,_,none⟩) hlt).trans b5⟩
 clear hB hbw b0 b1 b2 b4 b5 b6 b7 b8 hn1 hn2 hz1 hz2 ht hy hz hyl hzl hlt b3
 unfold St.cells
 simp only []
 go_enter Tryz.func158,Tryz.ntmps158
 go_wp2_with fail
 refine (HE.out _ HBW.out).mono ?_
 rintro e1 w2 ⟨rfl,hb2⟩
 obtain ⟨c0,c1,c2,c4,c5⟩:=HK.out w2 hb2
 have HB2:=Lib.hid (HBW.out.trans (hb2.mono HBW.out.size))
 have HB22:=Lib.hid hb2
 clear hb2
 go_wp2
 go_ret
 exact ⟨ret_str (ba_eq (by simp [lineB,fieldB,formL,kwds,nestK])),HB2.out⟩
theorem line9 (r l : ByteArray) (e f : List Nd) (n : Bool) (b o p : Int) (ve vf : Value) (w : World) (he : NdsC w ve e) (hf : NdsC w vf f) (hn1 : e.length ≤ 100000) (hn2 : f.length ≤ 100000) (hz1 : NmOK e) (hz2 : NmOK f) (_hs1 : r.size ≤ 100) (hs2 : l.size ≤ 100) (ht : Tabs w) :
  Calls Tryz.prog 158 #[.agg (St.cells ⟨(9 : Nat),r,l,e,f,n,b,o,p⟩ ve vf)] w (TextIs (lineB ⟨(9 : Nat),r,l,e,f,n,b,o,p⟩) w):=by
 have HE:=Lib.hid (fun (W : World) (h : Below w.heap.size w W) => shown_any e ve W (he.below h) hn1 hz1 (ht.below h))
 have HF:=Lib.hid (fun (W : World) (h : Below w.heap.size w W) => shown_any f vf W (hf.below h) hn2 hz2 (ht.below h))
 obtain ⟨y,hy⟩ : ∃ y : ByteArray,y = ⟨(textOf e).toArray⟩:=⟨_,rfl⟩
 have hyl : y.data.toList = textOf e:=by rw [hy]
 have hys : y.size ≤ 8000:=by rw [Lib.size_eq,hyl]; exact textOf_len
 obtain ⟨z,hz⟩ : ∃ z : ByteArray,z = ⟨(textOf f).toArray⟩:=⟨_,rfl⟩
 have hzl : z.data.toList = textOf f:=by rw [hz]
 have hzs : z.size ≤ 8000:=by rw [Lib.size_eq,hzl]; exact textOf_len
 have HYL:=Lib.hid hyl
 have HZL:=Lib.hid hzl
 unfold TextIs at HE HF
 rw [← hy] at HE
 rw [← hz] at HF
 obtain ⟨a1,p1,rfl,_⟩:=he
 obtain ⟨a2,p2,rfl,_⟩:=hf
 have hB : BlkS (w.alloc (.cells #[.int .i64 (9 : Int),.string r,.string l,.slice a1 e.length p1,.slice a2 f.length p2,.bool n,.int .i64 b,.int .i64 o,.int .i64 p] 42)) w.heap.size ⟨(9 : Int),r,l,e,f,n,b,o,p⟩ (.slice a1 e.length p1) (.slice a2 f.length p2):=heap_alloc_new w _
 have hbw : Below w.heap.size w (w.alloc (.cells #[.int .i64 (9 : Int),.string r,.string l,.slice a1 e.length p1,.slice a2 f.length p2,.bool n,.int .i64 b,.int .i64 o,.int .i64 p] 42)):=(Below.refl _ _).alloc (Nat.le_refl _) _
 have hlt:=hB.lt
 obtain ⟨⟨b0,b1,b2,b3,b4,b5,b6,b7,b8⟩,_⟩:=hB.facts
 simp only [] at b0 b1 b2 b3 b4 b5
 have HBW:=Lib.hid hbw
 have HK : Hid (∀ W,Below (w.alloc (.cells #[.int .i64 (9 : Int),.string r,.string l,.slice a1 e.length p1,.slice a2 f.length p2,.bool n,.int .i64 b,.int .i64 o,.int .i64 p] 42)).heap.size (w.alloc (.cells #[.int .i64 (9 : Int),.string r,.string l,.slice a1 e.length p1,.slice a2 f.length p2,.bool n,.int .i64 b,.int .i64 o,.int .i64 p] 42)) W → W.cell? ⟨w.heap.size,0,none⟩ = some (.int .i64 (9 : Int)) ∧ W.cell? ⟨w.heap.size,1,none⟩ = some (.string r) ∧ W.cell? ⟨w.heap.size,2,none⟩ = some (.string l) ∧ W.cell? ⟨w.heap.size,4,none⟩ = some (.slice a2 f.length p2) ∧ W.cell? ⟨w.heap.size,5,none⟩ = some (.bool n)):=
  fun W hW => ⟨(hW.cell (p:=⟨_,_,none⟩) hlt).trans b0,(hW.cell (p:=⟨_,_,none⟩) hlt).trans b1,(hW.cell (p:=⟨_,_,none⟩) hlt).trans b2,(hW.cell (p:=⟨_,_,none⟩) hlt).trans b4,(hW.cell (p:=⟨_,_,none⟩) hlt).trans b5⟩
 clear hB hbw b0 b1 b2 b4 b5 b6 b7 b8 hn1 hn2 hz1 hz2 ht hy hz hyl hzl hlt b3
 unfold St.cells
 simp only []
 go_enter Tryz.func158,Tryz.ntmps158
 go_wp2_with fail
 refine (HE.out _ HBW.out).mono ?_
 rintro e1 w2 ⟨rfl,hb2⟩
 obtain ⟨c0,c1,c2,c4,c5⟩:=HK.out w2 hb2
 have HB2:=Lib.hid (HBW.out.trans (hb2.mono HBW.out.size))
 have HB22:=Lib.hid hb2
 clear hb2
 cases n with
 | true =>
  go_wp2
  go_ret
  exact ⟨ret_str (ba_eq (by simp [lineB,fieldB,formL,kwds,nestK,← HYL.out])),HB2.out⟩
 | false =>
  go_wp2
  go_ret
  exact ⟨ret_str (ba_eq (by simp [lineB,fieldB,formL,kwds,nestK,← HYL.out])),HB2.out⟩
theorem line10 (r l : ByteArray) (e f : List Nd) (n : Bool) (b o p : Int) (ve vf : Value) (w : World) (he : NdsC w ve e) (hf : NdsC w vf f) (hn1 : e.length ≤ 100000) (hn2 : f.length ≤ 100000) (hz1 : NmOK e) (hz2 : NmOK f) (_hs1 : r.size ≤ 100) (_hs2 : l.size ≤ 100) (ht : Tabs w) :
  Calls Tryz.prog 158 #[.agg (St.cells ⟨(10 : Nat),r,l,e,f,n,b,o,p⟩ ve vf)] w (TextIs (lineB ⟨(10 : Nat),r,l,e,f,n,b,o,p⟩) w):=by
 have HE:=Lib.hid (fun (W : World) (h : Below w.heap.size w W) => shown_any e ve W (he.below h) hn1 hz1 (ht.below h))
 have HF:=Lib.hid (fun (W : World) (h : Below w.heap.size w W) => shown_any f vf W (hf.below h) hn2 hz2 (ht.below h))
 obtain ⟨y,hy⟩ : ∃ y : ByteArray,y = ⟨(textOf e).toArray⟩:=⟨_,rfl⟩
 have hyl : y.data.toList = textOf e:=by rw [hy]
 have hys : y.size ≤ 8000:=by rw [Lib.size_eq,hyl]; exact textOf_len
 obtain ⟨z,hz⟩ : ∃ z : ByteArray,z = ⟨(textOf f).toArray⟩:=⟨_,rfl⟩
 have hzl : z.data.toList = textOf f:=by rw [hz]
 have hzs : z.size ≤ 8000:=by rw [Lib.size_eq,hzl]; exact textOf_len
 have HYL:=Lib.hid hyl
 have HZL:=Lib.hid hzl
 unfold TextIs at HE HF
 rw [← hy] at HE
 rw [← hz] at HF
 obtain ⟨a1,p1,rfl,_⟩:=he
 obtain ⟨a2,p2,rfl,_⟩:=hf
 have hB : BlkS (w.alloc (.cells #[.int .i64 (10 : Int),.string r,.string l,.slice a1 e.length p1,.slice a2 f.length p2,.bool n,.int .i64 b,.int .i64 o,.int .i64 p] 42)) w.heap.size ⟨(10 : Int),r,l,e,f,n,b,o,p⟩ (.slice a1 e.length p1) (.slice a2 f.length p2):=heap_alloc_new w _
 have hbw : Below w.heap.size w (w.alloc (.cells #[.int .i64 (10 : Int),.string r,.string l,.slice a1 e.length p1,.slice a2 f.length p2,.bool n,.int .i64 b,.int .i64 o,.int .i64 p] 42)):=(Below.refl _ _).alloc (Nat.le_refl _) _
 have hlt:=hB.lt
 obtain ⟨⟨b0,b1,b2,b3,b4,b5,b6,b7,b8⟩,_⟩:=hB.facts
 simp only [] at b0 b1 b2 b3 b4 b5
 have HBW:=Lib.hid hbw
 have HK : Hid (∀ W,Below (w.alloc (.cells #[.int .i64 (10 : Int),.string r,.string l,.slice a1 e.length p1,.slice a2 f.length p2,.bool n,.int .i64 b,.int .i64 o,.int .i64 p] 42)).heap.size (w.alloc (.cells #[.int .i64 (10 : Int),.string r,.string l,.slice a1 e.length p1,.slice a2 f.length p2,.bool n,.int .i64 b,.int .i64 o,.int .i64 p] 42)) W → W.cell? ⟨w.heap.size,0,none⟩ = some (.int .i64 (10 : Int)) ∧ W.cell? ⟨w.heap.size,1,none⟩ = some (.string r) ∧ W.cell? ⟨w.heap.size,2,none⟩ = some (.string l) ∧ W.cell? ⟨w.heap.size,4,none⟩ = some (.slice a2 f.length p2) ∧ W.cell? ⟨w.heap.size,5,none⟩ = some (.bool n)):=
  fun W hW => ⟨(hW.cell (p:=⟨_,_,none⟩) hlt).trans b0,(hW.cell (p:=⟨_,_,none⟩) hlt).trans b1,(hW.cell (p:=⟨_,_,none⟩) hlt).trans b2,(hW.cell (p:=⟨_,_,none⟩) hlt).trans b4,(hW.cell (p:=⟨_,_,none⟩) hlt).trans b5⟩
 clear hB hbw b0 b1 b2 b4 b5 b6 b7 b8 hn1 hn2 hz1 hz2 ht hy hz hyl hzl hlt b3
 unfold St.cells
 simp only []
 go_enter Tryz.func158,Tryz.ntmps158
 go_wp2_with fail
 refine (HE.out _ HBW.out).mono ?_
 rintro e1 w2 ⟨rfl,hb2⟩
 obtain ⟨c0,c1,c2,c4,c5⟩:=HK.out w2 hb2
 have HB2:=Lib.hid (HBW.out.trans (hb2.mono HBW.out.size))
 have HB22:=Lib.hid hb2
 clear hb2
 go_wp2
 go_ret
 exact ⟨ret_str (ba_eq (by simp [lineB,fieldB,formL,kwds,nestK,← HYL.out])),HB2.out⟩
theorem line11 (r l : ByteArray) (e f : List Nd) (n : Bool) (b o p : Int) (ve vf : Value) (w : World) (he : NdsC w ve e) (hf : NdsC w vf f) (hn1 : e.length ≤ 100000) (hn2 : f.length ≤ 100000) (hz1 : NmOK e) (hz2 : NmOK f) (_hs1 : r.size ≤ 100) (_hs2 : l.size ≤ 100) (ht : Tabs w) :
  Calls Tryz.prog 158 #[.agg (St.cells ⟨(11 : Nat),r,l,e,f,n,b,o,p⟩ ve vf)] w (TextIs (lineB ⟨(11 : Nat),r,l,e,f,n,b,o,p⟩) w):=by
 have HE:=Lib.hid (fun (W : World) (h : Below w.heap.size w W) => shown_any e ve W (he.below h) hn1 hz1 (ht.below h))
 have HF:=Lib.hid (fun (W : World) (h : Below w.heap.size w W) => shown_any f vf W (hf.below h) hn2 hz2 (ht.below h))
 obtain ⟨y,hy⟩ : ∃ y : ByteArray,y = ⟨(textOf e).toArray⟩:=⟨_,rfl⟩
 have hyl : y.data.toList = textOf e:=by rw [hy]
 have hys : y.size ≤ 8000:=by rw [Lib.size_eq,hyl]; exact textOf_len
 obtain ⟨z,hz⟩ : ∃ z : ByteArray,z = ⟨(textOf f).toArray⟩:=⟨_,rfl⟩
 have hzl : z.data.toList = textOf f:=by rw [hz]
 have hzs : z.size ≤ 8000:=by rw [Lib.size_eq,hzl]; exact textOf_len
 have HYL:=Lib.hid hyl
 have HZL:=Lib.hid hzl
 unfold TextIs at HE HF
 rw [← hy] at HE
 rw [← hz] at HF
 obtain ⟨a1,p1,rfl,_⟩:=he
 obtain ⟨a2,p2,rfl,_⟩:=hf
 have hB : BlkS (w.alloc (.cells #[.int .i64 (11 : Int),.string r,.string l,.slice a1 e.length p1,.slice a2 f.length p2,.bool n,.int .i64 b,.int .i64 o,.int .i64 p] 42)) w.heap.size ⟨(11 : Int),r,l,e,f,n,b,o,p⟩ (.slice a1 e.length p1) (.slice a2 f.length p2):=heap_alloc_new w _
 have hbw : Below w.heap.size w (w.alloc (.cells #[.int .i64 (11 : Int),.string r,.string l,.slice a1 e.length p1,.slice a2 f.length p2,.bool n,.int .i64 b,.int .i64 o,.int .i64 p] 42)):=(Below.refl _ _).alloc (Nat.le_refl _) _
 have hlt:=hB.lt
 obtain ⟨⟨b0,b1,b2,b3,b4,b5,b6,b7,b8⟩,_⟩:=hB.facts
 simp only [] at b0 b1 b2 b3 b4 b5
 have HBW:=Lib.hid hbw
 have HK : Hid (∀ W,Below (w.alloc (.cells #[.int .i64 (11 : Int),.string r,.string l,.slice a1 e.length p1,.slice a2 f.length p2,.bool n,.int .i64 b,.int .i64 o,.int .i64 p] 42)).heap.size (w.alloc (.cells #[.int .i64 (11 : Int),.string r,.string l,.slice a1 e.length p1,.slice a2 f.length p2,.bool n,.int .i64 b,.int .i64 o,.int .i64 p] 42)) W → W.cell? ⟨w.heap.size,0,none⟩ = some (.int .i64 (11 : Int)) ∧ W.cell? ⟨w.heap.size,1,none⟩ = some (.string r) ∧ W.cell? ⟨w.heap.size,2,none⟩ = some (.string l) ∧ W.cell? ⟨w.heap.size,4,none⟩ = some (.slice a2 f.length p2) ∧ W.cell? ⟨w.heap.size,5,none⟩ = some (.bool n)):=
  fun W hW => ⟨(hW.cell (p:=⟨_,_,none⟩) hlt).trans b0,(hW.cell (p:=⟨_,_,none⟩) hlt).trans b1,(hW.cell (p:=⟨_,_,none⟩) hlt).trans b2,(hW.cell (p:=⟨_,_,none⟩) hlt).trans b4,(hW.cell (p:=⟨_,_,none⟩) hlt).trans b5⟩
 clear hB hbw b0 b1 b2 b4 b5 b6 b7 b8 hn1 hn2 hz1 hz2 ht hy hz hyl hzl hlt b3
 unfold St.cells
 simp only []
 go_enter Tryz.func158,Tryz.ntmps158
 go_wp2_with fail
 refine (HE.out _ HBW.out).mono ?_
 rintro e1 w2 ⟨rfl,hb2⟩
 obtain ⟨c0,c1,c2,c4,c5⟩:=HK.out w2 hb2
 have HB2:=Lib.hid (HBW.out.trans (hb2.mono HBW.out.size))
 have HB22:=Lib.hid hb2
 clear hb2
 go_wp2
 go_ret
 exact ⟨ret_str (ba_eq (by simp [lineB,fieldB,formL,kwds,nestK,← HYL.out])),HB2.out⟩
theorem line12 (r l : ByteArray) (e f : List Nd) (n : Bool) (b o p : Int) (ve vf : Value) (w : World) (he : NdsC w ve e) (hf : NdsC w vf f) (hn1 : e.length ≤ 100000) (hn2 : f.length ≤ 100000) (hz1 : NmOK e) (hz2 : NmOK f) (_hs1 : r.size ≤ 100) (_hs2 : l.size ≤ 100) (ht : Tabs w) :
  Calls Tryz.prog 158 #[.agg (St.cells ⟨(12 : Nat),r,l,e,f,n,b,o,p⟩ ve vf)] w (TextIs (lineB ⟨(12 : Nat),r,l,e,f,n,b,o,p⟩) w):=by
 have HE:=Lib.hid (fun (W : World) (h : Below w.heap.size w W) => shown_any e ve W (he.below h) hn1 hz1 (ht.below h))
 have HF:=Lib.hid (fun (W : World) (h : Below w.heap.size w W) => shown_any f vf W (hf.below h) hn2 hz2 (ht.below h))
 obtain ⟨y,hy⟩ : ∃ y : ByteArray,y = ⟨(textOf e).toArray⟩:=⟨_,rfl⟩
 have hyl : y.data.toList = textOf e:=by rw [hy]
 have hys : y.size ≤ 8000:=by rw [Lib.size_eq,hyl]; exact textOf_len
 obtain ⟨z,hz⟩ : ∃ z : ByteArray,z = ⟨(textOf f).toArray⟩:=⟨_,rfl⟩
 have hzl : z.data.toList = textOf f:=by rw [hz]
 have hzs : z.size ≤ 8000:=by rw [Lib.size_eq,hzl]; exact textOf_len
 have HYL:=Lib.hid hyl
 have HZL:=Lib.hid hzl
 unfold TextIs at HE HF
 rw [← hy] at HE
 rw [← hz] at HF
 obtain ⟨a1,p1,rfl,_⟩:=he
 obtain ⟨a2,p2,rfl,_⟩:=hf
 have hB : BlkS (w.alloc (.cells #[.int .i64 (12 : Int),.string r,.string l,.slice a1 e.length p1,.slice a2 f.length p2,.bool n,.int .i64 b,.int .i64 o,.int .i64 p] 42)) w.heap.size ⟨(12 : Int),r,l,e,f,n,b,o,p⟩ (.slice a1 e.length p1) (.slice a2 f.length p2):=heap_alloc_new w _
 have hbw : Below w.heap.size w (w.alloc (.cells #[.int .i64 (12 : Int),.string r,.string l,.slice a1 e.length p1,.slice a2 f.length p2,.bool n,.int .i64 b,.int .i64 o,.int .i64 p] 42)):=(Below.refl _ _).alloc (Nat.le_refl _) _
 have hlt:=hB.lt
 obtain ⟨⟨b0,b1,b2,b3,b4,b5,b6,b7,b8⟩,_⟩:=hB.facts
 simp only [] at b0 b1 b2 b3 b4 b5
 have HBW:=Lib.hid hbw
 have HK : Hid (∀ W,Below (w.alloc (.cells #[.int .i64 (12 : Int),.string r,.string l,.slice a1 e.length p1,.slice a2 f.length p2,.bool n,.int .i64 b,.int .i64 o,.int .i64 p] 42)).heap.size (w.alloc (.cells #[.int .i64 (12 : Int),.string r,.string l,.slice a1 e.length p1,.slice a2 f.length p2,.bool n,.int .i64 b,.int .i64 o,.int .i64 p] 42)) W → W.cell? ⟨w.heap.size,0,none⟩ = some (.int .i64 (12 : Int)) ∧ W.cell? ⟨w.heap.size,1,none⟩ = some (.string r) ∧ W.cell? ⟨w.heap.size,2,none⟩ = some (.string l) ∧ W.cell? ⟨w.heap.size,4,none⟩ = some (.slice a2 f.length p2) ∧ W.cell? ⟨w.heap.size,5,none⟩ = some (.bool n)):=
  fun W hW => ⟨(hW.cell (p:=⟨_,_,none⟩) hlt).trans b0,(hW.cell (p:=⟨_,_,none⟩) hlt).trans b1,(hW.cell (p:=⟨_,_,none⟩) hlt).trans b2,(hW.cell (p:=⟨_,_,none⟩) hlt).trans b4,(hW.cell (p:=⟨_,_,none⟩) hlt).trans b5⟩
 clear hB hbw b0 b1 b2 b4 b5 b6 b7 b8 hn1 hn2 hz1 hz2 ht hy hz hyl hzl hlt b3
 unfold St.cells
 simp only []
 go_enter Tryz.func158,Tryz.ntmps158
 go_wp2_with fail
 refine (HE.out _ HBW.out).mono ?_
 rintro e1 w2 ⟨rfl,hb2⟩
 obtain ⟨c0,c1,c2,c4,c5⟩:=HK.out w2 hb2
 have HB2:=Lib.hid (HBW.out.trans (hb2.mono HBW.out.size))
 have HB22:=Lib.hid hb2
 clear hb2
 go_wp2
 go_ret
 exact ⟨ret_str (ba_eq (by simp [lineB,fieldB,formL,kwds,nestK])),HB2.out⟩
theorem line13 (r l : ByteArray) (e f : List Nd) (n : Bool) (b o p : Int) (ve vf : Value) (w : World) (he : NdsC w ve e) (hf : NdsC w vf f) (hn1 : e.length ≤ 100000) (hn2 : f.length ≤ 100000) (hz1 : NmOK e) (hz2 : NmOK f) (_hs1 : r.size ≤ 100) (_hs2 : l.size ≤ 100) (ht : Tabs w) :
  Calls Tryz.prog 158 #[.agg (St.cells ⟨(13 : Nat),r,l,e,f,n,b,o,p⟩ ve vf)] w (TextIs (lineB ⟨(13 : Nat),r,l,e,f,n,b,o,p⟩) w):=by
 have HE:=Lib.hid (fun (W : World) (h : Below w.heap.size w W) => shown_any e ve W (he.below h) hn1 hz1 (ht.below h))
 have HF:=Lib.hid (fun (W : World) (h : Below w.heap.size w W) => shown_any f vf W (hf.below h) hn2 hz2 (ht.below h))
 obtain ⟨y,hy⟩ : ∃ y : ByteArray,y = ⟨(textOf e).toArray⟩:=⟨_,rfl⟩
 have hyl : y.data.toList = textOf e:=by rw [hy]
 have hys : y.size ≤ 8000:=by rw [Lib.size_eq,hyl]; exact textOf_len
 obtain ⟨z,hz⟩ : ∃ z : ByteArray,z = ⟨(textOf f).toArray⟩:=⟨_,rfl⟩
 have hzl : z.data.toList = textOf f:=by rw [hz]
 have hzs : z.size ≤ 8000:=by rw [Lib.size_eq,hzl]; exact textOf_len
 have HYL:=Lib.hid hyl
 have HZL:=Lib.hid hzl
 unfold TextIs at HE HF
 rw [← hy] at HE
 rw [← hz] at HF
 obtain ⟨a1,p1,rfl,_⟩:=he
 obtain ⟨a2,p2,rfl,_⟩:=hf
 have hB : BlkS (w.alloc (.cells #[.int .i64 (13 : Int),.string r,.string l,.slice a1 e.length p1,.slice a2 f.length p2,.bool n,.int .i64 b,.int .i64 o,.int .i64 p] 42)) w.heap.size ⟨(13 : Int),r,l,e,f,n,b,o,p⟩ (.slice a1 e.length p1) (.slice a2 f.length p2):=heap_alloc_new w _
 have hbw : Below w.heap.size w (w.alloc (.cells #[.int .i64 (13 : Int),.string r,.string l,.slice a1 e.length p1,.slice a2 f.length p2,.bool n,.int .i64 b,.int .i64 o,.int .i64 p] 42)):=(Below.refl _ _).alloc (Nat.le_refl _) _
 have hlt:=hB.lt
 obtain ⟨⟨b0,b1,b2,b3,b4,b5,b6,b7,b8⟩,_⟩:=hB.facts
 simp only [] at b0 b1 b2 b3 b4 b5
 have HBW:=Lib.hid hbw
 have HK : Hid (∀ W,Below (w.alloc (.cells #[.int .i64 (13 : Int),.string r,.string l,.slice a1 e.length p1,.slice a2 f.length p2,.bool n,.int .i64 b,.int .i64 o,.int .i64 p] 42)).heap.size (w.alloc (.cells #[.int .i64 (13 : Int),.string r,.string l,.slice a1 e.length p1,.slice a2 f.length p2,.bool n,.int .i64 b,.int .i64 o,.int .i64 p] 42)) W → W.cell? ⟨w.heap.size,0,none⟩ = some (.int .i64 (13 : Int)) ∧ W.cell? ⟨w.heap.size,1,none⟩ = some (.string r) ∧ W.cell? ⟨w.heap.size,2,none⟩ = some (.string l) ∧ W.cell? ⟨w.heap.size,4,none⟩ = some (.slice a2 f.length p2) ∧ W.cell? ⟨w.heap.size,5,none⟩ = some (.bool n)):=
  fun W hW => ⟨(hW.cell (p:=⟨_,_,none⟩) hlt).trans b0,(hW.cell (p:=⟨_,_,none⟩) hlt).trans b1,(hW.cell (p:=⟨_,_,none⟩) hlt).trans b2,(hW.cell (p:=⟨_,_,none⟩) hlt).trans b4,(hW.cell (p:=⟨_,_,none⟩) hlt).trans b5⟩
 clear hB hbw b0 b1 b2 b4 b5 b6 b7 b8 hn1 hn2 hz1 hz2 ht hy hz hyl hzl hlt b3
 unfold St.cells
 simp only []
 go_enter Tryz.func158,Tryz.ntmps158
 go_wp2_with fail
 refine (HE.out _ HBW.out).mono ?_
 rintro e1 w2 ⟨rfl,hb2⟩
 obtain ⟨c0,c1,c2,c4,c5⟩:=HK.out w2 hb2
 have HB2:=Lib.hid (HBW.out.trans (hb2.mono HBW.out.size))
 have HB22:=Lib.hid hb2
 clear hb2
 go_wp2
 go_ret
 exact ⟨ret_str (ba_eq (by simp [lineB,fieldB,formL,kwds,nestK])),HB2.out⟩
theorem line5 (r l : ByteArray) (e f : List Nd) (n : Bool) (b o p : Int) (ve vf : Value) (w : World) (he : NdsC w ve e) (hf : NdsC w vf f) (hn1 : e.length ≤ 100000) (hn2 : f.length ≤ 100000) (hz1 : NmOK e) (hz2 : NmOK f) (hs1 : r.size ≤ 100) (hs2 : l.size ≤ 100) (ht : Tabs w) :
  Calls Tryz.prog 158 #[.agg (St.cells ⟨(5 : Nat),r,l,e,f,n,b,o,p⟩ ve vf)] w (TextIs (lineB ⟨(5 : Nat),r,l,e,f,n,b,o,p⟩) w):=by
 have HE:=Lib.hid (fun (W : World) (h : Below w.heap.size w W) => shown_any e ve W (he.below h) hn1 hz1 (ht.below h))
 have HF:=Lib.hid (fun (W : World) (h : Below w.heap.size w W) => shown_any f vf W (hf.below h) hn2 hz2 (ht.below h))
 obtain ⟨y,hy⟩ : ∃ y : ByteArray,y = ⟨(textOf e).toArray⟩:=⟨_,rfl⟩
 have hyl : y.data.toList = textOf e:=by rw [hy]
 have hys : y.size ≤ 8000:=by rw [Lib.size_eq,hyl]; exact textOf_len
 obtain ⟨z,hz⟩ : ∃ z : ByteArray,z = ⟨(textOf f).toArray⟩:=⟨_,rfl⟩
 have hzl : z.data.toList = textOf f:=by rw [hz]
 have hzs : z.size ≤ 8000:=by rw [Lib.size_eq,hzl]; exact textOf_len
 have HYL:=Lib.hid hyl
 have HZL:=Lib.hid hzl
 unfold TextIs at HE HF
 rw [← hy] at HE
 rw [← hz] at HF
 obtain ⟨a1,p1,rfl,_⟩:=he
 obtain ⟨a2,p2,rfl,_⟩:=hf
 have hB : BlkS (w.alloc (.cells #[.int .i64 (5 : Int),.string r,.string l,.slice a1 e.length p1,.slice a2 f.length p2,.bool n,.int .i64 b,.int .i64 o,.int .i64 p] 42)) w.heap.size ⟨(5 : Int),r,l,e,f,n,b,o,p⟩ (.slice a1 e.length p1) (.slice a2 f.length p2):=heap_alloc_new w _
 have hbw : Below w.heap.size w (w.alloc (.cells #[.int .i64 (5 : Int),.string r,.string l,.slice a1 e.length p1,.slice a2 f.length p2,.bool n,.int .i64 b,.int .i64 o,.int .i64 p] 42)):=(Below.refl _ _).alloc (Nat.le_refl _) _
 have hlt:=hB.lt
 obtain ⟨⟨b0,b1,b2,b3,b4,b5,b6,b7,b8⟩,_⟩:=hB.facts
 simp only [] at b0 b1 b2 b3 b4 b5
 have HBW:=Lib.hid hbw
 have HK : Hid (∀ W,Below (w.alloc (.cells #[.int .i64 (5 : Int),.string r,.string l,.slice a1 e.length p1,.slice a2 f.length p2,.bool n,.int .i64 b,.int .i64 o,.int .i64 p] 42)).heap.size (w.alloc (.cells #[.int .i64 (5 : Int),.string r,.string l,.slice a1 e.length p1,.slice a2 f.length p2,.bool n,.int .i64 b,.int .i64 o,.int .i64 p] 42)) W → W.cell? ⟨w.heap.size,0,none⟩ = some (.int .i64 (5 : Int)) ∧ W.cell? ⟨w.heap.size,1,none⟩ = some (.string r) ∧ W.cell? ⟨w.heap.size,2,none⟩ = some (.string l) ∧ W.cell? ⟨w.heap.size,4,none⟩ = some (.slice a2 f.length p2) ∧ W.cell? ⟨w.heap.size,5,none⟩ = some (.bool n)):=
  fun W hW => ⟨(hW.cell (p:=⟨_,_,none⟩) hlt).trans b0,(hW.cell (p:=⟨_,_,none⟩) hlt).trans b1,(hW.cell (p:=⟨_,_,none⟩) hlt).trans b2,(hW.cell (p:=⟨_,_,none⟩) hlt).trans b4,(hW.cell (p:=⟨_,_,none⟩) hlt).trans b5⟩
 clear hB hbw b0 b1 b2 b4 b5 b6 b7 b8 hn1 hn2 hz1 hz2 ht hy hz hyl hzl hlt b3
 unfold St.cells
 simp only []
 go_enter Tryz.func158,Tryz.ntmps158
 go_wp2_with fail
 refine (HE.out _ HBW.out).mono ?_
 rintro e1 w2 ⟨rfl,hb2⟩
 obtain ⟨c0,c1,c2,c4,c5⟩:=HK.out w2 hb2
 have HB2:=Lib.hid (HBW.out.trans (hb2.mono HBW.out.size))
 have HB22:=Lib.hid hb2
 clear hb2
 have s0 : ¬ 9223372036854775807 < 4 + r.size:=by omega
 have s1 : ¬ 9223372036854775803 < r.size:=by omega
 have s2 : ¬ 9223372036854775807 < 4 + r.size + 3:=by omega
 have s3 : ¬ 9223372036854775804 < 4 + r.size:=by omega
 have s4 : ¬ 9223372036854775807 < 4 + r.size + 3 + l.size:=by omega
 have s5 : ¬ 9223372036854775807 < 4 + r.size + 3 + l.size + 2:=by omega
 have s6 : ¬ 9223372036854775805 < 4 + r.size + 3 + l.size:=by omega
 have s7 : ¬ 9223372036854775807 < 4 + r.size + 3 + l.size + 2 + y.size:=by omega
 have s8 : ¬ 9223372036854775807 < 4 + r.size + 3 + l.size + 2 + y.size + 2:=by omega
 have s9 : ¬ 9223372036854775805 < 4 + r.size + 3 + l.size + 2 + y.size:=by omega
 have s10 : ¬ 9223372036854775807 < 4 + r.size + 3 + l.size + 2 + y.size + 2 + z.size:=by omega
 have s11 : ¬ 9223372036854775807 < 4 + r.size + 3 + l.size + 2 + y.size + 2 + z.size + 1:=by omega
 have s12 : ¬ 9223372036854775806 < 4 + r.size + 3 + l.size + 2 + y.size + 2 + z.size:=by omega
 have hlt2 : w.heap.size < w2.heap.size:=World.block_lt_of_cell? w2 _ c0
 go_wp2_with fail
 go_region_held3 (fun w' => w'.cell? ⟨w.heap.size,1,none⟩ = some (.string r) ∧ w'.cell? ⟨w.heap.size,2,none⟩ = some (.string l) ∧ w'.cell? ⟨w.heap.size,4,none⟩ = some (.slice a2 f.length p2) ∧ Below w2.heap.size w2 w')
  (first | exact ⟨c1,c2,c4,Below.refl _ _⟩ | exact ⟨c1,c2,c4,(Below.refl _ _).drew⟩ | assumption | (go_split_ands; exact ⟨(hb3.cell (p:=⟨w.heap.size,1,none⟩) hlt2).trans c1,(hb3.cell (p:=⟨w.heap.size,2,none⟩) hlt2).trans c2,(hb3.cell (p:=⟨w.heap.size,4,none⟩) hlt2).trans c4,hb3⟩))
  ((go_split_ands; with_reducible refine Calls.mono (HF.out _ ?_) ?_; (exact HB2.out.trans (Below.mono (by assumption) HB2.out.size)); rintro e3 w3 ⟨rfl,hb2⟩; have hb3 : Below w2.heap.size w2 w3:=Below.trans (by assumption) (hb2.mono (Below.size (by assumption)))))
 go_split_ands
 go_wp2
 go_ret
 exact ⟨ret_str (ba_eq (by simp [lineB,fieldB,formL,kwds,nestK,← HYL.out,← HZL.out])),HB2.out.trans (Below.mono (by assumption) HB2.out.size)⟩
end Go.Proofs.YtcghccjnadagcaaGreatDoor
