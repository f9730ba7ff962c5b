/- Facts. -/
import Derived.Test.YtcghccjnadagcaaGreatDoorPn
import Derived.Test.YtcghccjnadagcaaGreatDoorPx
set_option maxRecDepth 100000
set_option maxHeartbeats 32000000
namespace Go.Proofs.YtcghccjnadagcaaGreatDoor
open Go.RowKit
def showV (x : Vr) : List UInt8:=[108,111,99,32] ++ x.nm.data.toList ++ [32,61,32] ++ dg x.n ++ [59,10]
def regT (rs : List ByteArray) : List UInt8:=if rs.length = 0 then [] else [32,32,114,101,103,32] ++ joinC rs ++ [59,10]
noncomputable def showT (x : Th) : List UInt8:=[116,104,114,101,97,100,32] ++ x.nm.data.toList ++ [32,123,10] ++ regT x.regs ++ textS x.body 1 ++ [125,10]
noncomputable def showC (x : Cl) : List UInt8:=wdsL.getD x.kind.toNat [] ++ [32] ++ textOf x.e ++ [59,10]
noncomputable def textP (g : Pg) : List UInt8:=if rightPB g = true then [109,111,100,32] ++ dg g.mod ++ [59,10] ++ g.locs.flatMap showV ++ g.ths.flatMap showT ++ g.cls.flatMap showC else []
theorem wstr2 {w0 W : World} {b : Nat} {s : List UInt8} (hb : Below w0.heap.size w0 W) (h : Lib.IsBuilder 86 5 w0.heap.size b (Lib.byteCells s) W) (x : ByteArray) (hl : s.length + x.size ≤ 100000000000000) :
  Calls Tryz.prog 53 #[.pointer (some ⟨b,0,none⟩),.string x] W fun e w' => e = .returned (.tuple #[.int .i64 x.size,.nilIface]) ∧ Lib.IsBuilder 86 5 w0.heap.size b (Lib.byteCells (s ++ x.data.toList)) w' ∧ Below w0.heap.size w0 w' ∧ Lib.OthersKept 5 (some b) W w':=by
 have hlen : (Lib.byteCells s).length = s.length:=by simp [Lib.byteCells]
 refine (writeString_any w0.heap.size b (Lib.byteCells s) x W h (by rw [hlen]; omega) hb.size).mono ?_
 rintro e w' ⟨h1,h2,h3,h4⟩
 rw [bcells] at h2
 exact ⟨h1,h2,hb.trans h3,h4⟩
theorem textS_le (l : List St) : (textS l 1).length ≤ 16000000:=by
 by_cases h : rightS l
 ·obtain ⟨h200,t,htf,hok,_⟩:=id h
  rw [textS_tree h t htf]
  have hlen : t.flat.length ≤ 200:=by rw [htf]; exact h200
  have:=text_len t 1 (by rw [htf]; exact hok) (by omega)
  omega
 ·rw [textS_no h]; simp
theorem pjoin_any (xs : List ByteArray) (v : Value) (w : World) (hv : StrsD w v xs) (hn : xs.length ≤ 100000) (h1 : 1 ≤ xs.length) (hs : ∀ s ∈ xs,s.size ≤ 100000) :
  Calls Tryz.prog 55 #[v,.string ⟨#[44,32]⟩] w fun e w' => e = .returned (.string ⟨(joinC xs).toArray⟩) ∧ Below w.heap.size w w':=by
 by_cases h2 : 2 ≤ xs.length
 ·exact join_many xs v w hv hn h2 hs
 ·obtain ⟨x,rfl⟩ : ∃ x,xs = [x]:=by
   cases xs with
   | nil => simp at h1
   | cons a l => cases l with
    | nil => exact ⟨a,rfl⟩
    | cons b l => simp at h2
  refine (join_one x v ⟨#[44,32]⟩ w hv).mono ?_
  rintro e w' ⟨rfl,rfl⟩
  have e : (⟨(joinC [x]).toArray⟩ : ByteArray) = x:=by
   unfold joinC jtl
   simp
  rw [e]
  exact ⟨rfl,Below.refl _ _⟩
theorem bk_others {w w' : World} {b g T : Nat} {cs : Array Value} (h : Bk w g T cs) (ho : Lib.OthersKept 5 (some b) w w') (hne : g ≠ b) (hT : T ≠ 5) : Bk w' g T cs:=
 ho g _ h (by simpa using hne) (fun c fz e => hT (by injection e))
theorem dtT (nm : ByteArray) : ((⟨#[116,104,114,101,97,100,32]⟩ : ByteArray) ++ nm ++ ⟨#[32,123,10]⟩).data.toList = [116,104,114,101,97,100,32] ++ nm.data.toList ++ [32,123,10]:=by simp
theorem szR (j : ByteArray) : ((⟨#[32,32,114,101,103,32]⟩ : ByteArray) ++ j ++ ⟨#[59,10]⟩).size = j.size + 8:=by
 rw [ByteArray.size_append,ByteArray.size_append]
 have e1 : (⟨#[32,32,114,101,103,32]⟩ : ByteArray).size = 6:=rfl
 have e2 : (⟨#[59,10]⟩ : ByteArray).size = 2:=rfl
 omega
theorem dtR (j : ByteArray) : ((⟨#[32,32,114,101,103,32]⟩ : ByteArray) ++ j ++ ⟨#[59,10]⟩).data.toList = [32,32,114,101,103,32] ++ j.data.toList ++ [59,10]:=by simp
theorem szS (j : ByteArray) : (j ++ (⟨#[125,10]⟩ : ByteArray)).size = j.size + 2:=by
 rw [ByteArray.size_append]; rfl
theorem dtS (j : ByteArray) : (j ++ (⟨#[125,10]⟩ : ByteArray)).data.toList = j.data.toList ++ [125,10]:=by simp
theorem szC (a j : ByteArray) : (((a ++ (⟨#[32]⟩ : ByteArray)) ++ j) ++ ⟨#[59,10]⟩).size = a.size + j.size + 3:=by
 rw [ByteArray.size_append,ByteArray.size_append,ByteArray.size_append]
 have e1 : (⟨#[32]⟩ : ByteArray).size = 1:=rfl
 have e2 : (⟨#[59,10]⟩ : ByteArray).size = 2:=rfl
 omega
theorem dtC (a j : ByteArray) : (((a ++ (⟨#[32]⟩ : ByteArray)) ++ j) ++ ⟨#[59,10]⟩).data.toList = a.data.toList ++ [32] ++ j.data.toList ++ [59,10]:=by simp
theorem szL (nm y : ByteArray) : ((((⟨#[108,111,99,32]⟩ : ByteArray) ++ nm) ++ ⟨#[32,61,32]⟩) ++ y ++ ⟨#[59,10]⟩).size = nm.size + y.size + 9:=by
 rw [ByteArray.size_append,ByteArray.size_append,ByteArray.size_append,ByteArray.size_append]
 have e1 : (⟨#[108,111,99,32]⟩ : ByteArray).size = 4:=rfl
 have e2 : (⟨#[32,61,32]⟩ : ByteArray).size = 3:=rfl
 have e3 : (⟨#[59,10]⟩ : ByteArray).size = 2:=rfl
 omega
theorem dtL (nm y : ByteArray) : ((((⟨#[108,111,99,32]⟩ : ByteArray) ++ nm) ++ ⟨#[32,61,32]⟩) ++ y ++ ⟨#[59,10]⟩).data.toList = [108,111,99,32] ++ nm.data.toList ++ [32,61,32] ++ y.data.toList ++ [59,10]:=by simp
theorem joinC_le (xs : List ByteArray) (hn : xs.length ≤ 100000) (hs : ∀ s ∈ xs,s.size ≤ 100000) : (joinC xs).length ≤ 100000 + 100000 * 100002:=by
 cases xs with
 | nil => simp [joinC]
 | cons x xs =>
  have h1:=jtl_le xs fun s h => hs s (List.mem_cons_of_mem _ h)
  have h2:=hs x (List.mem_cons_self ..)
  rw [Lib.size_eq] at h2
  simp only [List.length_cons] at hn
  have h3 : xs.length * 100002 ≤ 100000 * 100002:=Nat.mul_le_mul_right _ (by omega)
  simp only [joinC,List.length_append]
  omega
theorem regT_le (rs : List ByteArray) (hn : rs.length ≤ 100000) (hs : ∀ s ∈ rs,s.size ≤ 100000) : (regT rs).length ≤ 10000400000:=by
 unfold regT
 split
 ·simp
 ·have:=joinC_le rs hn hs
  simp only [List.length_append,List.length_cons,List.length_nil]
  omega
theorem pshow_yes (g : Pg) (x y z : Value) (w : World) (hd : PgD w x y z g) (hz : PmOK g) (hf : Flds w) (ht : Tabs w) (hw : Wds w) (hr : rightPB g = true) (hsm : g.locs.length ≤ 3100 ∧ g.ths.length ≤ 3100 ∧ g.cls.length ≤ 3100) : Calls Tryz.prog 17 #[.agg #[.int .i64 g.mod,x,y,z]] w fun e w' => e = .returned (.string ⟨(textP g).toArray⟩) ∧ Below w.heap.size w w':=by
 unfold textP
 rw [if_pos hr]
 have HR:=Lib.hid (fun (W : World) (h : Below w.heap.size w W) => pright_any g x y z W (hd.below h) hz (hf.below h))
 rw [hr] at HR
 obtain ⟨m,ls,hs,cs⟩:=g
 obtain ⟨dl,⟨ts,rfl,dt⟩,us,rfl,dc⟩:=hd
 obtain ⟨⟨l1,l2⟩,⟨t1,t2⟩,c1,c2⟩:=hz
 unfold rightPB at hr
 simp only [Bool.and_eq_true] at hr dl dt dc l1 l2 t1 t2 c1 c2 hsm ⊢
 obtain ⟨r1,r2,r3,r4⟩:=hr
 have hm9 : 0 ≤ m ∧ m ≤ 9999:=by rw [numB_and] at r1; simpa using r1
 have HLS : Hid (∀ i,(hi : i < ls.length) → ls[i].nm.size ≤ 100000 ∧ 0 ≤ ls[i].n ∧ ls[i].n ≤ 9999):=by
  refine Lib.hid fun i hi => ?_
  have h1:=List.all_eq_true.1 r2 _ (List.getElem_mem hi)
  unfold flV at h1
  rw [numB_and] at h1
  simp at h1
  exact ⟨l2 _ (List.getElem_mem hi),by omega,by omega⟩
 have HCS : Hid (∀ i,(hi : i < us.length) → 1 ≤ us[i].1.kind ∧ us[i].1.kind ≤ 3):=by
  refine Lib.hid fun i hi => ?_
  have h1:=List.all_eq_true.1 r4 _ (List.mem_map_of_mem (List.getElem_mem hi))
  unfold flC kindB at h1
  simp at h1
  exact ⟨by omega,by omega⟩
 have HDL:=Lib.hid (show VrsD w x ls from dl)
 have HDT:=Lib.hid (show ThsD w y ts from dt)
 have HDC:=Lib.hid (show ClsD w z us from dc)
 have HT:=Lib.hid ht
 have HF:=Lib.hid hf
 have HW:=Lib.hid hw
 have HIT:=Lib.hid (fun (n : Int) (W : World) (h : Below w.heap.size w W) (h0 : 0 ≤ n) (h1 : n ≤ 9999) => itoa_any n W h0 h1 (ht.below h))
 obtain ⟨a1,p1,rfl⟩:=dl.shape
 obtain ⟨a2,p2,rfl⟩:=dt.shape
 obtain ⟨a3,p3,rfl⟩:=dc.shape
 obtain ⟨n1,hn1⟩ : ∃ n,n = ls.length:=⟨_,rfl⟩
 obtain ⟨n2,hn2⟩ : ∃ n,n = ts.length:=⟨_,rfl⟩
 obtain ⟨n3,hn3⟩ : ∃ n,n = us.length:=⟨_,rfl⟩
 rw [← hn1] at HR HDL l1 hsm ⊢
 rw [← hn2] at HR HDT ⊢
 rw [← hn3] at HR HDC ⊢
 rw [List.length_map,List.length_map,← hn2,← hn3] at hsm
 have HN1:=Lib.hid hn1
 have HN2:=Lib.hid hn2
 have HN3:=Lib.hid hn3
 have HB:=Lib.hid (Bk.new w 27 #[.int .i64 m,.slice a1 n1 p1,.slice a2 n2 p2,.slice a3 n3 p3])
 obtain ⟨T,hT⟩ : ∃ T : List UInt8,T = [109,111,100,32] ++ dg m ++ [59,10] ++ ls.flatMap showV ++ (ts.map (·.1)).flatMap showT ++ (us.map (·.1)).flatMap showC:=⟨_,rfl⟩
 rw [← hT]
 have HTT:=Lib.hid hT
 have HM:=Lib.hid (dg_len m hm9.2)
 clear dl dt dc ht hf hw l1 l2 t1 c1 r1 r2 r3 r4 hn1 hn2 hn3 hT
 have HT2:=Lib.hid t2
 have HC2:=Lib.hid c2
 clear t2 c2
 go_enter Tryz.func17,Tryz.ntmps17
 go_wp2_with fail
 refine (HR.out _ ((Below.refl _ _).alloc (Nat.le_refl _) _)).mono ?_
 rintro e w2 ⟨rfl,k2⟩
 have B2:=HB.out.below k2
 have K2:=Lib.hid (below_a k2)
 have c0 : w2.cell? ⟨w.heap.size,0,none⟩ = some (.int .i64 m):=B2.cell 0
 have lB:=B2.lt
 have B2h:=Lib.hid B2
 clear k2 B2
 go_wp2_with fail
 obtain ⟨W0,hW0⟩ : ∃ W,W = w2.alloc (.cells #[.pointer none,.slice none 0 0] 86):=⟨_,rfl⟩
 have hal : Below w2.heap.size w2 W0:=by rw [hW0]; exact (Below.refl _ _).alloc (Nat.le_refl _) _
 rw [← hW0]
 refine (HIT.out m W0 (K2.out.trans (hal.mono K2.out.size)) hm9.1 hm9.2).mono ?_
 rintro e w3 ⟨rfl,k3⟩
 have I0 : Lib.IsBuilder 86 5 w2.heap.size w2.heap.size (Lib.byteCells []) W0:=by rw [hW0]; exact Lib.fresh_isBuilder 86 5 w2
 have b3 : Below w2.heap.size w2 w3:=hal.trans (k3.mono hal.size)
 have HW3:=Lib.hid (fun x hl => wstr2 b3 (isb_below I0 k3) x hl)
 obtain ⟨y,hy⟩ : ∃ y : ByteArray,y = ⟨(dg m).toArray⟩:=⟨_,rfl⟩
 have hyd : y.data.toList = dg m:=by rw [hy]
 have hys : y.size ≤ 4:=by rw [Lib.size_eq,hyd]; exact HM.out
 rw [← hy]
 have HYD:=Lib.hid hyd
 clear hW0 hal k3 I0 b3 hy hyd c0
 go_wp2_with fail
 refine (HW3.out _ (by rw [ByteArray.size_append,ByteArray.size_append]; have e1 : (⟨#[109,111,100,32]⟩ : ByteArray).size = 4:=rfl; have e2 : (⟨#[59,10]⟩ : ByteArray).size = 2:=rfl; rw [e1,e2]; simp only [List.length_nil]; omega)).mono ?_
 rintro e w4 ⟨rfl,i4,b4,_⟩
 have c1 : w4.cell? ⟨w.heap.size,1,none⟩ = some (.slice a1 n1 p1):=(B2h.out.below b4).cell 1
 have lB4:=(B2h.out.below b4).lt
 have I4:=Lib.hid i4
 have B4:=Lib.hid b4
 clear i4 b4 HW3
 go_wp2_with fail
 obtain ⟨A1,hA1⟩ : ∃ A : List UInt8,A = [109,111,100,32] ++ dg m ++ [59,10]:=⟨_,rfl⟩
 have hA1l : A1.length ≤ 100:=by rw [hA1,← HYD.out]; simp only [List.length_append,List.length_cons,List.length_nil,← Lib.size_eq]; omega
 rw [← hA1] at HTT
 have HI4 : Hid (Lib.IsBuilder 86 5 w2.heap.size w2.heap.size (Lib.byteCells (A1 ++ (ls.take 0).flatMap showV)) w4):=by
  have h:=I4.out
  rw [hA1,← HYD.out]
  refine Lib.hid ?_
  simpa using h
 clear hA1 I4
 go_loopg [22] n1 (fun fuel i' wr => ∃ k : Nat,i' = .int .i64 k ∧ k ≤ n1 ∧ n1 - k ≤ fuel ∧ Lib.IsBuilder 86 5 w2.heap.size w2.heap.size (Lib.byteCells (A1 ++ (ls.take k).flatMap showV)) wr ∧ (A1 ++ (ls.take k).flatMap showV).length ≤ 100 + k * 200000 ∧ Below w2.heap.size w2 wr)
 case atStart => exact ⟨0,rfl,Nat.zero_le _,Nat.le_refl _,HI4.out,by simpa using hA1l,B4.out⟩
 case round =>
  obtain ⟨k,rfl,hk,hfu,ib,hsl,bb⟩:=hrel
  have IB:=Lib.hid ib
  have BB:=Lib.hid bb
  clear ib bb
  by_cases hlt : k < n1
  ·have hk' : k < ls.length:=by have:=HN1.out; omega
   obtain ⟨ad,cap,hv0,_,_,hc⟩:=(HDL.out)
   cases hv0
   obtain ⟨b,off,rfl,hbl,x0,x1,x2⟩:=hc k hk'
   obtain ⟨hz1,hz2,hz3⟩:=HLS.out k hk'
   obtain ⟨⟨nm,vn,vp⟩,hx⟩ : ∃ x,x = ls[k]:=⟨_,rfl⟩
   rw [← hx] at x0 x1 x2 hz1 hz2 hz3
   simp only [] at x0 x1 x2 hz1 hz2 hz3
   have hww : Below w.heap.size w wr:=K2.out.trans (BB.out.mono K2.out.size)
   have c0 : wr.cell? ⟨b,off + k * 3,none⟩ = some (.string nm):=(hww.cell (p:=⟨b,_,none⟩) hbl).trans x0
   have c1 : wr.cell? ⟨b,off + k * 3 + 1,none⟩ = some (.int .i64 vn):=(hww.cell (p:=⟨b,_,none⟩) hbl).trans x1
   have c2 : wr.cell? ⟨b,off + k * 3 + 2,none⟩ = some (.int .i64 vp):=(hww.cell (p:=⟨b,_,none⟩) hbl).trans x2
   have hbw : b < wr.heap.size:=Nat.lt_of_lt_of_le hbl hww.size
   have HX:=Lib.hid hx
   clear hc x0 x1 x2 hx
   have hal:=(Below.refl wr.heap.size wr).alloc (Nat.le_refl _) (.cells #[.string nm,.int .i64 vn,.int .i64 vp] 49)
   have V0:=Bk.new wr 49 #[.string nm,.int .i64 vn,.int .i64 vp]
   have i5:=isb_below IB.out hal
   have b5:=BB.out.trans (hal.mono BB.out.size)
   have h5:=hww.trans (hal.mono hww.size)
   go_upto_region 8 with fail
   obtain ⟨W5,hW5⟩ : ∃ W,W = wr.alloc (.cells #[.string nm,.int .i64 vn,.int .i64 vp] 49):=⟨_,rfl⟩
   rw [← hW5] at hal V0 i5 b5 h5 ⊢
   have vc0 : W5.cell? ⟨wr.heap.size,0,none⟩ = some (.string nm):=V0.cell 0
   have vc1 : W5.cell? ⟨wr.heap.size,1,none⟩ = some (.int .i64 vn):=V0.cell 1
   have vl:=V0.lt
   obtain ⟨yv,hyv⟩ : ∃ y : ByteArray,y = ⟨(dg vn).toArray⟩:=⟨_,rfl⟩
   have hyd : yv.data.toList = dg vn:=by rw [hyv]
   have hyz : yv.size ≤ 4:=by rw [Lib.size_eq,hyd]; exact dg_len vn hz3
   have HIV : Hid (Calls Tryz.prog 54 #[.int .i64 vn] W5.drew fun e w' => e = .returned (.string yv) ∧ Below W5.drew.heap.size W5.drew w'):=by rw [hyv]; exact Lib.hid (HIT.out vn W5.drew h5.drew hz2 hz3)
   have HAF : Hid (∀ w6,Below W5.drew.heap.size W5.drew w6 → w6.cell? ⟨wr.heap.size,0,none⟩ = some (.string nm) ∧ wr.heap.size < w6.heap.size):=Lib.hid fun w6 h => by
    have f:=V0.below (((Below.refl W5.heap.size W5).drew).trans h)
    exact ⟨f.cell 0,f.lt⟩
   have HWR : Hid (∀ w6,Below W5.drew.heap.size W5.drew w6 → ∀ x : ByteArray,x.size ≤ 100013 → Calls Tryz.prog 53 #[.pointer (some ⟨w2.heap.size,0,none⟩),.string x] w6 fun e w' => e = .returned (.tuple #[.int .i64 x.size,.nilIface]) ∧ Lib.IsBuilder 86 5 w2.heap.size w2.heap.size (Lib.byteCells ((A1 ++ (ls.take k).flatMap showV) ++ x.data.toList)) w' ∧ Below w2.heap.size w2 w'):=Lib.hid fun w6 h x hx => by
    have h':=((Below.refl W5.heap.size W5).drew).trans h
    exact (wstr2 (b5.trans (h'.mono b5.size)) (isb_below i5 h') x (by omega)).mono fun e w' ⟨h1,h2,h3,_⟩ => ⟨h1,h2,h3⟩
   have HYD:=Lib.hid hyd
   clear hal V0 i5 b5 h5 hW5 hyv hyd c0 c1 c2
   have t1 : ¬ 9223372036854775807 < 4 + nm.size:=by omega
   have t2 : ¬ 9223372036854775807 < 4 + nm.size + 3:=by omega
   have t3 : ¬ 9223372036854775807 < 4 + nm.size + 3 + yv.size:=by omega
   have t4 : ¬ 9223372036854775807 < 4 + nm.size + 3 + yv.size + 2:=by omega
   go_region_law (first
    | (go_simp; go_at_call 54; refine HIV.out.mono ?_; rintro e w6 ⟨rfl,k6⟩; obtain ⟨vc6,vl6⟩:=HAF.out w6 k6)
     | (go_simp; go_at_call 53; refine (HWR.out _ k6 _ (by rw [szL]; omega)).mono ?_; rintro e w7 ⟨rfl,i7,b7⟩))
   all_goals
    rw [dtL,HYD.out] at i7
    have I8:=Lib.hid i7
    have B8:=Lib.hid b7
    clear i7 b7 HWR HAF HIV
    go_wp2
    go_roundg (gk - 1)
    case measure => omega
    case rel =>
     have e : A1 ++ (ls.take (k + 1)).flatMap showV = (A1 ++ (ls.take k).flatMap showV) ++ showV ⟨nm,vn,vp⟩:=by
      rw [take_snocJ ls k (by have:=HN1.out; omega),List.flatMap_append,List.flatMap_singleton,← HX.out,List.append_assoc]
     refine ⟨k + 1,by go_num,by omega,by omega,by rw [e]; exact I8.out,?_,B8.out⟩
     rw [e,List.length_append]
     have e2 : (showV ⟨nm,vn,vp⟩).length ≤ 100013:=by
      unfold showV
      rw [← HYD.out]
      simp only [List.length_append,List.length_cons,List.length_nil,← Lib.size_eq]
      omega
     omega
  ·have hk1 : k = n1:=by omega
   subst hk1
   have e1 : (ls.take k).flatMap showV = ls.flatMap showV:=by rw [List.take_of_length_le (by have:=HN1.out; omega)]
   have ib:=IB.out
   rw [e1] at ib hsl
   obtain ⟨A2,hA2⟩ : ∃ A : List UInt8,A = A1 ++ ls.flatMap showV:=⟨_,rfl⟩
   rw [← hA2] at HTT ib hsl
   have hA2l : A2.length ≤ 620001000:=by omega
   have h5:=(B2h.out.below BB.out)
   have c2 : wr.cell? ⟨w.heap.size,2,none⟩ = some (.slice a2 n2 p2):=h5.cell 2
   have lB5:=h5.lt
   have IB2 : Hid (Lib.IsBuilder 86 5 w2.heap.size w2.heap.size (Lib.byteCells (A2 ++ ((ts.take 0).map (·.1)).flatMap showT)) wr):=Lib.hid (by rw [show A2 ++ ((ts.take 0).map (·.1)).flatMap showT = A2 by simp only [List.take_zero,List.map_nil,List.flatMap_nil,List.append_nil]]; exact ib)
   clear ib hA2 e1 hsl h5 IB c1 lB4 lB
   go_wp2_with fail
   go_loopg [40] n2 (fun fuel i' wr => ∃ k : Nat,i' = .int .i64 k ∧ k ≤ n2 ∧ n2 - k ≤ fuel ∧ Lib.IsBuilder 86 5 w2.heap.size w2.heap.size (Lib.byteCells (A2 ++ ((ts.take k).map (·.1)).flatMap showT)) wr ∧ (A2 ++ ((ts.take k).map (·.1)).flatMap showT).length ≤ 620001000 + k * 20000000000 ∧ Below w2.heap.size w2 wr)
   case atStart => exact ⟨0,rfl,Nat.zero_le _,Nat.le_refl _,IB2.out,by rw [show A2 ++ ((ts.take 0).map (·.1)).flatMap showT = A2 by simp only [List.take_zero,List.map_nil,List.flatMap_nil,List.append_nil]]; omega,BB.out⟩
   case round =>
    obtain ⟨k,rfl,hk,hfu,ib,hsl,bb⟩:=hrel
    have IB:=Lib.hid ib
    have BX:=Lib.hid bb
    clear ib bb IB2
    by_cases hlt : k < n2
    ·have hk' : k < ts.length:=by have:=HN2.out; omega
     obtain ⟨ad,cap,hv0,_,_,hc⟩:=(HDT.out)
     cases hv0
     obtain ⟨b,off,rfl,hbl,⟨x0,x1,x2,x3⟩,hR,ss,hss,hS⟩:=hc k hk'
     have hmk:=HT2.out ts[k].1 (List.mem_map_of_mem (List.getElem_mem hk'))
     obtain ⟨⟨⟨nm,rs,bd,vp⟩,v1,v2⟩,hx⟩ : ∃ x,x = ts[k]:=⟨_,rfl⟩
     rw [← hx] at x0 x1 x2 x3 hR hss hS hmk
     obtain ⟨z1,z2,z3,z4,z5⟩:=hmk
     simp only [] at x0 x1 x2 x3 hR hss hS z1 z2 z3 z4 z5
     have hww : Below w.heap.size w wr:=K2.out.trans (BX.out.mono K2.out.size)
     obtain ⟨b1,m1,d1,rfl⟩ : ∃ ad n cap,v1 = .slice ad n cap:=by obtain ⟨ad,cap,h⟩:=hR.shape; exact ⟨ad,_,cap,h⟩
     obtain ⟨b2,m2,d2,rfl⟩ : ∃ ad n cap,v2 = .slice ad n cap:=by obtain ⟨ad,cap,h,_⟩:=hS; exact ⟨ad,_,cap,h⟩
     have hm1 : m1 = rs.length:=by obtain ⟨_,_,h⟩:=hR.shape; injection h
     have c0 : wr.cell? ⟨b,off + k * 4,none⟩ = some (.string nm):=(hww.cell (p:=⟨b,_,none⟩) hbl).trans x0
     have c1 : wr.cell? ⟨b,off + k * 4 + 1,none⟩ = some (.slice b1 m1 d1):=(hww.cell (p:=⟨b,_,none⟩) hbl).trans x1
     have c2 : wr.cell? ⟨b,off + k * 4 + 2,none⟩ = some (.slice b2 m2 d2):=(hww.cell (p:=⟨b,_,none⟩) hbl).trans x2
     have c3 : wr.cell? ⟨b,off + k * 4 + 3,none⟩ = some (.int .i64 vp):=(hww.cell (p:=⟨b,_,none⟩) hbl).trans x3
     have hbw : b < wr.heap.size:=Nat.lt_of_lt_of_le hbl hww.size
     have HX:=Lib.hid hx
     have HRW:=Lib.hid hR
     have HSW:=Lib.hid hS
     have HSS:=Lib.hid hss
     have HZ5:=Lib.hid z5
     have HZ3:=Lib.hid z3
     have hsl2 : ss.length ≤ 100000:=by rw [← hss] at z4; simpa using z4
     have hal:=(Below.refl wr.heap.size wr).alloc (Nat.le_refl _) (.cells #[.string nm,.slice b1 m1 d1,.slice b2 m2 d2,.int .i64 vp] 39)
     have V0:=Bk.new wr 39 #[.string nm,.slice b1 m1 d1,.slice b2 m2 d2,.int .i64 vp]
     have i5:=isb_below IB.out hal
     have b5:=BX.out.trans (hal.mono BX.out.size)
     have HW5:=Lib.hid (fun x hl => wstr2 b5 i5 x hl)
     have V0h:=Lib.hid V0
     have HAL:=Lib.hid hal
     have HM1:=Lib.hid hm1
     have HSL:=Lib.hid hsl
     have HZ2:=Lib.hid z2
     have HSL2:=Lib.hid hsl2
     clear hc x0 x1 x2 x3 hx hss z5 z3 z4 hR hS hal V0 i5 b5 hm1 hsl z2 hsl2 hk'
     go_wp2_with fail
     refine (HW5.out _ (by rw [ByteArray.size_append,ByteArray.size_append]; have e1 : (⟨#[116,104,114,101,97,100,32]⟩ : ByteArray).size = 7:=rfl; have e2 : (⟨#[32,123,10]⟩ : ByteArray).size = 3:=rfl; rw [e1,e2]; have:=HSL.out; omega)).mono ?_
     rintro e w7 ⟨rfl,i7,b7,o7⟩
     have hwr : w2.heap.size < wr.heap.size:=builder_lt IB.out
     have V7 : Bk w7 wr.heap.size 39 #[.string nm,.slice b1 m1 d1,.slice b2 m2 d2,.int .i64 vp]:=bk_others V0h.out o7 (by omega) (by decide)
     rw [dtT] at i7
     obtain ⟨P,hP⟩ : ∃ P,P = A2 ++ ((ts.take k).map (·.1)).flatMap showT:=⟨_,rfl⟩
     have hPl : P.length ≤ 620001000 + k * 20000000000:=by rw [hP]; exact HSL.out
     rw [← hP] at i7
     have HP:=Lib.hid hP
     obtain ⟨S1,hS1⟩ : ∃ S : List UInt8,S = P ++ ([116,104,114,101,97,100,32] ++ nm.data.toList ++ [32,123,10]):=⟨_,rfl⟩
     have hS1l : S1.length ≤ P.length + 100010:=by rw [hS1]; simp only [List.length_append,List.length_cons,List.length_nil,← Lib.size_eq]; omega
     rw [← hS1] at i7
     have HS1:=Lib.hid hS1
     have v1 : w7.cell? ⟨wr.heap.size,1,none⟩ = some (.slice b1 m1 d1):=V7.cell 1
     have vl:=V7.lt
     have V7h:=Lib.hid V7
     have I7:=Lib.hid i7
     have B7:=Lib.hid b7
     have K7:=Lib.hid (K2.out.trans (b7.mono K2.out.size))
     clear hP hS1 V7 i7 b7 o7 c0 c1 c2 c3 HW5 HAL V0h
     go_upto_if 52 with fail
     go_cut [53,54,55,56,57,58] (fun s53 s54 s55 s56 s57 s58 wx => Lib.IsBuilder 86 5 w2.heap.size w2.heap.size (Lib.byteCells (S1 ++ regT rs)) wx ∧ Below w2.heap.size w2 wx ∧ Bk wx wr.heap.size 39 #[.string nm,.slice b1 m1 d1,.slice b2 m2 d2,.int .i64 vp])
     case first =>
      by_cases h0 : m1 = 0
      ·have hrg : regT rs = []:=if_pos (by rw [← HM1.out]; exact h0)
       have HRG:=Lib.hid hrg
       clear hrg
       subst h0
       go_wp2
       go_meet
       exact ⟨by rw [HRG.out,List.append_nil]; exact I7.out,B7.out,V7h.out⟩
      ·have q1 : decide (0 < (m1 : Int)) = true:=decide_eq_true (by omega)
       have q2 : decide (0 < m1) = true:=decide_eq_true (by omega)
       have hpos : 0 < m1:=by omega
       have hrg : regT rs = [32,32,114,101,103,32] ++ joinC rs ++ [59,10]:=if_neg (by rw [← HM1.out]; exact h0)
       have HJ:=Lib.hid (pjoin_any rs (.slice b1 m1 d1) w7 (StrsD.below HRW.out K7.out) HZ2.out (by have:=HM1.out; omega) HZ3.out)
       obtain ⟨yj,hyj⟩ : ∃ y : ByteArray,y = ⟨(joinC rs).toArray⟩:=⟨_,rfl⟩
       have hyd : yj.data.toList = joinC rs:=by rw [hyj]
       have hyz : yj.size ≤ 10000300000:=by rw [Lib.size_eq,hyd]; exact joinC_le rs HZ2.out HZ3.out
       rw [← hyj] at HJ
       rw [← hyd] at hrg
       have HRG:=Lib.hid hrg
       clear hyj hyd hrg h0
       go_wp2_with fail
       refine HJ.out.mono ?_
       rintro e w8 ⟨rfl,b8⟩
       have hb8:=B7.out.trans (b8.mono B7.out.size)
       have V8:=V7h.out.below b8
       have HW8:=Lib.hid (fun x hl => wstr2 hb8 (isb_below I7.out b8) x hl)
       have V8h:=Lib.hid V8
       clear b8 hb8 V8
       go_wp2_with fail
       refine (HW8.out _ (by rw [szR]; omega)).mono ?_
       rintro e w9 ⟨rfl,i9,b9,o9⟩
       rw [dtR] at i9
       have I9:=Lib.hid i9
       have B9:=Lib.hid b9
       have V9:=Lib.hid (bk_others V8h.out o9 (by omega) (by decide))
       clear i9 b9 o9
       go_wp2
       go_meet
       exact ⟨by rw [HRG.out]; exact I9.out,B9.out,V9.out⟩
     case rest =>
      obtain ⟨i8,b8,V8⟩:=hcut
      have v2c : wc.cell? ⟨wr.heap.size,2,none⟩ = some (.slice b2 m2 d2):=V8.cell 2
      have vl8:=V8.lt
      have I8:=Lib.hid i8
      have B8:=Lib.hid b8
      have h8 : Below w.heap.size w wc:=K2.out.trans (b8.mono K2.out.size)
      have HSH:=show_any ss (.slice b2 m2 d2) 1 wc (by omega) (HSW.out.below h8) HSL2.out (by rw [HSS.out]; exact HZ5.out) (HF.out.below h8) (HT.out.below h8)
      rw [HSS.out] at HSH
      unfold TextIs at HSH
      obtain ⟨ys,hys⟩ : ∃ y : ByteArray,y = ⟨(textS bd 1).toArray⟩:=⟨_,rfl⟩
      have hyd : ys.data.toList = textS bd 1:=by rw [hys]
      have hyz : ys.size ≤ 16000000:=by rw [Lib.size_eq,hyd]; exact textS_le bd
      rw [← hys] at HSH
      have HSHh:=Lib.hid HSH
      have HYD:=Lib.hid hyd
      have hrl:=regT_le rs HZ2.out HZ3.out
      have hS2l : (S1 ++ regT rs).length ≤ 620001000 + k * 20000000000 + 100010 + 10000400000:=by rw [List.length_append]; omega
      have HS2:=Lib.hid hS2l
      clear i8 b8 V8 HSH hys hyd h8 hrl hS2l
      go_wp2_with fail
      refine HSHh.out.mono ?_
      rintro e w10 ⟨rfl,b10⟩
      have hb10:=B8.out.trans (b10.mono B8.out.size)
      have HW10:=Lib.hid (fun x hl => wstr2 hb10 (isb_below I8.out b10) x hl)
      clear b10 hb10
      go_wp2_with fail
      refine (HW10.out _ (by rw [szS]; have:=HS2.out; omega)).mono ?_
      rintro e w11 ⟨rfl,i11,b11,o11⟩
      rw [dtS,HYD.out] at i11
      have I11:=Lib.hid i11
      have B11:=Lib.hid b11
      clear i11 b11 o11 HW10
      go_wp2
      go_roundg (gk - 1)
      case measure => omega
      case rel =>
       have e : A2 ++ ((ts.take (k + 1)).map (·.1)).flatMap showT = (S1 ++ regT rs) ++ (textS bd 1 ++ [125,10]):=by
        rw [take_snocJ ts k (by have:=HN2.out; omega),List.map_append,List.flatMap_append,← List.append_assoc,← HP.out,HS1.out,← HX.out]
        simp [showT,List.append_assoc]
       refine ⟨k + 1,by go_num,by omega,by omega,by rw [e]; exact I11.out,?_,B11.out⟩
       rw [e,List.length_append]
       have:=HS2.out
       have e2 : (textS bd 1 ++ [125,10]).length ≤ 16000002:=by
        rw [List.length_append]
        have:=textS_le bd
        simp only [List.length_cons,List.length_nil]
        omega
       omega
    ·have hk2 : k = n2:=by omega
     subst hk2
     have e1 : ((ts.take k).map (·.1)).flatMap showT = (ts.map (·.1)).flatMap showT:=by rw [List.take_of_length_le (by have:=HN2.out; omega)]
     have ib:=IB.out
     rw [e1] at ib hsl
     obtain ⟨A3,hA3⟩ : ∃ A : List UInt8,A = A2 ++ (ts.map (·.1)).flatMap showT:=⟨_,rfl⟩
     rw [← hA3] at HTT ib hsl
     have hA3l : A3.length ≤ 62001000000000:=by omega
     have h5:=(B2h.out.below BX.out)
     have c3 : wr.cell? ⟨w.heap.size,3,none⟩ = some (.slice a3 n3 p3):=h5.cell 3
     have lB6:=h5.lt
     have hwds:=HW.out.below (K2.out.trans (BX.out.mono K2.out.size))
     have IB3 : Hid (Lib.IsBuilder 86 5 w2.heap.size w2.heap.size (Lib.byteCells (A3 ++ ((us.take 0).map (·.1)).flatMap showC)) wr):=Lib.hid (by rw [show A3 ++ ((us.take 0).map (·.1)).flatMap showC = A3 by simp only [List.take_zero,List.map_nil,List.flatMap_nil,List.append_nil]]; exact ib)
     clear ib hA3 e1 hsl h5 IB c2 lB5 hwds
     go_wp2_with fail
     go_loopg [68] n3 (fun fuel i' wr => ∃ k : Nat,i' = .int .i64 k ∧ k ≤ n3 ∧ n3 - k ≤ fuel ∧ Lib.IsBuilder 86 5 w2.heap.size w2.heap.size (Lib.byteCells (A3 ++ ((us.take k).map (·.1)).flatMap showC)) wr ∧ (A3 ++ ((us.take k).map (·.1)).flatMap showC).length ≤ 62001000000000 + k * 10000 ∧ Below w2.heap.size w2 wr)
     case atStart => exact ⟨0,rfl,Nat.zero_le _,Nat.le_refl _,IB3.out,by rw [show A3 ++ ((us.take 0).map (·.1)).flatMap showC = A3 by simp only [List.take_zero,List.map_nil,List.flatMap_nil,List.append_nil]]; omega,BX.out⟩
     case round =>
      obtain ⟨k,rfl,hk,hfu,ib,hsl,bb⟩:=hrel
      have IB:=Lib.hid ib
      have BY:=Lib.hid bb
      clear ib bb IB3
      by_cases hlt : k < n3
      ·have hk' : k < us.length:=by have:=HN3.out; omega
       obtain ⟨ad,cap,hv0,_,_,hc⟩:=(HDC.out)
       cases hv0
       obtain ⟨b,off,rfl,hbl,⟨x0,x1,x2⟩,hE⟩:=hc k hk'
       have hkd:=HCS.out k hk'
       have hmk:=HC2.out us[k].1 (List.mem_map_of_mem (List.getElem_mem hk'))
       obtain ⟨⟨⟨kd,es,vp⟩,v1⟩,hx⟩ : ∃ x,x = us[k]:=⟨_,rfl⟩
       rw [← hx] at x0 x1 x2 hE hmk hkd
       obtain ⟨z1,z2⟩:=hmk
       simp only [] at x0 x1 x2 hE z1 z2 hkd
       obtain ⟨kn,rfl⟩ : ∃ kn : Nat,kd = kn:=⟨kd.toNat,by omega⟩
       have hkn : kn < 4:=by omega
       have hkI : (kn : Int) < 4:=by omega
       have hww : Below w.heap.size w wr:=K2.out.trans (BY.out.mono K2.out.size)
       obtain ⟨b1,m1,d1,rfl⟩ : ∃ ad n cap,v1 = .slice ad n cap:=by obtain ⟨ad,cap,h,_⟩:=hE; exact ⟨ad,_,cap,h⟩
       have c0 : wr.cell? ⟨b,off + k * 3,none⟩ = some (.int .i64 kn):=(hww.cell (p:=⟨b,_,none⟩) hbl).trans x0
       have c1 : wr.cell? ⟨b,off + k * 3 + 1,none⟩ = some (.slice b1 m1 d1):=(hww.cell (p:=⟨b,_,none⟩) hbl).trans x1
       have c2 : wr.cell? ⟨b,off + k * 3 + 2,none⟩ = some (.int .i64 vp):=(hww.cell (p:=⟨b,_,none⟩) hbl).trans x2
       have hbw : b < wr.heap.size:=Nat.lt_of_lt_of_le hbl hww.size
       have HX:=Lib.hid hx
       have HEE:=Lib.hid hE
       have HZ2:=Lib.hid z2
       have HSL:=Lib.hid hsl
       have hal:=(Below.refl wr.heap.size wr).alloc (Nat.le_refl _) (.cells #[.int .i64 kn,.slice b1 m1 d1,.int .i64 vp] 44)
       have V0:=Bk.new wr 44 #[.int .i64 kn,.slice b1 m1 d1,.int .i64 vp]
       have i5:=isb_below IB.out hal
       have b5:=BY.out.trans (hal.mono BY.out.size)
       have h5:=hww.trans (hal.mono hww.size)
       clear hc x0 x1 x2 hx hE z2 hk'
       go_upto_region 21 with fail
       obtain ⟨W5,hW5⟩ : ∃ W,W = wr.alloc (.cells #[.int .i64 kn,.slice b1 m1 d1,.int .i64 vp] 44):=⟨_,rfl⟩
       rw [← hW5] at hal V0 i5 b5 h5 ⊢
       have vc0 : W5.cell? ⟨wr.heap.size,0,none⟩ = some (.int .i64 kn):=V0.cell 0
       have vc1 : W5.cell? ⟨wr.heap.size,1,none⟩ = some (.slice b1 m1 d1):=V0.cell 1
       have vl:=V0.lt
       obtain ⟨yk,hyk⟩ : ∃ y : ByteArray,y = ⟨(wdsL.getD kn []).toArray⟩:=⟨_,rfl⟩
       have hykd : yk.data.toList = wdsL.getD kn []:=by rw [hyk]
       have hykz : yk.size ≤ 6:=by
        rw [Lib.size_eq,hykd]
        have h4 : ∀ k,k < 4 → (wdsL.getD k []).length ≤ 6:=by decide
        exact h4 kn hkn
       have hwds:=HW.out.below h5
       have wc5 : W5.cell? ⟨0,kn,none⟩ = some (.string yk):=by rw [hyk]; exact hwds.2 kn hkn
       have wl5:=hwds.1
       have HSH:=shown_any es (.slice b1 m1 d1) W5.drew (HEE.out.below h5.drew) z1 HZ2.out (HT.out.below h5.drew)
       unfold TextIs at HSH
       obtain ⟨ye,hye⟩ : ∃ y : ByteArray,y = ⟨(textOf es).toArray⟩:=⟨_,rfl⟩
       have hyed : ye.data.toList = textOf es:=by rw [hye]
       have hyez : ye.size ≤ 8000:=by rw [Lib.size_eq,hyed]; exact textOf_len
       rw [← hye] at HSH
       have HIV:=Lib.hid HSH
       have HAF : Hid (∀ w6,Below W5.drew.heap.size W5.drew w6 → (w6.cell? ⟨wr.heap.size,0,none⟩ = some (.int .i64 kn) ∧ wr.heap.size < w6.heap.size) ∧ w6.cell? ⟨0,kn,none⟩ = some (.string yk) ∧ 0 < w6.heap.size):=Lib.hid fun w6 h => by
        have h':=((Below.refl W5.heap.size W5).drew).trans h
        have f:=V0.below h'
        have g:=hwds.below h'
        exact ⟨⟨f.cell 0,f.lt⟩,by rw [hyk]; exact g.2 kn hkn,g.1⟩
       have HWR : Hid (∀ w6,Below W5.drew.heap.size W5.drew w6 → ∀ x : ByteArray,x.size ≤ 9000 → Calls Tryz.prog 53 #[.pointer (some ⟨w2.heap.size,0,none⟩),.string x] w6 fun e w' => e = .returned (.tuple #[.int .i64 x.size,.nilIface]) ∧ Lib.IsBuilder 86 5 w2.heap.size w2.heap.size (Lib.byteCells ((A3 ++ ((us.take k).map (·.1)).flatMap showC) ++ x.data.toList)) w' ∧ Below w2.heap.size w2 w'):=Lib.hid fun w6 h x hx => by
        have h':=((Below.refl W5.heap.size W5).drew).trans h
        exact (wstr2 (b5.trans (h'.mono b5.size)) (isb_below i5 h') x (by have:=HSL.out; omega)).mono fun e w' ⟨h1,h2,h3,_⟩ => ⟨h1,h2,h3⟩
       have HYD:=Lib.hid hyed
       have HYK:=Lib.hid hykd
       clear hal V0 i5 b5 h5 hW5 hye hyed hyk hykd HSH hwds c0 c1 c2 hsl
       have t1 : ¬ 9223372036854775807 < yk.size + 1:=by omega
       have t3 : ¬ 9223372036854775807 < yk.size + 1 + ye.size:=by omega
       have t4 : ¬ 9223372036854775807 < yk.size + 1 + ye.size + 2:=by omega
       go_region_law (first
        | (go_simp; go_at_call 57; refine HIV.out.mono ?_; rintro e w6 ⟨rfl,k6⟩; obtain ⟨⟨vc6,vl6⟩,wc6,wl6⟩:=HAF.out w6 k6)
        | (go_simp; go_at_call 53; refine (HWR.out _ k6 _ (by rw [szC]; omega)).mono ?_; rintro e w7 ⟨rfl,i7,b7⟩))
       all_goals
        rw [dtC,HYD.out,HYK.out] at i7
        have I8:=Lib.hid i7
        have B8:=Lib.hid b7
        clear i7 b7 HWR HAF HIV
        go_wp2
        go_roundg (gk - 1)
        case measure => omega
        case rel =>
         have e : A3 ++ ((us.take (k + 1)).map (·.1)).flatMap showC = (A3 ++ ((us.take k).map (·.1)).flatMap showC) ++ (wdsL.getD kn [] ++ [32] ++ textOf es ++ [59,10]):=by
          rw [take_snocJ us k (by have:=HN3.out; omega),List.map_append,List.flatMap_append,← HX.out,List.append_assoc]
          simp [showC]
         refine ⟨k + 1,by go_num,by omega,by omega,by rw [e]; exact I8.out,?_,B8.out⟩
         rw [e,List.length_append]
         have e2 : (wdsL.getD kn [] ++ [32] ++ textOf es ++ [59,10]).length ≤ 9000:=by
          rw [← HYD.out,← HYK.out]
          simp only [List.length_append,List.length_cons,List.length_nil,← Lib.size_eq]
          omega
         have:=HSL.out
         omega
      ·have hk3 : k = n3:=by omega
       subst hk3
       have e1 : ((us.take k).map (·.1)).flatMap showC = (us.map (·.1)).flatMap showC:=by rw [List.take_of_length_le (by have:=HN3.out; omega)]
       have ib:=IB.out
       rw [e1,← HTT.out] at ib
       have HSTR:=Lib.hid (Tryz.Builder_String_any w2.heap.size w2.heap.size T wr ib BY.out.size)
       clear ib e1 IB hsl
       go_wp2_with fail
       refine HSTR.out.mono ?_
       rintro e w5 ⟨rfl,b5⟩
       go_wp2
       go_ret
       exact ⟨rfl,K2.out.trans ((BY.out.trans b5).mono K2.out.size)⟩
end Go.Proofs.YtcghccjnadagcaaGreatDoor
