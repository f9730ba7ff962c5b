/- Facts. -/
import Derived.Test.YtcghccjnadagcaaGreatDoorPs
import Derived.Test.YtcghccjnadagcaaGreatDoorPy
import Derived.Test.YtcghccjnadagcaaGreatDoorZn
import Derived.Test.YtcghccjnadagcaaGreatDoorPw
set_option maxRecDepth 100000
set_option maxHeartbeats 32000000
namespace Go.Proofs.YtcghccjnadagcaaGreatDoor
open Go.RowKit
def smL : List UInt8:=[109,111,100,32,50,59,10,108,111,99,32,120,32,61,32,48,59,10,116,104,114,101,97,100,32,116,32,123,10,32,32,114,101,103,32,97,44,32,98,59,10,32,32,108,111,97,100,32,97,32,61,32,120,59,10,125,10,102,111,114,97,108,108,32,40,116,46,97,32,61,61,32,48,41,32,38,38,32,40,120,32,61,61,32,48,41,59,10]
def k2L : List UInt8:=[109,111,100,32,50,59,32,108,111,99,32,120,59]
def k3L : List UInt8:=[109,111,100,32,50,59,32,116,104,114,101,97,100,32,116,32,123,32,125,10,125]
def bx (s : List UInt8) : ByteArray:=⟨s.toArray⟩
def gsN : List Nd:=[⟨13,0,⟨#[]⟩,⟨#[]⟩,75⟩,⟨9,0,⟨#[]⟩,⟨#[]⟩,69⟩,⟨4,0,⟨#[97]⟩,⟨#[116]⟩,65⟩,⟨1,0,⟨#[]⟩,⟨#[]⟩,72⟩,⟨9,0,⟨#[]⟩,⟨#[]⟩,81⟩,⟨3,0,⟨#[120]⟩,⟨#[]⟩,79⟩,⟨1,0,⟨#[]⟩,⟨#[]⟩,84⟩]
def gsS : List St:=[⟨3,⟨#[97]⟩,⟨#[120]⟩,[],[],false,0,0,43⟩]
def gsm : Pg:=⟨2,[⟨⟨#[120]⟩,0,7⟩],[⟨⟨#[116]⟩,[⟨#[97]⟩,⟨#[98]⟩],gsS,18⟩],[⟨1,gsN,57⟩]⟩
theorem ks1 : parseG smL = (gsm,0,0):=by kernel_rfl
theorem ks2 : parseG k2L = (⟨0,[],[],[]⟩,5,12):=by kernel_rfl
theorem ks3 : parseG k3L = (⟨0,[],[],[]⟩,5,20):=by kernel_rfl
theorem ks4 : parseG [] = (⟨0,[],[],[]⟩,6,0):=by kernel_rfl
def gsE : Ex:=.bin ⟨13,0,⟨#[]⟩,⟨#[]⟩,75⟩ (.bin ⟨9,0,⟨#[]⟩,⟨#[]⟩,69⟩ (.leaf ⟨4,0,⟨#[97]⟩,⟨#[116]⟩,65⟩) (.leaf ⟨1,0,⟨#[]⟩,⟨#[]⟩,72⟩)) (.bin ⟨9,0,⟨#[]⟩,⟨#[]⟩,81⟩ (.leaf ⟨3,0,⟨#[120]⟩,⟨#[]⟩,79⟩) (.leaf ⟨1,0,⟨#[]⟩,⟨#[]⟩,84⟩))
theorem gsEw : gsE.wf:=by simp [gsE,Ex.wf,ar]
theorem gsNr : rightP gsN:=⟨gsE,gsEw,rfl,by decide +kernel,by decide +kernel,by decide +kernel⟩
def gsT : Tr:=.node ⟨3,⟨#[97]⟩,⟨#[120]⟩,[],[],false,0,0,43⟩ .nil .nil .nil
theorem gsSok : ∀ x ∈ gsS,okSt x:=by
 intro x hx
 simp only [gsS,List.mem_cons,List.not_mem_nil,or_false] at hx
 rcases hx with rfl
 exact ⟨by decide,by decide,by decide,by decide +kernel,by decide +kernel,rfl,rfl,by simp,by simp,by simp⟩
theorem gsSr : rightS gsS:=⟨by decide,gsT,rfl,gsSok,by decide +kernel⟩
theorem gsm_right : rightPB gsm = true:=by
 unfold rightPB flT flC gsm
 simp only [List.all_cons,List.all_nil,Bool.and_true]
 rw [(rightSB_iff gsS).2 gsSr,right_yes gsN gsNr]
 decide +kernel
theorem gsN_text : textOf gsN = [40,116,46,97,32,61,61,32,48,41,32,38,38,32,40,120,32,61,61,32,48,41]:=by rw [textOf_tree _ gsNr gsE gsEw rfl]; decide +kernel
theorem gsS_text : textS gsS 1 = [32,32,108,111,97,100,32,97,32,61,32,120,59,10]:=by
 rw [textS_tree gsSr gsT rfl 1]
 simp only [gsT,Tr.text,lineB,nestK,Tr.flat]
 simp [fieldB,formL,kwds,ind]
theorem gsm_text : textP gsm = smL:=by
 unfold textP
 rw [if_pos gsm_right]
 simp only [gsm,List.flatMap_cons,List.flatMap_nil,showT,showC,gsN_text,gsS_text]
 decide +kernel
theorem gsm_ok : PmOK gsm:=by
 refine ⟨⟨by decide,fun x hx => ?_⟩,⟨by decide,fun x hx => ?_⟩,⟨by decide,fun x hx => ?_⟩⟩
 ·simp only [gsm,List.mem_cons,List.not_mem_nil,or_false] at hx
  subst hx; decide
 ·simp only [gsm,List.mem_cons,List.not_mem_nil,or_false] at hx
  subst hx
  exact ⟨by decide,by decide,by decide,by decide,smOK_of gsS gsSok⟩
 ·simp only [gsm,List.mem_cons,List.not_mem_nil,or_false] at hx
  subst hx
  exact ⟨by decide,nmOK_of gsNr⟩
theorem psmall_any (w : World) : Calls Tryz.prog 19 #[] w fun e w' => e = .returned (.string ⟨smL.toArray⟩) ∧ w = w':=by
 unfold smL
 go_enter Tryz.func19,Tryz.ntmps19
 go_wp2
 go_ret
 exact ⟨rfl,rfl⟩
theorem gsm_cells {w : World} {a b c : Value} (h : PgD w a b c gsm) : ∃ bL oL pL bT oT pT bC oC pC rA rc eB eo ec,a = .slice (some ⟨bL,oL,none⟩) 1 pL ∧ b = .slice (some ⟨bT,oT,none⟩) 1 pT ∧ c = .slice (some ⟨bC,oC,none⟩) 1 pC ∧ (bL < w.heap.size ∧ bT < w.heap.size ∧ bC < w.heap.size ∧ eB < w.heap.size) ∧
  w.cell? ⟨bL,oL + 2,none⟩ = some (.int .i64 7) ∧ w.cell? ⟨bT,oT + 1,none⟩ = some (.slice rA 2 rc) ∧ w.cell? ⟨bC,oC + 1,none⟩ = some (.slice (some ⟨eB,eo,none⟩) 7 ec) ∧ w.cell? ⟨eB,eo + 25,none⟩ = some (.int .i64 3):=by
 obtain ⟨⟨adL,pL,rfl,_,_,hcL⟩,⟨ts,et,⟨adT,pT,rfl,_,_,hcT⟩⟩,us,eu,⟨adC,pC,rfl,_,_,hcC⟩⟩:=h
 obtain ⟨bL,oL,rfl,hL,_,_,hL2⟩:=hcL 0 (by decide)
 obtain ⟨t,rfl⟩ : ∃ t,ts = [t]:=List.length_eq_one_iff.1 (by have:=congrArg List.length et; rw [List.length_map] at this; exact this)
 obtain ⟨u,rfl⟩ : ∃ u,us = [u]:=List.length_eq_one_iff.1 (by have:=congrArg List.length eu; rw [List.length_map] at this; exact this)
 have e1 : t.1 = ⟨⟨#[116]⟩,[⟨#[97]⟩,⟨#[98]⟩],gsS,18⟩:=by injection et
 have e2 : u.1 = ⟨1,gsN,57⟩:=by injection eu
 obtain ⟨bT,oT,rfl,hT,⟨_,hT1,_,_⟩,hTR,_⟩:=hcT 0 (by simp)
 obtain ⟨bC,oC,rfl,hC,⟨_,hC1,_⟩,hCE⟩:=hcC 0 (by simp)
 have e3 : [t][0].1 = ⟨⟨#[116]⟩,[⟨#[97]⟩,⟨#[98]⟩],gsS,18⟩:=e1
 have e4 : [u][0].1 = ⟨1,gsN,57⟩:=e2
 rw [e3] at hTR
 rw [e4] at hCE
 obtain ⟨rA,rc,hrr⟩:=hTR.shape
 obtain ⟨eA,ec,hee,_,_,hcE⟩:=hCE
 obtain ⟨eB,eo,rfl,hE,hE0⟩:=hcE 5 (by decide)
 rw [hrr] at hT1
 rw [hee] at hC1
 refine ⟨bL,oL,pL,bT,oT,pT,bC,oC,pC,rA,rc,eB,eo,ec,rfl,rfl,rfl,⟨hL,hT,hC,hE⟩,?_,?_,?_,?_⟩
 ·have h : w.cell? ⟨bL,oL + 0 * 3 + 2,none⟩ = some (.int .i64 7):=hL2
  simpa using h
 ·have h : w.cell? ⟨bT,oT + 0 * 4 + 1,none⟩ = some (.slice rA 2 rc):=hT1
  simpa using h
 ·have h : w.cell? ⟨bC,oC + 0 * 3 + 1,none⟩ = some (.slice (some ⟨eB,eo,none⟩) 7 ec):=hC1
  simpa using h
 ·exact hE0.1
theorem bsm_cells {w : World} {a b c : Value} (h : PgD w a b c (bareP gsm)) : ∃ bL oL pL,a = .slice (some ⟨bL,oL,none⟩) 1 pL ∧ bL < w.heap.size ∧ w.cell? ⟨bL,oL + 2,none⟩ = some (.int .i64 0) ∧ (∃ x n y,b = .slice x n y) ∧ ∃ x n y,c = .slice x n y:=by
 obtain ⟨⟨adL,pL,rfl,_,_,hcL⟩,⟨ts,et,dt⟩,us,eu,dc⟩:=h
 obtain ⟨bL,oL,rfl,hL,_,_,hL2⟩:=hcL 0 (by decide)
 refine ⟨bL,oL,pL,rfl,hL,?_,by obtain ⟨x,y,h⟩:=dt.shape; exact ⟨x,_,y,h⟩,by obtain ⟨x,y,h⟩:=dc.shape; exact ⟨x,_,y,h⟩⟩
 have h : w.cell? ⟨bL,oL + 0 * 3 + 2,none⟩ = some (.int .i64 0):=hL2
 simpa using h
theorem pfix_any (s : ByteArray) (l : List UInt8) (hl : s.data.toList = l) (g : Pg) (k a : Nat) (h : parseG l = (g,k,a)) (w : World) (hs : Sgn w) (hw : Wds w) (hz : s.size ≤ 1000) :
  Calls Tryz.prog 9 #[.string s] w (PAns (g,k,a) w):=by
 have:=gparse_any s w hs hw (by unfold maxLen; omega)
 rw [hl,h] at this
 exact this
theorem pknown_any (w : World) (hf : Flds w) (ht : Tabs w) (hw : Wds w) : Calls Tryz.prog 8 #[] w fun e w' => e = .returned (.bool true) ∧ Below w.heap.size w w':=by
 have HF:=Lib.hid hf
 have HT:=Lib.hid ht
 have HW:=Lib.hid hw
 have HSM:=Lib.hid psmall_any
 have HP1:=Lib.hid (fun (W : World) (h : Below w.heap.size w W) => pfix_any ⟨smL.toArray⟩ smL rfl _ _ _ ks1 W (ht.below h).1 (hw.below h) (by decide))
 have HP2:=Lib.hid (fun (W : World) (h : Below w.heap.size w W) => pfix_any ⟨k2L.toArray⟩ k2L rfl _ _ _ ks2 W (ht.below h).1 (hw.below h) (by decide))
 have HP3:=Lib.hid (fun (W : World) (h : Below w.heap.size w W) => pfix_any ⟨k3L.toArray⟩ k3L rfl _ _ _ ks3 W (ht.below h).1 (hw.below h) (by decide))
 have HP4:=Lib.hid (fun (W : World) (h : Below w.heap.size w W) => pfix_any ⟨#[]⟩ [] rfl _ _ _ ks4 W (ht.below h).1 (hw.below h) (by decide))
 obtain ⟨sm,hsm⟩ : ∃ y : ByteArray,y = ⟨smL.toArray⟩:=⟨_,rfl⟩
 rw [← hsm] at HP1 HSM
 have HSMD:=Lib.hid hsm
 unfold k2L at HP2
 unfold k3L at HP3
 clear hf ht hw hsm
 go_enter Tryz.func8,Tryz.ntmps8
 go_wp2_with fail
 refine (HSM.out _).mono ?_
 rintro e w0 ⟨rfl,rfl⟩
 go_wp2_with fail
 refine (HP1.out _ (Below.refl _ _)).mono ?_
 rintro e w1 ⟨a,b,c,rfl,p1,k1⟩
 have D1:=Lib.hid (pgD_of_own p1)
 obtain ⟨bL,oL,pL,bT,oT,pT,bC,oC,pC,rA,rc,eB,eo,ec,rfl,rfl,rfl,⟨l1,l2,l3,l4⟩,x1,x2,x3,x4⟩:=gsm_cells D1.out
 have V1:=Lib.hid (Bk.new w1 27 #[.int .i64 2,.slice (some ⟨bL,oL,none⟩) 1 pL,.slice (some ⟨bT,oT,none⟩) 1 pT,.slice (some ⟨bC,oC,none⟩) 1 pC])
 have K1:=Lib.hid k1
 have hal1 : Below w.heap.size w (w1.alloc (.cells #[.int .i64 2,.slice (some ⟨bL,oL,none⟩) 1 pL,.slice (some ⟨bT,oT,none⟩) 1 pT,.slice (some ⟨bC,oC,none⟩) 1 pC] 27)):=K1.out.alloc K1.out.size _
 have L1:=Lib.hid (And.intro l1 (And.intro l2 (And.intro l3 l4)))
 have X1:=Lib.hid (And.intro x1 (And.intro x2 (And.intro x3 x4)))
 clear p1 k1 l1 l2 l3 l4 x1 x2 x3 x4
 change match Ending.returned (.tuple #[.agg #[.int .i64 2,.slice (some ⟨bL,oL,none⟩) 1 pL,.slice (some ⟨bT,oT,none⟩) 1 pT,.slice (some ⟨bC,oC,none⟩) 1 pC],.int .i64 0,.int .i64 0]),w1 with | _,_ => _
 go_wp2_with fail
 refine (HP2.out _ hal1).mono ?_
 rintro e w2 ⟨a2,b2,c2,rfl,p2,k2⟩
 obtain ⟨aa,na,ca,rfl⟩ : ∃ x n y,a2 = .slice x n y:=by obtain ⟨x,y,h,_⟩:=own_shape p2.l; exact ⟨x,_,y,h⟩
 obtain ⟨ab,nb,cb,rfl⟩ : ∃ x n y,b2 = .slice x n y:=by obtain ⟨x,y,h⟩:=p2.t.shape; exact ⟨x,_,y,h⟩
 obtain ⟨ac,nc,cc,rfl⟩ : ∃ x n y,c2 = .slice x n y:=by obtain ⟨x,y,h⟩:=p2.c.shape; exact ⟨x,_,y,h⟩
 have K2:=Lib.hid (hal1.trans (k2.mono hal1.size))
 have V2:=Lib.hid (V1.out.below k2)
 have k12 : Below w1.heap.size w1 w2:=below_a k2
 have K12:=Lib.hid k12
 have hal2 : Below w.heap.size w (w2.alloc (.cells #[.int .i64 0,.slice aa na ca,.slice ab nb cb,.slice ac nc cc] 27)):=K2.out.alloc K2.out.size _
 clear p2 k2 k12 hal1
 go_wp2_with fail
 refine (HP3.out _ hal2).mono ?_
 rintro e w3 ⟨a3,b3,c3,rfl,p3,k3⟩
 obtain ⟨da,ma,ea,rfl⟩ : ∃ x n y,a3 = .slice x n y:=by obtain ⟨x,y,h,_⟩:=own_shape p3.l; exact ⟨x,_,y,h⟩
 obtain ⟨db,mb,eb',rfl⟩ : ∃ x n y,b3 = .slice x n y:=by obtain ⟨x,y,h⟩:=p3.t.shape; exact ⟨x,_,y,h⟩
 obtain ⟨dc,mc,ec',rfl⟩ : ∃ x n y,c3 = .slice x n y:=by obtain ⟨x,y,h⟩:=p3.c.shape; exact ⟨x,_,y,h⟩
 have K3:=Lib.hid (hal2.trans (k3.mono hal2.size))
 have k23 : Below w2.heap.size w2 w3:=below_a k3
 have V3:=Lib.hid (V2.out.below k23)
 have K13:=Lib.hid (K12.out.trans (k23.mono K12.out.size))
 have hal3 : Below w.heap.size w (w3.alloc (.cells #[.int .i64 0,.slice da ma ea,.slice db mb eb',.slice dc mc ec'] 27)):=K3.out.alloc K3.out.size _
 clear p3 k3 k23 hal2
 go_wp2_with fail
 refine (HP4.out _ hal3).mono ?_
 rintro e w4 ⟨a4,b4,c4,rfl,p4,k4⟩
 obtain ⟨fa,ja,ha,rfl⟩ : ∃ x n y,a4 = .slice x n y:=by obtain ⟨x,y,h,_⟩:=own_shape p4.l; exact ⟨x,_,y,h⟩
 obtain ⟨fb,jb,hb,rfl⟩ : ∃ x n y,b4 = .slice x n y:=by obtain ⟨x,y,h⟩:=p4.t.shape; exact ⟨x,_,y,h⟩
 obtain ⟨fc,jc,hc,rfl⟩ : ∃ x n y,c4 = .slice x n y:=by obtain ⟨x,y,h⟩:=p4.c.shape; exact ⟨x,_,y,h⟩
 have K4:=Lib.hid (hal3.trans (k4.mono hal3.size))
 have k34 : Below w3.heap.size w3 w4:=below_a k4
 have V4:=Lib.hid (V3.out.below k34)
 have K14:=Lib.hid (K13.out.trans (k34.mono K13.out.size))
 have kal4 : Below w4.heap.size w4 (w4.alloc (.cells #[.int .i64 0,.slice fa ja ha,.slice fb jb hb,.slice fc jc hc] 27)):=(Below.refl _ _).alloc (Nat.le_refl _) _
 obtain ⟨w5,hw5⟩ : ∃ w5,w5 = w4.alloc (.cells #[.int .i64 0,.slice fa ja ha,.slice fb jb hb,.slice fc jc hc] 27):=⟨_,rfl⟩
 rw [← hw5] at kal4
 have V5:=Lib.hid (V4.out.below kal4)
 have K5:=Lib.hid (K4.out.trans (kal4.mono K4.out.size))
 have K15:=Lib.hid (K14.out.trans (kal4.mono K14.out.size))
 have HW5:=Lib.hid hw5
 have v0 : w4.cell? ⟨w1.heap.size,0,none⟩ = some (.int .i64 2):=V4.out.cell 0
 have v1 : w4.cell? ⟨w1.heap.size,1,none⟩ = some (.slice (some ⟨bL,oL,none⟩) 1 pL):=V4.out.cell 1
 have v2 : w4.cell? ⟨w1.heap.size,2,none⟩ = some (.slice (some ⟨bT,oT,none⟩) 1 pT):=V4.out.cell 2
 have v3 : w4.cell? ⟨w1.heap.size,3,none⟩ = some (.slice (some ⟨bC,oC,none⟩) 1 pC):=V4.out.cell 3
 have vl:=V4.out.lt
 have y2 : w4.cell? ⟨bT,oT + 1,none⟩ = some (.slice rA 2 rc):=(K14.out.cell (p:=⟨_,_,none⟩) L1.out.2.1).trans X1.out.2.1
 have y3 : w4.cell? ⟨bC,oC + 1,none⟩ = some (.slice (some ⟨eB,eo,none⟩) 7 ec):=(K14.out.cell (p:=⟨_,_,none⟩) L1.out.2.2.1).trans X1.out.2.2.1
 have z2:=Nat.lt_of_lt_of_le L1.out.2.1 K14.out.size
 have z3:=Nat.lt_of_lt_of_le L1.out.2.2.1 K14.out.size
 have HBA:=Lib.hid (fun (W : World) (h : Below w1.heap.size w1 W) => pbare_any gsm _ _ _ W (D1.out.below h) gsm_ok)
 clear p4 k4 k34 hal3 kal4 hw5
 go_wp2_with fail
 rw [← HW5.out]
 refine (HBA.out w5 K15.out).mono ?_
 rintro e w6 ⟨a6,b6,c6,rfl,p6,k6⟩
 have D6:=pgD_of_own p6
 obtain ⟨bB,oB,pB,rfl,lB,xB,⟨gb1,gn1,gc1,rfl⟩,gb2,gn2,gc2,rfl⟩:=bsm_cells D6
 have V6:=V5.out.below k6
 have K16:=Lib.hid (K15.out.trans (k6.mono K15.out.size))
 have K6:=Lib.hid (K5.out.trans (k6.mono K5.out.size))
 clear v0 v1 v2 v3 vl y2 y3 z2 z3
 have v0 : w6.cell? ⟨w1.heap.size,0,none⟩ = some (.int .i64 2):=V6.cell 0
 have v1 : w6.cell? ⟨w1.heap.size,1,none⟩ = some (.slice (some ⟨bL,oL,none⟩) 1 pL):=V6.cell 1
 have v2 : w6.cell? ⟨w1.heap.size,2,none⟩ = some (.slice (some ⟨bT,oT,none⟩) 1 pT):=V6.cell 2
 have v3 : w6.cell? ⟨w1.heap.size,3,none⟩ = some (.slice (some ⟨bC,oC,none⟩) 1 pC):=V6.cell 3
 have vl:=V6.lt
 have V6h:=Lib.hid V6
 have y1 : w6.cell? ⟨bL,oL + 2,none⟩ = some (.int .i64 7):=(K16.out.cell (p:=⟨_,_,none⟩) L1.out.1).trans X1.out.1
 have y3 : w6.cell? ⟨bC,oC + 1,none⟩ = some (.slice (some ⟨eB,eo,none⟩) 7 ec):=(K16.out.cell (p:=⟨_,_,none⟩) L1.out.2.2.1).trans X1.out.2.2.1
 have y4 : w6.cell? ⟨eB,eo + 25,none⟩ = some (.int .i64 3):=(K16.out.cell (p:=⟨_,_,none⟩) L1.out.2.2.2).trans X1.out.2.2.2
 have z1:=Nat.lt_of_lt_of_le L1.out.1 K16.out.size
 have z3:=Nat.lt_of_lt_of_le L1.out.2.2.1 K16.out.size
 have z4:=Nat.lt_of_lt_of_le L1.out.2.2.2 K16.out.size
 obtain ⟨w7,hw7⟩ : ∃ w7,w7 = w6.alloc (.cells #[.int .i64 (bareP gsm).mod,.slice (some ⟨bB,oB,none⟩) 1 pB,.slice gb1 gn1 gc1,.slice gb2 gn2 gc2] 27):=⟨_,rfl⟩
 have kal6 : Below w6.heap.size w6 w7:=by rw [hw7]; exact (Below.refl _ _).alloc (Nat.le_refl _) _
 have HW7:=Lib.hid hw7
 have K17:=Lib.hid (K16.out.trans (kal6.mono K16.out.size))
 have K7:=Lib.hid (K6.out.trans (kal6.mono K6.out.size))
 have HSH : Hid (∀ W,Below w7.heap.size w7 W → Calls Tryz.prog 17 #[.agg #[.int .i64 2,.slice (some ⟨bL,oL,none⟩) 1 pL,.slice (some ⟨bT,oT,none⟩) 1 pT,.slice (some ⟨bC,oC,none⟩) 1 pC]] W fun e w' => e = .returned (.string sm) ∧ Below W.heap.size W w'):=by
  refine Lib.hid fun W h => ?_
  have hw:=K7.out.trans (h.mono K7.out.size)
  have:=pshow_yes gsm _ _ _ W (D1.out.below (K17.out.trans (h.mono K17.out.size))) gsm_ok (HF.out.below hw) (HT.out.below hw) (HW.out.below hw) gsm_right (by decide)
  rw [gsm_text,← HSMD.out] at this
  exact this
 have HRI : Hid (∀ W,Below w7.heap.size w7 W → Calls Tryz.prog 14 #[.agg #[.int .i64 2,.slice (some ⟨bL,oL,none⟩) 1 pL,.slice (some ⟨bT,oT,none⟩) 1 pT,.slice (some ⟨bC,oC,none⟩) 1 pC]] W fun e w' => e = .returned (.bool true) ∧ Below W.heap.size W w'):=by
  refine Lib.hid fun W h => ?_
  have hw:=K7.out.trans (h.mono K7.out.size)
  have:=pright_any gsm _ _ _ W (D1.out.below (K17.out.trans (h.mono K17.out.size))) gsm_ok (HF.out.below hw)
  rw [gsm_right] at this
  exact this
 have V7:=Lib.hid (V6.below kal6)
 have KAL:=Lib.hid kal6
 clear p6 D6 k6 V6 hw7 kal6
 go_wp2_with fail
 rw [← HW7.out]
 refine (HSH.out w7 (Below.refl _ _)).mono ?_
 rintro e w8 ⟨rfl,k8⟩
 go_wp2_with fail
 refine (HSM.out _).mono ?_
 rintro e w9 ⟨rfl,rfl⟩
 have V8:=V7.out.below k8
 have s0 : w8.cell? ⟨w1.heap.size,0,none⟩ = some (.int .i64 2):=V8.cell 0
 have s1 : w8.cell? ⟨w1.heap.size,1,none⟩ = some (.slice (some ⟨bL,oL,none⟩) 1 pL):=V8.cell 1
 have s2 : w8.cell? ⟨w1.heap.size,2,none⟩ = some (.slice (some ⟨bT,oT,none⟩) 1 pT):=V8.cell 2
 have s3 : w8.cell? ⟨w1.heap.size,3,none⟩ = some (.slice (some ⟨bC,oC,none⟩) 1 pC):=V8.cell 3
 have s4:=V8.lt
 have K8:=Lib.hid k8
 clear k8 V8
 go_wp2_with fail
 refine (HRI.out w8 K8.out).mono ?_
 rintro e w10 ⟨rfl,k10⟩
 go_wp2
 go_ret
 exact ⟨rfl,K7.out.trans ((K8.out.trans (k10.mono K8.out.size)).mono K7.out.size)⟩
end Go.Proofs.YtcghccjnadagcaaGreatDoor
