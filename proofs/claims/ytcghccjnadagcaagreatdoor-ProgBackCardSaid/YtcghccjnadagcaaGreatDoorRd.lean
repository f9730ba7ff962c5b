/- Facts. -/
import Derived.Test.YtcghccjnadagcaaGreatDoorTa
import Derived.Test.YtcghccjnadagcaaGreatDoorRf
import Derived.Deep.RegionWith
import Derived.Deep.RegionHeld3
set_option maxRecDepth 100000
set_option maxHeartbeats 32000000
namespace Go.Proofs.YtcghccjnadagcaaGreatDoor
open Go.RowKit
theorem named_of (l : List Tok) (b : Nat) (lv : Value) (i d : Nat) (w : World) (hp : Pst w b lv i d 0 0) (hx : PCtx l b lv w) (hlt : i + 3 ≤ l.length) (hdot : sgAt l (i + 1) [46] = true) (hnm : nmAt l (i + 2) = true) :
  Calls Tryz.prog 248 #[.pointer (some ⟨b,0,none⟩)] w (PPost l lv b d i (namedR l i) w):=by
 have hr : namedR l i = .ok (.leaf ⟨4,0,txt l (i + 2),txt l i,plc l i⟩) (i + 3):=by unfold namedR; rw [hdot,hnm]; rfl
 rw [hr]; clear hr
 have hb:=hp.lt
 have hn:=hx.hn
 have HP:=Lib.hid hp
 have HX:=Lib.hid hx
 have hrb : w.heap.size ≠ b:=by omega
 have HDOT:=Lib.hid hdot
 have HNM:=Lib.hid hnm
 obtain ⟨⟨c0,c1,c2,c3,c4⟩,f1,f2,f3,f4⟩:=hp.facts
 clear hp hx hdot hnm
 go_enter Tryz.func248,Tryz.ntmps248
 go_wp2_with fail
 have hK1 : Keep b w (w.alloc (.cells #[.slice none 0 0,.int .i64 0,.int .i64 0] 201)):=(Keep.refl b w).alloc _
 have hP1 : Pst (w.alloc (.cells #[.slice none 0 0,.int .i64 0,.int .i64 0] 201)) b lv i d 0 0:=HP.out.alloc _
 have hR1 : Blk3 (w.alloc (.cells #[.slice none 0 0,.int .i64 0,.int .i64 0] 201)) w.heap.size (.slice none 0 0) (.int .i64 0) (.int .i64 0):=heap_alloc_new w _
 generalize (w.alloc (.cells #[.slice none 0 0,.int .i64 0,.int .i64 0] 201)) = w1 at hK1 hP1 hR1 ⊢
 refine ((HX.out.keep hK1).token hP1).mono ?_
 rintro e w2 ⟨rfl,hb2⟩
 have HK2:=Lib.hid (hK1.below hb2)
 have HP2:=Lib.hid (hP1.below hb2)
 have HR2:=Lib.hid (hR1.below hb2)
 obtain ⟨tk,htk⟩ : ∃ t,t = (tokO l i).1:=⟨_,rfl⟩
 obtain ⟨tn,htn⟩ : ∃ t,t = (tokO l i).2.2.1:=⟨_,rfl⟩
 obtain ⟨tx,htx⟩ : ∃ t,t = txt l i:=⟨_,rfl⟩
 obtain ⟨tp,htp⟩ : ∃ t,t = plc l i:=⟨_,rfl⟩
 rw [← htk,← htn,← htx,← htp]
 have hb2' : b < w2.heap.size:=HP2.out.lt
 have HTX:=Lib.hid htx
 have HTP:=Lib.hid htp
 clear hK1 hP1 hR1 hb2 c0 c1 c2 c3 c4 f1 f2 f3 f4 htk htn htx htp
 obtain ⟨⟨c0,c1,c2,c3,c4⟩,f1,f2,f3,f4⟩:=HP2.out.facts
 go_wp2_with fail
 have HK3:=Lib.hid ((HK2.out.setCell 1 (.int .i64 ((i : Int) + 1))).alloc (.cells #[.int .i64 tk,.string tx,.int .i64 tn,.int .i64 tp] 62))
 have HP3 : Hid (Pst ((w2.setCell ⟨b,1,none⟩ (.int .i64 ((i : Int) + 1))).alloc (.cells #[.int .i64 tk,.string tx,.int .i64 tn,.int .i64 tp] 62)) b lv ((i + 1 : Nat) : Int) d 0 0):=((HP2.out.set.1 ((i + 1 : Nat) : Int)).alloc _)
 have HR3:=Lib.hid ((HR2.out.other b 1 hrb (.int .i64 ((i : Int) + 1))).alloc (.cells #[.int .i64 tk,.string tx,.int .i64 tn,.int .i64 tp] 62))
 have HT3 : Hid (Blk4 ((w2.setCell ⟨b,1,none⟩ (.int .i64 ((i : Int) + 1))).alloc (.cells #[.int .i64 tk,.string tx,.int .i64 tn,.int .i64 tp] 62)) w2.heap.size (.int .i64 tk) (.string tx) (.int .i64 tn) (.int .i64 tp)):=blk_new_set w2 _ _ _
 have hgr : w.heap.size < w2.heap.size:=HR2.out.lt
 clear HP2 HR2 HK2 c0 c1 c2 c3 c4 f1 f2 f3 f4
 generalize ((w2.setCell ⟨b,1,none⟩ (.int .i64 ((i : Int) + 1))).alloc (.cells #[.int .i64 tk,.string tx,.int .i64 tn,.int .i64 tp] 62)) = w3 at HK3 HP3 HR3 HT3 ⊢
 obtain ⟨g,hg⟩ : ∃ g,g = w2.heap.size:=⟨_,rfl⟩
 rw [← hg] at hb2' HT3 hgr ⊢
 clear hg
 have hgb : g ≠ b:=by omega
 refine ((HX.out.keep HK3.out).sign HP3.out _ true HDOT.out).mono ?_
 rintro e w4 ⟨rfl,hb4⟩
 have HK4:=Lib.hid (HK3.out.below hb4)
 have HP4:=Lib.hid (HP3.out.below hb4)
 have HR4:=Lib.hid (HR3.out.below hb4)
 have HT4:=Lib.hid (HT3.out.below hb4 HT3.out.lt)
 have hb4' : b < w4.heap.size:=HP4.out.lt
 obtain ⟨⟨c0,c1,c2,c3,c4⟩,f1,f2,f3,f4⟩:=HP4.out.facts
 clear HK3 HP3 HR3 HT3 hb4
 have e1 : (((i + 1 : Nat) : Int)) = (i : Int) + 1:=Int.natCast_add _ _
 rw [e1] at c1
 clear e1
 go_wp2_with fail
 have e2 : (i : Int) + 1 + 1 = ((i + 2 : Nat) : Int):=by omega
 rw [e2]
 clear e2
 have HK5:=Lib.hid (HK4.out.setCell 1 (.int .i64 ((i + 2 : Nat) : Int)))
 have HP5:=Lib.hid (HP4.out.set.1 ((i + 2 : Nat) : Int))
 have HR5:=Lib.hid (HR4.out.other b 1 hrb (.int .i64 ((i + 2 : Nat) : Int)))
 have HT5 : Hid (Blk4 (w4.setCell ⟨b,1,none⟩ (.int .i64 ((i + 2 : Nat) : Int))) g (.int .i64 tk) (.string tx) (.int .i64 tn) (.int .i64 tp)):=by
  show _ = _
  rw [Below.heap_setCell _ _ _ _ (by exact hgb)]; exact HT4.out
 clear HK4 HP4 HR4 HT4 c0 c1 c2 c3 c4 f1 f2 f3 f4 hb4'
 generalize w4.setCell ⟨b,1,none⟩ (.int .i64 ((i + 2 : Nat) : Int)) = w5 at HK5 HP5 HR5 HT5 ⊢
 refine ((HX.out.keep HK5.out).name HP5.out true HNM.out).mono ?_
 rintro e w6 ⟨rfl,hb6⟩
 have HK6:=Lib.hid (HK5.out.below hb6)
 have HP6:=Lib.hid (HP5.out.below hb6)
 have HR6:=Lib.hid (HR5.out.below hb6)
 have HT6:=Lib.hid (HT5.out.below hb6 HT5.out.lt)
 clear HK5 HP5 HR5 HT5 hb6
 have HTOK:=fun w' (hk : Keep b w w') (hp : Pst w' b lv ((i + 2 : Nat) : Int) d 0 0) => (HX.out.keep hk).token hp
 obtain ⟨yk,hyk⟩ : ∃ t,t = (tokO l (i + 2)).1:=⟨_,rfl⟩
 obtain ⟨yn,hyn⟩ : ∃ t,t = (tokO l (i + 2)).2.2.1:=⟨_,rfl⟩
 obtain ⟨yx,hyx⟩ : ∃ t,t = txt l (i + 2):=⟨_,rfl⟩
 obtain ⟨yp,hyp⟩ : ∃ t,t = plc l (i + 2):=⟨_,rfl⟩
 rw [← hyk,← hyn,← hyx,← hyp] at HTOK
 have HYX:=Lib.hid hyx
 clear hyk hyn hyx hyp
 obtain ⟨⟨t0,t1,t2,t3⟩,tf0,tf1,tf2,tf3⟩:=HT6.out.facts
 go_wp2_with fail
 have HTK : ∀ w',Keep b w w' → Pst w' b lv ((i + 2 : Nat) : Int) d 0 0 → Calls Tryz.prog 242 #[.pointer (some ⟨b,0,none⟩)] w' fun e w'' => e = .returned (.agg #[.int .i64 yk,.string yx,.int .i64 yn,.int .i64 yp]) ∧ Below w'.heap.size w' w'':=HTOK
 have HTK2:=Lib.hid HTK
 clear HTOK HTK
 have hgl6 : g < w6.heap.size:=HT6.out.lt
 have hfd : ∀ w : World,(Instr.field 62 (.agg #[.int .i64 yk,.string yx,.int .i64 yn,.int .i64 yp]) 1).run Tryz.prog w = .ok (.string yx) w:=fun _ => by kernel_rfl
 go_cut [4] (fun s4 wx => ∃ gB : Nat,s4 = .pointer (some ⟨gB,0,none⟩) ∧ Blk5 wx gB ⟨4,0,yx,tx,tp⟩ ∧ gB ≠ b ∧ Keep b w wx ∧ Pst wx b lv ((i + 2 : Nat) : Int) d 0 0 ∧ Blk3 wx w.heap.size (.slice none 0 0) (.int .i64 0) (.int .i64 0))
 case first =>
  have hgb6 : w6.heap.size ≠ b:=by have:=HP6.out.lt; omega
  go_region_with (go_at_call 242; refine (HTK2.out _ (by first | exact HK6.out.drewN 1 | exact (HK6.out.alloc _).drewN 1 | exact (HK6.out.drewN 1).alloc _) (by first | exact HP6.out | exact HP6.out.alloc _ | exact (HP6.out.drewN 1).alloc _)).mono ?_; rintro e w7 ⟨rfl,hb7⟩; have hb67 : Below w6.heap.size w6 w7:=(by first | exact ((Below.refl _ w6).drew).trans hb7 | exact (((Below.refl _ w6).alloc (Nat.le_refl _) _).drew).trans (hb7.mono (by simp)) | exact (((Below.refl _ w6).drew).alloc (Nat.le_refl _) _).trans (hb7.mono (by simp))); have hgl7 : g < w7.heap.size:=Nat.lt_of_lt_of_le hgl6 hb67.size; have t1':=(hb67.cell (p:=⟨g,1,none⟩) hgl6).trans t1; have t3':=(hb67.cell (p:=⟨g,3,none⟩) hgl6).trans t3; try (have hnb : Blk5 w7 w6.heap.size ⟨0,0,⟨#[]⟩,⟨#[]⟩,0⟩:=(hb7.block w6.heap.size (by simp)).trans (heap_alloc_new w6 _); obtain ⟨⟨n0,n1,n2,n3,n4⟩,nf0,nf1,nf2,nf3,nf4⟩:=hnb.facts))
  all_goals
   go_wp2_with fail
   go_meet
   first
    | exact fin5 hnb hgb6 (by have:=HR6.out.lt; omega) (HK6.out.below hb67) (HP6.out.below hb67) (HR6.out.below hb67) HK6.out.size _ _ _ _ _
    | exact ⟨w7.heap.size,rfl,heap_alloc_new w7 _,by have:=(HP6.out.below hb67).lt; omega,(HK6.out.below hb67).alloc _,(HP6.out.below hb67).alloc _,(HR6.out.below hb67).alloc _⟩
 case rest =>
  obtain ⟨gB,rfl,hB,hgB,hKc,hPc,hRc⟩:=hcut
  have HBc:=Lib.hid hB
  have HKc:=Lib.hid hKc
  have HPc:=Lib.hid hPc
  have HRc:=Lib.hid hRc
  obtain ⟨⟨n0,n1,n2,n3,n4⟩,nf0,nf1,nf2,nf3,nf4⟩:=hB.facts
  obtain ⟨⟨c0,c1,c2,c3,c4⟩,f1,f2,f3,f4⟩:=hPc.facts
  have hbc : b < wc.heap.size:=hPc.lt
  have hgc : gB < wc.heap.size:=hB.lt
  clear hB hKc hPc hRc
  simp only [] at n0 n1 n2 n3 n4
  have e1 : (((i + 2 : Nat) : Int)) = (i : Int) + 2:=Int.natCast_add _ _
  rw [e1] at c1
  clear e1
  have HJ:=Lib.hid (join0 ⟨4,0,yx,tx,tp⟩ (b + 1) (wc.setCell ⟨b,1,none⟩ (.int .i64 ((i : Int) + 3))) (by rw [size_set]; omega))
  simp only [nodeV] at HJ
  go_wp2_with fail
  refine HJ.out.mono ?_
  rintro e w8 ⟨⟨pad,pcap,ps,pd,pxs⟩,rfl,ho7,hl1,hl2,hs7,hd7,hx7,hb8⟩
  have HIN : Hid (PtIn w8 (b + 1) ⟨pad,pcap,ps,pd,pxs⟩ (i + 3 - i)):=⟨ho7,hl1,hl2,by simp only [] at hs7 ⊢; omega,by simp only [] at hd7 ⊢; omega,by simp only [] at hd7 hs7 ⊢; omega⟩
  have HRES : Hid (ResOK (.ok (.leaf ⟨4,0,yx,tx,tp⟩) (i + 3)) ⟨pad,pcap,ps,pd,pxs⟩ (i + 3) 0 0):=ResOK_leaf _ _ _ hs7 hd7 hx7
  have HK8:=Lib.hid ((HKc.out.setCell 1 (.int .i64 ((i : Int) + 3))).below hb8)
  have HP8 : Hid (Pst w8 b lv ((i + 3 : Nat) : Int) d 0 0):=(HPc.out.set.1 ((i + 3 : Nat) : Int)).below hb8
  have HR8:=Lib.hid ((HRc.out.other b 1 hrb (.int .i64 ((i : Int) + 3))).below hb8)
  obtain ⟨⟨r0,r1,r2⟩,rf0,rf1,rf2⟩:=HR8.out.facts
  clear ho7 hl1 hl2 hs7 hd7 hx7 hb8 HKc HPc HRc HBc HJ n0 n1 n2 n3 n4 nf0 nf1 nf2 nf3 nf4 c0 c1 c2 c3 c4 f1 f2 f3 f4
  simp only [PtR.nv]
  obtain ⟨m,hm⟩ : ∃ m,m = pxs.length:=⟨_,rfl⟩
  rw [← hm]
  have HM:=Lib.hid hm
  clear hm
  go_wp2_with fail
  obtain ⟨z1,z2,z3,z4⟩:=fin_part HP8.out HR8.out hrb HIN.out HK8.out (Nat.le_refl _) (.slice pad m pcap) (.int .i64 ps) (.int .i64 pd)
  refine bodyPost_ret (v:=.agg #[.slice pad m pcap,.int .i64 ps,.int .i64 pd]) (results_part Tryz.results248 _ _ w.heap.size _ _ _ rfl z4) rfl ?_
  rw [HTX.out,HTP.out,HYX.out] at HRES
  exact ⟨⟨pad,pcap,ps,pd,pxs⟩,i + 3,0,0,by rw [HM.out]; rfl,z1,z2.more (Nat.le_add_right _ _),by omega,by omega,z3,HRES.out,fun _ => rfl⟩
theorem intsB_new (w : World) (b : Nat) (hb : b < w.heap.size) (os : List Nat) (cs : Array Value) (hc : cs = (os.map fun o => Value.int .i64 (o : Nat)).toArray) : IntsB (w.alloc (.cells cs 3)) b (.slice (some ⟨w.heap.size,0,none⟩) os.length os.length) os:=by
 have h : (w.alloc (.cells cs 3)).heap[w.heap.size]? = _:=heap_alloc_new w _
 refine ⟨w.heap.size,os.length,rfl,by simp,by omega,fun i hi => ?_⟩
 unfold World.cell?
 simp only [h]
 subst hc
 simp [hi]
theorem nested_deepF (F : Nat) (l : List Tok) (b : Nat) (lv : Value) (i : Nat) (w : World) (hp : Pst w b lv i 30 0 0) (ht : TokS w b lv l) (hlt : i < l.length) :
  Calls Tryz.prog 245 #[.pointer (some ⟨b,0,none⟩),.func (.func F) #[] #[]] w (FailTo b lv i 30 ((7 : Nat) : Int) (plc l i) w):=by
 rw [plc_in l i hlt]
 obtain ⟨ad,cap,rfl,hc⟩:=ht
 obtain ⟨⟨c0,c1,c2,_,_⟩,_⟩:=hp.facts
 have hb:=hp.lt
 obtain ⟨g,rfl,hg1,hg2,k0,k1,k2,k3⟩:=hc i hlt
 obtain ⟨tp,htp⟩ : ∃ t,t = l[i].2.2.2:=⟨_,rfl⟩
 rw [← htp] at k3 ⊢
 clear k0 k1 k2
 obtain ⟨n,hN⟩ : ∃ n,n = l.length:=⟨_,rfl⟩
 rw [← hN] at c0 hp ⊢
 have hlt' : i < n:=by omega
 have HF : ∀ w',Pst w' b (.slice (some ⟨g,0,none⟩) n cap) i 30 0 0 → Calls Tryz.prog 249 #[.pointer (some ⟨b,0,none⟩),.int .i64 7,.int .i64 tp] w' (FailTo b (.slice (some ⟨g,0,none⟩) n cap) i 30 7 tp w'):=fun w' hp' => fail_first _ _ _ _ _ _ _ hp'
 have HP : Hid (Pst w b (.slice (some ⟨g,0,none⟩) n cap) i 30 0 0):=hp
 have hrb : w.heap.size ≠ b:=by omega
 clear hN hc htp hlt hp
 go_enter Tryz.func245,Tryz.ntmps245
 go_wp2
 have hK1 : Keep b w (w.alloc (.cells #[.slice none 0 0,.int .i64 0,.int .i64 0] 201)):=(Keep.refl b w).alloc _
 have hR1 : Blk3 (w.alloc (.cells #[.slice none 0 0,.int .i64 0,.int .i64 0] 201)) w.heap.size (.slice none 0 0) (.int .i64 0) (.int .i64 0):=heap_alloc_new w _
 have hP1 : Pst (w.alloc (.cells #[.slice none 0 0,.int .i64 0,.int .i64 0] 201)) b (.slice (some ⟨g,0,none⟩) n cap) i 30 0 0:=HP.out.alloc _
 generalize (w.alloc (.cells #[.slice none 0 0,.int .i64 0,.int .i64 0] 201)) = w1 at hK1 hR1 hP1 ⊢
 have k3' : w1.cell? ⟨g,i * 4 + 3,none⟩ = some (.int .i64 tp):=(hK1.cell (p:=⟨g,_,none⟩) hg1 hg2).trans k3
 obtain ⟨⟨d0,d1,_,_,_⟩,_⟩:=hP1.facts
 have HP1:=Lib.hid hP1
 have HR1:=Lib.hid hR1
 clear hP1 hR1 c0 c1 c2 k3
 go_still_tail 12,(by kernel_rfl)
 change wpList _ _ _ _ _ w1.drew
 have hK2 : Keep b w w1.drew:=hK1.drewN 1
 have HP2 : Hid (Pst w1.drew b (.slice (some ⟨g,0,none⟩) n cap) i 30 0 0):=HP1.out
 have HR2 : Hid (Blk3 w1.drew w.heap.size (.slice none 0 0) (.int .i64 0) (.int .i64 0)):=HR1.out
 clear hK1 HP1 HR1 k3' d0 d1
 generalize w1.drew = w2 at hK2 HP2 HR2 ⊢
 go_wp2_with fail
 refine (HF _ HP2.out).mono ?_
 rintro e w3 ⟨rfl,hp3,hk3⟩
 obtain ⟨⟨r0,r1,r2⟩,f0,f1,f2⟩:=(HR2.out.keep hk3 hrb).facts
 have HP3:=Lib.hid hp3
 have hK3:=hK2.trans hk3
 clear hp3 hk3
 unfold partZ
 go_wp2
 refine bodyPost_ret (v:=partZ) (by simp [results,Tryz.results245,go_sem,partZ,r0,r1,r2]) rfl ⟨rfl,?_,?_⟩
 ·exact ((HP3.out.other _ _ hrb _).other _ _ hrb _).other _ _ hrb _
 ·exact ((hK3.setNew (Nat.le_refl _) _).setNew (Nat.le_refl _) _).setNew (Nat.le_refl _) _
theorem lv31 (l : List Tok) (b : Nat) (lv : Value) (i d f : Nat) (r : Res) (w : World) (hp : Pst w b lv i d 0 0) (hx : PCtx l b lv w) (hi : i ≤ l.length)
  (hrun : run l (f + 1) (.lv 0) d i = some r)
  (hF : ∀ f' i' r',f' ≤ f → i' ≤ l.length → run l f' (.lv (0 + 1)) d i' = some r' → ∀ W,Pst W b lv i' d 0 0 → PCtx l b lv W → Calls Tryz.prog 230 #[.pointer (some ⟨b,0,none⟩)] W (PPost l lv b d i' r' W)) :
  Calls Tryz.prog 196 #[.pointer (some ⟨b,0,none⟩)] w (PPost l lv b d i r w):=by
 have hb:=hp.lt
 have hrb : w.heap.size ≠ b:=by omega
 obtain ⟨ad,cap,hlv,_⟩:=hx.ht
 subst hlv
 obtain ⟨⟨c0,c1,c2,c3,c4⟩,f1,f2,f3,f4⟩:=hp.facts
 have HP:=Lib.hid hp
 have HX:=Lib.hid hx
 have hn:=hx.hn
 have HRUN:=Lib.hid hrun
 have HF:=Lib.hid hF
 clear hp hx hrun hF
 obtain ⟨n,hN⟩ : ∃ n,n = l.length:=⟨_,rfl⟩
 rw [← hN] at c0
 have HN:=Lib.hid hN
 clear hN
 go_enter Tryz.func196,Tryz.ntmps196
 go_wp2_with fail
 have hK1 : Keep b w (w.alloc (.cells #[.slice none 0 0,.int .i64 0,.int .i64 0] 201)):=(Keep.refl b w).alloc _
 have hP1 : Pst (w.alloc (.cells #[.slice none 0 0,.int .i64 0,.int .i64 0] 201)) b (.slice ad l.length cap) i d 0 0:=HP.out.alloc _
 have hR1 : Blk3 (w.alloc (.cells #[.slice none 0 0,.int .i64 0,.int .i64 0] 201)) w.heap.size (.slice none 0 0) (.int .i64 0) (.int .i64 0):=heap_alloc_new w _
 have hV2:=intsB_new (w.alloc (.cells #[.slice none 0 0,.int .i64 0,.int .i64 0] 201)) b hP1.lt (opsOf 0) #[.int .i64 14] rfl
 have hsz : (w.alloc (.cells #[.slice none 0 0,.int .i64 0,.int .i64 0] 201)).heap.size = w.heap.size + 1:=by simp
 have hK2:=hK1.alloc (.cells #[.int .i64 14] 3)
 have hP2:=hP1.alloc (.cells #[.int .i64 14] 3)
 have hR2:=hR1.alloc (.cells #[.int .i64 14] 3)
 rw [hsz] at hV2
 have hl : (opsOf 0).length = 1:=rfl
 rw [hl] at hV2
 clear hsz hl hK1 hP1 hR1
 generalize ((w.alloc (.cells #[.slice none 0 0,.int .i64 0,.int .i64 0] 201)).alloc (.cells #[.int .i64 14] 3)) = w2 at hK2 hP2 hR2 hV2 ⊢
 rw [HN.out]
 refine (chainN 0 230 (by decide) (fun _ _ => by kernel_rfl) l b (.slice ad l.length cap) _ i d f l.length r w2 hP2 (HX.out.keep hK2) hi hV2 rfl HRUN.out HF.out).mono ?_
 rintro e w3 ⟨⟨pad,pcap,ps,pd,pxs⟩,j,er,pl,rfl,hp3,hin,hij,hjl,hk3,hres,hz⟩
 have HK3:=Lib.hid (hK2.trans hk3)
 have HP3:=Lib.hid hp3
 have HR3:=Lib.hid (hR2.keep hk3 hrb)
 have HIN:=Lib.hid hin
 have HRES:=Lib.hid hres
 have HZ:=Lib.hid hz
 obtain ⟨⟨r0,r1,r2⟩,rf0,rf1,rf2⟩:=HR3.out.facts
 clear hp3 hin hk3 hres hz hK2 hP2 hR2 hV2 c0 c1 c2 c3 c4 f1 f2 f3 f4
 simp only [PtR.nv]
 obtain ⟨m,hm⟩ : ∃ m,m = pxs.length:=⟨_,rfl⟩
 rw [← hm]
 have HM:=Lib.hid hm
 clear hm
 go_wp2_with fail
 obtain ⟨z1,z2,z3,z4⟩:=fin_part HP3.out HR3.out hrb HIN.out HK3.out (Nat.le_refl _) (.slice pad m pcap) (.int .i64 ps) (.int .i64 pd)
 refine bodyPost_ret (v:=.agg #[.slice pad m pcap,.int .i64 ps,.int .i64 pd]) (results_part Tryz.results196 _ _ w.heap.size _ _ _ rfl z4) rfl ?_
 exact ⟨⟨pad,pcap,ps,pd,pxs⟩,j,er,pl,by rw [HM.out]; rfl,z1,z2,hij,hjl,z3,HRES.out,HZ.out⟩
theorem lv44 (l : List Tok) (b : Nat) (lv : Value) (i d f : Nat) (r : Res) (w : World) (hp : Pst w b lv i d 0 0) (hx : PCtx l b lv w) (hi : i ≤ l.length)
  (hrun : run l (f + 1) (.lv 1) d i = some r)
  (hF : ∀ f' i' r',f' ≤ f → i' ≤ l.length → run l f' (.lv (1 + 1)) d i' = some r' → ∀ W,Pst W b lv i' d 0 0 → PCtx l b lv W → Calls Tryz.prog 239 #[.pointer (some ⟨b,0,none⟩)] W (PPost l lv b d i' r' W)) :
  Calls Tryz.prog 230 #[.pointer (some ⟨b,0,none⟩)] w (PPost l lv b d i r w):=by
 have hb:=hp.lt
 have hrb : w.heap.size ≠ b:=by omega
 obtain ⟨ad,cap,hlv,_⟩:=hx.ht
 subst hlv
 obtain ⟨⟨c0,c1,c2,c3,c4⟩,f1,f2,f3,f4⟩:=hp.facts
 have HP:=Lib.hid hp
 have HX:=Lib.hid hx
 have hn:=hx.hn
 have HRUN:=Lib.hid hrun
 have HF:=Lib.hid hF
 clear hp hx hrun hF
 obtain ⟨n,hN⟩ : ∃ n,n = l.length:=⟨_,rfl⟩
 rw [← hN] at c0
 have HN:=Lib.hid hN
 clear hN
 go_enter Tryz.func230,Tryz.ntmps230
 go_wp2_with fail
 have hK1 : Keep b w (w.alloc (.cells #[.slice none 0 0,.int .i64 0,.int .i64 0] 201)):=(Keep.refl b w).alloc _
 have hP1 : Pst (w.alloc (.cells #[.slice none 0 0,.int .i64 0,.int .i64 0] 201)) b (.slice ad l.length cap) i d 0 0:=HP.out.alloc _
 have hR1 : Blk3 (w.alloc (.cells #[.slice none 0 0,.int .i64 0,.int .i64 0] 201)) w.heap.size (.slice none 0 0) (.int .i64 0) (.int .i64 0):=heap_alloc_new w _
 have hV2:=intsB_new (w.alloc (.cells #[.slice none 0 0,.int .i64 0,.int .i64 0] 201)) b hP1.lt (opsOf 1) #[.int .i64 13] rfl
 have hsz : (w.alloc (.cells #[.slice none 0 0,.int .i64 0,.int .i64 0] 201)).heap.size = w.heap.size + 1:=by simp
 have hK2:=hK1.alloc (.cells #[.int .i64 13] 3)
 have hP2:=hP1.alloc (.cells #[.int .i64 13] 3)
 have hR2:=hR1.alloc (.cells #[.int .i64 13] 3)
 rw [hsz] at hV2
 have hl : (opsOf 1).length = 1:=rfl
 rw [hl] at hV2
 clear hsz hl hK1 hP1 hR1
 generalize ((w.alloc (.cells #[.slice none 0 0,.int .i64 0,.int .i64 0] 201)).alloc (.cells #[.int .i64 13] 3)) = w2 at hK2 hP2 hR2 hV2 ⊢
 rw [HN.out]
 refine (chainN 1 239 (by decide) (fun _ _ => by kernel_rfl) l b (.slice ad l.length cap) _ i d f l.length r w2 hP2 (HX.out.keep hK2) hi hV2 rfl HRUN.out HF.out).mono ?_
 rintro e w3 ⟨⟨pad,pcap,ps,pd,pxs⟩,j,er,pl,rfl,hp3,hin,hij,hjl,hk3,hres,hz⟩
 have HK3:=Lib.hid (hK2.trans hk3)
 have HP3:=Lib.hid hp3
 have HR3:=Lib.hid (hR2.keep hk3 hrb)
 have HIN:=Lib.hid hin
 have HRES:=Lib.hid hres
 have HZ:=Lib.hid hz
 obtain ⟨⟨r0,r1,r2⟩,rf0,rf1,rf2⟩:=HR3.out.facts
 clear hp3 hin hk3 hres hz hK2 hP2 hR2 hV2 c0 c1 c2 c3 c4 f1 f2 f3 f4
 simp only [PtR.nv]
 obtain ⟨m,hm⟩ : ∃ m,m = pxs.length:=⟨_,rfl⟩
 rw [← hm]
 have HM:=Lib.hid hm
 clear hm
 go_wp2_with fail
 obtain ⟨z1,z2,z3,z4⟩:=fin_part HP3.out HR3.out hrb HIN.out HK3.out (Nat.le_refl _) (.slice pad m pcap) (.int .i64 ps) (.int .i64 pd)
 refine bodyPost_ret (v:=.agg #[.slice pad m pcap,.int .i64 ps,.int .i64 pd]) (results_part Tryz.results230 _ _ w.heap.size _ _ _ rfl z4) rfl ?_
 exact ⟨⟨pad,pcap,ps,pd,pxs⟩,j,er,pl,by rw [HM.out]; rfl,z1,z2,hij,hjl,z3,HRES.out,HZ.out⟩
theorem lv56 (l : List Tok) (b : Nat) (lv : Value) (i d f : Nat) (r : Res) (w : World) (hp : Pst w b lv i d 0 0) (hx : PCtx l b lv w) (hi : i ≤ l.length)
  (hrun : run l (f + 1) (.lv 2) d i = some r)
  (hF : ∀ f' i' r',f' ≤ f → i' ≤ l.length → run l f' (.lv (2 + 1)) d i' = some r' → ∀ W,Pst W b lv i' d 0 0 → PCtx l b lv W → Calls Tryz.prog 241 #[.pointer (some ⟨b,0,none⟩)] W (PPost l lv b d i' r' W)) :
  Calls Tryz.prog 239 #[.pointer (some ⟨b,0,none⟩)] w (PPost l lv b d i r w):=by
 have hb:=hp.lt
 have hrb : w.heap.size ≠ b:=by omega
 obtain ⟨ad,cap,hlv,_⟩:=hx.ht
 subst hlv
 obtain ⟨⟨c0,c1,c2,c3,c4⟩,f1,f2,f3,f4⟩:=hp.facts
 have HP:=Lib.hid hp
 have HX:=Lib.hid hx
 have hn:=hx.hn
 have HRUN:=Lib.hid hrun
 have HF:=Lib.hid hF
 clear hp hx hrun hF
 obtain ⟨n,hN⟩ : ∃ n,n = l.length:=⟨_,rfl⟩
 rw [← hN] at c0
 have HN:=Lib.hid hN
 clear hN
 go_enter Tryz.func239,Tryz.ntmps239
 go_wp2_with fail
 have hK1 : Keep b w (w.alloc (.cells #[.slice none 0 0,.int .i64 0,.int .i64 0] 201)):=(Keep.refl b w).alloc _
 have hP1 : Pst (w.alloc (.cells #[.slice none 0 0,.int .i64 0,.int .i64 0] 201)) b (.slice ad l.length cap) i d 0 0:=HP.out.alloc _
 have hR1 : Blk3 (w.alloc (.cells #[.slice none 0 0,.int .i64 0,.int .i64 0] 201)) w.heap.size (.slice none 0 0) (.int .i64 0) (.int .i64 0):=heap_alloc_new w _
 have hV2:=intsB_new (w.alloc (.cells #[.slice none 0 0,.int .i64 0,.int .i64 0] 201)) b hP1.lt (opsOf 2) #[.int .i64 9,.int .i64 10,.int .i64 11,.int .i64 12] rfl
 have hsz : (w.alloc (.cells #[.slice none 0 0,.int .i64 0,.int .i64 0] 201)).heap.size = w.heap.size + 1:=by simp
 have hK2:=hK1.alloc (.cells #[.int .i64 9,.int .i64 10,.int .i64 11,.int .i64 12] 3)
 have hP2:=hP1.alloc (.cells #[.int .i64 9,.int .i64 10,.int .i64 11,.int .i64 12] 3)
 have hR2:=hR1.alloc (.cells #[.int .i64 9,.int .i64 10,.int .i64 11,.int .i64 12] 3)
 rw [hsz] at hV2
 have hl : (opsOf 2).length = 4:=rfl
 rw [hl] at hV2
 clear hsz hl hK1 hP1 hR1
 generalize ((w.alloc (.cells #[.slice none 0 0,.int .i64 0,.int .i64 0] 201)).alloc (.cells #[.int .i64 9,.int .i64 10,.int .i64 11,.int .i64 12] 3)) = w2 at hK2 hP2 hR2 hV2 ⊢
 skip
 refine (chain2 l b (.slice ad l.length cap) _ i d f 1 r w2 hP2 (HX.out.keep hK2) hi hV2 rfl HRUN.out HF.out).mono ?_
 rintro e w3 ⟨⟨pad,pcap,ps,pd,pxs⟩,j,er,pl,rfl,hp3,hin,hij,hjl,hk3,hres,hz⟩
 have HK3:=Lib.hid (hK2.trans hk3)
 have HP3:=Lib.hid hp3
 have HR3:=Lib.hid (hR2.keep hk3 hrb)
 have HIN:=Lib.hid hin
 have HRES:=Lib.hid hres
 have HZ:=Lib.hid hz
 obtain ⟨⟨r0,r1,r2⟩,rf0,rf1,rf2⟩:=HR3.out.facts
 clear hp3 hin hk3 hres hz hK2 hP2 hR2 hV2 c0 c1 c2 c3 c4 f1 f2 f3 f4
 simp only [PtR.nv]
 obtain ⟨m,hm⟩ : ∃ m,m = pxs.length:=⟨_,rfl⟩
 rw [← hm]
 have HM:=Lib.hid hm
 clear hm
 go_wp2_with fail
 obtain ⟨z1,z2,z3,z4⟩:=fin_part HP3.out HR3.out hrb HIN.out HK3.out (Nat.le_refl _) (.slice pad m pcap) (.int .i64 ps) (.int .i64 pd)
 refine bodyPost_ret (v:=.agg #[.slice pad m pcap,.int .i64 ps,.int .i64 pd]) (results_part Tryz.results239 _ _ w.heap.size _ _ _ rfl z4) rfl ?_
 exact ⟨⟨pad,pcap,ps,pd,pxs⟩,j,er,pl,by rw [HM.out]; rfl,z1,z2,hij,hjl,z3,HRES.out,HZ.out⟩
theorem lv61 (l : List Tok) (b : Nat) (lv : Value) (i d f : Nat) (r : Res) (w : World) (hp : Pst w b lv i d 0 0) (hx : PCtx l b lv w) (hi : i ≤ l.length)
  (hrun : run l (f + 1) (.lv 3) d i = some r)
  (hF : ∀ f' i' r',f' ≤ f → i' ≤ l.length → run l f' (.lv (3 + 1)) d i' = some r' → ∀ W,Pst W b lv i' d 0 0 → PCtx l b lv W → Calls Tryz.prog 243 #[.pointer (some ⟨b,0,none⟩)] W (PPost l lv b d i' r' W)) :
  Calls Tryz.prog 241 #[.pointer (some ⟨b,0,none⟩)] w (PPost l lv b d i r w):=by
 have hb:=hp.lt
 have hrb : w.heap.size ≠ b:=by omega
 obtain ⟨ad,cap,hlv,_⟩:=hx.ht
 subst hlv
 obtain ⟨⟨c0,c1,c2,c3,c4⟩,f1,f2,f3,f4⟩:=hp.facts
 have HP:=Lib.hid hp
 have HX:=Lib.hid hx
 have hn:=hx.hn
 have HRUN:=Lib.hid hrun
 have HF:=Lib.hid hF
 clear hp hx hrun hF
 obtain ⟨n,hN⟩ : ∃ n,n = l.length:=⟨_,rfl⟩
 rw [← hN] at c0
 have HN:=Lib.hid hN
 clear hN
 go_enter Tryz.func241,Tryz.ntmps241
 go_wp2_with fail
 have hK1 : Keep b w (w.alloc (.cells #[.slice none 0 0,.int .i64 0,.int .i64 0] 201)):=(Keep.refl b w).alloc _
 have hP1 : Pst (w.alloc (.cells #[.slice none 0 0,.int .i64 0,.int .i64 0] 201)) b (.slice ad l.length cap) i d 0 0:=HP.out.alloc _
 have hR1 : Blk3 (w.alloc (.cells #[.slice none 0 0,.int .i64 0,.int .i64 0] 201)) w.heap.size (.slice none 0 0) (.int .i64 0) (.int .i64 0):=heap_alloc_new w _
 have hV2:=intsB_new (w.alloc (.cells #[.slice none 0 0,.int .i64 0,.int .i64 0] 201)) b hP1.lt (opsOf 3) #[.int .i64 6,.int .i64 7] rfl
 have hsz : (w.alloc (.cells #[.slice none 0 0,.int .i64 0,.int .i64 0] 201)).heap.size = w.heap.size + 1:=by simp
 have hK2:=hK1.alloc (.cells #[.int .i64 6,.int .i64 7] 3)
 have hP2:=hP1.alloc (.cells #[.int .i64 6,.int .i64 7] 3)
 have hR2:=hR1.alloc (.cells #[.int .i64 6,.int .i64 7] 3)
 rw [hsz] at hV2
 have hl : (opsOf 3).length = 2:=rfl
 rw [hl] at hV2
 clear hsz hl hK1 hP1 hR1
 generalize ((w.alloc (.cells #[.slice none 0 0,.int .i64 0,.int .i64 0] 201)).alloc (.cells #[.int .i64 6,.int .i64 7] 3)) = w2 at hK2 hP2 hR2 hV2 ⊢
 rw [HN.out]
 refine (chainN 3 243 (by decide) (fun _ _ => by kernel_rfl) l b (.slice ad l.length cap) _ i d f l.length r w2 hP2 (HX.out.keep hK2) hi hV2 rfl HRUN.out HF.out).mono ?_
 rintro e w3 ⟨⟨pad,pcap,ps,pd,pxs⟩,j,er,pl,rfl,hp3,hin,hij,hjl,hk3,hres,hz⟩
 have HK3:=Lib.hid (hK2.trans hk3)
 have HP3:=Lib.hid hp3
 have HR3:=Lib.hid (hR2.keep hk3 hrb)
 have HIN:=Lib.hid hin
 have HRES:=Lib.hid hres
 have HZ:=Lib.hid hz
 obtain ⟨⟨r0,r1,r2⟩,rf0,rf1,rf2⟩:=HR3.out.facts
 clear hp3 hin hk3 hres hz hK2 hP2 hR2 hV2 c0 c1 c2 c3 c4 f1 f2 f3 f4
 simp only [PtR.nv]
 obtain ⟨m,hm⟩ : ∃ m,m = pxs.length:=⟨_,rfl⟩
 rw [← hm]
 have HM:=Lib.hid hm
 clear hm
 go_wp2_with fail
 obtain ⟨z1,z2,z3,z4⟩:=fin_part HP3.out HR3.out hrb HIN.out HK3.out (Nat.le_refl _) (.slice pad m pcap) (.int .i64 ps) (.int .i64 pd)
 refine bodyPost_ret (v:=.agg #[.slice pad m pcap,.int .i64 ps,.int .i64 pd]) (results_part Tryz.results241 _ _ w.heap.size _ _ _ rfl z4) rfl ?_
 exact ⟨⟨pad,pcap,ps,pd,pxs⟩,j,er,pl,by rw [HM.out]; rfl,z1,z2,hij,hjl,z3,HRES.out,HZ.out⟩
theorem lv67 (l : List Tok) (b : Nat) (lv : Value) (i d f : Nat) (r : Res) (w : World) (hp : Pst w b lv i d 0 0) (hx : PCtx l b lv w) (hi : i ≤ l.length)
  (hrun : run l (f + 1) (.lv 4) d i = some r)
  (hF : ∀ f' i' r',f' ≤ f → i' ≤ l.length → run l f' (.lv (4 + 1)) d i' = some r' → ∀ W,Pst W b lv i' d 0 0 → PCtx l b lv W → Calls Tryz.prog 244 #[.pointer (some ⟨b,0,none⟩)] W (PPost l lv b d i' r' W)) :
  Calls Tryz.prog 243 #[.pointer (some ⟨b,0,none⟩)] w (PPost l lv b d i r w):=by
 have hb:=hp.lt
 have hrb : w.heap.size ≠ b:=by omega
 obtain ⟨ad,cap,hlv,_⟩:=hx.ht
 subst hlv
 obtain ⟨⟨c0,c1,c2,c3,c4⟩,f1,f2,f3,f4⟩:=hp.facts
 have HP:=Lib.hid hp
 have HX:=Lib.hid hx
 have hn:=hx.hn
 have HRUN:=Lib.hid hrun
 have HF:=Lib.hid hF
 clear hp hx hrun hF
 obtain ⟨n,hN⟩ : ∃ n,n = l.length:=⟨_,rfl⟩
 rw [← hN] at c0
 have HN:=Lib.hid hN
 clear hN
 go_enter Tryz.func243,Tryz.ntmps243
 go_wp2_with fail
 have hK1 : Keep b w (w.alloc (.cells #[.slice none 0 0,.int .i64 0,.int .i64 0] 201)):=(Keep.refl b w).alloc _
 have hP1 : Pst (w.alloc (.cells #[.slice none 0 0,.int .i64 0,.int .i64 0] 201)) b (.slice ad l.length cap) i d 0 0:=HP.out.alloc _
 have hR1 : Blk3 (w.alloc (.cells #[.slice none 0 0,.int .i64 0,.int .i64 0] 201)) w.heap.size (.slice none 0 0) (.int .i64 0) (.int .i64 0):=heap_alloc_new w _
 have hV2:=intsB_new (w.alloc (.cells #[.slice none 0 0,.int .i64 0,.int .i64 0] 201)) b hP1.lt (opsOf 4) #[.int .i64 8] rfl
 have hsz : (w.alloc (.cells #[.slice none 0 0,.int .i64 0,.int .i64 0] 201)).heap.size = w.heap.size + 1:=by simp
 have hK2:=hK1.alloc (.cells #[.int .i64 8] 3)
 have hP2:=hP1.alloc (.cells #[.int .i64 8] 3)
 have hR2:=hR1.alloc (.cells #[.int .i64 8] 3)
 rw [hsz] at hV2
 have hl : (opsOf 4).length = 1:=rfl
 rw [hl] at hV2
 clear hsz hl hK1 hP1 hR1
 generalize ((w.alloc (.cells #[.slice none 0 0,.int .i64 0,.int .i64 0] 201)).alloc (.cells #[.int .i64 8] 3)) = w2 at hK2 hP2 hR2 hV2 ⊢
 rw [HN.out]
 refine (chainN 4 244 (by decide) (fun _ _ => by kernel_rfl) l b (.slice ad l.length cap) _ i d f l.length r w2 hP2 (HX.out.keep hK2) hi hV2 rfl HRUN.out HF.out).mono ?_
 rintro e w3 ⟨⟨pad,pcap,ps,pd,pxs⟩,j,er,pl,rfl,hp3,hin,hij,hjl,hk3,hres,hz⟩
 have HK3:=Lib.hid (hK2.trans hk3)
 have HP3:=Lib.hid hp3
 have HR3:=Lib.hid (hR2.keep hk3 hrb)
 have HIN:=Lib.hid hin
 have HRES:=Lib.hid hres
 have HZ:=Lib.hid hz
 obtain ⟨⟨r0,r1,r2⟩,rf0,rf1,rf2⟩:=HR3.out.facts
 clear hp3 hin hk3 hres hz hK2 hP2 hR2 hV2 c0 c1 c2 c3 c4 f1 f2 f3 f4
 simp only [PtR.nv]
 obtain ⟨m,hm⟩ : ∃ m,m = pxs.length:=⟨_,rfl⟩
 rw [← hm]
 have HM:=Lib.hid hm
 clear hm
 go_wp2_with fail
 obtain ⟨z1,z2,z3,z4⟩:=fin_part HP3.out HR3.out hrb HIN.out HK3.out (Nat.le_refl _) (.slice pad m pcap) (.int .i64 ps) (.int .i64 pd)
 refine bodyPost_ret (v:=.agg #[.slice pad m pcap,.int .i64 ps,.int .i64 pd]) (results_part Tryz.results243 _ _ w.heap.size _ _ _ rfl z4) rfl ?_
 exact ⟨⟨pad,pcap,ps,pd,pxs⟩,j,er,pl,by rw [HM.out]; rfl,z1,z2,hij,hjl,z3,HRES.out,HZ.out⟩
theorem nested_deepN (F : Nat) (l : List Tok) (b : Nat) (lv : Value) (i : Nat) (w : World) (hp : Pst w b lv i 30 0 0) (ht : TokS w b lv l) (hlt : i < l.length) :
  Calls Tryz.prog 245 #[.pointer (some ⟨b,0,none⟩),.func (.func F) #[] #[]] w (NPost l lv b 30 i (.err 7 (plc l i)) w):=
 (nested_deepF F l b lv i w hp ht hlt).mono fun e w' h => fail_postN h (by omega) (by omega)
def lvF : Nat → Nat
 | 0 => 196
 | 1 => 230
 | 2 => 239
 | 3 => 241
 | 4 => 243
 | _ => 244
theorem nested_lv0 (l : List Tok) (b : Nat) (lv : Value) (i d : Nat) (r : Res) (w : World) (hp : Pst w b lv i d 0 0) (hx : PCtx l b lv w) (hlt : i < l.length) (hd : d ≤ 30)
  (hF : d < 30 → ∀ W,Pst W b lv ((i + 1 : Nat) : Int) ((d + 1 : Nat) : Int) 0 0 → PCtx l b lv W → Calls Tryz.prog 196 #[.pointer (some ⟨b,0,none⟩)] W (PPost l lv b (d + 1) (i + 1) r W)) :
  Calls Tryz.prog 245 #[.pointer (some ⟨b,0,none⟩),.func (.func 196) #[] #[]] w (NPost l lv b d i (if d = 30 then .err 7 (plc l i) else r) w):=by
 by_cases h : d = 30
 ·subst h
  rw [if_pos rfl]
  exact (nested_deepN 196 l b lv i w hp hx.ht hlt)
 ·rw [if_neg h]
  exact (nested_go31 l b lv i d r w hp hx.ht hx.hs hx.h0 (by omega) hx.hn hlt fun W h1 h2 h3 => hF (by omega) W h1 ⟨h2,h3,hx.h0,hx.hn,hx.ok⟩).mono fun e w' h => h.toN
theorem nested_lv5 (l : List Tok) (b : Nat) (lv : Value) (i d : Nat) (r : Res) (w : World) (hp : Pst w b lv i d 0 0) (hx : PCtx l b lv w) (hlt : i < l.length) (hd : d ≤ 30)
  (hF : d < 30 → ∀ W,Pst W b lv ((i + 1 : Nat) : Int) ((d + 1 : Nat) : Int) 0 0 → PCtx l b lv W → Calls Tryz.prog 244 #[.pointer (some ⟨b,0,none⟩)] W (PPost l lv b (d + 1) (i + 1) r W)) :
  Calls Tryz.prog 245 #[.pointer (some ⟨b,0,none⟩),.func (.func 244) #[] #[]] w (NPost l lv b d i (if d = 30 then .err 7 (plc l i) else r) w):=by
 by_cases h : d = 30
 ·subst h
  rw [if_pos rfl]
  exact (nested_deepN 244 l b lv i w hp hx.ht hlt)
 ·rw [if_neg h]
  exact (nested_go73 l b lv i d r w hp hx.ht hx.hs hx.h0 (by omega) hx.hn hlt fun W h1 h2 h3 => hF (by omega) W h1 ⟨h2,h3,hx.h0,hx.hn,hx.ok⟩).mono fun e w' h => h.toN
theorem nmAt_lt {l : List Tok} {i : Nat} (h : nmAt l i = true) : i < l.length:=by
 unfold nmAt tokO at h
 by_cases h1 : i < l.length
 ·exact h1
 ·rw [List.getElem?_eq_none (by omega)] at h; simp at h
theorem named_any (l : List Tok) (b : Nat) (lv : Value) (i d : Nat) (w : World) (hp : Pst w b lv i d 0 0) (hx : PCtx l b lv w) (hlt : i < l.length) : Calls Tryz.prog 248 #[.pointer (some ⟨b,0,none⟩)] w (PPost l lv b d i (namedR l i) w):=by
 cases h : sgAt l (i + 1) [46] with
 | false => exact named_reg l b lv i d w hp hx hlt h
 | true =>
  have:=sgAt_lt h
  cases h2 : nmAt l (i + 2) with
  | false => exact named_bad l b lv i d w hp hx (by omega) h h2
  | true =>
   have:=nmAt_lt h2
   exact named_of l b lv i d w hp hx (by omega) h h2
theorem run_any (l : List Tok) (b : Nat) (lv : Value) : ∀ (f n d i : Nat) (r : Res),n ≤ 5 → d ≤ 30 → i ≤ l.length → run l f (.lv n) d i = some r → ∀ W,Pst W b lv i d 0 0 → PCtx l b lv W → Calls Tryz.prog (lvF n) #[.pointer (some ⟨b,0,none⟩)] W (PPost l lv b d i r W):=by
 intro f
 induction f using Nat.strongRecOn with
 | _ f ih =>
  intro n d i r hn hd hi hr W hp hx
  cases f with
  | zero => cases hr
  | succ f =>
   have hF : ∀ m,m ≤ 5 → ∀ f' i' r',f' ≤ f → i' ≤ l.length → run l f' (.lv m) d i' = some r' → ∀ W,Pst W b lv i' d 0 0 → PCtx l b lv W → Calls Tryz.prog (lvF m) #[.pointer (some ⟨b,0,none⟩)] W (PPost l lv b d i' r' W):=fun m hm f' i' r' h1 h2 h3 W h4 h5 => ih f' (by omega) m d i' r' hm hd h2 h3 W h4 h5
   match n,hn with
   | 0,_ => exact lv31 l b lv i d f r W hp hx hi hr (hF 1 (by omega))
   | 1,_ => exact lv44 l b lv i d f r W hp hx hi hr (hF 2 (by omega))
   | 2,_ => exact lv56 l b lv i d f r W hp hx hi hr (hF 3 (by omega))
   | 3,_ => exact lv61 l b lv i d f r W hp hx hi hr (hF 4 (by omega))
   | 4,_ => exact lv67 l b lv i d f r W hp hx hi hr (hF 5 (by omega))
   | 5,_ =>
    unfold run at hr
    rw [if_pos rfl] at hr
    show Calls Tryz.prog 244 _ _ _
    cases h33 : sgAt l i [33] with
    | true =>
     rw [h33,if_pos rfl] at hr
     have hlt:=sgAt_lt h33
     obtain ⟨r1,hr1,hrun⟩ : ∃ r1,(d < 30 → run l f (.lv 5) (d + 1) (i + 1) = some r1) ∧ r = unR l i (if d = 30 then .err 7 (plc l i) else r1):=by
      by_cases h : d = 30
      ·rw [if_pos h] at hr
       refine ⟨.err 0 0,fun h' => by omega,?_⟩
       rw [if_pos h]; cases hr; rfl
      ·rw [if_neg h] at hr
       cases h1 : run l f (.lv 5) (d + 1) (i + 1) with
       | none => rw [h1] at hr; cases hr
       | some r1 =>
        rw [h1] at hr
        refine ⟨r1,fun _ => rfl,?_⟩
        rw [if_neg h]
        cases r1 <;> (cases hr; rfl)
     rw [hrun]
     exact operand_un l b lv i d _ W hp hx h33 fun W h1 h2 => nested_lv5 l b lv i d r1 W h1 h2 hlt hd fun hd' W h1 h2 => ih f (by omega) 5 (d + 1) (i + 1) r1 (by omega) (by omega) (by omega) (hr1 hd') W h1 h2
    | false =>
     rw [h33,if_neg (by simp)] at hr
     cases h40 : sgAt l i [40] with
     | true =>
      rw [h40,if_pos rfl] at hr
      have hlt:=sgAt_lt h40
      obtain ⟨r1,hr1,hrun⟩ : ∃ r1,(d < 30 → run l f (.lv 0) (d + 1) (i + 1) = some r1) ∧ r = brR l (if d = 30 then .err 7 (plc l i) else r1):=by
       by_cases h : d = 30
       ·rw [if_pos h] at hr
        refine ⟨.err 0 0,fun h' => by omega,?_⟩
        rw [if_pos h]; cases hr; rfl
       ·rw [if_neg h] at hr
        cases h1 : run l f (.lv 0) (d + 1) (i + 1) with
        | none => rw [h1] at hr; cases hr
        | some r1 =>
         rw [h1] at hr
         refine ⟨r1,fun _ => rfl,?_⟩
         rw [if_neg h]
         cases r1 with
         | err k a => cases hr; rfl
         | ok e j =>
          simp only [] at hr
          unfold brR
          simp only []
          by_cases hc : sgAt l j [41] = true
          ·rw [if_pos hc] at hr ⊢; cases hr; rfl
          ·rw [if_neg hc] at hr ⊢; cases hr; rfl
      rw [hrun]
      exact operand_br l b lv i d _ W hp hx h33 h40 fun W h1 h2 => nested_lv0 l b lv i d r1 W h1 h2 hlt hd fun hd' W h1 h2 => ih f (by omega) 0 (d + 1) (i + 1) r1 (by omega) (by omega) (by omega) (hr1 hd') W h1 h2
     | false =>
      rw [h40,if_neg (by simp)] at hr
      cases hnm : nmAt l i with
      | true =>
       rw [hnm,if_pos rfl] at hr
       have hlt:=nmAt_lt hnm
       cases hr
       exact operand_nm l b lv i d _ W hp hx h33 h40 hnm fun W h1 h2 => named_any l b lv i d W h1 h2 hlt
      | false =>
       rw [hnm,if_neg (by simp)] at hr
       cases hnu : nuAt l i with
       | true =>
        rw [hnu,if_pos rfl] at hr
        cases hr
        exact operand_nu l b lv i d W hp hx h33 h40 hnm hnu
       | false =>
        rw [hnu,if_neg (by simp)] at hr
        cases hr
        exact operand_rf l b lv i d W hp hx h33 h40 hnm hnu hi
def finR (l : List Tok) (i : Nat) : Res → Res
 | .err k a => .err k a
 | .ok e j => if 30 < e.depth then .err 7 (plc l i) else if 200 < e.size then .err 2 (plc l i) else .ok e j
theorem finR_ok (l : List Tok) (i : Nat) (e : Ex) (j : Nat) : finR l i (.ok e j) = if 30 < e.depth then .err 7 (plc l i) else if 200 < e.size then .err 2 (plc l i) else .ok e j:=rfl
def ParseAns (B : Nat) (r : Res) (w : World) (e : Ending) (w' : World) : Prop:=match r with
 | .err k a => e = .returned (.tuple #[.slice none 0 0,.int .i64 0,.int .i64 k,.int .i64 a]) ∧ Below w.heap.size w w'
 | .ok x j => ∃ v,e = .returned (.tuple #[v,.int .i64 j,.int .i64 0,.int .i64 0]) ∧ w'.ownsRow B 46 5 v x.flat.length (rowN x.flat) ∧ Below w.heap.size w w'
theorem rowOf_at (l : List Tok) : ∀ i,(h : i < l.length) → (rowOf l)[i * 4]? = some (.int .i64 (l[i]).1) ∧ (rowOf l)[i * 4 + 1]? = some (.string ⟨(l[i]).2.1.toArray⟩) ∧ (rowOf l)[i * 4 + 2]? = some (.int .i64 (l[i]).2.2.1) ∧ (rowOf l)[i * 4 + 3]? = some (.int .i64 (l[i]).2.2.2):=by
 induction l with
 | nil => intro i h; exact absurd h (Nat.not_lt_zero _)
 | cons a l ih =>
  intro i h
  cases i with
  | zero => exact ⟨rfl,rfl,rfl,rfl⟩
  | succ i =>
   have e : ∀ j,(rowOf (a :: l))[(i + 1) * 4 + j]? = (rowOf l)[i * 4 + j]?:=by
    intro j
    show (cellsOf a ++ rowOf l)[(i + 1) * 4 + j]? = _
    rw [List.getElem?_append_right (by simp only [cellsOf,List.length_cons,List.length_nil]; omega)]
    congr 1
    simp only [cellsOf,List.length_cons,List.length_nil]; omega
   have:=ih i (by simpa using h)
   refine ⟨(e 0).trans this.1,(e 1).trans this.2.1,(e 2).trans this.2.2.1,(e 3).trans this.2.2.2⟩
theorem addr_add (g j : Nat) : (⟨g,0,none⟩ : Addr).add j = ⟨g,j,none⟩:=by unfold Addr.add; split <;> simp_all
theorem Ex.size_pos (e : Ex) : 1 ≤ e.size:=by cases e <;> simp [Ex.size]
theorem toks_of_own {w : World} {B : Nat} {v : Value} {l : List Tok} (h : w.ownsRow B 62 4 v l.length (rowOf l)) (b : Nat) (hb : ∀ g,v.ownBlock = some g → g ≠ b) : TokS w b v l:=by
 have hl:=h.lt
 have hc:=@World.ownsRow.cells _ _ _ _ _ _ _ h
 rcases h.2 with ⟨rfl,h0⟩ | ⟨g,cap,cur,rfl,_,hg,_⟩
 ·exact ⟨none,0,by rw [h0],fun i hi => absurd hi (by omega)⟩
 ·refine ⟨_,cap,rfl,fun i hi => ?_⟩
  obtain ⟨r0,r1,r2,r3⟩:=rowOf_at l i hi
  have k0:=hc (g:=g) rfl _ _ r0
  have k1:=hc (g:=g) rfl _ _ r1
  have k2:=hc (g:=g) rfl _ _ r2
  have k3:=hc (g:=g) rfl _ _ r3
  rw [addr_add] at k0 k1 k2 k3
  exact ⟨g,rfl,(hl g rfl).2,hb g rfl,k0,k1,k2,k3⟩
theorem parse_run (l : List Tok) (lv : Value) (i f : Nat) (r : Res) (w : World) (ht : TokS w w.heap.size lv l) (hs : Sgn w) (hn : l.length ≤ 100000) (hok : TokOK l) (hi : i ≤ l.length) (hrun : run l f (.lv 0) 0 i = some r) :
  Calls Tryz.prog 171 #[lv,.int .i64 i] w (ParseAns (w.heap.size + 1) (finR l i r) w):=by
 have HT:=Lib.hid ht
 have HS:=Lib.hid hs
 obtain ⟨ad,cap,hlv,hct⟩:=ht
 subst hlv
 have HCT:=Lib.hid hct
 have HRUN:=Lib.hid hrun
 have h0 : 1 < w.heap.size:=hs.1
 clear hs hct hrun
 obtain ⟨n,hN⟩ : ∃ n,n = l.length:=⟨_,rfl⟩
 have HN:=Lib.hid hN
 obtain ⟨lv,hlv⟩ : ∃ lv : Value,lv = .slice ad l.length cap:=⟨_,rfl⟩
 rw [← hN]
 clear hN
 obtain ⟨R,hR⟩ : ∃ R,R = finR l i r:=⟨_,rfl⟩
 rw [← hR]
 have HRR:=Lib.hid hR
 clear hR
 go_enter Tryz.func171,Tryz.ntmps171
 go_wp2_with fail
 rw [HN.out]
 have hK1 : Below w.heap.size w (w.alloc (.cells #[.slice ad l.length cap,.int .i64 i,.int .i64 0,.int .i64 0,.int .i64 0] 199)):=(Below.refl _ _).alloc (Nat.le_refl _) _
 have hP1 : Pst (w.alloc (.cells #[.slice ad l.length cap,.int .i64 i,.int .i64 0,.int .i64 0,.int .i64 0] 199)) w.heap.size (.slice ad l.length cap) i ((0 : Nat) : Int) 0 0:=heap_alloc_new w _
 have hX1 : PCtx l w.heap.size (.slice ad l.length cap) (w.alloc (.cells #[.slice ad l.length cap,.int .i64 i,.int .i64 0,.int .i64 0,.int .i64 0] 199)):=⟨HT.out.keep (Below.keep hK1),HS.out.below hK1,h0,hn,hok⟩
 generalize (w.alloc (.cells #[.slice ad l.length cap,.int .i64 i,.int .i64 0,.int .i64 0,.int .i64 0] 199)) = w1 at hK1 hP1 hX1 ⊢
 refine (run_any l w.heap.size (.slice ad l.length cap) f 0 0 i r (by omega) (by omega) hi HRUN.out w1 hP1 hX1).mono ?_
 rintro e w2 ⟨⟨pad,pcap,ps,pd,pxs⟩,j,er,pl,rfl,hp2,hin,hij,hjl,hk2,hres,hz⟩
 have HB2 : Hid (Below w.heap.size w w2):=hK1.trans (hk2.under (Nat.le_of_lt hP1.lt))
 have HP2:=Lib.hid hp2
 have HIN:=Lib.hid hin
 have HRES:=Lib.hid hres
 have hb2 : w.heap.size < w2.heap.size:=hp2.lt
 obtain ⟨⟨c0,c1,c2,c3,c4⟩,f1,f2,f3,f4⟩:=hp2.facts
 clear hp2 hin hk2 hres hz hP1 hX1 hK1
 simp only [PtR.nv]
 cases r with
 | err k a =>
  obtain ⟨rfl,rfl,hk⟩:=HRES.out
  have q1 : ((k : Int) != 0) = true:=by simp; omega
  have hRe : R = .err k a:=HRR.out
  subst hRe
  go_wp2
  go_quiet (fail)
  go_wp2
  refine bodyPost_ret (v:=.tuple #[.slice none 0 0,.int .i64 0,.int .i64 k,.int .i64 a]) (by simp [results,Tryz.results171,go_sem]) rfl ⟨rfl,?_⟩
  exact below_drewN (HB2.out.alloc (Nat.le_of_lt hb2) _) _
 | ok x j0 =>
  obtain ⟨rfl,rfl,rfl,h4,h5,h6⟩:=HRES.out
  obtain ⟨ho,hi1,hi2,hi3,hi4,hi5⟩:=HIN.out
  have hsp:=x.size_pos
  have hz : slack 0 = 0:=rfl
  simp only [] at h4 h5 h6 ho hi1 hi2 hi3 hi4 hi5
  have hlt : i < l.length:=by omega
  obtain ⟨g,hg0,hg1,hg2,_,_,_,k3⟩:=HCT.out i hlt
  subst hg0
  obtain ⟨tp,htp⟩ : ∃ t,t = l[i].2.2.2:=⟨_,rfl⟩
  have HTP : Hid (tp = plc l i):=by rw [plc_in l i hlt]; exact htp
  rw [← htp] at k3
  have k3' : w2.cell? ⟨g,i * 4 + 3,none⟩ = some (.int .i64 tp):=(HB2.out.cell (p:=⟨g,_,none⟩) hg1).trans k3
  have hg2' : g < w2.heap.size:=Nat.lt_of_lt_of_le hg1 HB2.out.size
  have HO:=Lib.hid ho
  have H6:=Lib.hid h6
  have hb3 : w.heap.size ≤ w2.heap.size:=Nat.le_of_lt hb2
  have hlt2 : i < l.length:=hlt
  clear htp k3 ho h6 HP2 hz
  by_cases hd : 30 < pd
  ·have hRe : R = .err 7 tp:=by rw [HRR.out,finR_ok,if_pos (by omega),HTP.out]
   subst hRe
   go_wp2
   go_quiet (fail)
   go_wp2
   refine bodyPost_ret (v:=.tuple #[.slice none 0 0,.int .i64 0,.int .i64 7,.int .i64 tp]) (by simp [results,Tryz.results171,go_sem]) rfl ⟨rfl,?_⟩
   exact below_drewN (HB2.out.alloc hb3 _) _
  ·by_cases hsz : 200 < ps
   ·have hRe : R = .err 2 tp:=by rw [HRR.out,finR_ok,if_neg (by omega),if_pos (by omega),HTP.out]
    subst hRe
    go_wp2
    go_quiet (fail)
    go_wp2
    refine bodyPost_ret (v:=.tuple #[.slice none 0 0,.int .i64 0,.int .i64 2,.int .i64 tp]) (by simp [results,Tryz.results171,go_sem]) rfl ⟨rfl,?_⟩
    exact below_drewN (HB2.out.alloc hb3 _) _
   ·have hRe : R = .ok x j:=by rw [HRR.out,finR_ok,if_neg (by omega),if_neg (by omega)]
    subst hRe
    have hxs:=H6.out ⟨by omega,by omega⟩
    subst hxs
    obtain ⟨m,hm⟩ : ∃ m,m = x.flat.length:=⟨_,rfl⟩
    rw [← hm]
    have HM:=Lib.hid hm
    clear hm
    go_wp2
    go_quiet (fail)
    go_wp2
    refine bodyPost_ret (v:=.tuple #[.slice pad m pcap,.int .i64 j,.int .i64 0,.int .i64 0]) (by simp [results,Tryz.results171,go_sem]) rfl ⟨.slice pad m pcap,rfl,?_,?_⟩
    ·rw [HM.out]
     exact own_below HO.out (below_drewN ((Below.refl _ _).alloc (Nat.le_refl _) _) _)
    ·exact below_drewN (HB2.out.alloc hb3 _) _
def need (L : Nat) : Cmd → Nat → Nat
 | .lv n,i => 7 * (L - i) + (6 - n)
 | .more _ _,i => 7 * (L - i) + 1
def farR (L i : Nat) : Cmd → Res → Prop
 | _,.err _ _ => True
 | .lv _,.ok _ j => i < j ∧ j ≤ L
 | .more _ _,.ok _ j => i ≤ j ∧ j ≤ L
theorem refR_far (l : List Tok) (i k : Nat) (c : Cmd) : farR l.length k c (refR l i):=by cases c <;> exact trivial
theorem run_total (l : List Tok) : ∀ (f : Nat) (c : Cmd) (d i : Nat),i ≤ l.length → (∀ n,c = .lv n → n ≤ 5) → (∀ n e,c = .more n e → n < 5) → need l.length c i ≤ f → ∃ r,run l f c d i = some r ∧ farR l.length i c r:=by
 intro f
 induction f with
 | zero =>
  intro c d i _ hc1 _ h
  cases c with
  | lv n => have:=hc1 n rfl; simp only [need] at h; omega
  | more n e => simp only [need] at h; omega
 | succ f ih =>
  intro c d i hi hc1 hc2 hneed
  cases c with
  | lv n =>
   have hn:=hc1 n rfl
   simp only [need] at hneed
   unfold run
   by_cases h5 : n = 5
   ·rw [if_pos h5]
    subst h5
    cases h33 : sgAt l i [33] with
    | true =>
     rw [if_pos rfl]
     have hlt:=sgAt_lt h33
     by_cases hd : d = 30
     ·rw [if_pos hd]; exact ⟨_,rfl,trivial⟩
     ·rw [if_neg hd]
      obtain ⟨r,hr,hf⟩:=ih (.lv 5) (d + 1) (i + 1) (by omega) (fun n h => by cases h; omega) (fun n e h => by cases h) (by simp only [need]; omega)
      rw [hr]
      cases r with
      | err k a => exact ⟨_,rfl,trivial⟩
      | ok e j => exact ⟨_,rfl,by have:=hf.1; omega,hf.2⟩
    | false =>
     rw [if_neg (by simp)]
     cases h40 : sgAt l i [40] with
     | true =>
      rw [if_pos rfl]
      have hlt:=sgAt_lt h40
      by_cases hd : d = 30
      ·rw [if_pos hd]; exact ⟨_,rfl,trivial⟩
      ·rw [if_neg hd]
       obtain ⟨r,hr,hf⟩:=ih (.lv 0) (d + 1) (i + 1) (by omega) (fun n h => by cases h; omega) (fun n e h => by cases h) (by simp only [need]; omega)
       rw [hr]
       cases r with
       | err k a => exact ⟨_,rfl,trivial⟩
       | ok e j =>
        simp only []
        by_cases hc : sgAt l j [41] = true
        ·rw [if_pos hc]
         have:=sgAt_lt hc
         exact ⟨_,rfl,by have:=hf.1; omega,by omega⟩
        ·rw [if_neg hc]
         exact ⟨_,rfl,refR_far _ _ _ _⟩
     | false =>
      rw [if_neg (by simp)]
      cases hnm : nmAt l i with
      | true =>
       rw [if_pos rfl]
       have hlt:=nmAt_lt hnm
       refine ⟨_,rfl,?_⟩
       unfold namedR
       by_cases h46 : sgAt l (i + 1) [46] = true
       ·rw [if_pos h46]
        by_cases h2 : nmAt l (i + 2) = true
        ·rw [if_pos h2]
         have:=nmAt_lt h2
         exact ⟨by omega,by omega⟩
        ·rw [if_neg h2]; exact refR_far _ _ _ _
       ·rw [if_neg h46]; exact ⟨by omega,by omega⟩
      | false =>
       rw [if_neg (by simp)]
       cases hnu : nuAt l i with
       | true =>
        rw [if_pos rfl]
        have:=nuAt_lt hnu
        exact ⟨_,rfl,by omega,by omega⟩
       | false =>
        rw [if_neg (by simp)]
        exact ⟨_,rfl,refR_far _ _ _ _⟩
   ·rw [if_neg h5]
    obtain ⟨r,hr,hf⟩:=ih (.lv (n + 1)) d i hi (fun m h => by cases h; omega) (fun n e h => by cases h) (by simp only [need]; omega)
    rw [hr]
    cases r with
    | err k a => exact ⟨_,rfl,trivial⟩
    | ok e j =>
     have h1:=hf.1
     have h2:=hf.2
     obtain ⟨r2,hr2,hf2⟩:=ih (.more n e) d j h2 (fun m h => by cases h) (fun m e h => by cases h; omega) (by simp only [need]; omega)
     refine ⟨r2,hr2,?_⟩
     cases r2 with
     | err k a => trivial
     | ok e2 j2 => exact ⟨by have:=hf2.1; omega,hf2.2⟩
  | more n e =>
   have hn:=hc2 n e rfl
   simp only [need] at hneed
   unfold run
   by_cases hw : which l i (opsOf n) = 0
   ·rw [if_pos hw]; exact ⟨_,rfl,Nat.le_refl _,hi⟩
   ·rw [if_neg hw]
    have hlt:=which_lt hw
    obtain ⟨r,hr,hf⟩:=ih (.lv (n + 1)) d (i + 1) (by omega) (fun m h => by cases h; omega) (fun n e h => by cases h) (by simp only [need]; omega)
    rw [hr]
    cases r with
    | err k a => exact ⟨_,rfl,trivial⟩
    | ok y j =>
     have h1:=hf.1
     have h2:=hf.2
     simp only []
     by_cases h22 : n = 2
     ·rw [if_pos h22]; exact ⟨_,rfl,by omega,h2⟩
     ·rw [if_neg h22]
      obtain ⟨r2,hr2,hf2⟩:=ih (.more n (.bin (opN (which l i (opsOf n)) (plc l i)) e y)) d j h2 (fun m h => by cases h) (fun m e h => by cases h; omega) (by simp only [need]; omega)
      refine ⟨r2,hr2,?_⟩
      cases r2 with
      | err k a => trivial
      | ok e2 j2 => exact ⟨by have:=hf2.1; omega,hf2.2⟩
theorem run_more (l : List Tok) : ∀ (f g : Nat) (c : Cmd) (d i : Nat) (r : Res),f ≤ g → run l f c d i = some r → run l g c d i = some r:=by
 intro f
 induction f with
 | zero => intro g c d i r _ h; cases h
 | succ f ih =>
  intro g c d i r hfg h
  obtain ⟨g,rfl⟩ : ∃ g',g = g' + 1:=⟨g - 1,by omega⟩
  have hfg' : f ≤ g:=by omega
  cases c with
  | lv n =>
   unfold run at h ⊢
   by_cases h5 : n = 5
   ·rw [if_pos h5] at h ⊢
    by_cases h33 : sgAt l i [33] = true
    ·rw [if_pos h33] at h ⊢
     by_cases hd : d = 30
     ·rw [if_pos hd] at h ⊢; exact h
     ·rw [if_neg hd] at h ⊢
      cases h1 : run l f (.lv 5) (d + 1) (i + 1) with
      | none => rw [h1] at h; cases h
      | some r1 => rw [h1] at h; rw [ih g _ _ _ _ hfg' h1]; exact h
    ·rw [if_neg h33] at h ⊢
     by_cases h40 : sgAt l i [40] = true
     ·rw [if_pos h40] at h ⊢
      by_cases hd : d = 30
      ·rw [if_pos hd] at h ⊢; exact h
      ·rw [if_neg hd] at h ⊢
       cases h1 : run l f (.lv 0) (d + 1) (i + 1) with
       | none => rw [h1] at h; cases h
       | some r1 => rw [h1] at h; rw [ih g _ _ _ _ hfg' h1]; exact h
     ·rw [if_neg h40] at h ⊢; exact h
   ·rw [if_neg h5] at h ⊢
    cases h1 : run l f (.lv (n + 1)) d i with
    | none => rw [h1] at h; cases h
    | some r1 =>
     rw [h1] at h; rw [ih g _ _ _ _ hfg' h1]
     cases r1 with
     | err k a => exact h
     | ok e j => exact ih g _ _ _ _ hfg' h
  | more n e =>
   unfold run at h ⊢
   by_cases hw : which l i (opsOf n) = 0
   ·rw [if_pos hw] at h ⊢; exact h
   ·rw [if_neg hw] at h ⊢
    cases h1 : run l f (.lv (n + 1)) d (i + 1) with
    | none => rw [h1] at h; cases h
    | some r1 =>
     rw [h1] at h; rw [ih g _ _ _ _ hfg' h1]
     cases r1 with
     | err k a => exact h
     | ok y j =>
      simp only [] at h ⊢
      by_cases h2 : n = 2
      ·rw [if_pos h2] at h ⊢; exact h
      ·rw [if_neg h2] at h ⊢; exact ih g _ _ _ _ hfg' h
noncomputable def parseR (l : List Tok) (i : Nat) : Res:=finR l i ((run l (7 * l.length + 6) (.lv 0) 0 i).getD (.err 0 0))
theorem parse_of (l : List Tok) (i f : Nat) (r : Res) (hi : i ≤ l.length) (h : run l f (.lv 0) 0 i = some r) : parseR l i = finR l i r:=by
 obtain ⟨r2,hr2,_⟩:=run_total l (7 * l.length + 6) (.lv 0) 0 i hi (fun n h => by cases h; omega) (fun n e h => by cases h) (by simp only [need]; omega)
 have e1:=run_more l _ (max f (7 * l.length + 6)) _ _ _ _ (Nat.le_max_left _ _) h
 have e2:=run_more l _ (max f (7 * l.length + 6)) _ _ _ _ (Nat.le_max_right _ _) hr2
 rw [e1] at e2
 cases e2
 unfold parseR
 rw [hr2]; rfl
theorem parse_any (l : List Tok) (lv : Value) (i : Nat) (w : World) (ht : TokS w w.heap.size lv l) (hs : Sgn w) (hn : l.length ≤ 100000) (hok : TokOK l) (hi : i ≤ l.length) :
  Calls Tryz.prog 171 #[lv,.int .i64 i] w (ParseAns w.heap.size (parseR l i) w):=by
 obtain ⟨r,hr,_⟩:=run_total l (7 * l.length + 6) (.lv 0) 0 i hi (fun n h => by cases h; omega) (fun n e h => by cases h) (by simp only [need]; omega)
 rw [parse_of l i _ r hi hr]
 refine (parse_run l lv i _ r w ht hs hn hok hi hr).mono fun e w' h => ?_
 revert h
 cases finR l i r with
 | err k a => exact id
 | ok x j =>
  rintro ⟨v,h1,h2,h3⟩
  exact ⟨v,h1,own_mono h2 (Nat.le_succ _),h3⟩
theorem dg_len (n : Int) (h : n ≤ 9999) : (dg n).length ≤ 4:=by
 have key : ∀ m : Nat,m ≤ 9999 → (Lib.decDigits m).length ≤ 4:=by
  intro m hm
  rw [Lib.decDigits]
  split
  ·simp
  ·rw [List.length_append,Lib.decDigits]
   split
   ·simp
   ·rw [List.length_append,Lib.decDigits]
    split
    ·simp
    ·rw [List.length_append,Lib.decDigits]
     split
     ·simp
     ·omega
 exact key _ (by omega)
theorem wrap_len (e : Ex) (s : List UInt8) : (wrapB e s).length ≤ s.length + 2:=by cases e <;> simp [wrapB]
theorem sgO_len (op : Nat) : (sgO op).length ≤ 2:=by
 unfold sgO
 by_cases h : op < 15
 ·have : ∀ k,(h : k < 15) → (sgT.getD k []).length ≤ 2:=by decide
  exact this op h
 ·have h2 : sgT.length = 15:=rfl
  rw [List.getD_eq_getElem?_getD,List.getElem?_eq_none (by omega)]; simp
theorem showE_len (e : Ex) (h : ∀ x ∈ e.flat,okN x = true) : (showE e).length ≤ 40 * e.size:=by
 induction e with
 | leaf x =>
  have hx:=h x (by simp [Ex.flat])
  unfold showE
  by_cases h1 : x.op = 1
  ·rw [if_pos h1]
   simp [okN,h1,numB] at hx
   have:=dg_len x.n hx.2.1.2
   simp [Ex.size]; omega
  ·rw [if_neg h1]
   by_cases h4 : x.op = 4
   ·rw [if_pos h4]
    simp [okN,h4] at hx
    have a1:=nameB_size _ hx.2.2.1
    have a2:=nameB_size _ hx.2.2.2
    simp [Ex.size]; omega
   ·rw [if_neg h4]
    by_cases h2 : x.op = 2 ∨ x.op = 3
    ·unfold okN at hx
     rw [if_neg h1,if_pos h2] at hx
     simp at hx
     have a1:=nameB_size _ hx.2.2.1
     simp [Ex.size]; omega
    ·unfold okN at hx
     rw [if_neg h1,if_neg h2,if_neg h4] at hx
     have h5 : x.nm.size = 0:=by simp at hx; rw [hx.2.2.1]; rfl
     simp [Ex.size]; omega
 | un x a ih =>
  have h1:=ih fun y hy => h y (by simp [Ex.flat,hy])
  have h2:=wrap_len a (showE a)
  simp only [showE,Ex.size,List.length_append,List.length_cons,List.length_nil]; omega
 | bin x a b iha ihb =>
  have h1:=iha fun y hy => h y (by simp [Ex.flat,hy])
  have h2:=ihb fun y hy => h y (by simp [Ex.flat,hy])
  have h3:=wrap_len a (showE a)
  have h4:=wrap_len b (showE b)
  have h5:=sgO_len x.op.toNat
  simp only [showE,Ex.size,List.length_append,List.length_cons,List.length_nil]; omega
def hdN' : Ex → Nd
 | .leaf x => x
 | .un x _ => x
 | .bin x _ _ => x
theorem wrap_bin (e : Ex) (h : e.wf) (s : List UInt8) : wrapB e s = if ar (hdN' e).op = 2 then [40] ++ s ++ [41] else s:=by
 cases e with
 | leaf x => have h' : ar x.op = 0:=h; simp [wrapB,hdN',h']
 | un x a => simp [wrapB,hdN',h.1]
 | bin x a b => simp [wrapB,hdN',h.1]
theorem brk_any (e : Ex) (v : Value) (w : World) (hv : NdsC w v e.flat) (hw : e.wf) (hlen : (showE e).length ≤ 100000) (ht : Calls Tryz.prog 111 #[v] w (TextIs (showE e) w)) :
  Calls Tryz.prog 160 #[v] w (TextIs (wrapB e (showE e)) w):=by
 rw [wrap_bin e hw]
 obtain ⟨s,hs⟩ : ∃ s,s = showE e:=⟨_,rfl⟩
 rw [← hs] at ht hlen ⊢
 obtain ⟨y,hy⟩ : ∃ y : ByteArray,y = ⟨s.toArray⟩:=⟨_,rfl⟩
 have hys : y.size ≤ 100000:=by rw [hy,Lib.size_eq]; exact hlen
 have hyl : y.data.toList = s:=by rw [hy]
 unfold TextIs at ht
 rw [← hy] at ht
 have hpos : 0 < e.flat.length:=by rw [e.flat_length]; exact e.size_pos'
 obtain ⟨ad,cap,rfl,h1,h2,hc⟩:=hv
 obtain ⟨b,off,rfl,hb,x0,_⟩:=hc 0 hpos
 have hx : e.flat[0] = hdN' e:=by cases e <;> rfl
 rw [hx] at x0
 simp only [Nat.zero_mul,Nat.add_zero] at x0
 obtain ⟨o,ho⟩ : ∃ o,o = (hdN' e).op:=⟨_,rfl⟩
 rw [← ho] at x0 ⊢
 obtain ⟨a,ha⟩ : ∃ a,a = ar o:=⟨_,rfl⟩
 have HA : ∀ w,Calls Tryz.prog 183 #[.int .i64 o] w fun e w' => e = .returned (.int .i64 a) ∧ w = w':=fun w => ha ▸ operands_any o w
 rw [← ha]
 obtain ⟨n,hn⟩ : ∃ n,n = e.flat.length:=⟨_,rfl⟩
 rw [← hn] at ht hpos h1 ⊢
 have HYL:=Lib.hid hyl
 clear hc hx ho ha hn hy hs hw hlen hyl
 by_cases h : a = 2
 ·subst h
  rw [if_pos rfl]
  go_enter Tryz.func160,Tryz.ntmps160
  go_wp2_with (first
   | (go_at_call 183; refine (HA _).mono ?_; rintro e w2 ⟨rfl,rfl⟩)
   | (go_at_call 111; refine ht.mono ?_; rintro e w2 ⟨rfl,hb2⟩))
  go_ret
  exact ⟨ret_str (ba_eq (by rw [← HYL.out]; simp)),hb2⟩
 ·rw [if_neg h]
  have q : (a == 2) = false:=by simpa using h
  clear h
  go_enter Tryz.func160,Tryz.ntmps160
  go_wp2_with (first
   | (go_at_call 183; refine (HA _).mono ?_; rintro e w2 ⟨rfl,rfl⟩)
   | (go_at_call 111; refine ht.mono ?_; rintro e w2 ⟨rfl,hb2⟩))
  go_ret
  exact ⟨ret_str (ba_eq HYL.out),hb2⟩
theorem text_un (x : Nd) (a : Ex) (v : Value) (w : World) (hv : NdsC w v (Ex.un x a).flat) (hx : x.op = 5) (ht : Tabs w) (hlen : (showE a).length ≤ 100000)
  (hA : ∀ v w',Below w.heap.size w w' → NdsC w' v a.flat → Calls Tryz.prog 160 #[v] w' (TextIs (wrapB a (showE a)) w')) :
  Calls Tryz.prog 111 #[v] w (TextIs (showE (.un x a)) w):=by
 show Calls Tryz.prog 111 #[v] w (TextIs ([33] ++ wrapB a (showE a)) w)
 have hwl:=wrap_len a (showE a)
 obtain ⟨s,hs⟩ : ∃ s,s = wrapB a (showE a):=⟨_,rfl⟩
 rw [← hs] at hA hwl ⊢
 obtain ⟨y,hy⟩ : ∃ y : ByteArray,y = ⟨s.toArray⟩:=⟨_,rfl⟩
 have hys : y.size ≤ 100002:=by rw [hy,Lib.size_eq]; show s.length ≤ 100002; omega
 have hyl : y.data.toList = s:=by rw [hy]
 unfold TextIs at hA
 rw [← hy] at hA
 have HYL:=Lib.hid hyl
 have hfl : (Ex.un x a).flat.length = a.size + 1:=by rw [Ex.flat_length]; rfl
 have hps:=a.size_pos'
 have HV:=Lib.hid hv
 obtain ⟨ad,cap,rfl,h1,h2,hc⟩:=hv
 obtain ⟨b,off,rfl,hb,x0,x1,x2,x3,x4⟩:=hc 0 (by omega)
 simp only [show (Ex.un x a).flat[0]'(by omega) = x from rfl,Nat.zero_mul,Nat.add_zero] at x0 x1 x2 x3 x4
 have hd:=HV.out.drop 1 (by omega)
 rw [show (Ex.un x a).flat.drop 1 = a.flat from rfl,hfl] at hd
 simp only [Nat.one_mul,Nat.add_sub_cancel] at hd
 have HD:=Lib.hid hd
 rw [hfl] at h1 ⊢
 have HA : Hid (∀ w',Below w.heap.size w w' → Calls Tryz.prog 160 #[.slice (some ⟨b,off + 5,none⟩) a.size (cap - 1)] w' fun e w'' => e = .returned (.string y) ∧ Below w'.heap.size w' w''):=fun w' hb => hA _ w' hb (HD.out.below hb)
 obtain ⟨n,hn⟩ : ∃ n,n = a.size:=⟨_,rfl⟩
 rw [← hn] at h1 hps HA ⊢
 obtain ⟨xo,xn,xm,xi,xp⟩:=x
 simp only [] at hx x0 x1 x2 x3 x4
 subst hx
 have HT:=Lib.hid ht
 clear hc hd HD HV hA hs hy hyl hn hfl hlen hwl ht
 have hc1 : ¬ cap = 1:=by omega
 have hc2 : 1 ≤ cap:=by omega
 have hc3 : 1 ≤ n + 1:=by omega
 go_enter Tryz.func111,Tryz.ntmps111
 go_wp2_with fail
 go_region
 have hb1 : Below w.heap.size w ((w.alloc (.cells #[.int .i64 5,.int .i64 xn,.string xm,.string xi,.int .i64 xp] 46)).drewN 1):=((Below.refl _ _).alloc (Nat.le_refl _) _).drew
 change Exit.then _ _ _ _ ((w.alloc (.cells #[.int .i64 5,.int .i64 xn,.string xm,.string xi,.int .i64 xp] 46)).drewN 1)
 have hnb : BlkN ((w.alloc (.cells #[.int .i64 5,.int .i64 xn,.string xm,.string xi,.int .i64 xp] 46)).drewN 1) w.heap.size ⟨5,xn,xm,xi,xp⟩:=heap_alloc_new w _
 generalize ((w.alloc (.cells #[.int .i64 5,.int .i64 xn,.string xm,.string xi,.int .i64 xp] 46)).drewN 1) = w1 at hb1 hnb ⊢
 obtain ⟨n0,n1,n2,n3,n4⟩:=hnb.facts
 simp only [] at n0 n1 n2 n3 n4
 have hz0 : 1 < w1.heap.size:=(HT.out.below hb1).1.1
 have s5 : w1.cell? ⟨1,5,none⟩ = some (.string ⟨#[33]⟩):=(HT.out.below hb1).1.2 5 (by omega)
 clear hnb x0 x1 x2 x3 x4
 go_wp2_with fail
 go_region_with (go_at_call 160; refine (HA.out _ (by first | exact hb1.drew | exact hb1)).mono ?_; rintro e w2 ⟨rfl,hb2⟩; have hb3 : Below w1.heap.size w1 w2:=(by first | exact ((Below.refl _ w1).drew).trans hb2 | exact hb2); have s5' : w2.cell? ⟨1,5,none⟩ = some (.string ⟨#[33]⟩):=(hb3.cell (p:=⟨1,5,none⟩) hz0).trans s5)
 all_goals
  go_wp2
  go_ret
  exact ⟨ret_str (ba_eq (by rw [← HYL.out]; simp)),hb1.trans (hb3.mono hb1.size)⟩
theorem text_bin (x : Nd) (a b : Ex) (v : Value) (w : World) (hv : NdsC w v (Ex.bin x a b).flat) (hwf : (Ex.bin x a b).wf) (ht : Tabs w) (hla : (showE a).length ≤ 100000) (hlb : (showE b).length ≤ 100000) (hsz : (Ex.bin x a b).size ≤ 100000)
  (hA : ∀ v w',Below w.heap.size w w' → NdsC w' v a.flat → Calls Tryz.prog 160 #[v] w' (TextIs (wrapB a (showE a)) w'))
  (hB : ∀ v w',Below w.heap.size w w' → NdsC w' v b.flat → Calls Tryz.prog 160 #[v] w' (TextIs (wrapB b (showE b)) w')) :
  Calls Tryz.prog 111 #[v] w (TextIs (showE (.bin x a b)) w):=by
 show Calls Tryz.prog 111 #[v] w (TextIs (wrapB a (showE a) ++ [32] ++ sgO x.op.toNat ++ [32] ++ wrapB b (showE b)) w)
 have hwa:=wrap_len a (showE a)
 have hwb:=wrap_len b (showE b)
 obtain ⟨s,hs⟩ : ∃ s,s = wrapB a (showE a):=⟨_,rfl⟩
 obtain ⟨r,hr⟩ : ∃ r,r = wrapB b (showE b):=⟨_,rfl⟩
 rw [← hs] at hA hwa ⊢
 rw [← hr] at hB hwb ⊢
 obtain ⟨y,hy⟩ : ∃ y : ByteArray,y = ⟨s.toArray⟩:=⟨_,rfl⟩
 obtain ⟨z,hz⟩ : ∃ z : ByteArray,z = ⟨r.toArray⟩:=⟨_,rfl⟩
 have hys : y.size ≤ 100002:=by rw [hy,Lib.size_eq]; show s.length ≤ 100002; omega
 have hzs : z.size ≤ 100002:=by rw [hz,Lib.size_eq]; show r.length ≤ 100002; omega
 have hyl : y.data.toList = s:=by rw [hy]
 have hzl : z.data.toList = r:=by rw [hz]
 unfold TextIs at hA hB
 rw [← hy] at hA
 rw [← hz] at hB
 have HYL:=Lib.hid hyl
 have HZL:=Lib.hid hzl
 have hfl : (Ex.bin x a b).flat.length = a.size + b.size + 1:=by rw [Ex.flat_length]; rfl
 have hpa:=a.size_pos'
 have hpb:=b.size_pos'
 have HV:=Lib.hid hv
 obtain ⟨ad,cap,rfl,h1,h2,hc⟩:=hv
 obtain ⟨g,off,rfl,hg,x0,x1,x2,x3,x4⟩:=hc 0 (by omega)
 simp only [show (Ex.bin x a b).flat[0]'(by omega) = x from rfl,Nat.zero_mul,Nat.add_zero] at x0 x1 x2 x3 x4
 have hd:=HV.out.drop 1 (by omega)
 rw [show (Ex.bin x a b).flat.drop 1 = a.flat ++ b.flat from rfl,hfl] at hd
 simp only [Nat.one_mul,Nat.add_sub_cancel] at hd
 have hd':=hd
 rw [show a.size + b.size = (a.flat ++ b.flat).length by rw [List.length_append,a.flat_length,b.flat_length]] at hd
 have da:=hd.take a.size (by rw [List.length_append,a.flat_length]; omega)
 have db:=hd.drop a.size (by rw [List.length_append,a.flat_length,b.flat_length]; omega)
 rw [List.take_left' a.flat_length] at da
 rw [List.drop_left' a.flat_length,List.length_append,a.flat_length,b.flat_length,Nat.add_sub_cancel_left] at db
 have HD:=Lib.hid hd'
 have HDA:=Lib.hid da
 have HDB:=Lib.hid db
 rw [hfl] at h1 ⊢
 have HE : Hid (∀ w',Below w.heap.size w w' → Calls Tryz.prog 141 #[.slice (some ⟨g,off + 5,none⟩) (a.size + b.size) (cap - 1),.int .i64 0] w' fun e w'' => e = .returned (.int .i64 a.size) ∧ w' = w''):=fun w' hb => by
  have hn:=(HD.out.below hb).nds
  have h:=end_any (a.flat ++ b.flat) _ 0 w' hn (by rw [List.length_append,a.flat_length,b.flat_length]; simp only [Ex.size] at hsz; omega)
  rw [show endL (a.flat ++ b.flat) 0 = a.size by
   rw [show (0 : Int) = ((0 : Nat) : Int) from rfl,endL_nat]
   have:=endF_flat a hwf.2.1 b.flat 1 0 (Nat.le_refl _)
   rw [if_pos rfl] at this
   rw [List.drop_zero,show (1 : Int) = ((1 : Nat) : Int) from rfl,this]
   simp [endI]] at h
  exact h
 have HA : Hid (∀ w',Below w.heap.size w w' → Calls Tryz.prog 160 #[.slice (some ⟨g,off + 5,none⟩) a.size (cap - 1)] w' fun e w'' => e = .returned (.string y) ∧ Below w'.heap.size w' w''):=fun w' hb => hA _ w' hb (HDA.out.below hb)
 have HB : Hid (∀ w',Below w.heap.size w w' → Calls Tryz.prog 160 #[.slice (some ⟨g,off + 5 + a.size * 5,none⟩) b.size (cap - 1 - a.size)] w' fun e w'' => e = .returned (.string z) ∧ Below w'.heap.size w' w''):=fun w' hb => hB _ w' hb (HDB.out.below hb)
 obtain ⟨n,hn⟩ : ∃ n,n = a.size:=⟨_,rfl⟩
 obtain ⟨m,hm⟩ : ∃ m,m = b.size:=⟨_,rfl⟩
 have hop : ar x.op = 2:=hwf.1
 have hsz' : n + m ≤ 100000:=by simp only [Ex.size] at hsz; omega
 rw [← hn,← hm] at h1 HE ⊢
 rw [← hn] at HA hpa
 rw [← hn,← hm] at HB
 rw [← hm] at hpb
 obtain ⟨xo,xn,xm,xi,xp⟩:=x
 simp only [] at hop x0 x1 x2 x3 x4
 obtain ⟨k,rfl,hk6,hk15⟩ : ∃ k : Nat,xo = k ∧ 6 ≤ k ∧ k < 15:=by
  refine ⟨xo.toNat,?_⟩
  unfold ar at hop
  repeat (split at hop <;> try omega)
 have HT:=Lib.hid ht
 obtain ⟨u,hu⟩ : ∃ u,u = sgV k:=⟨_,rfl⟩
 have hus : u.size ≤ 2:=by rw [hu,Lib.size_eq]; exact sgO_len k
 have hul : u.data.toList = sgO k:=by rw [hu,sgV]
 have HUL:=Lib.hid hul
 have HU:=Lib.hid hu
 clear hc hd hd' HD HV HDA HDB da db hA hB hs hr hy hz hyl hzl hn hm hfl hla hlb hwa hwb ht hop hwf hsz hu hul
 obtain ⟨cp,rfl⟩ : ∃ cp,cap = cp + 1:=⟨cap - 1,by omega⟩
 obtain ⟨nm,hnm⟩ : ∃ nm,n + m = nm:=⟨_,rfl⟩
 rw [hnm] at h1 HE hsz' ⊢
 simp only [Nat.add_sub_cancel] at HE HA HB
 have hm : m = nm - n:=by omega
 rw [hm] at HB
 have a1 : (n : Int) ≤ (nm : Int):=by omega
 have a2 : n ≤ nm:=by omega
 have a3 : n ≤ cp:=by omega
 have a4 : (n : Int) ≤ (cp : Int):=by omega
 have a5 : ¬ cp = n:=by omega
 have a6 : ¬ n = cp:=by omega
 have a7 : nm ≤ cp:=by omega
 have a8 : (nm : Int) ≤ (cp : Int):=by omega
 have a9 : ¬ (n : Int) = (cp : Int):=by omega
 have hc1 : ¬ cp + 1 = 1:=by omega
 have hc2 : 1 ≤ cp + 1:=by omega
 have hc3 : 1 ≤ nm + 1:=by omega
 clear hm hnm hpa hpb
 have e1 : (((k : Int) == 1) = false):=by simp; omega
 have e2 : (((k : Int) == 2) = false):=by simp; omega
 have e3 : (((k : Int) == 3) = false):=by simp; omega
 have e4 : (((k : Int) == 4) = false):=by simp; omega
 have e5 : (((k : Int) == 5) = false):=by simp; omega
 have k0 : (0 : Int) ≤ (k : Int):=Int.natCast_nonneg _
 have k1 : (k : Int) < 15:=by omega
 go_enter Tryz.func111,Tryz.ntmps111
 go_wp2_with fail
 go_region
 have hb1 : Below w.heap.size w ((w.alloc (.cells #[.int .i64 k,.int .i64 xn,.string xm,.string xi,.int .i64 xp] 46)).drewN 1):=((Below.refl _ _).alloc (Nat.le_refl _) _).drew
 change Exit.then _ _ _ _ ((w.alloc (.cells #[.int .i64 k,.int .i64 xn,.string xm,.string xi,.int .i64 xp] 46)).drewN 1)
 have hnb : BlkN ((w.alloc (.cells #[.int .i64 k,.int .i64 xn,.string xm,.string xi,.int .i64 xp] 46)).drewN 1) w.heap.size ⟨k,xn,xm,xi,xp⟩:=heap_alloc_new w _
 have hnz : w.heap.size < ((w.alloc (.cells #[.int .i64 k,.int .i64 xn,.string xm,.string xi,.int .i64 xp] 46)).drewN 1).heap.size:=by simp
 generalize ((w.alloc (.cells #[.int .i64 k,.int .i64 xn,.string xm,.string xi,.int .i64 xp] 46)).drewN 1) = w1 at hb1 hnb hnz ⊢
 obtain ⟨n0,n1,n2,n3,n4⟩:=hnb.facts
 simp only [] at n0 n1 n2 n3 n4
 have hz0 : 1 < w1.heap.size:=(HT.out.below hb1).1.1
 have s5 : w1.cell? ⟨1,k,none⟩ = some (.string u):=HU.out ▸ (HT.out.below hb1).1.2 k hk15
 clear hnb x0 x1 x2 x3 x4
 go_wp2_with (go_at_call 141; refine (HE.out _ hb1).mono ?_; rintro e w' ⟨rfl,rfl⟩)
 have a0 : (0 : Int) ≤ (n : Int):=Int.natCast_nonneg _
 have q1 : ¬ 9223372036854775806 < y.size:=by omega
 have q2 : ¬ 9223372036854775807 < y.size + 1:=by omega
 have q3 : ¬ 9223372036854775807 < y.size + 1 + u.size:=by omega
 have q4 : ¬ 9223372036854775806 < y.size + 1 + u.size:=by omega
 have q5 : ¬ 9223372036854775807 < y.size + 1 + u.size + 1:=by omega
 have q6 : ¬ 9223372036854775807 < y.size + 1 + u.size + 1 + z.size:=by omega
 have b0 : Below w1.heap.size w1 w1:=Below.refl _ _
 go_region_held3 (fun w' => w'.cell? ⟨w.heap.size,0,none⟩ = some (.int .i64 k) ∧ w'.cell? ⟨1,k,none⟩ = some (.string u) ∧ Below w1.heap.size w1 w')
  (first | exact ⟨n0,s5,Below.refl _ _⟩ | exact ⟨n0,s5,(Below.refl _ _).drew⟩ | assumption | (go_split_ands; exact ⟨(hb3.cell (p:=⟨w.heap.size,0,none⟩) hnz).trans n0,(hb3.cell (p:=⟨1,k,none⟩) hz0).trans s5,hb3⟩))
  ((go_split_ands; (first | (with_reducible refine Calls.mono (HA.out _ ?_) ?_) | (with_reducible refine Calls.mono (HB.out _ ?_) ?_)); (exact hb1.trans (Below.mono (by assumption) hb1.size)); rintro e w2 ⟨rfl,hb2⟩; have hb3 : Below w1.heap.size w1 w2:=Below.trans (by assumption) (hb2.mono (Below.size (by assumption)))))
 go_split_ands
 go_wp2
 go_ret
 exact ⟨ret_str (ba_eq (by rw [← HYL.out,← HZL.out,show ((k : Nat) : Int).toNat = k from rfl,← HUL.out]; simp)),hb1.trans (Below.mono (by assumption) hb1.size)⟩
theorem text_any (e : Ex) : e.wf → (∀ x ∈ e.flat,okN x = true) → e.size ≤ 1000 → ∀ v w,NdsC w v e.flat → Tabs w → Calls Tryz.prog 111 #[v] w (TextIs (showE e) w):=by
 induction e with
 | leaf x => intro hw hok _ v w hv ht; exact text_leaf x v w hv hw (hok x (by simp [Ex.flat])) ht
 | un x a ih =>
  intro hw hok hs v w hv ht
  have hoa : ∀ y ∈ a.flat,okN y = true:=fun y hy => hok y (by simp [Ex.flat,hy])
  have hsa : a.size ≤ 1000:=by simp only [Ex.size] at hs; omega
  have hl:=showE_len a hoa
  have h5 : x.op = 5:=by
   have h : ar x.op = 1:=hw.1
   unfold ar at h
   repeat (split at h <;> try omega)
  exact text_un x a v w hv h5 ht (by omega) fun v' w' hb hv' => brk_any a v' w' hv' hw.2 (by omega) (ih hw.2 hoa hsa v' w' hv' (ht.below hb))
 | bin x a b iha ihb =>
  intro hw hok hs v w hv ht
  have hoa : ∀ y ∈ a.flat,okN y = true:=fun y hy => hok y (by simp [Ex.flat,hy])
  have hob : ∀ y ∈ b.flat,okN y = true:=fun y hy => hok y (by simp [Ex.flat,hy])
  have hsa : a.size ≤ 1000:=by simp only [Ex.size] at hs; omega
  have hsb : b.size ≤ 1000:=by simp only [Ex.size] at hs; omega
  have hla:=showE_len a hoa
  have hlb:=showE_len b hob
  exact text_bin x a b v w hv hw ht (by omega) (by omega) (by omega)
   (fun v' w' hb hv' => brk_any a v' w' hv' hw.2.1 (by omega) (iha hw.2.1 hoa hsa v' w' hv' (ht.below hb)))
   (fun v' w' hb hv' => brk_any b v' w' hv' hw.2.2 (by omega) (ihb hw.2.2 hob hsb v' w' hv' (ht.below hb)))
end Go.Proofs.YtcghccjnadagcaaGreatDoor
