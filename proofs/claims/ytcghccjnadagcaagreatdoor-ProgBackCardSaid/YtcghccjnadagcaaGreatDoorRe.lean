/- Facts. -/
import Derived.Test.YtcghccjnadagcaaGreatDoorTa
set_option maxRecDepth 100000
set_option maxHeartbeats 32000000
namespace Go.Proofs.YtcghccjnadagcaaGreatDoor
open Go.RowKit
def unR (l : List Tok) (i : Nat) : Res → Res
 | .err k a => .err k a
 | .ok e j => .ok (.un (opN 5 (plc l i)) e) j
def brR (l : List Tok) : Res → Res
 | .err k a => .err k a
 | .ok e j => if sgAt l j [41] then .ok e (j + 1) else refR l j
theorem slack_not (er : Int) (h : er ≠ 0) : slack er = 1:=if_neg h
theorem slack_le (er : Int) : slack er ≤ 1:=by unfold slack; split <;> omega
theorem ResOK.unR {l : List Tok} {i j : Nat} {r : Res} {p p' : PtR} {er pl : Int} (h : ResOK r p j er pl) (hs : p'.s = p.s + 1) (hd : p'.d = p.d + 1) (h0 : 0 ≤ p.d) (hx : p'.s ≤ 200 ∧ p'.d ≤ 30 → p'.xs = opN 5 (plc l i) :: p.xs) : ResOK (unR l i r) p' j er pl:=by
 cases r with
 | err k a => exact h
 | ok e j0 =>
  obtain ⟨h1,h2,h3,h4,h5,h6⟩:=h
  refine ⟨h1,h2,h3,?_,?_,fun hh => ?_⟩
  ·rw [hs,h4]; rfl
  ·rw [hd,h5]; rfl
  ·rw [hx hh,h6 ⟨by omega,by omega⟩]; rfl
def NPost (l : List Tok) (lv : Value) (b d i : Nat) (r : Res) (W : World) (e : Ending) (W' : World) : Prop:=
 ∃ (p : PtR) (j : Nat) (er pl : Int),e = .returned (.agg #[p.nv,.int .i64 p.s,.int .i64 p.d]) ∧ Pst W' b lv j d er pl ∧ PtIn W' (b + 1) p (j - i + slack er - 1) ∧ i ≤ j ∧ 1 ≤ j - i + slack er ∧ j ≤ l.length ∧ Keep b W W' ∧ ResOK r p j er pl ∧ (er = 0 → pl = 0)
theorem PPost.toN {l : List Tok} {lv : Value} {b d i : Nat} {r : Res} {W : World} {e : Ending} {W' : World} (h : PPost l lv b d (i + 1) r W e W') : NPost l lv b d i r W e W':=by
 obtain ⟨p,j,er,pl,h1,h2,h3,h4,h5,h6,h7,h8⟩:=h
 exact ⟨p,j,er,pl,h1,h2,h3.more (by omega),by omega,by omega,h5,h6,h7,h8⟩
theorem fail_postN {l : List Tok} {lv : Value} {b d i k a : Nat} {w : World} {e : Ending} {w' : World} (h : FailTo b lv i d k a w e w') (hi : i ≤ l.length) (hk : k ≠ 0) : NPost l lv b d i (.err k a) w e w':=by
 obtain ⟨rfl,hp,hk2⟩:=h
 exact ⟨⟨none,0,0,0,[]⟩,i,k,a,rfl,hp,pt_zero _ _ _,Nat.le_refl _,by rw [slack_not _ (by omega)]; omega,hi,hk2,⟨rfl,rfl,hk⟩,fun h => by omega⟩
theorem sgAt_lt {l : List Tok} {i : Nat} {x : List UInt8} (h : sgAt l i x = true) : i < l.length:=by
 unfold sgAt tokO at h
 by_cases h1 : i < l.length
 ·exact h1
 ·rw [List.getElem?_eq_none (by omega)] at h; simp at h
theorem ResOK.brR_yes {l : List Tok} {j : Nat} {r : Res} {p : PtR} {er pl : Int} (h : ResOK r p j er pl) (hc : sgAt l j [41] = true) : ResOK (brR l r) p (j + 1) er pl:=by
 cases r with
 | err k a => exact h
 | ok e j0 =>
  obtain ⟨rfl,h2,h3,h4,h5,h6⟩:=h
  rw [show brR l (.ok e j) = .ok e (j + 1) by simp [brR,hc]]
  exact ⟨rfl,h2,h3,h4,h5,h6⟩
theorem ResOK.brR_no {l : List Tok} {j : Nat} {r : Res} {p p' : PtR} {er pl : Int} (h : ResOK r p j er pl) (hc : sgAt l j [41] = false) : ResOK (brR l r) p' j (fst0 er (refK l j).1) (snd0 er (refK l j).2 pl) ∧ (fst0 er (refK l j).1 = 0 → snd0 er (refK l j).2 pl = 0):=by
 have hk:=refK_pos l j
 cases r with
 | err k a =>
  obtain ⟨rfl,rfl,h3⟩:=h
  have h3' : ((k : Int)) ≠ 0:=by omega
  rw [fst0_not _ _ h3']
  unfold snd0
  rw [if_neg h3']
  exact ⟨⟨rfl,rfl,h3⟩,fun h => absurd h h3'⟩
 | ok e j0 =>
  obtain ⟨rfl,rfl,rfl,h4,h5,h6⟩:=h
  rw [show brR l (.ok e j) = refR l j by simp [brR,hc]]
  exact ⟨⟨rfl,rfl,hk⟩,fun h => absurd h (by show ((refK l j).1 : Int) ≠ 0; omega)⟩
theorem nuAt_lt {l : List Tok} {i : Nat} (h : nuAt l i = true) : i < l.length:=by
 unfold nuAt tokO at h
 by_cases h1 : i < l.length
 ·exact h1
 ·rw [List.getElem?_eq_none (by omega)] at h; simp at h
theorem operand_un (l : List Tok) (b : Nat) (lv : Value) (i d : Nat) (r : Res) (w : World) (hp : Pst w b lv i d 0 0) (hx : PCtx l b lv w) (h33 : sgAt l i [33] = true) (hN : ∀ W,Pst W b lv i d 0 0 → PCtx l b lv W → Calls Tryz.prog 245 #[.pointer (some ⟨b,0,none⟩),.func (.func 244) #[] #[]] W (NPost l lv b d i r W)) :
  Calls Tryz.prog 244 #[.pointer (some ⟨b,0,none⟩)] w (PPost l lv b d i (unR l i r) w):=by
 have hb:=hp.lt
 have hn:=hx.hn
 have HP:=Lib.hid hp
 have HX:=Lib.hid hx
 have hrb : w.heap.size ≠ b:=by omega
 have H33:=Lib.hid h33
 have HN:=Lib.hid hN
 clear hp hx h33 hN
 go_enter Tryz.func244,Tryz.ntmps244
 go_wp2_with fail
 have hK1 : Keep b w (w.alloc (.cells #[.slice none 0 0,.int .i64 0,.int .i64 0] 201)):=(Keep.refl b w).alloc _
 have hP1 : Pst (w.alloc (.cells #[.slice none 0 0,.int .i64 0,.int .i64 0] 201)) b lv i d 0 0:=HP.out.alloc _
 have hR1 : Blk3 (w.alloc (.cells #[.slice none 0 0,.int .i64 0,.int .i64 0] 201)) w.heap.size (.slice none 0 0) (.int .i64 0) (.int .i64 0):=heap_alloc_new w _
 generalize (w.alloc (.cells #[.slice none 0 0,.int .i64 0,.int .i64 0] 201)) = w1 at hK1 hP1 hR1 ⊢
 refine ((HX.out.keep hK1).token hP1).mono ?_
 rintro e w2 ⟨rfl,hb2⟩
 have HK2:=Lib.hid (hK1.below hb2)
 have HP2:=Lib.hid (hP1.below hb2)
 have HR2:=Lib.hid (hR1.below hb2)
 obtain ⟨tk,htk⟩ : ∃ t,t = (tokO l i).1:=⟨_,rfl⟩
 obtain ⟨tn,htn⟩ : ∃ t,t = (tokO l i).2.2.1:=⟨_,rfl⟩
 obtain ⟨tx,htx⟩ : ∃ t,t = txt l i:=⟨_,rfl⟩
 obtain ⟨tp,htp⟩ : ∃ t,t = plc l i:=⟨_,rfl⟩
 rw [← htk,← htn,← htx,← htp]
 have HTP:=Lib.hid htp
 have HTK:=Lib.hid htk
 have HTN:=Lib.hid htn
 have hb2' : b < w2.heap.size:=HP2.out.lt
 have s5 : w2.cell? ⟨1,5,none⟩ = some (.string ⟨#[33]⟩):=(HX.out.keep HK2.out).hs.2 5 (by omega)
 have hz0 : 1 < w2.heap.size:=(HX.out.keep HK2.out).hs.1
 clear hK1 hP1 hR1 hb2 htk htn htx htp
 go_wp2_with fail
 have HK3:=Lib.hid (HK2.out.alloc (.cells #[.int .i64 tk,.string tx,.int .i64 tn,.int .i64 tp] 62))
 have HP3:=Lib.hid (HP2.out.alloc (.cells #[.int .i64 tk,.string tx,.int .i64 tn,.int .i64 tp] 62))
 have HR3:=Lib.hid (HR2.out.alloc (.cells #[.int .i64 tk,.string tx,.int .i64 tn,.int .i64 tp] 62))
 have HT3 : Hid (Blk4 (w2.alloc (.cells #[.int .i64 tk,.string tx,.int .i64 tn,.int .i64 tp] 62)) w2.heap.size (.int .i64 tk) (.string tx) (.int .i64 tn) (.int .i64 tp)):=heap_alloc_new w2 _
 have hgr : w.heap.size < w2.heap.size:=HR2.out.lt
 clear HP2 HR2 HK2 s5 hz0
 generalize (w2.alloc (.cells #[.int .i64 tk,.string tx,.int .i64 tn,.int .i64 tp] 62)) = w3 at HK3 HP3 HR3 HT3 ⊢
 obtain ⟨g,hg⟩ : ∃ g,g = w2.heap.size:=⟨_,rfl⟩
 rw [← hg] at hb2' HT3 hgr ⊢
 clear hg
 have hgb : g ≠ b:=by omega
 refine ((HX.out.keep HK3.out).sign HP3.out _ true H33.out).mono ?_
 rintro e w4 ⟨rfl,hb4⟩
 have HK4:=Lib.hid (HK3.out.below hb4)
 have HP4:=Lib.hid (HP3.out.below hb4)
 have HR4:=Lib.hid (HR3.out.below hb4)
 have HT4:=Lib.hid (HT3.out.below hb4 HT3.out.lt)
 clear HK3 HP3 HR3 HT3 hb4
 go_wp2_with fail
 refine (HN.out _ HP4.out (HX.out.keep HK4.out)).mono ?_
 rintro e w5 ⟨⟨pad,pcap,ps,pd,pxs⟩,j,er,pl,rfl,hp5,hin,hij,hij1,hjl,hk5,hres,hz⟩
 have HK5:=Lib.hid (HK4.out.trans hk5)
 have HP5:=Lib.hid hp5
 have HR5:=Lib.hid (HR4.out.keep hk5 hrb)
 have HT5 : Hid (Blk4 w5 g (.int .i64 tk) (.string tx) (.int .i64 tn) (.int .i64 tp)):=by
  show _ = _
  rw [hk5.block g HT4.out.lt hgb]; exact HT4.out
 have HIN:=Lib.hid hin
 have HRES:=Lib.hid hres
 have HZ:=Lib.hid hz
 have hgl5 : g < w5.heap.size:=HT5.out.lt
 obtain ⟨⟨t0,t1,t2,t3⟩,tf0,tf1,tf2,tf3⟩:=HT5.out.facts
 have hb5' : b < w5.heap.size:=HP5.out.lt
 clear hp5 hin hk5 hres hz HK4 HP4 HR4 HT4
 have HJ:=Lib.hid (join1 ⟨5,0,⟨#[]⟩,⟨#[]⟩,tp⟩ ⟨pad,pcap,ps,pd,pxs⟩ _ (b + 1) (w5.alloc (.cells #[.slice pad pxs.length pcap,.int .i64 ps,.int .i64 pd] 201)) (by simp; omega) (HIN.out.alloc _) (by have:=slack_le er; omega))
 have hsz : (w5.alloc (.cells #[.slice pad pxs.length pcap,.int .i64 ps,.int .i64 pd] 201)).heap.size = w5.heap.size + 1:=by simp
 rw [hsz] at HJ
 clear hsz
 simp only [PtR.nv,nodeV] at HJ ⊢
 obtain ⟨m,hm⟩ : ∃ m,m = pxs.length:=⟨_,rfl⟩
 rw [← hm] at HJ ⊢
 have HM:=Lib.hid hm
 clear hm
 go_wp2_with fail
 refine HJ.out.mono ?_
 rintro e w6 ⟨⟨qad,qcap,qs,qd,qxs⟩,rfl,ho6,hl1,hl2,hs6,hd6,hx6,hb6⟩
 have hb56 : Below w5.heap.size w5 w6:=(((Below.refl _ w5).alloc (Nat.le_refl _) _).alloc (by simp) _).trans (hb6.mono (by simp; omega))
 have hi:=HIN.out.2
 simp only [] at hs6 hd6 hx6 hi
 obtain ⟨i1,i2,i3,i4,i5⟩:=hi
 have HIN6 : Hid (PtIn w6 (b + 1) ⟨qad,qcap,qs,qd,qxs⟩ (j - i + slack er)):=⟨ho6,hl1,hl2,by simp only []; omega,by simp only []; omega,by simp only []; omega⟩
 have HRES6 : Hid (ResOK (unR l i r) ⟨qad,qcap,qs,qd,qxs⟩ j er pl):=HRES.out.unR hs6 hd6 i4 (by rw [← HTP.out]; exact hx6)
 have HK6:=Lib.hid (HK5.out.below hb56)
 have HP6:=Lib.hid (HP5.out.below hb56)
 have HR6:=Lib.hid (HR5.out.below hb56)
 obtain ⟨⟨r0,r1,r2⟩,rf0,rf1,rf2⟩:=HR6.out.facts
 clear ho6 hl1 hl2 hs6 hd6 hx6 hb6 hb56 HK5 HP5 HR5 HT5 HJ t0 t1 t2 t3 tf0 tf1 tf2 tf3 i1 i2 i3 i4 i5
 simp only [PtR.nv]
 obtain ⟨m2,hm2⟩ : ∃ m,m = qxs.length:=⟨_,rfl⟩
 rw [← hm2]
 have HM2:=Lib.hid hm2
 clear hm2
 go_wp2_with fail
 obtain ⟨z1,z2,z3,z4⟩:=fin_part HP6.out HR6.out hrb HIN6.out HK6.out (Nat.le_refl _) (.slice qad m2 qcap) (.int .i64 qs) (.int .i64 qd)
 refine bodyPost_ret (v:=.agg #[.slice qad m2 qcap,.int .i64 qs,.int .i64 qd]) (results_part Tryz.results244 _ _ w.heap.size _ _ _ rfl z4) rfl ?_
 exact ⟨⟨qad,qcap,qs,qd,qxs⟩,j,er,pl,by rw [HM2.out]; rfl,z1,z2,by omega,hjl,z3,HRES6.out,HZ.out⟩
theorem operand_br (l : List Tok) (b : Nat) (lv : Value) (i d : Nat) (r : Res) (w : World) (hp : Pst w b lv i d 0 0) (hx : PCtx l b lv w) (h33 : sgAt l i [33] = false) (h40 : sgAt l i [40] = true) (hN : ∀ W,Pst W b lv i d 0 0 → PCtx l b lv W → Calls Tryz.prog 245 #[.pointer (some ⟨b,0,none⟩),.func (.func 196) #[] #[]] W (NPost l lv b d i r W)) :
  Calls Tryz.prog 244 #[.pointer (some ⟨b,0,none⟩)] w (PPost l lv b d i (brR l r) w):=by
 have hb:=hp.lt
 have hn:=hx.hn
 have HP:=Lib.hid hp
 have HX:=Lib.hid hx
 have hrb : w.heap.size ≠ b:=by omega
 have H33:=Lib.hid h33
 have H40:=Lib.hid h40
 have HN:=Lib.hid hN
 clear hp hx h33 h40 hN
 go_enter Tryz.func244,Tryz.ntmps244
 go_wp2_with fail
 have hK1 : Keep b w (w.alloc (.cells #[.slice none 0 0,.int .i64 0,.int .i64 0] 201)):=(Keep.refl b w).alloc _
 have hP1 : Pst (w.alloc (.cells #[.slice none 0 0,.int .i64 0,.int .i64 0] 201)) b lv i d 0 0:=HP.out.alloc _
 have hR1 : Blk3 (w.alloc (.cells #[.slice none 0 0,.int .i64 0,.int .i64 0] 201)) w.heap.size (.slice none 0 0) (.int .i64 0) (.int .i64 0):=heap_alloc_new w _
 generalize (w.alloc (.cells #[.slice none 0 0,.int .i64 0,.int .i64 0] 201)) = w1 at hK1 hP1 hR1 ⊢
 refine ((HX.out.keep hK1).token hP1).mono ?_
 rintro e w2 ⟨rfl,hb2⟩
 have HK2:=Lib.hid (hK1.below hb2)
 have HP2:=Lib.hid (hP1.below hb2)
 have HR2:=Lib.hid (hR1.below hb2)
 obtain ⟨tk,htk⟩ : ∃ t,t = (tokO l i).1:=⟨_,rfl⟩
 obtain ⟨tn,htn⟩ : ∃ t,t = (tokO l i).2.2.1:=⟨_,rfl⟩
 obtain ⟨tx,htx⟩ : ∃ t,t = txt l i:=⟨_,rfl⟩
 obtain ⟨tp,htp⟩ : ∃ t,t = plc l i:=⟨_,rfl⟩
 rw [← htk,← htn,← htx,← htp]
 have HTP:=Lib.hid htp
 have HTK:=Lib.hid htk
 have HTN:=Lib.hid htn
 have hb2' : b < w2.heap.size:=HP2.out.lt
 have s5 : w2.cell? ⟨1,5,none⟩ = some (.string ⟨#[33]⟩):=(HX.out.keep HK2.out).hs.2 5 (by omega)
 have hz0 : 1 < w2.heap.size:=(HX.out.keep HK2.out).hs.1
 clear hK1 hP1 hR1 hb2 htk htn htx htp
 go_wp2_with fail
 have HK3:=Lib.hid (HK2.out.alloc (.cells #[.int .i64 tk,.string tx,.int .i64 tn,.int .i64 tp] 62))
 have HP3:=Lib.hid (HP2.out.alloc (.cells #[.int .i64 tk,.string tx,.int .i64 tn,.int .i64 tp] 62))
 have HR3:=Lib.hid (HR2.out.alloc (.cells #[.int .i64 tk,.string tx,.int .i64 tn,.int .i64 tp] 62))
 have HT3 : Hid (Blk4 (w2.alloc (.cells #[.int .i64 tk,.string tx,.int .i64 tn,.int .i64 tp] 62)) w2.heap.size (.int .i64 tk) (.string tx) (.int .i64 tn) (.int .i64 tp)):=heap_alloc_new w2 _
 have hgr : w.heap.size < w2.heap.size:=HR2.out.lt
 clear HP2 HR2 HK2 s5 hz0
 generalize (w2.alloc (.cells #[.int .i64 tk,.string tx,.int .i64 tn,.int .i64 tp] 62)) = w3 at HK3 HP3 HR3 HT3 ⊢
 obtain ⟨g,hg⟩ : ∃ g,g = w2.heap.size:=⟨_,rfl⟩
 rw [← hg] at hb2' HT3 hgr ⊢
 clear hg
 have hgb : g ≠ b:=by omega
 refine ((HX.out.keep HK3.out).sign HP3.out _ false H33.out).mono ?_
 rintro e w4 ⟨rfl,hb4⟩
 have HK4:=Lib.hid (HK3.out.below hb4)
 have HP4:=Lib.hid (HP3.out.below hb4)
 have HR4:=Lib.hid (HR3.out.below hb4)
 have HT4:=Lib.hid (HT3.out.below hb4 HT3.out.lt)
 clear HK3 HP3 HR3 HT3 hb4
 go_wp2_with fail
 refine ((HX.out.keep HK4.out).sign HP4.out _ true H40.out).mono ?_
 rintro e w5 ⟨rfl,hb5⟩
 have HK5:=Lib.hid (HK4.out.below hb5)
 have HP5:=Lib.hid (HP4.out.below hb5)
 have HR5:=Lib.hid (HR4.out.below hb5)
 clear HK4 HP4 HR4 HT4 hb5
 go_wp2_with fail
 refine (HN.out _ HP5.out (HX.out.keep HK5.out)).mono ?_
 rintro e w6 ⟨⟨pad,pcap,ps,pd,pxs⟩,j,er,pl,rfl,hp6,hin,hij,hij1,hjl,hk6,hres,hz⟩
 have HK6:=Lib.hid (HK5.out.trans hk6)
 have HP6:=Lib.hid hp6
 have HR6:=Lib.hid (HR5.out.keep hk6 hrb)
 have HIN:=Lib.hid hin
 have HRES:=Lib.hid hres
 have HZ:=Lib.hid hz
 have hb6' : b < w6.heap.size:=HP6.out.lt
 clear hp6 hin hk6 hres hz HK5 HP5 HR5
 simp only [PtR.nv]
 obtain ⟨m,hm⟩ : ∃ m,m = pxs.length:=⟨_,rfl⟩
 rw [← hm]
 have HM:=Lib.hid hm
 clear hm
 go_wp2_with fail
 have HK7:=Lib.hid (HK6.out.alloc (.cells #[.slice pad m pcap,.int .i64 ps,.int .i64 pd] 201))
 have HP7:=Lib.hid (HP6.out.alloc (.cells #[.slice pad m pcap,.int .i64 ps,.int .i64 pd] 201))
 have HR7:=Lib.hid (HR6.out.alloc (.cells #[.slice pad m pcap,.int .i64 ps,.int .i64 pd] 201))
 have HIN7:=Lib.hid (HIN.out.alloc (.cells #[.slice pad m pcap,.int .i64 ps,.int .i64 pd] 201))
 have HV7 : Hid (Blk3 (w6.alloc (.cells #[.slice pad m pcap,.int .i64 ps,.int .i64 pd] 201)) w6.heap.size (.slice pad m pcap) (.int .i64 ps) (.int .i64 pd)):=heap_alloc_new w6 _
 have hwv : w.heap.size < w6.heap.size:=HR6.out.lt
 clear HK6 HP6 HR6 HIN
 generalize (w6.alloc (.cells #[.slice pad m pcap,.int .i64 ps,.int .i64 pd] 201)) = w7 at HK7 HP7 HR7 HIN7 HV7 ⊢
 obtain ⟨v,hv⟩ : ∃ v,v = w6.heap.size:=⟨_,rfl⟩
 rw [← hv] at hb6' hwv HV7 ⊢
 clear hv
 have hvb : v ≠ b:=by omega
 have hrv : w.heap.size ≠ v:=by omega
 obtain ⟨c,hc⟩ : ∃ c,sgAt l j [41] = c:=⟨_,rfl⟩
 have HC:=Lib.hid hc
 clear hc
 cases c with
 | true =>
  have hjlt : j < l.length:=sgAt_lt HC.out
  refine ((HX.out.keep HK7.out).sign HP7.out _ true HC.out).mono ?_
  rintro e w8 ⟨rfl,hb8⟩
  have HK8:=Lib.hid (HK7.out.below hb8)
  have HP8:=Lib.hid (HP7.out.below hb8)
  have HR8:=Lib.hid (HR7.out.below hb8)
  have HV8:=Lib.hid (HV7.out.below hb8)
  have HIN8:=Lib.hid (HIN7.out.below hb8)
  obtain ⟨⟨c0,c1,c2,c3,c4⟩,f1,f2,f3,f4⟩:=HP8.out.facts
  obtain ⟨⟨r0,r1,r2⟩,rf0,rf1,rf2⟩:=HR8.out.facts
  obtain ⟨⟨v0,v1,v2⟩,vf0,vf1,vf2⟩:=HV8.out.facts
  clear HK7 HP7 HR7 HV7 HIN7 hb8
  go_wp2_with fail
  obtain ⟨z1,z2,z3,z4⟩:=fin_part (HP8.out.set.1 ((j : Int) + 1)) (HR8.out.other b 1 hrb _) hrb (HIN8.out.setP HP8.out) (HK8.out.setCell 1 _) (Nat.le_refl _) (.slice pad m pcap) (.int .i64 ps) (.int .i64 pd)
  refine bodyPost_ret (v:=.agg #[.slice pad m pcap,.int .i64 ps,.int .i64 pd]) (results_part Tryz.results244 _ _ w.heap.size _ _ _ rfl z4) rfl ?_
  exact ⟨⟨pad,pcap,ps,pd,pxs⟩,j + 1,er,pl,by rw [HM.out]; rfl,z1,z2.more (by omega),by omega,by omega,z3,HRES.out.brR_yes HC.out,HZ.out⟩
 | false =>
  refine ((HX.out.keep HK7.out).sign HP7.out _ false HC.out).mono ?_
  rintro e w8 ⟨rfl,hb8⟩
  have HK8:=Lib.hid (HK7.out.below hb8)
  have HP8:=Lib.hid (HP7.out.below hb8)
  have HR8:=Lib.hid (HR7.out.below hb8)
  clear HK7 HP7 HR7 HV7 HIN7 hb8
  go_wp2_with fail
  refine ((HX.out.keep HK8.out).refuse HP8.out HZ.out).mono ?_
  rintro e w9 ⟨rfl,hp9,hk9⟩
  have HK9:=Lib.hid (HK8.out.trans hk9)
  have HP9:=Lib.hid hp9
  have HR9:=Lib.hid (HR8.out.keep hk9 hrb)
  obtain ⟨⟨r0,r1,r2⟩,rf0,rf1,rf2⟩:=HR9.out.facts
  clear HK8 HP8 HR8 hp9 hk9
  unfold partZ
  go_wp2_with fail
  obtain ⟨z1,z2,z3,z4⟩:=fin_part HP9.out HR9.out hrb (pt_zero w9 (b + 1) (j - i + slack (fst0 er (refK l j).1))) HK9.out (Nat.le_refl _) (.slice none 0 0) (.int .i64 0) (.int .i64 0)
  refine bodyPost_ret (v:=.agg #[.slice none 0 0,.int .i64 0,.int .i64 0]) (results_part Tryz.results244 _ _ w.heap.size _ _ _ rfl z4) rfl ?_
  obtain ⟨y1,y2⟩:=HRES.out.brR_no HC.out
  exact ⟨⟨none,0,0,0,[]⟩,j,_,_,rfl,z1,z2,by omega,hjl,z3,y1,y2⟩
theorem operand_nm (l : List Tok) (b : Nat) (lv : Value) (i d : Nat) (r : Res) (w : World) (hp : Pst w b lv i d 0 0) (hx : PCtx l b lv w) (h33 : sgAt l i [33] = false) (h40 : sgAt l i [40] = false) (hnm : nmAt l i = true) (hN : ∀ W,Pst W b lv i d 0 0 → PCtx l b lv W → Calls Tryz.prog 248 #[.pointer (some ⟨b,0,none⟩)] W (PPost l lv b d i r W)) :
  Calls Tryz.prog 244 #[.pointer (some ⟨b,0,none⟩)] w (PPost l lv b d i r w):=by
 have hb:=hp.lt
 have hn:=hx.hn
 have HP:=Lib.hid hp
 have HX:=Lib.hid hx
 have hrb : w.heap.size ≠ b:=by omega
 have H33:=Lib.hid h33
 have H40:=Lib.hid h40
 have HNM:=Lib.hid hnm
 have HN:=Lib.hid hN
 clear hp hx h33 h40 hnm hN
 go_enter Tryz.func244,Tryz.ntmps244
 go_wp2_with fail
 have hK1 : Keep b w (w.alloc (.cells #[.slice none 0 0,.int .i64 0,.int .i64 0] 201)):=(Keep.refl b w).alloc _
 have hP1 : Pst (w.alloc (.cells #[.slice none 0 0,.int .i64 0,.int .i64 0] 201)) b lv i d 0 0:=HP.out.alloc _
 have hR1 : Blk3 (w.alloc (.cells #[.slice none 0 0,.int .i64 0,.int .i64 0] 201)) w.heap.size (.slice none 0 0) (.int .i64 0) (.int .i64 0):=heap_alloc_new w _
 generalize (w.alloc (.cells #[.slice none 0 0,.int .i64 0,.int .i64 0] 201)) = w1 at hK1 hP1 hR1 ⊢
 refine ((HX.out.keep hK1).token hP1).mono ?_
 rintro e w2 ⟨rfl,hb2⟩
 have HK2:=Lib.hid (hK1.below hb2)
 have HP2:=Lib.hid (hP1.below hb2)
 have HR2:=Lib.hid (hR1.below hb2)
 obtain ⟨tk,htk⟩ : ∃ t,t = (tokO l i).1:=⟨_,rfl⟩
 obtain ⟨tn,htn⟩ : ∃ t,t = (tokO l i).2.2.1:=⟨_,rfl⟩
 obtain ⟨tx,htx⟩ : ∃ t,t = txt l i:=⟨_,rfl⟩
 obtain ⟨tp,htp⟩ : ∃ t,t = plc l i:=⟨_,rfl⟩
 rw [← htk,← htn,← htx,← htp]
 have HTP:=Lib.hid htp
 have HTK:=Lib.hid htk
 have HTN:=Lib.hid htn
 have hb2' : b < w2.heap.size:=HP2.out.lt
 have s5 : w2.cell? ⟨1,5,none⟩ = some (.string ⟨#[33]⟩):=(HX.out.keep HK2.out).hs.2 5 (by omega)
 have hz0 : 1 < w2.heap.size:=(HX.out.keep HK2.out).hs.1
 clear hK1 hP1 hR1 hb2 htk htn htx htp
 go_wp2_with fail
 have HK3:=Lib.hid (HK2.out.alloc (.cells #[.int .i64 tk,.string tx,.int .i64 tn,.int .i64 tp] 62))
 have HP3:=Lib.hid (HP2.out.alloc (.cells #[.int .i64 tk,.string tx,.int .i64 tn,.int .i64 tp] 62))
 have HR3:=Lib.hid (HR2.out.alloc (.cells #[.int .i64 tk,.string tx,.int .i64 tn,.int .i64 tp] 62))
 have HT3 : Hid (Blk4 (w2.alloc (.cells #[.int .i64 tk,.string tx,.int .i64 tn,.int .i64 tp] 62)) w2.heap.size (.int .i64 tk) (.string tx) (.int .i64 tn) (.int .i64 tp)):=heap_alloc_new w2 _
 have hgr : w.heap.size < w2.heap.size:=HR2.out.lt
 clear HP2 HR2 HK2 s5 hz0
 generalize (w2.alloc (.cells #[.int .i64 tk,.string tx,.int .i64 tn,.int .i64 tp] 62)) = w3 at HK3 HP3 HR3 HT3 ⊢
 obtain ⟨g,hg⟩ : ∃ g,g = w2.heap.size:=⟨_,rfl⟩
 rw [← hg] at hb2' HT3 hgr ⊢
 clear hg
 have hgb : g ≠ b:=by omega
 refine ((HX.out.keep HK3.out).sign HP3.out _ false H33.out).mono ?_
 rintro e w4 ⟨rfl,hb4⟩
 have HK4:=Lib.hid (HK3.out.below hb4)
 have HP4:=Lib.hid (HP3.out.below hb4)
 have HR4:=Lib.hid (HR3.out.below hb4)
 have HT4:=Lib.hid (HT3.out.below hb4 HT3.out.lt)
 clear HK3 HP3 HR3 HT3 hb4
 go_wp2_with fail
 refine ((HX.out.keep HK4.out).sign HP4.out _ false H40.out).mono ?_
 rintro e w5 ⟨rfl,hb5⟩
 have HK5:=Lib.hid (HK4.out.below hb5)
 have HP5:=Lib.hid (HP4.out.below hb5)
 have HR5:=Lib.hid (HR4.out.below hb5)
 have HT5:=Lib.hid (HT4.out.below hb5 HT4.out.lt)
 clear HK4 HP4 HR4 HT4 hb5
 go_wp2_with fail
 refine ((HX.out.keep HK5.out).name HP5.out true HNM.out).mono ?_
 rintro e w6 ⟨rfl,hb6⟩
 have HK6:=Lib.hid (HK5.out.below hb6)
 have HP6:=Lib.hid (HP5.out.below hb6)
 have HR6:=Lib.hid (HR5.out.below hb6)
 have HT6:=Lib.hid (HT5.out.below hb6 HT5.out.lt)
 clear HK5 HP5 HR5 HT5 hb6
 go_wp2_with fail
 refine (HN.out _ HP6.out (HX.out.keep HK6.out)).mono ?_
 rintro e w7 ⟨⟨pad,pcap,ps,pd,pxs⟩,j,er,pl,rfl,hp7,hin,hij,hjl,hk7,hres,hz⟩
 have HK7:=Lib.hid (HK6.out.trans hk7)
 have HP7:=Lib.hid hp7
 have HR7:=Lib.hid (HR6.out.keep hk7 hrb)
 have HIN:=Lib.hid hin
 have HRES:=Lib.hid hres
 have HZ:=Lib.hid hz
 obtain ⟨⟨r0,r1,r2⟩,rf0,rf1,rf2⟩:=HR7.out.facts
 clear hp7 hin hk7 hres hz HK6 HP6 HR6 HT6
 simp only [PtR.nv]
 obtain ⟨m,hm⟩ : ∃ m,m = pxs.length:=⟨_,rfl⟩
 rw [← hm]
 have HM:=Lib.hid hm
 clear hm
 go_wp2_with fail
 obtain ⟨z1,z2,z3,z4⟩:=fin_part HP7.out HR7.out hrb HIN.out HK7.out (Nat.le_refl _) (.slice pad m pcap) (.int .i64 ps) (.int .i64 pd)
 refine bodyPost_ret (v:=.agg #[.slice pad m pcap,.int .i64 ps,.int .i64 pd]) (results_part Tryz.results244 _ _ w.heap.size _ _ _ rfl z4) rfl ?_
 exact ⟨⟨pad,pcap,ps,pd,pxs⟩,j,er,pl,by rw [HM.out]; rfl,z1,z2,hij,hjl,z3,HRES.out,HZ.out⟩
theorem operand_nu (l : List Tok) (b : Nat) (lv : Value) (i d : Nat) (w : World) (hp : Pst w b lv i d 0 0) (hx : PCtx l b lv w) (h33 : sgAt l i [33] = false) (h40 : sgAt l i [40] = false) (hnm : nmAt l i = false) (hnu : nuAt l i = true) :
  Calls Tryz.prog 244 #[.pointer (some ⟨b,0,none⟩)] w (PPost l lv b d i (.ok (.leaf ⟨1,(tokO l i).2.2.1,⟨#[]⟩,⟨#[]⟩,plc l i⟩) (i + 1)) w):=by
 have hb:=hp.lt
 have hn:=hx.hn
 have HP:=Lib.hid hp
 have HX:=Lib.hid hx
 have hrb : w.heap.size ≠ b:=by omega
 have H33:=Lib.hid h33
 have H40:=Lib.hid h40
 have HNM:=Lib.hid hnm
 have HNU:=Lib.hid hnu
 clear hp hx h33 h40 hnm hnu
 go_enter Tryz.func244,Tryz.ntmps244
 go_wp2_with fail
 have hK1 : Keep b w (w.alloc (.cells #[.slice none 0 0,.int .i64 0,.int .i64 0] 201)):=(Keep.refl b w).alloc _
 have hP1 : Pst (w.alloc (.cells #[.slice none 0 0,.int .i64 0,.int .i64 0] 201)) b lv i d 0 0:=HP.out.alloc _
 have hR1 : Blk3 (w.alloc (.cells #[.slice none 0 0,.int .i64 0,.int .i64 0] 201)) w.heap.size (.slice none 0 0) (.int .i64 0) (.int .i64 0):=heap_alloc_new w _
 generalize (w.alloc (.cells #[.slice none 0 0,.int .i64 0,.int .i64 0] 201)) = w1 at hK1 hP1 hR1 ⊢
 refine ((HX.out.keep hK1).token hP1).mono ?_
 rintro e w2 ⟨rfl,hb2⟩
 have HK2:=Lib.hid (hK1.below hb2)
 have HP2:=Lib.hid (hP1.below hb2)
 have HR2:=Lib.hid (hR1.below hb2)
 obtain ⟨tk,htk⟩ : ∃ t,t = (tokO l i).1:=⟨_,rfl⟩
 obtain ⟨tn,htn⟩ : ∃ t,t = (tokO l i).2.2.1:=⟨_,rfl⟩
 obtain ⟨tx,htx⟩ : ∃ t,t = txt l i:=⟨_,rfl⟩
 obtain ⟨tp,htp⟩ : ∃ t,t = plc l i:=⟨_,rfl⟩
 rw [← htk,← htn,← htx,← htp]
 have HTP:=Lib.hid htp
 have HTK:=Lib.hid htk
 have HTN:=Lib.hid htn
 have hb2' : b < w2.heap.size:=HP2.out.lt
 have s5 : w2.cell? ⟨1,5,none⟩ = some (.string ⟨#[33]⟩):=(HX.out.keep HK2.out).hs.2 5 (by omega)
 have hz0 : 1 < w2.heap.size:=(HX.out.keep HK2.out).hs.1
 clear hK1 hP1 hR1 hb2 htk htn htx htp
 go_wp2_with fail
 have HK3:=Lib.hid (HK2.out.alloc (.cells #[.int .i64 tk,.string tx,.int .i64 tn,.int .i64 tp] 62))
 have HP3:=Lib.hid (HP2.out.alloc (.cells #[.int .i64 tk,.string tx,.int .i64 tn,.int .i64 tp] 62))
 have HR3:=Lib.hid (HR2.out.alloc (.cells #[.int .i64 tk,.string tx,.int .i64 tn,.int .i64 tp] 62))
 have HT3 : Hid (Blk4 (w2.alloc (.cells #[.int .i64 tk,.string tx,.int .i64 tn,.int .i64 tp] 62)) w2.heap.size (.int .i64 tk) (.string tx) (.int .i64 tn) (.int .i64 tp)):=heap_alloc_new w2 _
 have hgr : w.heap.size < w2.heap.size:=HR2.out.lt
 clear HP2 HR2 HK2 s5 hz0
 generalize (w2.alloc (.cells #[.int .i64 tk,.string tx,.int .i64 tn,.int .i64 tp] 62)) = w3 at HK3 HP3 HR3 HT3 ⊢
 obtain ⟨g,hg⟩ : ∃ g,g = w2.heap.size:=⟨_,rfl⟩
 rw [← hg] at hb2' HT3 hgr ⊢
 clear hg
 have hgb : g ≠ b:=by omega
 refine ((HX.out.keep HK3.out).sign HP3.out _ false H33.out).mono ?_
 rintro e w4 ⟨rfl,hb4⟩
 have HK4:=Lib.hid (HK3.out.below hb4)
 have HP4:=Lib.hid (HP3.out.below hb4)
 have HR4:=Lib.hid (HR3.out.below hb4)
 have HT4:=Lib.hid (HT3.out.below hb4 HT3.out.lt)
 clear HK3 HP3 HR3 HT3 hb4
 go_wp2_with fail
 refine ((HX.out.keep HK4.out).sign HP4.out _ false H40.out).mono ?_
 rintro e w5 ⟨rfl,hb5⟩
 have HK5:=Lib.hid (HK4.out.below hb5)
 have HP5:=Lib.hid (HP4.out.below hb5)
 have HR5:=Lib.hid (HR4.out.below hb5)
 have HT5:=Lib.hid (HT4.out.below hb5 HT4.out.lt)
 clear HK4 HP4 HR4 HT4 hb5
 go_wp2_with fail
 refine ((HX.out.keep HK5.out).name HP5.out false HNM.out).mono ?_
 rintro e w6 ⟨rfl,hb6⟩
 have HK6:=Lib.hid (HK5.out.below hb6)
 have HP6:=Lib.hid (HP5.out.below hb6)
 have HR6:=Lib.hid (HR5.out.below hb6)
 have HT6:=Lib.hid (HT5.out.below hb6 HT5.out.lt)
 clear HK5 HP5 HR5 HT5 hb6
 obtain ⟨⟨t0,t1,t2,t3⟩,tf0,tf1,tf2,tf3⟩:=HT6.out.facts
 obtain ⟨⟨c0,c1,c2,c3,c4⟩,f1,f2,f3,f4⟩:=HP6.out.facts
 have hb6' : b < w6.heap.size:=HP6.out.lt
 have hgl6 : g < w6.heap.size:=HT6.out.lt
 obtain ⟨n1,n2⟩ : tk = 2 ∧ numB (tn : Int) = true:=by
  have h:=HNU.out
  unfold nuAt at h
  rw [← HTK.out,← HTN.out] at h
  simpa using h
 subst n1
 have HNB:=Lib.hid n2
 have hnum:=fun w => number_any (tn : Int) w
 rw [n2] at hnum
 have hlt : i < l.length:=nuAt_lt HNU.out
 clear n2
 have HJ:=Lib.hid (join0 ⟨1,tn,⟨#[]⟩,⟨#[]⟩,tp⟩ (b + 1) (w6.setCell ⟨b,1,none⟩ (.int .i64 ((i : Int) + 1))) (by rw [size_set]; omega))
 simp only [nodeV] at HJ
 go_wp2_with (go_at_call 184; refine (hnum _).mono ?_; rintro e w7 ⟨rfl,rfl⟩)
 refine HJ.out.mono ?_
 rintro e w7 ⟨⟨pad,pcap,ps,pd,pxs⟩,rfl,ho7,hl1,hl2,hs7,hd7,hx7,hb7⟩
 have HIN : Hid (PtIn w7 (b + 1) ⟨pad,pcap,ps,pd,pxs⟩ (i + 1 - i)):=⟨ho7,hl1,hl2,by simp only [] at hs7 ⊢; omega,by simp only [] at hd7 ⊢; omega,by simp only [] at hd7 hs7 ⊢; omega⟩
 have HRES : Hid (ResOK (.ok (.leaf ⟨1,tn,⟨#[]⟩,⟨#[]⟩,tp⟩) (i + 1)) ⟨pad,pcap,ps,pd,pxs⟩ (i + 1) 0 0):=ResOK_leaf _ _ _ hs7 hd7 hx7
 have HK7:=Lib.hid ((HK6.out.setCell 1 (.int .i64 ((i : Int) + 1))).below hb7)
 have HP7 : Hid (Pst w7 b lv ((i + 1 : Nat) : Int) d 0 0):=(HP6.out.set.1 ((i + 1 : Nat) : Int)).below hb7
 have HR7:=Lib.hid ((HR6.out.other b 1 hrb (.int .i64 ((i : Int) + 1))).below hb7)
 obtain ⟨⟨r0,r1,r2⟩,rf0,rf1,rf2⟩:=HR7.out.facts
 clear ho7 hl1 hl2 hs7 hd7 hx7 hb7 HK6 HP6 HR6 HT6 HJ t0 t1 t2 t3 tf0 tf1 tf2 tf3 c0 c1 c2 c3 c4 f1 f2 f3 f4 hnum
 simp only [PtR.nv]
 obtain ⟨m,hm⟩ : ∃ m,m = pxs.length:=⟨_,rfl⟩
 rw [← hm]
 have HM:=Lib.hid hm
 clear hm
 go_wp2_with fail
 obtain ⟨z1,z2,z3,z4⟩:=fin_part HP7.out HR7.out hrb HIN.out HK7.out (Nat.le_refl _) (.slice pad m pcap) (.int .i64 ps) (.int .i64 pd)
 refine bodyPost_ret (v:=.agg #[.slice pad m pcap,.int .i64 ps,.int .i64 pd]) (results_part Tryz.results244 _ _ w.heap.size _ _ _ rfl z4) rfl ?_
 rw [HTN.out,HTP.out] at HRES
 exact ⟨⟨pad,pcap,ps,pd,pxs⟩,i + 1,0,0,by rw [HM.out]; rfl,z1,z2.more (Nat.le_add_right _ _),by omega,by omega,z3,HRES.out,fun _ => rfl⟩
theorem operand_rf (l : List Tok) (b : Nat) (lv : Value) (i d : Nat) (w : World) (hp : Pst w b lv i d 0 0) (hx : PCtx l b lv w) (h33 : sgAt l i [33] = false) (h40 : sgAt l i [40] = false) (hnm : nmAt l i = false) (hnu : nuAt l i = false) (hlt : i ≤ l.length) :
  Calls Tryz.prog 244 #[.pointer (some ⟨b,0,none⟩)] w (PPost l lv b d i (refR l i) w):=by
 have hb:=hp.lt
 have hn:=hx.hn
 have HP:=Lib.hid hp
 have HX:=Lib.hid hx
 have hrb : w.heap.size ≠ b:=by omega
 have H33:=Lib.hid h33
 have H40:=Lib.hid h40
 have HNM:=Lib.hid hnm
 have HNU:=Lib.hid hnu
 clear hp hx h33 h40 hnm hnu
 go_enter Tryz.func244,Tryz.ntmps244
 go_wp2_with fail
 have hK1 : Keep b w (w.alloc (.cells #[.slice none 0 0,.int .i64 0,.int .i64 0] 201)):=(Keep.refl b w).alloc _
 have hP1 : Pst (w.alloc (.cells #[.slice none 0 0,.int .i64 0,.int .i64 0] 201)) b lv i d 0 0:=HP.out.alloc _
 have hR1 : Blk3 (w.alloc (.cells #[.slice none 0 0,.int .i64 0,.int .i64 0] 201)) w.heap.size (.slice none 0 0) (.int .i64 0) (.int .i64 0):=heap_alloc_new w _
 generalize (w.alloc (.cells #[.slice none 0 0,.int .i64 0,.int .i64 0] 201)) = w1 at hK1 hP1 hR1 ⊢
 refine ((HX.out.keep hK1).token hP1).mono ?_
 rintro e w2 ⟨rfl,hb2⟩
 have HK2:=Lib.hid (hK1.below hb2)
 have HP2:=Lib.hid (hP1.below hb2)
 have HR2:=Lib.hid (hR1.below hb2)
 obtain ⟨tk,htk⟩ : ∃ t,t = (tokO l i).1:=⟨_,rfl⟩
 obtain ⟨tn,htn⟩ : ∃ t,t = (tokO l i).2.2.1:=⟨_,rfl⟩
 obtain ⟨tx,htx⟩ : ∃ t,t = txt l i:=⟨_,rfl⟩
 obtain ⟨tp,htp⟩ : ∃ t,t = plc l i:=⟨_,rfl⟩
 rw [← htk,← htn,← htx,← htp]
 have HTP:=Lib.hid htp
 have HTK:=Lib.hid htk
 have HTN:=Lib.hid htn
 have hb2' : b < w2.heap.size:=HP2.out.lt
 have s5 : w2.cell? ⟨1,5,none⟩ = some (.string ⟨#[33]⟩):=(HX.out.keep HK2.out).hs.2 5 (by omega)
 have hz0 : 1 < w2.heap.size:=(HX.out.keep HK2.out).hs.1
 clear hK1 hP1 hR1 hb2 htk htn htx htp
 go_wp2_with fail
 have HK3:=Lib.hid (HK2.out.alloc (.cells #[.int .i64 tk,.string tx,.int .i64 tn,.int .i64 tp] 62))
 have HP3:=Lib.hid (HP2.out.alloc (.cells #[.int .i64 tk,.string tx,.int .i64 tn,.int .i64 tp] 62))
 have HR3:=Lib.hid (HR2.out.alloc (.cells #[.int .i64 tk,.string tx,.int .i64 tn,.int .i64 tp] 62))
 have HT3 : Hid (Blk4 (w2.alloc (.cells #[.int .i64 tk,.string tx,.int .i64 tn,.int .i64 tp] 62)) w2.heap.size (.int .i64 tk) (.string tx) (.int .i64 tn) (.int .i64 tp)):=heap_alloc_new w2 _
 have hgr : w.heap.size < w2.heap.size:=HR2.out.lt
 clear HP2 HR2 HK2 s5 hz0
 generalize (w2.alloc (.cells #[.int .i64 tk,.string tx,.int .i64 tn,.int .i64 tp] 62)) = w3 at HK3 HP3 HR3 HT3 ⊢
 obtain ⟨g,hg⟩ : ∃ g,g = w2.heap.size:=⟨_,rfl⟩
 rw [← hg] at hb2' HT3 hgr ⊢
 clear hg
 have hgb : g ≠ b:=by omega
 refine ((HX.out.keep HK3.out).sign HP3.out _ false H33.out).mono ?_
 rintro e w4 ⟨rfl,hb4⟩
 have HK4:=Lib.hid (HK3.out.below hb4)
 have HP4:=Lib.hid (HP3.out.below hb4)
 have HR4:=Lib.hid (HR3.out.below hb4)
 have HT4:=Lib.hid (HT3.out.below hb4 HT3.out.lt)
 clear HK3 HP3 HR3 HT3 hb4
 go_wp2_with fail
 refine ((HX.out.keep HK4.out).sign HP4.out _ false H40.out).mono ?_
 rintro e w5 ⟨rfl,hb5⟩
 have HK5:=Lib.hid (HK4.out.below hb5)
 have HP5:=Lib.hid (HP4.out.below hb5)
 have HR5:=Lib.hid (HR4.out.below hb5)
 have HT5:=Lib.hid (HT4.out.below hb5 HT4.out.lt)
 clear HK4 HP4 HR4 HT4 hb5
 go_wp2_with fail
 refine ((HX.out.keep HK5.out).name HP5.out false HNM.out).mono ?_
 rintro e w6 ⟨rfl,hb6⟩
 have HK6:=Lib.hid (HK5.out.below hb6)
 have HP6:=Lib.hid (HP5.out.below hb6)
 have HR6:=Lib.hid (HR5.out.below hb6)
 have HT6:=Lib.hid (HT5.out.below hb6 HT5.out.lt)
 clear HK5 HP5 HR5 HT5 hb6
 obtain ⟨⟨t0,t1,t2,t3⟩,tf0,tf1,tf2,tf3⟩:=HT6.out.facts
 have hgl6 : g < w6.heap.size:=HT6.out.lt
 have hnum:=fun w => number_any (tn : Int) w
 have hnn : ((tk : Int) == 2) = false ∨ (((tk : Int) == 2) = true ∧ numB (tn : Int) = false):=by
  have h:=HNU.out
  unfold nuAt at h
  rw [← HTK.out,← HTN.out] at h
  by_cases h2 : tk = 2
  ·right
   subst h2
   simpa using h
  ·left; simp; omega
 have HREF:=fun w' (hk : Keep b w w') (hp : Pst w' b lv i d 0 0) => (HX.out.keep hk).refuse hp (fun _ => rfl)
 have HREF2:=Lib.hid HREF
 clear HREF
 rcases hnn with h2 | ⟨h2,h3⟩
 ·clear hnum
  go_wp2_with fail
  refine (HREF2.out _ HK6.out HP6.out).mono ?_
  rintro e w7 ⟨rfl,hp7,hk7⟩
  have HK7:=Lib.hid (HK6.out.trans hk7)
  have HP7 : Hid (Pst w7 b lv i d (refK l i).1 (refK l i).2):=hp7
  have HR7:=Lib.hid (HR6.out.keep hk7 hrb)
  obtain ⟨⟨r0,r1,r2⟩,rf0,rf1,rf2⟩:=HR7.out.facts
  clear hp7 hk7 HK6 HP6 HR6 HT6 t0 t1 t2 t3 tf0 tf1 tf2 tf3 h2
  unfold partZ
  go_wp2_with fail
  obtain ⟨z1,z2,z3,z4⟩:=fin_part HP7.out HR7.out hrb (pt_zero w7 (b + 1) (i - i + slack ((refK l i).1 : Int))) HK7.out (Nat.le_refl _) (.slice none 0 0) (.int .i64 0) (.int .i64 0)
  refine bodyPost_ret (v:=.agg #[.slice none 0 0,.int .i64 0,.int .i64 0]) (results_part Tryz.results244 _ _ w.heap.size _ _ _ rfl z4) rfl ?_
  exact ⟨⟨none,0,0,0,[]⟩,i,_,_,rfl,z1,z2,Nat.le_refl _,hlt,z3,⟨rfl,rfl,refK_pos _ _⟩,fun h => absurd (by exact_mod_cast h) (refK_pos l i)⟩
 ·rw [h3] at hnum
  clear h3
  go_wp2_with (go_at_call 184; refine (hnum _).mono ?_; rintro e w7 ⟨rfl,rfl⟩)
  refine (HREF2.out _ HK6.out HP6.out).mono ?_
  rintro e w7 ⟨rfl,hp7,hk7⟩
  have HK7:=Lib.hid (HK6.out.trans hk7)
  have HP7 : Hid (Pst w7 b lv i d (refK l i).1 (refK l i).2):=hp7
  have HR7:=Lib.hid (HR6.out.keep hk7 hrb)
  obtain ⟨⟨r0,r1,r2⟩,rf0,rf1,rf2⟩:=HR7.out.facts
  clear hp7 hk7 HK6 HP6 HR6 HT6 t0 t1 t2 t3 tf0 tf1 tf2 tf3 h2 hnum
  unfold partZ
  go_wp2_with fail
  obtain ⟨z1,z2,z3,z4⟩:=fin_part HP7.out HR7.out hrb (pt_zero w7 (b + 1) (i - i + slack ((refK l i).1 : Int))) HK7.out (Nat.le_refl _) (.slice none 0 0) (.int .i64 0) (.int .i64 0)
  refine bodyPost_ret (v:=.agg #[.slice none 0 0,.int .i64 0,.int .i64 0]) (results_part Tryz.results244 _ _ w.heap.size _ _ _ rfl z4) rfl ?_
  exact ⟨⟨none,0,0,0,[]⟩,i,_,_,rfl,z1,z2,Nat.le_refl _,hlt,z3,⟨rfl,rfl,refK_pos _ _⟩,fun h => absurd (by exact_mod_cast h) (refK_pos l i)⟩
end Go.Proofs.YtcghccjnadagcaaGreatDoor
