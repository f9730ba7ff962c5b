/- Facts. -/
import Derived.Test.YtcghccjnadagcaaGreatDoorRe
import Derived.Deep.DeepCutAuto
set_option maxRecDepth 100000
set_option maxHeartbeats 32000000
namespace Go.Proofs.YtcghccjnadagcaaGreatDoor
open Go.RowKit
def ChS (l : List Tok) (n f d : Nat) (r : Res) (p : PtR) (j c : Nat) (er pl : Int) : Prop:=
 (er ≠ 0 ∧ ResOK r p j er pl) ∨
 (er = 0 ∧ pl = 0 ∧ (n = 2 → c = 0) ∧ ∃ f' e,f' ≤ f ∧ run l f' (.more n e) d j = some r ∧ ResOK (.ok e j) p j 0 0) ∨
 (er = 0 ∧ pl = 0 ∧ n = 2 ∧ c = 1 ∧ ResOK r p j 0 0)
def IntsB (w : World) (b : Nat) (v : Value) (os : List Nat) : Prop:=
 ∃ g cap,v = .slice (some ⟨g,0,none⟩) os.length cap ∧ g < w.heap.size ∧ g ≠ b ∧ ∀ i,(hi : i < os.length) → w.cell? ⟨g,i,none⟩ = some (.int .i64 os[i])
theorem IntsB.ints {w : World} {b : Nat} {v : Value} {os : List Nat} (h : IntsB w b v os) : Ints w v os:=by
 obtain ⟨g,cap,hv,hg,_,hc⟩:=h
 exact ⟨g,cap,hv,hg,hc⟩
theorem IntsB.keep {w w' : World} {b : Nat} {v : Value} {os : List Nat} (h : IntsB w b v os) (hb : Keep b w w') : IntsB w' b v os:=by
 obtain ⟨g,cap,hv,hg,hn,hc⟩:=h
 exact ⟨g,cap,hv,Nat.lt_of_lt_of_le hg hb.size,hn,fun i hi => (hb.cell (p:=⟨g,i,none⟩) hg hn).trans (hc i hi)⟩
theorem IntsB.below {w w' : World} {b : Nat} {v : Value} {os : List Nat} (h : IntsB w b v os) (hb : Below w.heap.size w w') : IntsB w' b v os:=h.keep (Below.keep hb)
theorem Blk5.keepB {W W' : World} {b g : Nat} {x : Nd} (h : Blk5 W g x) (hb : Keep b W W') (hg : g ≠ b) : Blk5 W' g x:=by
 have:=Blk5.lt h
 unfold Blk5 at *; rw [hb.block g this hg]; exact h
theorem which_lt {l : List Tok} {j : Nat} {os : List Nat} (h : which l j os ≠ 0) : j < l.length:=by
 induction os with
 | nil => exact absurd rfl h
 | cons o os ih =>
  unfold which at h
  by_cases hs : sgAt l j (sgO o) = true
  ·exact sgAt_lt hs
  ·rw [if_neg hs] at h; exact ih h
theorem opsOf_small (n : Nat) : (∀ o ∈ opsOf n,o < 15) ∧ (opsOf n).length ≤ 4:=by
 match n with
 | 0 => decide
 | 1 => decide
 | 2 => decide
 | 3 => decide
 | n + 4 => exact (show (∀ o ∈ [8],o < 15) ∧ [8].length ≤ 4 by decide)
theorem which_mem {l : List Tok} {j : Nat} {os : List Nat} (h : which l j os ≠ 0) : which l j os ∈ os:=by
 induction os with
 | nil => exact absurd rfl h
 | cons o os ih =>
  unfold which at h ⊢
  by_cases hs : sgAt l j (sgO o) = true
  ·rw [if_pos hs]; simp
  ·rw [if_neg hs] at h ⊢; exact List.mem_cons_of_mem _ (ih h)
theorem ChS.done {l : List Tok} {n f d : Nat} {r : Res} {p : PtR} {j c : Nat} {er pl : Int} (h : ChS l n f d r p j c er pl) (hw : er = 0 → n = 2 ∧ c = 1 ∨ which l j (opsOf n) = 0) : ResOK r p j er pl:=by
 rcases h with ⟨_,h⟩ | ⟨rfl,rfl,h2,f',e,_,hr,h⟩ | ⟨rfl,rfl,_,_,h⟩
 ·exact h
 ·rcases hw rfl with ⟨h3,h4⟩ | hw
  ·exact absurd (h2 h3) (by omega)
  ·cases f' with
   | zero => cases hr
   | succ f' =>
    unfold run at hr
    rw [if_pos hw] at hr
    cases hr
    exact h
 ·exact h
theorem ChS.step {l : List Tok} {n f d : Nat} {r : Res} {p : PtR} {j c : Nat} (h : ChS l n f d r p j c 0 0) (hw : which l j (opsOf n) ≠ 0) (hc : n = 2 → c = 0) :
  ∃ f' e r2,f' ≤ f ∧ run l f' (.lv (n + 1)) d (j + 1) = some r2 ∧ ResOK (.ok e j) p j 0 0 ∧ (∀ (p2 : PtR) (j2 : Nat) (er pl : Int) (p3 : PtR),ResOK r2 p2 j2 er pl → 0 ≤ p.d → 0 ≤ p2.d → (p2.xs.length : Int) ≤ p2.s → p3.s = p.s + p2.s + 1 → p3.d = max p.d p2.d + 1 →
   (p3.s ≤ 200 ∧ p3.d ≤ 30 → p3.xs = opN (which l j (opsOf n)) (plc l j) :: (p.xs ++ p2.xs)) → ChS l n f d r p3 j2 (c + 1) er pl):=by
 rcases h with ⟨h,_⟩ | ⟨_,_,h2,f',e,hf,hr,h⟩ | ⟨_,_,h3,h4,h⟩
 ·exact absurd rfl h
 ·cases f' with
  | zero => cases hr
  | succ f' =>
   unfold run at hr
   rw [if_neg hw] at hr
   obtain ⟨h1,h2',h3,h4,h5,h6⟩:=h
   cases h7 : run l f' (.lv (n + 1)) d (j + 1) with
   | none => rw [h7] at hr; cases hr
   | some r2 =>
    rw [h7] at hr
    refine ⟨f',e,r2,by omega,h7,⟨h1,h2',h3,h4,h5,h6⟩,fun p2 j2 er pl p3 hp2 hpd hp2d hxl hs hd hx => ?_⟩
    cases r2 with
    | err k a =>
     simp only [] at hr
     cases hr
     obtain ⟨rfl,rfl,hk⟩:=hp2
     exact .inl ⟨by omega,rfl,rfl,hk⟩
    | ok y j2' =>
     simp only [] at hr
     obtain ⟨rfl,rfl,rfl,g4,g5,g6⟩:=hp2
     have hok : ResOK (.ok (.bin (opN (which l j (opsOf n)) (plc l j)) e y) j2) p3 j2 0 0:=by
      refine ⟨rfl,rfl,rfl,?_,?_,fun hh => ?_⟩
      ·rw [hs,h4,g4]; simp [Ex.size]
      ·rw [hd,h5,g5]; simp [Ex.depth]; omega
      ·rw [hx hh,h6 ⟨by omega,by omega⟩,g6 ⟨by omega,by omega⟩]; rfl
     by_cases hn : n = 2
     ·rw [if_pos hn] at hr
      cases hr
      exact .inr (.inr ⟨rfl,rfl,hn,by rw [hc hn],hok⟩)
     ·rw [if_neg hn] at hr
      exact .inr (.inl ⟨rfl,rfl,fun h => absurd h hn,f',_,by omega,hr,hok⟩)
 ·exact absurd (hc h3) (by omega)
theorem chain_end {l : List Tok} {b d i j j2 c f n br bl o tp : Nat} {lv v x0 x1 x2 : Value} {r r2' : Res} {w w7 w8 w9 : World} {p q t : PtR} {er2 pl2 : Int}
  (hlb : bl ≠ b) (hrl : br ≠ bl) (hrb : br ≠ b) (hwl : w.heap.size ≤ bl) (hv : IntsB w b v (opsOf n))
  (hk7 : Keep b w w7) (hk8 : Keep b w7 w8) (hb9 : Below w8.heap.size w8 w9) (hr7 : Blk3 w7 br (.slice none 0 0) (.int .i64 0) (.int .i64 0)) (hl9 : Blk3 w9 bl x0 x1 x2) (hp8 : Pst w8 b lv j2 d er2 pl2)
  (hi7 : PtIn w7 (b + 1) p (j - i + slack 0)) (hi8 : PtIn w8 (b + 1) q (j2 - (j + 1) + slack er2)) (hres : ResOK r2' q j2 er2 pl2) (htp : tp = plc l j) (ho : o = which l j (opsOf n))
  (hstep : ∀ (p2 : PtR) (j2 : Nat) (er pl : Int) (p3 : PtR),ResOK r2' p2 j2 er pl → 0 ≤ p.d → 0 ≤ p2.d → (p2.xs.length : Int) ≤ p2.s → p3.s = p.s + p2.s + 1 → p3.d = max p.d p2.d + 1 →
   (p3.s ≤ 200 ∧ p3.d ≤ 30 → p3.xs = opN (which l j (opsOf n)) (plc l j) :: (p.xs ++ p2.xs)) → ChS l n f d r p3 j2 (c + 1) er pl)
  (ho9 : w9.ownsRow (b + 1) 46 5 t.nv t.xs.length (rowN t.xs)) (hl1 : t.xs.length ≤ 200) (hl2 : (t.xs.length : Int) ≤ t.s) (hs : t.s = p.s + q.s + 1) (hd : t.d = max p.d q.d + 1)
  (hx9 : t.s ≤ 200 ∧ t.d ≤ 30 → t.xs = ⟨o,0,⟨#[]⟩,⟨#[]⟩,tp⟩ :: (p.xs ++ q.xs)) (hij : i ≤ j) (hij8 : j + 1 ≤ j2) :
  Blk3 (fill3 w9 bl t.nv (.int .i64 t.s) (.int .i64 t.d)) bl t.nv (.int .i64 t.s) (.int .i64 t.d) ∧ Blk3 (fill3 w9 bl t.nv (.int .i64 t.s) (.int .i64 t.d)) br (.slice none 0 0) (.int .i64 0) (.int .i64 0) ∧
  Pst (fill3 w9 bl t.nv (.int .i64 t.s) (.int .i64 t.d)) b lv j2 d er2 pl2 ∧ PtIn (fill3 w9 bl t.nv (.int .i64 t.s) (.int .i64 t.d)) (b + 1) t (j2 - i + slack er2) ∧ IntsB (fill3 w9 bl t.nv (.int .i64 t.s) (.int .i64 t.d)) b v (opsOf n) ∧
  Keep b w (fill3 w9 bl t.nv (.int .i64 t.s) (.int .i64 t.d)) ∧ ChS l n f d r t j2 (c + 1) er2 pl2:=by
 obtain ⟨_,p2,p3,p4,p5,p6⟩:=hi7
 obtain ⟨_,q2,q3,q4,q5,q6⟩:=hi8
 have h0 : slack 0 = 0:=rfl
 have hI : PtIn w9 (b + 1) t (j2 - i + slack er2):=⟨ho9,hl1,hl2,by rw [hs]; omega,by rw [hd]; omega,by rw [hs,hd]; omega⟩
 obtain ⟨z1,z2,z3,z4⟩:=fin_part (hp8.below hb9) hl9 hlb hI ((hk7.trans hk8).below hb9) hwl t.nv (.int .i64 t.s) (.int .i64 t.d)
 have hr9:=(hr7.keep hk8 hrb).below hb9
 refine ⟨z4,((hr9.other _ _ hrl _).other _ _ hrl _).other _ _ hrl _,z1,z2,hv.keep z3,z3,hstep q j2 er2 pl2 t hres p5 q5 q3 hs hd fun h => ?_⟩
 rw [hx9 h,htp,ho]; rfl
theorem ChS.slack {l : List Tok} {n f d : Nat} {r : Res} {p : PtR} {j c : Nat} {er pl : Int} (h : ChS l n f d r p j c er pl) : er = 0 → pl = 0:=by
 rcases h with ⟨h,_⟩ | ⟨_,h,_⟩ | ⟨_,h,_⟩
 ·exact fun e => absurd e h
 ·exact fun _ => h
 ·exact fun _ => h
theorem which_none {l : List Tok} {j : Nat} {os : List Nat} (h : l.length ≤ j) : which l j os = 0:=by
 by_cases h1 : which l j os = 0
 ·exact h1
 ·exact absurd (which_lt h1) (by omega)
theorem chainN (fl G : Nat) (hfl : fl < 5 ∧ fl ≠ 2) (hG : ∀ args w, (callFunc G args).run Tryz.prog w = .ok (.enter G args) w) (l : List Tok) (b : Nat) (lv v : Value) (i d f most : Nat) (r : Res) (w : World) (hp : Pst w b lv i d 0 0) (hx : PCtx l b lv w) (hi : i ≤ l.length) (hv : IntsB w b v (opsOf fl)) (hm : most = l.length)
   (hrun : run l (f + 1) (.lv fl) d i = some r)
   (hF : ∀ f' i' r',f' ≤ f → i' ≤ l.length → run l f' (.lv (fl + 1)) d i' = some r' → ∀ W,Pst W b lv i' d 0 0 → PCtx l b lv W → Calls Tryz.prog G #[.pointer (some ⟨b,0,none⟩)] W (PPost l lv b d i' r' W)) :
   Calls Tryz.prog 229 #[.pointer (some ⟨b,0,none⟩),.func (.func G) #[] #[],.int .i64 most,v] w (PPost l lv b d i r w):=by
 have hb:=hp.lt
 have hn:=hx.hn
 have hml : most ≤ 100001:=by omega
 have HP:=Lib.hid hp
 have HX:=Lib.hid hx
 have HV:=Lib.hid hv
 have HF:=Lib.hid hF
 have HM:=Lib.hid hm
 have hrb : w.heap.size ≠ b:=by omega
 -- what comes first
 obtain ⟨r1,hr1,hst⟩ : ∃ r1,run l f (.lv (fl + 1)) d i = some r1 ∧ ∀ p j er pl,ResOK r1 p j er pl → ChS l fl f d r p j 0 er pl:=by
   unfold run at hrun
   rw [if_neg (by omega)] at hrun
   cases h : run l f (.lv (fl + 1)) d i with
   | none => rw [h] at hrun; cases hrun
   | some r1 =>
     refine ⟨r1,rfl,fun p j er pl hp => ?_⟩
     rw [h] at hrun
     cases r1 with
     | err k a =>
       simp only [] at hrun
       cases hrun
       obtain ⟨rfl,rfl,hk⟩:=hp
       exact .inl ⟨by omega,rfl,rfl,hk⟩
     | ok e j0 =>
       simp only [] at hrun
       obtain ⟨rfl,rfl,rfl,h4,h5,h6⟩:=hp
       exact .inr (.inl ⟨rfl,rfl,fun _ => rfl,f,e,Nat.le_refl _,hrun,rfl,rfl,rfl,h4,h5,h6⟩)
 have HR1:=Lib.hid hr1
 have HST:=Lib.hid hst
 clear hp hx hv hF hm hrun hr1 hst
 go_enter Tryz.func229,Tryz.ntmps229
 go_wp2_with fail
 have hK1 : Keep b w (w.alloc (.cells #[.slice none 0 0,.int .i64 0,.int .i64 0] 201)):=(Keep.refl b w).alloc _
 have hP1 : Pst (w.alloc (.cells #[.slice none 0 0,.int .i64 0,.int .i64 0] 201)) b lv i d 0 0:=HP.out.alloc _
 have hR1 : Blk3 (w.alloc (.cells #[.slice none 0 0,.int .i64 0,.int .i64 0] 201)) w.heap.size (.slice none 0 0) (.int .i64 0) (.int .i64 0):=heap_alloc_new w _
 have hV1 : IntsB (w.alloc (.cells #[.slice none 0 0,.int .i64 0,.int .i64 0] 201)) b v (opsOf fl):=HV.out.below ((Below.refl _ _).alloc (Nat.le_refl _) _)
 generalize (w.alloc (.cells #[.slice none 0 0,.int .i64 0,.int .i64 0] 201)) = w1 at hK1 hP1 hR1 hV1 ⊢
 refine (HF.out f i r1 (Nat.le_refl _) hi HR1.out _ hP1 (HX.out.keep hK1)).mono ?_
 rintro e w2 ⟨⟨pad,pcap,ps,pd,pxs⟩,j,er,pl,rfl,hp2,hin,hij,hjl,hk2,hres,hz⟩
 have HK2:=Lib.hid (hK1.trans hk2)
 have HP2:=Lib.hid hp2
 have HR2:=Lib.hid (hR1.keep hk2 hrb)
 have HV2:=Lib.hid (hV1.keep hk2)
 have HIN:=Lib.hid hin
 have HC:=Lib.hid (HST.out _ _ _ _ hres)
 have hw2 : w.heap.size < w2.heap.size:=HR2.out.lt
 have hb2 : b < w2.heap.size:=HP2.out.lt
 clear hK1 hP1 hR1 hV1 hp2 hin hk2 hres hz
 simp only [PtR.nv]
 obtain ⟨m,hm⟩ : ∃ m,m = pxs.length:=⟨_,rfl⟩
 rw [← hm]
 have HMM:=Lib.hid hm
 clear hm
 go_wp2_with fail
 have HK3:=Lib.hid (HK2.out.alloc (.cells #[.slice pad m pcap,.int .i64 ps,.int .i64 pd] 201))
 have HP3:=Lib.hid (HP2.out.alloc (.cells #[.slice pad m pcap,.int .i64 ps,.int .i64 pd] 201))
 have HR3:=Lib.hid (HR2.out.alloc (.cells #[.slice pad m pcap,.int .i64 ps,.int .i64 pd] 201))
 have HI3:=Lib.hid (HIN.out.alloc (.cells #[.slice pad m pcap,.int .i64 ps,.int .i64 pd] 201))
 have HV3:=Lib.hid (HV2.out.below ((Below.refl _ w2).alloc (Nat.le_refl _) (.cells #[.slice pad m pcap,.int .i64 ps,.int .i64 pd] 201)))
 have HL3 : Hid (Blk3 (w2.alloc (.cells #[.slice pad m pcap,.int .i64 ps,.int .i64 pd] 201)) w2.heap.size (.slice pad m pcap) (.int .i64 ps) (.int .i64 pd)):=heap_alloc_new w2 _
 clear HK2 HP2 HR2 HIN HV2
 generalize (w2.alloc (.cells #[.slice pad m pcap,.int .i64 ps,.int .i64 pd] 201)) = w3 at HK3 HP3 HR3 HI3 HV3 HL3 ⊢
 obtain ⟨bl,hbl⟩ : ∃ g,g = w2.heap.size:=⟨_,rfl⟩
 rw [← hbl] at hw2 hb2 HL3 ⊢
 clear hbl
 have hlb : bl ≠ b:=by omega
 have hrl : w.heap.size ≠ bl:=by omega
 obtain ⟨br,hbr⟩ : ∃ g,g = w.heap.size:=⟨_,rfl⟩
 have HBR:=Lib.hid hbr
 rw [← hbr] at hw2 hrl hrb HR3 ⊢
 clear hbr
 go_loopg [16] most (fun fuel c' wr => ∃ (c j m : Nat) (pad : Option Addr) (pcap : Nat) (ps pd : Int) (pxs : List Nd) (er pl : Int), c' = .int .i64 c ∧ c ≤ most ∧ most - c ≤ fuel ∧ i ≤ j ∧ j ≤ l.length ∧ c ≤ j - i ∧ m = pxs.length ∧ Blk3 wr bl (.slice pad m pcap) (.int .i64 ps) (.int .i64 pd) ∧ Blk3 wr br (.slice none 0 0) (.int .i64 0) (.int .i64 0) ∧
     Pst wr b lv j d er pl ∧ PtIn wr (b + 1) ⟨pad,pcap,ps,pd,pxs⟩ (j - i + slack er) ∧ IntsB wr b v (opsOf fl) ∧ Keep b w wr ∧ ChS l fl f d r ⟨pad,pcap,ps,pd,pxs⟩ j c er pl)
 case atStart => exact ⟨0,j,m,pad,pcap,ps,pd,pxs,er,pl,rfl,Nat.zero_le _,Nat.le_refl _,hij,hjl,by omega,HMM.out,HL3.out,HR3.out,HP3.out,HI3.out,HV3.out,HK3.out,HC.out⟩
 case round =>
   clear HK3 HP3 HR3 HI3 HV3 HL3 HMM HC hij hjl
   obtain ⟨c,j,m,pad,pcap,ps,pd,pxs,er,pl,rfl,hc,hf,hij,hjl,hcj,hmm,hl4,hr4,hp4,hi4,hv4,hk4,hch⟩:=hrel
   have HMM:=Lib.hid hmm
   have HL:=Lib.hid hl4
   have HR:=Lib.hid hr4
   have HP4:=Lib.hid hp4
   have HI:=Lib.hid hi4
   have HV4:=Lib.hid hv4
   have HK:=Lib.hid hk4
   have HC:=Lib.hid hch
   clear hmm hl4 hr4 hp4 hi4 hv4 hk4 hch
   by_cases hlt : c < most
   · obtain ⟨o,ho⟩ : ∃ o,o = which l j (opsOf fl):=⟨_,rfl⟩
     have HOP : Hid (Calls Tryz.prog 237 #[.pointer (some ⟨b,0,none⟩),v] wr fun e w' => e = .returned (.int .i64 o) ∧ Below wr.heap.size wr w'):=by
       rw [ho]
       exact operator_any l b lv j d er pl v (opsOf fl) wr HP4.out (HX.out.keep HK.out).ht hn (HX.out.keep HK.out).hs HV4.out.ints (opsOf_small fl).1 (opsOf_small fl).2
     have HO:=Lib.hid ho
     clear ho
     go_wp2_with fail
     refine HOP.out.mono ?_
     rintro e w5 ⟨rfl,hb5⟩
     have HL5:=Lib.hid (HL.out.below hb5)
     have HR5:=Lib.hid (HR.out.below hb5)
     have HP5:=Lib.hid (HP4.out.below hb5)
     have HI5:=Lib.hid (HI.out.below hb5)
     have HV5:=Lib.hid (HV4.out.below hb5)
     have HK5:=Lib.hid (HK.out.below hb5)
     clear HOP HL HR HP4 HI HV4 HK hb5
     obtain ⟨⟨c0,c1,c2,c3,c4⟩,f1,f2,f3,f4⟩:=HP5.out.facts
     obtain ⟨⟨l0,l1,l2⟩,lf0,lf1,lf2⟩:=HL5.out.facts
     obtain ⟨⟨r0,r1',r2⟩,rf0,rf1,rf2⟩:=HR5.out.facts
     by_cases her : er = 0
     · by_cases ho0 : o = 0
       · have HD : Hid (ResOK r ⟨pad,pcap,ps,pd,pxs⟩ j er pl):=HC.out.done fun _ => .inr (by rw [← HO.out]; exact ho0)
         have HZ:=Lib.hid HC.out.slack
         subst ho0
         have q1 : (er != 0) = false:=by simp [her]
         have q2 : ((0 : Int) == 0) = true:=rfl
         clear her
         go_wp2_with fail
         rw [HMM.out]
         obtain ⟨z1,z2,z3,z4⟩:=fin_part HP5.out HR5.out hrb HI5.out HK5.out (Nat.le_of_eq HBR.out.symm) (.slice pad m pcap) (.int .i64 ps) (.int .i64 pd)
         rw [HMM.out] at z1 z2 z3 z4
         refine bodyPost_ret (v:=.agg #[.slice pad pxs.length pcap,.int .i64 ps,.int .i64 pd]) (results_part Tryz.results229 _ _ br _ _ _ rfl z4) rfl ?_
         exact ⟨⟨pad,pcap,ps,pd,pxs⟩,j,er,pl,rfl,z1,z2,hij,hjl,z3,HD.out,HZ.out⟩
       · obtain rfl : pl = 0:=HC.out.slack her
         subst her
         have q2 : ((o : Int) == 0) = false:=by simp; omega
         have hw : which l j (opsOf fl) ≠ 0:=by rw [← HO.out]; exact ho0
         have hjlt : j < l.length:=which_lt hw
         obtain ⟨f',e0,r2',hf',hr2',hok,hstep⟩:=HC.out.step hw (by omega)
         have HR2':=Lib.hid hr2'
         have HSTEP:=Lib.hid hstep
         have ho15 : o < 15:=by rw [HO.out]; exact (opsOf_small fl).1 _ (which_mem hw)
         clear hr2' hstep hw HC hok
         obtain ⟨ad,cap,hlv,hct⟩:=(HX.out.keep HK5.out).ht
         obtain ⟨gt,had,hg1,hg2,_,_,_,k3⟩:=hct j hjlt
         subst had
         subst hlv
         obtain ⟨tp,htp⟩ : ∃ t,t = l[j].2.2.2:=⟨_,rfl⟩
         have HTP : Hid (tp = plc l j):=by rw [plc_in l j hjlt]; exact htp
         rw [← htp] at k3
         clear hct htp
         obtain ⟨n,hN⟩ : ∃ n,n = l.length:=⟨_,rfl⟩
         have HN:=Lib.hid hN
         have hjn : j < n:=by omega
         rw [← hN] at c0
         have hb5' : b < w5.heap.size:=HP5.out.lt
         have hl5' : bl < w5.heap.size:=HL5.out.lt
         go_wp2_with fail
         go_region
         have HK6:=Lib.hid ((HK5.out.alloc (.cells #[.int .i64 o,.int .i64 0,.string ⟨#[]⟩,.string ⟨#[]⟩,.int .i64 tp] 46)).drewN 1)
         have HL6 : Hid (Blk3 ((w5.alloc (.cells #[.int .i64 o,.int .i64 0,.string ⟨#[]⟩,.string ⟨#[]⟩,.int .i64 tp] 46)).drewN 1) bl (.slice pad m pcap) (.int .i64 ps) (.int .i64 pd)):=HL5.out.alloc _
         have HR6 : Hid (Blk3 ((w5.alloc (.cells #[.int .i64 o,.int .i64 0,.string ⟨#[]⟩,.string ⟨#[]⟩,.int .i64 tp] 46)).drewN 1) br (.slice none 0 0) (.int .i64 0) (.int .i64 0)):=HR5.out.alloc _
         have HP6:=Lib.hid ((HP5.out.alloc (.cells #[.int .i64 o,.int .i64 0,.string ⟨#[]⟩,.string ⟨#[]⟩,.int .i64 tp] 46)).drewN 1)
         have HI6 : Hid (PtIn ((w5.alloc (.cells #[.int .i64 o,.int .i64 0,.string ⟨#[]⟩,.string ⟨#[]⟩,.int .i64 tp] 46)).drewN 1) (b + 1) ⟨pad,pcap,ps,pd,pxs⟩ (j - i + slack 0)):=HI5.out.alloc _
         have HV6:=Lib.hid (HV5.out.keep (((Keep.refl b w5).alloc (.cells #[.int .i64 o,.int .i64 0,.string ⟨#[]⟩,.string ⟨#[]⟩,.int .i64 tp] 46)).drewN 1))
         have HB6 : Hid (Blk5 ((w5.alloc (.cells #[.int .i64 o,.int .i64 0,.string ⟨#[]⟩,.string ⟨#[]⟩,.int .i64 tp] 46)).drewN 1) w5.heap.size ⟨o,0,⟨#[]⟩,⟨#[]⟩,tp⟩):=heap_alloc_new w5 _
         clear HK5 HL5 HR5 HP5 HI5 HV5 c0 c1 c2 c3 c4 f1 f2 f3 f4 l0 l1 l2 lf0 lf1 lf2 r0 r1' r2 rf0 rf1 rf2 k3
         change Exit.then _ _ _ _ ((w5.alloc (.cells #[.int .i64 o,.int .i64 0,.string ⟨#[]⟩,.string ⟨#[]⟩,.int .i64 tp] 46)).drewN 1)
         generalize (w5.alloc (.cells #[.int .i64 o,.int .i64 0,.string ⟨#[]⟩,.string ⟨#[]⟩,.int .i64 tp] 46)).drewN 1 = w6 at HK6 HL6 HR6 HP6 HI6 HV6 HB6 ⊢
         obtain ⟨bn,hbn⟩ : ∃ g,g = w5.heap.size:=⟨_,rfl⟩
         rw [← hbn] at hb5' hl5' HB6 ⊢
         clear hbn
         have hnb : bn ≠ b:=by omega
         have hnl : bn ≠ bl:=by omega
         obtain ⟨⟨c0,c1,c2,c3,c4⟩,f1,f2,f3,f4⟩:=HP6.out.facts
         go_wp2_with fail
         have e2 : (j : Int) + 1 = ((j + 1 : Nat) : Int):=by omega
         rw [e2]
         clear e2
         have HK7:=Lib.hid (HK6.out.setCell 1 (.int .i64 ((j + 1 : Nat) : Int)))
         have HP7:=Lib.hid (HP6.out.set.1 ((j + 1 : Nat) : Int))
         have HL7:=Lib.hid (HL6.out.other b 1 hlb (.int .i64 ((j + 1 : Nat) : Int)))
         have HR7:=Lib.hid (HR6.out.other b 1 hrb (.int .i64 ((j + 1 : Nat) : Int)))
         have HB7:=Lib.hid (HB6.out.other b 1 hnb (.int .i64 ((j + 1 : Nat) : Int)))
         have HI7 : Hid (PtIn (w6.setCell ⟨b,1,none⟩ (.int .i64 ((j + 1 : Nat) : Int))) (b + 1) ⟨pad,pcap,ps,pd,pxs⟩ (j - i + slack 0)):=HI6.out.setP HP6.out
         have HV7:=Lib.hid (HV6.out.keep ((Keep.refl b w6).setCell 1 (.int .i64 ((j + 1 : Nat) : Int))))
         clear HK6 HL6 HR6 HP6 HI6 HV6 HB6 c0 c1 c2 c3 c4 f1 f2 f3 f4
         generalize w6.setCell ⟨b,1,none⟩ (.int .i64 ((j + 1 : Nat) : Int)) = w7 at HK7 HP7 HL7 HR7 HB7 HI7 HV7 ⊢
         have hmm:=HMM.out
         subst hmm
         have HCALL : Hid (∀ w',Keep b w w' → Pst w' b (.slice (some ⟨gt,0,none⟩) l.length cap) ((j + 1 : Nat) : Int) d 0 0 → Calls Tryz.prog G #[.pointer (some ⟨b,0,none⟩)] w' (PPost l (.slice (some ⟨gt,0,none⟩) l.length cap) b d (j + 1) r2' w')):=fun w' hk hp => HF.out f' (j + 1) r2' hf' (by omega) HR2'.out w' hp (HX.out.keep hk)
         obtain ⟨⟨l0,l1,l2⟩,lf0,lf1,lf2⟩:=HL7.out.facts
         obtain ⟨⟨n0,n1,n2,n3,n4⟩,_⟩:=HB7.out.facts
         simp only [] at n0 n1 n2 n3 n4
         go_region_with (first
           | (go_at_call 238; refine HJ8.out.mono ?_; rintro e w9 ⟨⟨tad,tcap,ts,td,txs⟩,rfl,ho9,hl1,hl2,hs9,hd9,hx9,hb9⟩; have hb89:=below_new hb9; simp only [] at hs9 hd9 hl1 hl2 hx9; subst hs9; subst hd9; have HL9:=Lib.hid (HL8.out.below hb89); obtain ⟨⟨l0'',l1'',l2''⟩,lf0'',lf1'',lf2''⟩:=HL9.out.facts; simp only [PtR.nv])
           | (refine (HCALL.out _ (by first | exact HK7.out.drewN 1 | exact HK7.out) (by first | exact HP7.out.drewN 1 | exact HP7.out)).mono ?_; rintro e w8 ⟨⟨qad,qcap,qs,qd,qxs⟩,j2,er2,pl2,rfl,hp8,hin8,hij8,hjl8,hk8,hres8,hz8⟩; have hk78 : Keep b w7 w8:=(by first | exact ((Keep.refl b w7).drewN 1).trans hk8 | exact hk8); have HL8:=Lib.hid (HL7.out.keep hk78 hlb); have HB8:=Lib.hid (HB7.out.keepB hk78 hnb); have hbn8 : bn < w8.heap.size:=HB8.out.lt; have hbl8 : bl < w8.heap.size:=HL8.out.lt; obtain ⟨⟨l0',l1',l2'⟩,lf0',lf1',lf2'⟩:=HL8.out.facts; obtain ⟨⟨n0',n1',n2',n3',n4'⟩,_⟩:=HB8.out.facts; simp only [] at n0' n1' n2' n3' n4'; have HP8:=Lib.hid hp8; have HIN8:=Lib.hid hin8; have HRES8:=Lib.hid hres8; have HK8:=Lib.hid hk78; have HJ8:=Lib.hid (join2 ⟨o,0,⟨#[]⟩,⟨#[]⟩,tp⟩ ⟨pad,pcap,ps,pd,pxs⟩ ⟨qad,qcap,qs,qd,qxs⟩ _ _ (b + 1) w8 hp8.lt (HI7.out.keep hk78 (Nat.lt_succ_self b)) hin8 (by have:=slack_le 0; omega) (by have:=slack_le er2; omega)); simp only [nodeV,PtR.nv] at HJ8; clear hp8 hin8 hres8 hk8 hk78 hz8; simp only [PtR.nv]))
         all_goals
           go_wp2_with fail
           go_roundg (gk - 1)
           case measure => omega
           case rel =>
             obtain ⟨y1,y2,y3,y4,y5,y6,y7⟩:=chain_end (c:=c) hlb hrl hrb (by have:=HBR.out; omega) HV.out HK7.out HK8.out hb89 HR7.out HL9.out HP8.out HI7.out HIN8.out HRES8.out HTP.out HO.out HSTEP.out (t:=⟨tad,tcap,_,_,txs⟩) ho9 hl1 hl2 rfl rfl hx9 hij hij8
             exact ⟨c + 1,j2,txs.length,tad,tcap,_,_,txs,er2,pl2,by go_num,by omega,by omega,by omega,hjl8,by omega,rfl,y1,y2,y3,y4,y5,y6,y7⟩
     · have HD : Hid (ResOK r ⟨pad,pcap,ps,pd,pxs⟩ j er pl):=HC.out.done fun h => absurd h her
       have HZ:=Lib.hid HC.out.slack
       have q1 : (er != 0) = true:=by simpa using her
       clear her
       go_wp2_with fail
       rw [HMM.out]
       obtain ⟨z1,z2,z3,z4⟩:=fin_part HP5.out HR5.out hrb HI5.out HK5.out (Nat.le_of_eq HBR.out.symm) (.slice pad m pcap) (.int .i64 ps) (.int .i64 pd)
       rw [HMM.out] at z1 z2 z3 z4
       refine bodyPost_ret (v:=.agg #[.slice pad pxs.length pcap,.int .i64 ps,.int .i64 pd]) (results_part Tryz.results229 _ _ br _ _ _ rfl z4) rfl ?_
       exact ⟨⟨pad,pcap,ps,pd,pxs⟩,j,er,pl,rfl,z1,z2,hij,hjl,z3,HD.out,HZ.out⟩
   · have HD : Hid (ResOK r ⟨pad,pcap,ps,pd,pxs⟩ j er pl):=HC.out.done fun h => .inr (which_none (by have:=HM.out; omega))
     have HZ:=Lib.hid HC.out.slack
     obtain ⟨⟨l0,l1,l2⟩,lf0,lf1,lf2⟩:=HL.out.facts
     obtain ⟨⟨r0,r1',r2⟩,rf0,rf1,rf2⟩:=HR.out.facts
     go_wp2_with fail
     rw [HMM.out]
     obtain ⟨z1,z2,z3,z4⟩:=fin_part HP4.out HR.out hrb HI.out HK.out (Nat.le_of_eq HBR.out.symm) (.slice pad m pcap) (.int .i64 ps) (.int .i64 pd)
     rw [HMM.out] at z1 z2 z3 z4
     refine bodyPost_ret (v:=.agg #[.slice pad pxs.length pcap,.int .i64 ps,.int .i64 pd]) (results_part Tryz.results229 _ _ br _ _ _ rfl z4) rfl ?_
     exact ⟨⟨pad,pcap,ps,pd,pxs⟩,j,er,pl,rfl,z1,z2,hij,hjl,z3,HD.out,HZ.out⟩
theorem chain2 (l : List Tok) (b : Nat) (lv v : Value) (i d f most : Nat) (r : Res) (w : World) (hp : Pst w b lv i d 0 0) (hx : PCtx l b lv w) (hi : i ≤ l.length) (hv : IntsB w b v (opsOf 2)) (hm : most = 1)
   (hrun : run l (f + 1) (.lv 2) d i = some r)
   (hF : ∀ f' i' r',f' ≤ f → i' ≤ l.length → run l f' (.lv (2 + 1)) d i' = some r' → ∀ W,Pst W b lv i' d 0 0 → PCtx l b lv W → Calls Tryz.prog 241 #[.pointer (some ⟨b,0,none⟩)] W (PPost l lv b d i' r' W)) :
   Calls Tryz.prog 229 #[.pointer (some ⟨b,0,none⟩),.func (.func 241) #[] #[],.int .i64 most,v] w (PPost l lv b d i r w):=by
 have hb:=hp.lt
 have hn:=hx.hn
 have hml : most ≤ 100001:=by omega
 have HP:=Lib.hid hp
 have HX:=Lib.hid hx
 have HV:=Lib.hid hv
 have HF:=Lib.hid hF
 have HM:=Lib.hid hm
 have hrb : w.heap.size ≠ b:=by omega
 -- what comes first
 obtain ⟨r1,hr1,hst⟩ : ∃ r1,run l f (.lv (2 + 1)) d i = some r1 ∧ ∀ p j er pl,ResOK r1 p j er pl → ChS l 2 f d r p j 0 er pl:=by
   unfold run at hrun
   rw [if_neg (by decide)] at hrun
   cases h : run l f (.lv (2 + 1)) d i with
   | none => rw [h] at hrun; cases hrun
   | some r1 =>
     refine ⟨r1,rfl,fun p j er pl hp => ?_⟩
     rw [h] at hrun
     cases r1 with
     | err k a =>
       simp only [] at hrun
       cases hrun
       obtain ⟨rfl,rfl,hk⟩:=hp
       exact .inl ⟨by omega,rfl,rfl,hk⟩
     | ok e j0 =>
       simp only [] at hrun
       obtain ⟨rfl,rfl,rfl,h4,h5,h6⟩:=hp
       exact .inr (.inl ⟨rfl,rfl,fun _ => rfl,f,e,Nat.le_refl _,hrun,rfl,rfl,rfl,h4,h5,h6⟩)
 have HR1:=Lib.hid hr1
 have HST:=Lib.hid hst
 clear hp hx hv hF hm hrun hr1 hst
 go_enter Tryz.func229,Tryz.ntmps229
 go_wp2_with fail
 have hK1 : Keep b w (w.alloc (.cells #[.slice none 0 0,.int .i64 0,.int .i64 0] 201)):=(Keep.refl b w).alloc _
 have hP1 : Pst (w.alloc (.cells #[.slice none 0 0,.int .i64 0,.int .i64 0] 201)) b lv i d 0 0:=HP.out.alloc _
 have hR1 : Blk3 (w.alloc (.cells #[.slice none 0 0,.int .i64 0,.int .i64 0] 201)) w.heap.size (.slice none 0 0) (.int .i64 0) (.int .i64 0):=heap_alloc_new w _
 have hV1 : IntsB (w.alloc (.cells #[.slice none 0 0,.int .i64 0,.int .i64 0] 201)) b v (opsOf 2):=HV.out.below ((Below.refl _ _).alloc (Nat.le_refl _) _)
 generalize (w.alloc (.cells #[.slice none 0 0,.int .i64 0,.int .i64 0] 201)) = w1 at hK1 hP1 hR1 hV1 ⊢
 refine (HF.out f i r1 (Nat.le_refl _) hi HR1.out _ hP1 (HX.out.keep hK1)).mono ?_
 rintro e w2 ⟨⟨pad,pcap,ps,pd,pxs⟩,j,er,pl,rfl,hp2,hin,hij,hjl,hk2,hres,hz⟩
 have HK2:=Lib.hid (hK1.trans hk2)
 have HP2:=Lib.hid hp2
 have HR2:=Lib.hid (hR1.keep hk2 hrb)
 have HV2:=Lib.hid (hV1.keep hk2)
 have HIN:=Lib.hid hin
 have HC:=Lib.hid (HST.out _ _ _ _ hres)
 have hw2 : w.heap.size < w2.heap.size:=HR2.out.lt
 have hb2 : b < w2.heap.size:=HP2.out.lt
 clear hK1 hP1 hR1 hV1 hp2 hin hk2 hres hz
 simp only [PtR.nv]
 obtain ⟨m,hm⟩ : ∃ m,m = pxs.length:=⟨_,rfl⟩
 rw [← hm]
 have HMM:=Lib.hid hm
 clear hm
 go_wp2_with fail
 have HK3:=Lib.hid (HK2.out.alloc (.cells #[.slice pad m pcap,.int .i64 ps,.int .i64 pd] 201))
 have HP3:=Lib.hid (HP2.out.alloc (.cells #[.slice pad m pcap,.int .i64 ps,.int .i64 pd] 201))
 have HR3:=Lib.hid (HR2.out.alloc (.cells #[.slice pad m pcap,.int .i64 ps,.int .i64 pd] 201))
 have HI3:=Lib.hid (HIN.out.alloc (.cells #[.slice pad m pcap,.int .i64 ps,.int .i64 pd] 201))
 have HV3:=Lib.hid (HV2.out.below ((Below.refl _ w2).alloc (Nat.le_refl _) (.cells #[.slice pad m pcap,.int .i64 ps,.int .i64 pd] 201)))
 have HL3 : Hid (Blk3 (w2.alloc (.cells #[.slice pad m pcap,.int .i64 ps,.int .i64 pd] 201)) w2.heap.size (.slice pad m pcap) (.int .i64 ps) (.int .i64 pd)):=heap_alloc_new w2 _
 clear HK2 HP2 HR2 HIN HV2
 generalize (w2.alloc (.cells #[.slice pad m pcap,.int .i64 ps,.int .i64 pd] 201)) = w3 at HK3 HP3 HR3 HI3 HV3 HL3 ⊢
 obtain ⟨bl,hbl⟩ : ∃ g,g = w2.heap.size:=⟨_,rfl⟩
 rw [← hbl] at hw2 hb2 HL3 ⊢
 clear hbl
 have hlb : bl ≠ b:=by omega
 have hrl : w.heap.size ≠ bl:=by omega
 obtain ⟨br,hbr⟩ : ∃ g,g = w.heap.size:=⟨_,rfl⟩
 have HBR:=Lib.hid hbr
 rw [← hbr] at hw2 hrl hrb HR3 ⊢
 clear hbr
 go_loopg [16] most (fun fuel c' wr => ∃ (c j m : Nat) (pad : Option Addr) (pcap : Nat) (ps pd : Int) (pxs : List Nd) (er pl : Int), c' = .int .i64 c ∧ c ≤ most ∧ most - c ≤ fuel ∧ i ≤ j ∧ j ≤ l.length ∧ c ≤ 1 ∧ m = pxs.length ∧ Blk3 wr bl (.slice pad m pcap) (.int .i64 ps) (.int .i64 pd) ∧ Blk3 wr br (.slice none 0 0) (.int .i64 0) (.int .i64 0) ∧
     Pst wr b lv j d er pl ∧ PtIn wr (b + 1) ⟨pad,pcap,ps,pd,pxs⟩ (j - i + slack er) ∧ IntsB wr b v (opsOf 2) ∧ Keep b w wr ∧ ChS l 2 f d r ⟨pad,pcap,ps,pd,pxs⟩ j c er pl)
 case atStart => exact ⟨0,j,m,pad,pcap,ps,pd,pxs,er,pl,rfl,Nat.zero_le _,Nat.le_refl _,hij,hjl,by omega,HMM.out,HL3.out,HR3.out,HP3.out,HI3.out,HV3.out,HK3.out,HC.out⟩
 case round =>
   clear HK3 HP3 HR3 HI3 HV3 HL3 HMM HC hij hjl
   obtain ⟨c,j,m,pad,pcap,ps,pd,pxs,er,pl,rfl,hc,hf,hij,hjl,hcj,hmm,hl4,hr4,hp4,hi4,hv4,hk4,hch⟩:=hrel
   have HMM:=Lib.hid hmm
   have HL:=Lib.hid hl4
   have HR:=Lib.hid hr4
   have HP4:=Lib.hid hp4
   have HI:=Lib.hid hi4
   have HV4:=Lib.hid hv4
   have HK:=Lib.hid hk4
   have HC:=Lib.hid hch
   clear hmm hl4 hr4 hp4 hi4 hv4 hk4 hch
   by_cases hlt : c < most
   · have hm1 : most ≤ 1:=by have:=HM.out; omega
     obtain ⟨o,ho⟩ : ∃ o,o = which l j (opsOf 2):=⟨_,rfl⟩
     have HOP : Hid (Calls Tryz.prog 237 #[.pointer (some ⟨b,0,none⟩),v] wr fun e w' => e = .returned (.int .i64 o) ∧ Below wr.heap.size wr w'):=by
       rw [ho]
       exact operator_any l b lv j d er pl v (opsOf 2) wr HP4.out (HX.out.keep HK.out).ht hn (HX.out.keep HK.out).hs HV4.out.ints (opsOf_small 2).1 (opsOf_small 2).2
     have HO:=Lib.hid ho
     clear ho
     go_wp2_with fail
     refine HOP.out.mono ?_
     rintro e w5 ⟨rfl,hb5⟩
     have HL5:=Lib.hid (HL.out.below hb5)
     have HR5:=Lib.hid (HR.out.below hb5)
     have HP5:=Lib.hid (HP4.out.below hb5)
     have HI5:=Lib.hid (HI.out.below hb5)
     have HV5:=Lib.hid (HV4.out.below hb5)
     have HK5:=Lib.hid (HK.out.below hb5)
     clear HOP HL HR HP4 HI HV4 HK hb5
     obtain ⟨⟨c0,c1,c2,c3,c4⟩,f1,f2,f3,f4⟩:=HP5.out.facts
     obtain ⟨⟨l0,l1,l2⟩,lf0,lf1,lf2⟩:=HL5.out.facts
     obtain ⟨⟨r0,r1',r2⟩,rf0,rf1,rf2⟩:=HR5.out.facts
     by_cases her : er = 0
     · by_cases ho0 : o = 0
       · have HD : Hid (ResOK r ⟨pad,pcap,ps,pd,pxs⟩ j er pl):=HC.out.done fun _ => .inr (by rw [← HO.out]; exact ho0)
         have HZ:=Lib.hid HC.out.slack
         subst ho0
         have q1 : (er != 0) = false:=by simp [her]
         have q2 : ((0 : Int) == 0) = true:=rfl
         clear her
         go_wp2_with fail
         rw [HMM.out]
         obtain ⟨z1,z2,z3,z4⟩:=fin_part HP5.out HR5.out hrb HI5.out HK5.out (Nat.le_of_eq HBR.out.symm) (.slice pad m pcap) (.int .i64 ps) (.int .i64 pd)
         rw [HMM.out] at z1 z2 z3 z4
         refine bodyPost_ret (v:=.agg #[.slice pad pxs.length pcap,.int .i64 ps,.int .i64 pd]) (results_part Tryz.results229 _ _ br _ _ _ rfl z4) rfl ?_
         exact ⟨⟨pad,pcap,ps,pd,pxs⟩,j,er,pl,rfl,z1,z2,hij,hjl,z3,HD.out,HZ.out⟩
       · obtain rfl : pl = 0:=HC.out.slack her
         subst her
         have q2 : ((o : Int) == 0) = false:=by simp; omega
         have hw : which l j (opsOf 2) ≠ 0:=by rw [← HO.out]; exact ho0
         have hjlt : j < l.length:=which_lt hw
         obtain ⟨f',e0,r2',hf',hr2',hok,hstep⟩:=HC.out.step hw (by omega)
         have HR2':=Lib.hid hr2'
         have HSTEP:=Lib.hid hstep
         have ho15 : o < 15:=by rw [HO.out]; exact (opsOf_small 2).1 _ (which_mem hw)
         clear hr2' hstep hw HC hok
         obtain ⟨ad,cap,hlv,hct⟩:=(HX.out.keep HK5.out).ht
         obtain ⟨gt,had,hg1,hg2,_,_,_,k3⟩:=hct j hjlt
         subst had
         subst hlv
         obtain ⟨tp,htp⟩ : ∃ t,t = l[j].2.2.2:=⟨_,rfl⟩
         have HTP : Hid (tp = plc l j):=by rw [plc_in l j hjlt]; exact htp
         rw [← htp] at k3
         clear hct htp
         obtain ⟨n,hN⟩ : ∃ n,n = l.length:=⟨_,rfl⟩
         have HN:=Lib.hid hN
         have hjn : j < n:=by omega
         rw [← hN] at c0
         have hb5' : b < w5.heap.size:=HP5.out.lt
         have hl5' : bl < w5.heap.size:=HL5.out.lt
         go_wp2_with fail
         go_region
         have HK6:=Lib.hid ((HK5.out.alloc (.cells #[.int .i64 o,.int .i64 0,.string ⟨#[]⟩,.string ⟨#[]⟩,.int .i64 tp] 46)).drewN 1)
         have HL6 : Hid (Blk3 ((w5.alloc (.cells #[.int .i64 o,.int .i64 0,.string ⟨#[]⟩,.string ⟨#[]⟩,.int .i64 tp] 46)).drewN 1) bl (.slice pad m pcap) (.int .i64 ps) (.int .i64 pd)):=HL5.out.alloc _
         have HR6 : Hid (Blk3 ((w5.alloc (.cells #[.int .i64 o,.int .i64 0,.string ⟨#[]⟩,.string ⟨#[]⟩,.int .i64 tp] 46)).drewN 1) br (.slice none 0 0) (.int .i64 0) (.int .i64 0)):=HR5.out.alloc _
         have HP6:=Lib.hid ((HP5.out.alloc (.cells #[.int .i64 o,.int .i64 0,.string ⟨#[]⟩,.string ⟨#[]⟩,.int .i64 tp] 46)).drewN 1)
         have HI6 : Hid (PtIn ((w5.alloc (.cells #[.int .i64 o,.int .i64 0,.string ⟨#[]⟩,.string ⟨#[]⟩,.int .i64 tp] 46)).drewN 1) (b + 1) ⟨pad,pcap,ps,pd,pxs⟩ (j - i + slack 0)):=HI5.out.alloc _
         have HV6:=Lib.hid (HV5.out.keep (((Keep.refl b w5).alloc (.cells #[.int .i64 o,.int .i64 0,.string ⟨#[]⟩,.string ⟨#[]⟩,.int .i64 tp] 46)).drewN 1))
         have HB6 : Hid (Blk5 ((w5.alloc (.cells #[.int .i64 o,.int .i64 0,.string ⟨#[]⟩,.string ⟨#[]⟩,.int .i64 tp] 46)).drewN 1) w5.heap.size ⟨o,0,⟨#[]⟩,⟨#[]⟩,tp⟩):=heap_alloc_new w5 _
         clear HK5 HL5 HR5 HP5 HI5 HV5 c0 c1 c2 c3 c4 f1 f2 f3 f4 l0 l1 l2 lf0 lf1 lf2 r0 r1' r2 rf0 rf1 rf2 k3
         change Exit.then _ _ _ _ ((w5.alloc (.cells #[.int .i64 o,.int .i64 0,.string ⟨#[]⟩,.string ⟨#[]⟩,.int .i64 tp] 46)).drewN 1)
         generalize (w5.alloc (.cells #[.int .i64 o,.int .i64 0,.string ⟨#[]⟩,.string ⟨#[]⟩,.int .i64 tp] 46)).drewN 1 = w6 at HK6 HL6 HR6 HP6 HI6 HV6 HB6 ⊢
         obtain ⟨bn,hbn⟩ : ∃ g,g = w5.heap.size:=⟨_,rfl⟩
         rw [← hbn] at hb5' hl5' HB6 ⊢
         clear hbn
         have hnb : bn ≠ b:=by omega
         have hnl : bn ≠ bl:=by omega
         obtain ⟨⟨c0,c1,c2,c3,c4⟩,f1,f2,f3,f4⟩:=HP6.out.facts
         go_wp2_with fail
         have e2 : (j : Int) + 1 = ((j + 1 : Nat) : Int):=by omega
         rw [e2]
         clear e2
         have HK7:=Lib.hid (HK6.out.setCell 1 (.int .i64 ((j + 1 : Nat) : Int)))
         have HP7:=Lib.hid (HP6.out.set.1 ((j + 1 : Nat) : Int))
         have HL7:=Lib.hid (HL6.out.other b 1 hlb (.int .i64 ((j + 1 : Nat) : Int)))
         have HR7:=Lib.hid (HR6.out.other b 1 hrb (.int .i64 ((j + 1 : Nat) : Int)))
         have HB7:=Lib.hid (HB6.out.other b 1 hnb (.int .i64 ((j + 1 : Nat) : Int)))
         have HI7 : Hid (PtIn (w6.setCell ⟨b,1,none⟩ (.int .i64 ((j + 1 : Nat) : Int))) (b + 1) ⟨pad,pcap,ps,pd,pxs⟩ (j - i + slack 0)):=HI6.out.setP HP6.out
         have HV7:=Lib.hid (HV6.out.keep ((Keep.refl b w6).setCell 1 (.int .i64 ((j + 1 : Nat) : Int))))
         clear HK6 HL6 HR6 HP6 HI6 HV6 HB6 c0 c1 c2 c3 c4 f1 f2 f3 f4
         generalize w6.setCell ⟨b,1,none⟩ (.int .i64 ((j + 1 : Nat) : Int)) = w7 at HK7 HP7 HL7 HR7 HB7 HI7 HV7 ⊢
         have hmm:=HMM.out
         subst hmm
         have HCALL : Hid (∀ w',Keep b w w' → Pst w' b (.slice (some ⟨gt,0,none⟩) l.length cap) ((j + 1 : Nat) : Int) d 0 0 → Calls Tryz.prog 241 #[.pointer (some ⟨b,0,none⟩)] w' (PPost l (.slice (some ⟨gt,0,none⟩) l.length cap) b d (j + 1) r2' w')):=fun w' hk hp => HF.out f' (j + 1) r2' hf' (by omega) HR2'.out w' hp (HX.out.keep hk)
         obtain ⟨⟨l0,l1,l2⟩,lf0,lf1,lf2⟩:=HL7.out.facts
         obtain ⟨⟨n0,n1,n2,n3,n4⟩,_⟩:=HB7.out.facts
         simp only [] at n0 n1 n2 n3 n4
         go_region_with (first
           | (go_at_call 241; refine (HCALL.out _ (by first | exact HK7.out.drewN 1 | exact HK7.out) (by first | exact HP7.out.drewN 1 | exact HP7.out)).mono ?_; rintro e w8 ⟨⟨qad,qcap,qs,qd,qxs⟩,j2,er2,pl2,rfl,hp8,hin8,hij8,hjl8,hk8,hres8,hz8⟩; have hk78 : Keep b w7 w8:=(by first | exact ((Keep.refl b w7).drewN 1).trans hk8 | exact hk8); have HL8:=Lib.hid (HL7.out.keep hk78 hlb); have HB8:=Lib.hid (HB7.out.keepB hk78 hnb); have hbn8 : bn < w8.heap.size:=HB8.out.lt; have hbl8 : bl < w8.heap.size:=HL8.out.lt; obtain ⟨⟨l0',l1',l2'⟩,lf0',lf1',lf2'⟩:=HL8.out.facts; obtain ⟨⟨n0',n1',n2',n3',n4'⟩,_⟩:=HB8.out.facts; simp only [] at n0' n1' n2' n3' n4'; have HP8:=Lib.hid hp8; have HIN8:=Lib.hid hin8; have HRES8:=Lib.hid hres8; have HK8:=Lib.hid hk78; have HJ8:=Lib.hid (join2 ⟨o,0,⟨#[]⟩,⟨#[]⟩,tp⟩ ⟨pad,pcap,ps,pd,pxs⟩ ⟨qad,qcap,qs,qd,qxs⟩ _ _ (b + 1) w8 hp8.lt (HI7.out.keep hk78 (Nat.lt_succ_self b)) hin8 (by have:=slack_le 0; omega) (by have:=slack_le er2; omega)); simp only [nodeV,PtR.nv] at HJ8; clear hp8 hin8 hres8 hk8 hk78 hz8; simp only [PtR.nv])
           | (go_at_call 238; refine HJ8.out.mono ?_; rintro e w9 ⟨⟨tad,tcap,ts,td,txs⟩,rfl,ho9,hl1,hl2,hs9,hd9,hx9,hb9⟩; have hb89:=below_new hb9; simp only [] at hs9 hd9 hl1 hl2 hx9; subst hs9; subst hd9; have HL9:=Lib.hid (HL8.out.below hb89); obtain ⟨⟨l0'',l1'',l2''⟩,lf0'',lf1'',lf2''⟩:=HL9.out.facts; simp only [PtR.nv]))
         all_goals
           go_wp2_with fail
           go_roundg (gk - 1)
           case measure => omega
           case rel =>
             obtain ⟨y1,y2,y3,y4,y5,y6,y7⟩:=chain_end (c:=c) hlb hrl hrb (by have:=HBR.out; omega) HV.out HK7.out HK8.out hb89 HR7.out HL9.out HP8.out HI7.out HIN8.out HRES8.out HTP.out HO.out HSTEP.out (t:=⟨tad,tcap,_,_,txs⟩) ho9 hl1 hl2 rfl rfl hx9 hij hij8
             exact ⟨c + 1,j2,txs.length,tad,tcap,_,_,txs,er2,pl2,by go_num,by omega,by omega,by omega,hjl8,by omega,rfl,y1,y2,y3,y4,y5,y6,y7⟩
     · have HD : Hid (ResOK r ⟨pad,pcap,ps,pd,pxs⟩ j er pl):=HC.out.done fun h => absurd h her
       have HZ:=Lib.hid HC.out.slack
       have q1 : (er != 0) = true:=by simpa using her
       clear her
       go_wp2_with fail
       rw [HMM.out]
       obtain ⟨z1,z2,z3,z4⟩:=fin_part HP5.out HR5.out hrb HI5.out HK5.out (Nat.le_of_eq HBR.out.symm) (.slice pad m pcap) (.int .i64 ps) (.int .i64 pd)
       rw [HMM.out] at z1 z2 z3 z4
       refine bodyPost_ret (v:=.agg #[.slice pad pxs.length pcap,.int .i64 ps,.int .i64 pd]) (results_part Tryz.results229 _ _ br _ _ _ rfl z4) rfl ?_
       exact ⟨⟨pad,pcap,ps,pd,pxs⟩,j,er,pl,rfl,z1,z2,hij,hjl,z3,HD.out,HZ.out⟩
   · have HD : Hid (ResOK r ⟨pad,pcap,ps,pd,pxs⟩ j er pl):=HC.out.done fun h => .inl ⟨rfl,by have:=HM.out; omega⟩
     have HZ:=Lib.hid HC.out.slack
     obtain ⟨⟨l0,l1,l2⟩,lf0,lf1,lf2⟩:=HL.out.facts
     obtain ⟨⟨r0,r1',r2⟩,rf0,rf1,rf2⟩:=HR.out.facts
     go_wp2_with fail
     rw [HMM.out]
     obtain ⟨z1,z2,z3,z4⟩:=fin_part HP4.out HR.out hrb HI.out HK.out (Nat.le_of_eq HBR.out.symm) (.slice pad m pcap) (.int .i64 ps) (.int .i64 pd)
     rw [HMM.out] at z1 z2 z3 z4
     refine bodyPost_ret (v:=.agg #[.slice pad pxs.length pcap,.int .i64 ps,.int .i64 pd]) (results_part Tryz.results229 _ _ br _ _ _ rfl z4) rfl ?_
     exact ⟨⟨pad,pcap,ps,pd,pxs⟩,j,er,pl,rfl,z1,z2,hij,hjl,z3,HD.out,HZ.out⟩
end Go.Proofs.YtcghccjnadagcaaGreatDoor
