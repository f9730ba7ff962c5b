/- Facts. -/
import Derived.Test.YtcghccjnadagcaaGreatDoorVh
import Derived.Test.YtcghccjnadagcaaGreatDoorStrue
set_option maxRecDepth 100000
set_option maxHeartbeats 32000000
namespace Go.Proofs.YtcghccjnadagcaaGreatDoor
open Go.RowKit
theorem lst_fit (l : List Tok) (hp : ∀ i,(tokO l i).2.2.2 + (tokO l i).2.1.length ≤ 200000) : ∀ (f inn i : Nat) (r : SRes),i ≤ l.length → lst l f inn i = some r → SFit l.length i r:=by
 intro f
 induction f with
 | zero => intro inn i r _ h; cases h
 | succ f ih =>
  intro inn i r hi h
  rw [lst] at h
  by_cases h0 : i < l.length ∧ sgAt l i [125] = false
  ·rw [if_pos h0] at h
   by_cases hk : kindL l i = 0
   ·rw [if_pos hk] at h; cases h; show 5 ≠ 0; decide
   ·rw [if_neg hk] at h
    have hff:=fld_fit l hp (formL (kindL l i)) (i + 1) (st0 (kindL l i : Nat) (plc l i : Nat)) (by omega)
    cases h1 : fld l (formL (kindL l i)) (i + 1) (st0 (kindL l i : Nat) (plc l i : Nat)) with
    | err k a => rw [h1] at h hff; cases h; exact hff
    | ok x j =>
     rw [h1] at h hff
     obtain ⟨g1,g2⟩:=hff
     have hb : ∀ q r,q ≤ l.length → brc (lst l f) l inn q = some r → SFit l.length q r:=fun q r hq hb => brc_fit l (lst l f) inn q r hq (fun inn' i' r' h1 h2 => ih inn' i' r' h1 h2) hb
     cases h2 : (if blkB (kindL l i) then brc (lst l f) l inn j else some (.ok [] j)) with
     | none => simp only [h2] at h; cases h
     | some r2 =>
      simp only [h2] at h
      have f2 : SFit l.length j r2:=by
       by_cases hc : blkB (kindL l i) = true
       ·rw [if_pos hc] at h2; exact hb j r2 g2 h2
       ·rw [if_neg hc] at h2; cases h2; exact ⟨Nat.le_refl _,g2,Nat.zero_le _⟩
      cases r2 with
      | err k a => cases h; exact f2
      | ok b j2 =>
       obtain ⟨p1,p2,p3⟩:=f2
       simp only [] at h
       cases h3 : (if kindL l i = 10 ∧ elseAt l j2 = true then brc (lst l f) l inn (j2 + 1) else some (.ok [] j2)) with
       | none => rw [h3] at h; cases h
       | some r3 =>
        rw [h3] at h
        have f3 : (∃ k a,r3 = .err k a ∧ k ≠ 0) ∨ ∃ o j3,r3 = .ok o j3 ∧ j2 ≤ j3 ∧ j3 ≤ l.length ∧ o.length ≤ j3 - j2:=by
         by_cases hc : kindL l i = 10 ∧ elseAt l j2 = true
         ·rw [if_pos hc] at h3
          have hlt : j2 < l.length:=by
           have h:=hc.2
           unfold elseAt tokO at h
           by_cases h1 : j2 < l.length
           ·exact h1
           ·rw [List.getElem?_eq_none (by omega)] at h; simp at h
          have:=hb (j2 + 1) r3 (by omega) h3
          cases r3 with
          | err k a => exact .inl ⟨k,a,rfl,this⟩
          | ok o j3 => obtain ⟨t1,t2,t3⟩:=this; exact .inr ⟨o,j3,rfl,by omega,t2,by omega⟩
         ·rw [if_neg hc] at h3; cases h3; exact .inr ⟨[],j2,rfl,Nat.le_refl _,p2,Nat.zero_le _⟩
        rcases f3 with ⟨k,a,rfl,hk2⟩ | ⟨o,j3,rfl,q1,q2,q3⟩
        ·cases h; exact hk2
        ·simp only [] at h
         cases h4 : lst l f inn j3 with
         | none => rw [h4] at h; cases h
         | some r4 =>
          rw [h4] at h
          have f4:=ih inn j3 r4 q2 h4
          cases r4 with
          | err k a => cases h; exact f4
          | ok xs j4 =>
           cases h
           obtain ⟨s1,s2,s3⟩:=f4
           refine ⟨by omega,s2,?_⟩
           simp only [List.length_cons,List.length_append]
           omega
  ·rw [if_neg h0] at h; cases h; exact ⟨Nat.le_refl _,hi,Nat.zero_le _⟩
theorem lst_total (l : List Tok) (hp : ∀ i,(tokO l i).2.2.2 + (tokO l i).2.1.length ≤ 200000) : ∀ (f inn i : Nat),i ≤ l.length → l.length - i + 1 ≤ f → ∃ r,lst l f inn i = some r:=by
 intro f
 induction f with
 | zero => intro inn i _ h; omega
 | succ f ih =>
  intro inn i hi hf
  rw [lst]
  by_cases h0 : i < l.length ∧ sgAt l i [125] = false
  ·rw [if_pos h0]
   by_cases hk : kindL l i = 0
   ·rw [if_pos hk]; exact ⟨_,rfl⟩
   ·rw [if_neg hk]
    have hff:=fld_fit l hp (formL (kindL l i)) (i + 1) (st0 (kindL l i : Nat) (plc l i : Nat)) (by omega)
    cases h1 : fld l (formL (kindL l i)) (i + 1) (st0 (kindL l i : Nat) (plc l i : Nat)) with
    | err k a => exact ⟨_,rfl⟩
    | ok x j =>
     rw [h1] at hff
     obtain ⟨g1,g2⟩:=hff
     have hb : ∀ q,i + 1 ≤ q → q ≤ l.length → ∃ r,brc (lst l f) l inn q = some r:=by
      intro q hq1 hq2
      unfold brc
      by_cases h2 : sgAt l q [123] = true
      ·have:=sgAt_lt h2
       rw [if_pos h2]
       by_cases h3 : 30 ≤ inn
       ·rw [if_pos h3]; exact ⟨_,rfl⟩
       ·rw [if_neg h3]
        obtain ⟨r,hr⟩:=ih (inn + 1) (q + 1) (by omega) (by omega)
        rw [hr]
        cases r with
        | err k a => exact ⟨_,rfl⟩
        | ok b j => simp only []; split <;> exact ⟨_,rfl⟩
      ·rw [if_neg h2]; exact ⟨_,rfl⟩
     have hbf : ∀ q r,q ≤ l.length → brc (lst l f) l inn q = some r → SFit l.length q r:=fun q r hq hb => brc_fit l (lst l f) inn q r hq (fun inn' i' r' h1 h2 => lst_fit l hp f inn' i' r' h1 h2) hb
     obtain ⟨r2,h2⟩ : ∃ r2,(if blkB (kindL l i) then brc (lst l f) l inn j else some (.ok [] j)) = some r2 ∧ SFit l.length j r2:=by
      by_cases hc : blkB (kindL l i) = true
      ·rw [if_pos hc]; obtain ⟨r,hr⟩:=hb j g1 g2; exact ⟨r,hr,hbf j r g2 hr⟩
      ·rw [if_neg hc]; exact ⟨_,rfl,Nat.le_refl _,g2,Nat.zero_le _⟩
     simp only [h2.1]
     cases r2 with
     | err k a => exact ⟨_,rfl⟩
     | ok b j2 =>
      obtain ⟨p1,p2,p3⟩:=h2.2
      simp only []
      obtain ⟨r3,h3,f3⟩ : ∃ r3,(if kindL l i = 10 ∧ elseAt l j2 = true then brc (lst l f) l inn (j2 + 1) else some (.ok [] j2)) = some r3 ∧ ∀ o j3,r3 = .ok o j3 → j2 ≤ j3 ∧ j3 ≤ l.length:=by
       by_cases hc : kindL l i = 10 ∧ elseAt l j2 = true
       ·rw [if_pos hc]
        have hlt : j2 < l.length:=by
         have h:=hc.2
         unfold elseAt tokO at h
         by_cases h1 : j2 < l.length
         ·exact h1
         ·rw [List.getElem?_eq_none (by omega)] at h; simp at h
        obtain ⟨r,hr⟩:=hb (j2 + 1) (by omega) (by omega)
        refine ⟨r,hr,fun o j3 h => ?_⟩
        subst h
        have:=hbf (j2 + 1) _ (by omega) hr
        exact ⟨by have:=this.1; omega,this.2.1⟩
       ·rw [if_neg hc]; exact ⟨_,rfl,fun o j3 h => by cases h; exact ⟨Nat.le_refl _,p2⟩⟩
      rw [h3]
      cases r3 with
      | err k a => exact ⟨_,rfl⟩
      | ok o j3 =>
       obtain ⟨q1,q2⟩:=f3 o j3 rfl
       simp only []
       obtain ⟨r4,h4⟩:=ih inn j3 q2 (by omega)
       rw [h4]
       cases r4 <;> exact ⟨_,rfl⟩
  ·rw [if_neg h0]; exact ⟨_,rfl⟩
def finS (l : List Tok) (i : Nat) : SRes → SRes
 | .err k a => .err k a
 | .ok xs j => if 200 < xs.length then .err 2 (refK l i).2 else .ok xs j
noncomputable def stmtR (l : List Tok) (i : Int) : SRes:=
 if i < 0 ∨ (l.length : Int) < i then .err 1 0 else finS l i.toNat ((lst l (l.length + 1) 0 i.toNat).getD (.err 0 0))
theorem stmtR_of (l : List Tok) (i : Nat) (r : SRes) (hi : i ≤ l.length) (h : lst l (l.length + 1) 0 i = some r) : stmtR l i = finS l i r:=by
 unfold stmtR
 rw [if_neg (by omega),show (i : Int).toNat = i from rfl,h]
 rfl
def NodesAlike (p : Bool) (a b : List Nd) : Prop:=b.length = a.length ∧ ∀ i,(h1 : i < a.length) → (h2 : i < b.length) → alikeN p a[i] b[i]
def alikeS (p : Bool) (a b : St) : Prop:=a.kind = b.kind ∧ a.reg = b.reg ∧ a.loc = b.loc ∧ NodesAlike p a.e b.e ∧ NodesAlike p a.f b.f ∧ a.ne = b.ne ∧ a.body = b.body ∧ a.els = b.els ∧ (p = true → a.pl = b.pl) ∧ a.e.length ≤ 100000 ∧ a.f.length ≤ 100000
theorem rsame_nodes (p : Bool) (a b : List Nd) (u v : Value) (w : World) (hu : NdsC w u a) (hv : NdsC w v b) (hn : a.length ≤ 100000) (h : NodesAlike p a b) :
  Calls Tryz.prog 32 #[u,v,.bool p] w fun e w' => e = .returned (.bool true) ∧ Below w.heap.size w w':=by
 cases p with
 | true => exact same_true a b u v w hu.nds hv.nds hn h.1 (fun i hi => h.2 i hi _)
 | false => exact same_false a b u v w hu.nds hv.nds hn h.1 (fun i hi => h.2 i hi _)
def StsC (w : World) (v : Value) (ts : List SI) : Prop:=
 ∃ ad cap,v = .slice ad ts.length cap ∧ ∀ i,(hi : i < ts.length) → ∃ b off,ad = some ⟨b,off,none⟩ ∧ b < w.heap.size ∧ (∀ k,(hk : k < 9) → w.cell? ⟨b,off + i * 9 + k,none⟩ = some ((cellsI ts[i])[k]'(by simpa [cellsI] using hk))) ∧ NdsC w ts[i].2.1 ts[i].1.e ∧ NdsC w ts[i].2.2 ts[i].1.f
theorem StsC.at {w wr : World} {ad : Option Addr} {n cap : Nat} {ts : List SI} (h : StsC w (.slice ad n cap) ts) (hb : Below w.heap.size w wr) (i : Nat) (hi : i < ts.length) :
  ∃ b off,ad = some ⟨b,off,none⟩ ∧ b < wr.heap.size ∧ (wr.cell? ⟨b,off + i * 9,none⟩ = some (.int .i64 ts[i].1.kind) ∧ wr.cell? ⟨b,off + i * 9 + 1,none⟩ = some (.string ts[i].1.reg) ∧ wr.cell? ⟨b,off + i * 9 + 2,none⟩ = some (.string ts[i].1.loc) ∧ wr.cell? ⟨b,off + i * 9 + 3,none⟩ = some ts[i].2.1 ∧ wr.cell? ⟨b,off + i * 9 + 4,none⟩ = some ts[i].2.2 ∧
   wr.cell? ⟨b,off + i * 9 + 5,none⟩ = some (.bool ts[i].1.ne) ∧ wr.cell? ⟨b,off + i * 9 + 6,none⟩ = some (.int .i64 ts[i].1.body) ∧ wr.cell? ⟨b,off + i * 9 + 7,none⟩ = some (.int .i64 ts[i].1.els) ∧ wr.cell? ⟨b,off + i * 9 + 8,none⟩ = some (.int .i64 ts[i].1.pl)) ∧ NdsC wr ts[i].2.1 ts[i].1.e ∧ NdsC wr ts[i].2.2 ts[i].1.f:=by
 obtain ⟨ad',cap',hv,hc⟩:=h
 obtain ⟨b,off,ha,hlt,hk,h1,h2⟩:=hc i hi
 cases hv
 have hcell : ∀ k,(hk9 : k < 9) → wr.cell? ⟨b,off + i * 9 + k,none⟩ = some ((cellsI ts[i])[k]'(by simpa [cellsI] using hk9)):=fun k hk9 => (hb.cell (p:=⟨b,_,none⟩) hlt).trans (hk k hk9)
 exact ⟨b,off,ha,Nat.lt_of_lt_of_le hlt hb.size,⟨hcell 0 (by decide),hcell 1 (by decide),hcell 2 (by decide),hcell 3 (by decide),hcell 4 (by decide),hcell 5 (by decide),hcell 6 (by decide),hcell 7 (by decide),hcell 8 (by decide)⟩,h1.below hb,h2.below hb⟩
theorem rsame_sts (p : Bool) (xs ys : List SI) (u v : Value) (w : World) (hu : StsC w u xs) (hv : StsC w v ys) (hn : xs.length ≤ 100000) (hl : ys.length = xs.length)
  (he : ∀ i,(h1 : i < xs.length) → (h2 : i < ys.length) → alikeS p xs[i].1 ys[i].1) :
  Calls Tryz.prog 31 #[u,v,.bool p] w fun e w' => e = .returned (.bool true) ∧ Below w.heap.size w w':=by
 obtain ⟨ad,cap,rfl,j1⟩:=id hu
 clear j1
 obtain ⟨ad2,cap2,rfl,j1⟩:=id hv
 clear j1
 have HU:=Lib.hid hu
 have HV:=Lib.hid hv
 have HE:=Lib.hid he
 have HLY:=Lib.hid hl
 rw [hl] at HV ⊢
 obtain ⟨n,hN⟩ : ∃ n,n = xs.length:=⟨_,rfl⟩
 have HN:=Lib.hid hN
 rw [← hN] at hn HU HV ⊢
 clear hu hv he hl hN
 go_enter Tryz.func31,Tryz.ntmps31
 go_wp2
 go_loopg [7] n (fun fuel i' wr => ∃ k : Nat,i' = .int .i64 k ∧ k ≤ n ∧ n - k ≤ fuel ∧ Below w.heap.size w wr)
 case atStart => exact ⟨0,rfl,Nat.zero_le _,Nat.le_refl _,Below.refl _ _⟩
 case round =>
  obtain ⟨k,rfl,hk,hfu,hb⟩:=hrel
  have HB:=Lib.hid hb
  clear hb
  by_cases hlt : k < n
  ·have hk1 : k < xs.length:=by have:=HN.out; omega
   have hk2 : k < ys.length:=by have:=HN.out; have:=HLY.out; omega
   obtain ⟨b,off,rfl,hbl,⟨x0,x1,x2,x3,x4,x5,x6,x7,x8⟩,hxe,hxf⟩:=HU.out.at HB.out k hk1
   obtain ⟨b2,off2,rfl,hbl2,⟨y0,y1,y2,y3,y4,y5,y6,y7,y8⟩,hye,hyf⟩:=HV.out.at HB.out k hk2
   have hal:=HE.out k hk1 hk2
   obtain ⟨⟨⟨a0,a1,a2,ae,af,a5,a6,a7,a8⟩,va,vf⟩,hA⟩ : ∃ t,t = xs[k]:=⟨_,rfl⟩
   obtain ⟨⟨⟨c0,c1,c2,ce,cf,c5,c6,c7,c8⟩,vc,vg⟩,hC⟩ : ∃ t,t = ys[k]:=⟨_,rfl⟩
   rw [← hA] at x0 x1 x2 x3 x4 x5 x6 x7 x8 hxe hxf hal
   rw [← hC] at y0 y1 y2 y3 y4 y5 y6 y7 y8 hye hyf hal
   simp only [] at x0 x1 x2 x3 x4 x5 x6 x7 x8 y0 y1 y2 y3 y4 y5 y6 y7 y8 hxe hxf hye hyf
   obtain ⟨e0,e1,e2,e3,e4,e5,e6,e7,e8,e9,e10⟩:=hal
   simp only [] at e0 e1 e2 e3 e4 e5 e6 e7 e8 e9 e10
   subst e0 e1 e2 e5 e6 e7
   obtain ⟨aA,cA,rfl,j1,j2,j3⟩:=id hxe
   clear j1 j2 j3
   obtain ⟨aF,cF,rfl,j1,j2,j3⟩:=id hxf
   clear j1 j2 j3
   obtain ⟨aC,cC,rfl,j1,j2,j3⟩:=id hye
   clear j1 j2 j3
   obtain ⟨aG,cG,rfl,j1,j2,j3⟩:=id hyf
   clear j1 j2 j3
   have HXE:=Lib.hid hxe
   have HXF:=Lib.hid hxf
   have HYE:=Lib.hid hye
   have HYF:=Lib.hid hyf
   have E3:=Lib.hid e3
   have E4:=Lib.hid e4
   have E8:=Lib.hid e8
   have E9:=Lib.hid e9
   have E10:=Lib.hid e10
   obtain ⟨m1,hm1⟩ : ∃ m,m = ae.length:=⟨_,rfl⟩
   obtain ⟨m2,hm2⟩ : ∃ m,m = af.length:=⟨_,rfl⟩
   obtain ⟨m3,hm3⟩ : ∃ m,m = ce.length:=⟨_,rfl⟩
   obtain ⟨m4,hm4⟩ : ∃ m,m = cf.length:=⟨_,rfl⟩
   rw [← hm1] at HXE x3
   rw [← hm2] at HXF x4
   rw [← hm3] at HYE y3
   rw [← hm4] at HYF y4
   clear hA hC hxe hxf hye hyf e3 e4 e8 e9 e10
   have HS1 : Hid (∀ W,Below wr.heap.size wr W → Calls Tryz.prog 32 #[.slice aA m1 cA,.slice aC m3 cC,.bool p] W fun e w' => e = .returned (.bool true) ∧ Below W.heap.size W w'):=fun W hW => rsame_nodes p ae ce _ _ W (hm1 ▸ HXE.out.below hW) (hm3 ▸ HYE.out.below hW) E9.out E3.out
   have HS2 : Hid (∀ W,Below wr.heap.size wr W → Calls Tryz.prog 32 #[.slice aF m2 cF,.slice aG m4 cG,.bool p] W fun e w' => e = .returned (.bool true) ∧ Below W.heap.size W w'):=fun W hW => rsame_nodes p af cf _ _ W (hm2 ▸ HXF.out.below hW) (hm4 ▸ HYF.out.below hW) E10.out E4.out
   clear hm1 hm2 hm3 hm4 HXE HXF HYE HYF E3 E4 E9 E10
   cases p with
   | true =>
    have h8:=E8.out rfl
    subst h8
    go_wp2_with fail
    refine (HS1.out _ (below_al2 wr _ _)).mono ?_
    rintro e w2 ⟨rfl,hb2⟩
    have hb2' : Below wr.heap.size wr w2:=(below_al2 wr _ _).trans (hb2.mono (by simp; omega))
    have q1:=blk_first hb2
    have q2:=blk_second hb2
    have z4 : w2.cell? ⟨wr.heap.size,4,none⟩ = some (.slice aF m2 cF):=by unfold World.cell?; simp only [q1]; rfl
    have t4 : w2.cell? ⟨wr.heap.size + 1,4,none⟩ = some (.slice aG m4 cG):=by unfold World.cell?; simp only [q2]; rfl
    clear hb2 q1 q2
    go_wp2_with fail
    refine (HS2.out _ hb2').mono ?_
    rintro e w3 ⟨rfl,hb3⟩
    have HB3:=Lib.hid (HB.out.trans ((hb2'.trans (hb3.mono hb2'.size)).mono HB.out.size))
    clear hb3 hb2' z4 t4
    go_wp2
    go_roundg (gk - 1)
    case measure => omega
    case rel => exact ⟨k + 1,by go_num,by omega,by omega,HB3.out⟩
   | false =>
    go_wp2_with fail
    refine (HS1.out _ (below_al2 wr _ _)).mono ?_
    rintro e w2 ⟨rfl,hb2⟩
    have hb2' : Below wr.heap.size wr w2:=(below_al2 wr _ _).trans (hb2.mono (by simp; omega))
    have q1:=blk_first hb2
    have q2:=blk_second hb2
    have z4 : w2.cell? ⟨wr.heap.size,4,none⟩ = some (.slice aF m2 cF):=by unfold World.cell?; simp only [q1]; rfl
    have t4 : w2.cell? ⟨wr.heap.size + 1,4,none⟩ = some (.slice aG m4 cG):=by unfold World.cell?; simp only [q2]; rfl
    clear hb2 q1 q2
    go_wp2_with fail
    refine (HS2.out _ hb2').mono ?_
    rintro e w3 ⟨rfl,hb3⟩
    have HB3:=Lib.hid (HB.out.trans ((hb2'.trans (hb3.mono hb2'.size)).mono HB.out.size))
    clear hb3 hb2' z4 t4
    go_wp2
    go_roundg (gk - 1)
    case measure => omega
    case rel => exact ⟨k + 1,by go_num,by omega,by omega,HB3.out⟩
  ·go_wp2
   go_ret
   exact ⟨rfl,HB.out⟩
end Go.Proofs.YtcghccjnadagcaaGreatDoor
