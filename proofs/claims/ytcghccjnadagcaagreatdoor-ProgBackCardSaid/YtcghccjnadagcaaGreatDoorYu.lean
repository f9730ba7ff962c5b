/- Facts. -/
import Derived.Test.YtcghccjnadagcaaGreatDoorYr
import Derived.Test.YtcghccjnadagcaaGreatDoorYf
import Derived.Shelf.Abstract
import Derived.WideMake
set_option maxRecDepth 100000
set_option maxHeartbeats 32000000
namespace Go.Proofs.YtcghccjnadagcaaGreatDoor
open Go.RowKit
theorem BlkRel.len {l : List Tok} {f o : Nat} {q q' : Pq} {xs xs' : List St} (h : BlkRel l f o q xs q' xs') : xs.length ≤ xs'.length:=by
 by_cases hk : q.k = 0
 ·obtain ⟨res,_,h2⟩:=h.2 hk
  cases res with
  | err k a => exact h2.2.2
  | ok ys j => rw [h2.2,List.length_append]; omega
 ·rw [(h.1 hk).2]; exact Nat.le_refl _
theorem AltRel.len {l : List Tok} {f o : Nat} {q q' : Pq} {xs xs' : List St} (h : AltRel l f o q xs q' xs') : xs.length ≤ xs'.length:=by
 by_cases hk : q.k = 0
 ·obtain ⟨res,_,h2⟩:=h.2 hk
  cases res with
  | err k a => exact h2.2.2
  | ok ys j => rw [h2.2,List.length_append]; omega
 ·rw [(h.1 hk).2]; exact Nat.le_refl _
theorem tr_le {l : List Tok} {cs : List UInt8} {i : Nat} {x0 y : St} {Q : Pq} (hp : ∀ i,(tokO l i).2.2.2 + (tokO l i).2.1.length ≤ 200000) (h : Track l (fld l cs i x0) Q y) (hi : i ≤ l.length) : i ≤ Q.n:=by
 have hf:=fld_fit l hp cs i x0 hi
 cases hr : fld l cs i x0 with
 | err k a => rw [hr] at h; rw [h.1]; exact hi
 | ok y2 j => rw [hr] at h hf; rw [h.1]; exact hf.1
def RdC (w0 : World) (l : List Tok) (lv : Value) (r bx m f o i k F : Nat) (cap : Array Value) (xs : List St) : Prop:=∀ w' dv1,Stb w0 w' r bx m l lv ⟨i + 1,0,0⟩ o dv1 (xs ++ [zSt]) →
 Calls Tryz.prog F cap w' fun e w'' => ∃ y q2 dv2 xs2,ToR w0 r bx m l lv q2 o dv1 dv2 xs2 w' y e w'' ∧ y.kind = (k : Nat) ∧ xs.length < xs2.length ∧ RdRel l f o k i (xs ++ [zSt]) y q2 xs2
theorem rd_simple {w0 : World} {l : List Tok} {lv : Value} {r bx m f o i k F : Nat} {cap : Array Value} {xs : List St} {Q : Pq} {y : St} (x : Ty w0 l lv) (hi : i < l.length) (hb : blkB k = false) (hy : y.kind = (k : Nat) ∧ y.body = 0 ∧ y.els = 0)
  (hc : ∀ w' dv1,Sta w0 w' r l lv ⟨i + 1,0,0⟩ o dv1 (.map (some m)) → Bx w' bx r → Calls Tryz.prog F cap w' (ToS w0 r l lv Q o dv1 (.map (some m)) w' y)) (ht : Track l (fld l (formC k) (i + 1) (st0 (k : Nat) 0)) Q y) : RdC w0 l lv r bx m f o i k F cap xs:=by
 intro w' dv1 h
 refine (hc w' dv1 h.sta h.bx).mono ?_
 rintro e w'' ⟨ve,vf,h1,h2,h3,h4,h5⟩
 have hle : i + 1 ≤ Q.n:=tr_le x.plc ht hi
 refine ⟨y,Q,dv1,xs ++ [zSt],⟨ve,vf,h1,h2,h3,Out.of h h4 h5 hle⟩,hy.1,by simp,?_⟩
 unfold RdRel
 cases hf : fld l (formC k) (i + 1) (st0 (k : Nat) 0) with
 | err kk a => rw [hf] at ht; exact ht
 | ok y0 j =>
  rw [hf] at ht
  obtain ⟨rfl,rfl⟩:=ht
  refine ⟨.ok [] j,by rw [if_neg (by rw [hb]; simp)],.ok [] j,?_,rfl,by simp,?_⟩
  ·rw [if_neg (fun hh : k = 10 ∧ elseAt l j = true => by rw [hh.1] at hb; exact absurd hb (by decide))]
  ·obtain ⟨yk,yr,yl,ye,yf,yn,yb,yo,yp⟩:=y
   obtain ⟨_,rfl,rfl⟩:=hy
   rfl
section
variable {w0 : World} {l : List Tok} {lv : Value} {r bx m f o i : Nat} {xs : List St}
theorem ok0 (hi : i < l.length) : Pq.ok ⟨i + 1,0,0⟩ l.length:=⟨hi,fun _ => rfl,fun h => absurd rfl h⟩
theorem tr0 (k : Nat) : Track l (fld l [] (i + 1) (st0 (k : Nat) 0)) ⟨i + 1,0,0⟩ (st0 (k : Nat) 0):=⟨rfl,rfl⟩
theorem rd2 (x : Ty w0 l lv) (hi : i < l.length) : RdC w0 l lv r bx m f o i 2 212 #[.pointer (some ⟨bx,0,none⟩)] xs:=
 rd_simple x hi rfl ⟨rfl,rfl,rfl⟩ (fun w' _ h hb => clo35 x w' h hb) (tr_e (tr_sg (tr_reg (tr0 2)) 61 (by decide)) (sgP_ok (nmP_ok (ok0 hi)) _).1 x.plc)
theorem rd3 (x : Ty w0 l lv) (hi : i < l.length) : RdC w0 l lv r bx m f o i 3 215 #[.pointer (some ⟨bx,0,none⟩)] xs:=
 rd_simple x hi rfl ⟨rfl,rfl,rfl⟩ (fun w' _ h hb => clo38 x w' h hb) (tr_loc (tr_sg (tr_reg (tr0 3)) 61 (by decide)))
theorem rd4 (x : Ty w0 l lv) (hi : i < l.length) : RdC w0 l lv r bx m f o i 4 216 #[.pointer (some ⟨bx,0,none⟩)] xs:=
 rd_simple x hi rfl ⟨rfl,rfl,rfl⟩ (fun w' _ h hb => clo39 x w' h hb) (tr_e (tr_sg (tr_loc (tr0 4)) 61 (by decide)) (sgP_ok (nmP_ok (ok0 hi)) _).1 x.plc)
theorem rd5 (x : Ty w0 l lv) (hi : i < l.length) : RdC w0 l lv r bx m f o i 5 217 #[.pointer (some ⟨bx,0,none⟩)] xs:=
 rd_simple x hi rfl ⟨rfl,rfl,rfl⟩ (fun w' _ h hb => clo40 x w' h hb)
  (tr_f (tr_sg (tr_e (tr_sg (tr_loc (tr_sg (tr_reg (tr0 5)) 61 (by decide))) 44 (by decide)) (sgP_ok (nmP_ok (sgP_ok (nmP_ok (ok0 hi)) _)) _).1 x.plc) 44 (by decide)) (sgP_ok (exP_ok (sgP_ok (nmP_ok (sgP_ok (nmP_ok (ok0 hi)) _)) _) x.plc) _).1 x.plc)
theorem rd6 (x : Ty w0 l lv) (hi : i < l.length) : RdC w0 l lv r bx m f o i 6 218 #[.pointer (some ⟨bx,0,none⟩)] xs:=
 rd_simple x hi rfl ⟨rfl,rfl,rfl⟩ (fun w' _ h hb => clo41 x w' h hb) (tr_e (tr_sg (tr_loc (tr_sg (tr_reg (tr0 6)) 61 (by decide))) 44 (by decide)) (sgP_ok (nmP_ok (sgP_ok (nmP_ok (ok0 hi)) _)) _).1 x.plc)
theorem rd7 (x : Ty w0 l lv) (hi : i < l.length) : RdC w0 l lv r bx m f o i 7 219 #[.pointer (some ⟨bx,0,none⟩)] xs:=
 rd_simple x hi rfl ⟨rfl,rfl,rfl⟩ (fun w' _ h hb => clo42 x w' h hb) (tr_e (tr_sg (tr_loc (tr_sg (tr_reg (tr0 7)) 61 (by decide))) 44 (by decide)) (sgP_ok (nmP_ok (sgP_ok (nmP_ok (ok0 hi)) _)) _).1 x.plc)
theorem rd9 (x : Ty w0 l lv) (hi : i < l.length) : RdC w0 l lv r bx m f o i 9 220 #[.pointer (some ⟨bx,0,none⟩)] xs:=
 rd_simple x hi rfl ⟨rfl,rfl,rfl⟩ (fun w' _ h hb => clo43 x w' h hb) (tr_e (tr_ne (tr_loc (tr0 9))) (dfP_ok (nmP_ok (ok0 hi))).1 x.plc)
theorem rd_bare {k F : Nat} (hb : blkB k = false) (hk : formC k = []) (hc : ∀ w' dv1,Stb w0 w' r bx m l lv ⟨i + 1,0,0⟩ o dv1 (xs ++ [zSt]) → Calls Tryz.prog F #[] w' (ToR w0 r bx m l lv ⟨i + 1,0,0⟩ o dv1 dv1 (xs ++ [zSt]) w' (st0 (k : Nat) 0))) : RdC w0 l lv r bx m f o i k F #[] xs:=by
 intro w' dv1 h
 refine (hc w' dv1 h).mono ?_
 intro e w'' h1
 refine ⟨st0 (k : Nat) 0,⟨i + 1,0,0⟩,dv1,xs ++ [zSt],h1,rfl,by simp,?_⟩
 unfold RdRel
 rw [hk]
 refine ⟨.ok [] (i + 1),by rw [if_neg (by rw [hb]; simp)],.ok [] (i + 1),?_,rfl,by simp,rfl⟩
 rw [if_neg (fun hh : k = 10 ∧ elseAt l (i + 1) = true => by rw [hh.1] at hb; exact absurd hb (by decide))]
theorem rd12 (hi : i < l.length) (hb : BlkC w0 l lv r bx m f) (ho : o ≤ 30) (hf : l.length - i ≤ f) : RdC w0 l lv r bx m f o i 12 226 #[.pointer (some ⟨bx,0,none⟩)] xs:=by
 intro w' dv1 h
 refine (clo49 hb w' h ho (fun _ => by show l.length - (i + 1) ≤ f; omega)).mono ?_
 rintro e w'' ⟨q1,xs1,h1,dv2,h2⟩
 refine ⟨_,q1,dv2,xs1,h2,rfl,by have:=h1.len; simp at this; omega,?_⟩
 obtain ⟨res,h3,h4⟩:=h1.2 rfl
 unfold RdRel
 refine ⟨res,h3,?_⟩
 cases res with
 | err kk a => exact ⟨h4.1,h4.2.1⟩
 | ok b j2 =>
  obtain ⟨rfl,rfl⟩:=h4
  refine ⟨.ok [] j2,by rw [if_neg (fun hh => absurd hh.1 (by decide))],rfl,by simp,?_⟩
  simp only [st0,List.length_append,List.length_nil]
  congr 1
  omega
theorem blk_fuel (hp : ∀ i,(tokO l i).2.2.2 + (tokO l i).2.1.length ≤ 200000) {Q q1 : Pq} {ys xs1 : List St} (hQ : Q.n ≤ l.length) (h : BlkRel l f o Q ys q1 xs1) (hk : q1.k = 0) : Q.k = 0 ∧ Q.n ≤ q1.n:=by
 by_cases hq : Q.k = 0
 ·refine ⟨hq,?_⟩
  obtain ⟨res,h1,h2⟩:=h.2 hq
  have hfit:=brc_fit l (lst l f) o Q.n res hQ (fun inn' i' r' h1 h2 => lst_fit l hp f inn' i' r' h1 h2) h1
  cases res with
  | err k a => rw [h2.1] at hk; exact absurd hk h2.2.1
  | ok b j => rw [h2.1]; exact hfit.1
 ·rw [(h.1 hq).1] at hk; exact absurd hk hq
theorem rd11 (x : Ty w0 l lv) (hi : i < l.length) (hb : BlkC w0 l lv r bx m f) (ho : o ≤ 30) (hf : l.length - i ≤ f) : RdC w0 l lv r bx m f o i 11 225 #[.pointer (some ⟨bx,0,none⟩)] xs:=by
 intro w' dv1 h
 have ht:=tr_e (cs:=[]) (tr0 (l:=l) (i:=i) 11) (ok0 hi).1 x.plc
 have hle : i + 1 ≤ (exP l ⟨i + 1,0,0⟩).2.n:=tr_le x.plc ht hi
 refine (clo48 x hb w' h ho (fun _ => by omega)).mono ?_
 rintro e w'' ⟨q1,xs1,h1,dv2,h2⟩
 refine ⟨_,q1,dv2,xs1,h2,rfl,by have:=h1.len; simp at this; omega,?_⟩
 unfold RdRel
 show match fld l [101] (i + 1) (st0 ((11 : Nat) : Int) 0) with
  | .err kk a => _
  | .ok y0 j => _
 have ht' : Track l (fld l [101] (i + 1) (st0 ((11 : Nat) : Int) 0)) (exP l ⟨i + 1,0,0⟩).2 { st0 ((11 : Nat) : Int) 0 with e:=(exP l ⟨i + 1,0,0⟩).1 }:=ht
 cases hfl : fld l [101] (i + 1) (st0 ((11 : Nat) : Int) 0) with
 | err kk a =>
  rw [hfl] at ht'
  have hd : (exP l ⟨i + 1,0,0⟩).2.k ≠ 0:=by rw [ht'.1]; exact ht'.2
  rw [(h1.1 hd).1]
  exact ht'
 | ok y0 j =>
  rw [hfl] at ht'
  obtain ⟨e1,e2⟩:=ht'
  obtain ⟨res,h3,h4⟩:=h1.2 (by rw [e1])
  rw [e1] at h3
  refine ⟨res,h3,?_⟩
  cases res with
  | err kk a => exact ⟨h4.1,h4.2.1⟩
  | ok b j2 =>
   obtain ⟨rfl,rfl⟩:=h4
   refine ⟨.ok [] j2,by rw [if_neg (fun hh => absurd hh.1 (by decide))],rfl,by simp,?_⟩
   rw [← e2]
   simp only [st0,List.length_append,List.length_nil]
   congr 1
   omega
theorem rd10 (x : Ty w0 l lv) (hi : i < l.length) (hb : BlkC w0 l lv r bx m f) (ha : AltC w0 l lv r bx m f) (ho : o ≤ 30) (hf : l.length - i ≤ f) : RdC w0 l lv r bx m f o i 10 222 #[.pointer (some ⟨bx,0,none⟩)] xs:=by
 intro w' dv1 h
 have ht:=tr_e (cs:=[]) (tr0 (l:=l) (i:=i) 10) (ok0 hi).1 x.plc
 have hle : i + 1 ≤ (exP l ⟨i + 1,0,0⟩).2.n:=tr_le x.plc ht hi
 have hok:=exP_ok (ok0 hi) x.plc
 refine (clo45 x hb ha w' h ho (fun _ => by omega) (fun q1 xs1 hr hk => by have:=(blk_fuel x.plc hok.1 hr hk).2; omega)).mono ?_
 rintro e w'' ⟨q1,xs1,h1,q2,xs2,g1,dv2,h2⟩
 refine ⟨_,q2,dv2,xs2,h2,rfl,by have:=h1.len; have:=g1.len; simp at *; omega,?_⟩
 unfold RdRel
 show match fld l [101] (i + 1) (st0 ((10 : Nat) : Int) 0) with
  | .err kk a => _
  | .ok y0 j => _
 have ht' : Track l (fld l [101] (i + 1) (st0 ((10 : Nat) : Int) 0)) (exP l ⟨i + 1,0,0⟩).2 { st0 ((10 : Nat) : Int) 0 with e:=(exP l ⟨i + 1,0,0⟩).1 }:=ht
 cases hfl : fld l [101] (i + 1) (st0 ((10 : Nat) : Int) 0) with
 | err kk a =>
  rw [hfl] at ht'
  have hd : (exP l ⟨i + 1,0,0⟩).2.k ≠ 0:=by rw [ht'.1]; exact ht'.2
  have hq1:=(h1.1 hd).1
  rw [(g1.1 (by rw [hq1]; exact hd)).1,hq1]
  exact ht'
 | ok y0 j =>
  rw [hfl] at ht'
  obtain ⟨e1,e2⟩:=ht'
  obtain ⟨res,h3,h4⟩:=h1.2 (by rw [e1])
  rw [e1] at h3
  refine ⟨res,h3,?_⟩
  cases res with
  | err kk a =>
   have hq1:=h4.1
   rw [(g1.1 (by rw [hq1]; exact h4.2.1)).1]
   exact ⟨h4.1,h4.2.1⟩
  | ok b j2 =>
   obtain ⟨rfl,rfl⟩:=h4
   obtain ⟨res2,h5,h6⟩:=g1.2 rfl
   refine ⟨res2,?_,?_⟩
   ·by_cases he : elseAt l j2 = true
    ·rw [if_pos he] at h5
     rw [if_pos ⟨rfl,he⟩]
     exact h5
    ·rw [if_neg he] at h5
     rw [if_neg (fun hh => he hh.2)]
     exact h5
   ·cases res2 with
    | err kk a => exact ⟨h6.1,h6.2.1⟩
    | ok oo j3 =>
     obtain ⟨rfl,rfl⟩:=h6
     refine ⟨rfl,by simp,?_⟩
     rw [← e2]
     simp only [st0,List.length_append]
     congr 1 <;> omega
end
theorem stR_lt {l : List Tok} {f o i j : Nat} {ys : List St} (hp : ∀ i,(tokO l i).2.2.2 + (tokO l i).2.1.length ≤ 200000) (hi : i < l.length) (h : stR l f o i = some (.ok ys j)) : i < j:=by
 unfold stR at h
 by_cases hk : kindL l i = 0
 ·rw [if_pos hk] at h; cases h
 ·rw [if_neg hk] at h
  have hff:=fld_fit l hp (formL (kindL l i)) (i + 1) (st0 (kindL l i : Nat) (plc l i : Nat)) (by omega)
  cases h1 : fld l (formL (kindL l i)) (i + 1) (st0 (kindL l i : Nat) (plc l i : Nat)) with
  | err k a => rw [h1] at h; cases h
  | ok x j1 =>
   rw [h1] at h hff
   obtain ⟨g1,g2⟩:=hff
   have hb : ∀ q r,q ≤ l.length → brc (lst l f) l o q = some r → SFit l.length q r:=fun q r hq hb => brc_fit l (lst l f) o q r hq (fun inn' i' r' h1 h2 => lst_fit l hp f inn' i' r' h1 h2) hb
   cases h2 : (if blkB (kindL l i) = true then brc (lst l f) l o j1 else some (.ok [] j1)) with
   | none => simp only [h2] at h; cases h
   | some r2 =>
    simp only [h2] at h
    have f2 : SFit l.length j1 r2:=by
     by_cases hbk : blkB (kindL l i) = true
     ·rw [if_pos hbk] at h2; exact hb j1 r2 g2 h2
     ·rw [if_neg hbk] at h2; cases h2; exact ⟨Nat.le_refl _,g2,by simp⟩
    cases r2 with
    | err k a => cases h
    | ok b j2 =>
     simp only [] at h
     obtain ⟨m1,m2,_⟩:=f2
     cases h3 : (if kindL l i = 10 ∧ elseAt l j2 = true then brc (lst l f) l o (j2 + 1) else some (.ok [] j2)) with
     | none => rw [h3] at h; cases h
     | some r3 =>
      rw [h3] at h
      cases r3 with
      | err k a => cases h
      | ok oo j3 =>
       cases h
       by_cases he : kindL l i = 10 ∧ elseAt l j2 = true
       ·rw [if_pos he] at h3
        have hl2 : j2 < l.length:=atB_lt (elseAt_at l j2 ▸ he.2) (by decide)
        have:=(hb (j2 + 1) _ hl2 h3).1
        omega
       ·rw [if_neg he] at h3
        cases h3
        omega
theorem ent35 : ∀ args w,(callFunc 212 args).run Tryz.prog w = .ok (.enter 212 args) w:=enters_of Tryz.func212 (by kernel_rfl) rfl
theorem ent38 : ∀ args w,(callFunc 215 args).run Tryz.prog w = .ok (.enter 215 args) w:=enters_of Tryz.func215 (by kernel_rfl) rfl
theorem ent39 : ∀ args w,(callFunc 216 args).run Tryz.prog w = .ok (.enter 216 args) w:=enters_of Tryz.func216 (by kernel_rfl) rfl
theorem ent40 : ∀ args w,(callFunc 217 args).run Tryz.prog w = .ok (.enter 217 args) w:=enters_of Tryz.func217 (by kernel_rfl) rfl
theorem ent41 : ∀ args w,(callFunc 218 args).run Tryz.prog w = .ok (.enter 218 args) w:=enters_of Tryz.func218 (by kernel_rfl) rfl
theorem ent42 : ∀ args w,(callFunc 219 args).run Tryz.prog w = .ok (.enter 219 args) w:=enters_of Tryz.func219 (by kernel_rfl) rfl
theorem ent43 : ∀ args w,(callFunc 220 args).run Tryz.prog w = .ok (.enter 220 args) w:=enters_of Tryz.func220 (by kernel_rfl) rfl
theorem ent45 : ∀ args w,(callFunc 222 args).run Tryz.prog w = .ok (.enter 222 args) w:=enters_of Tryz.func222 (by kernel_rfl) rfl
theorem ent48 : ∀ args w,(callFunc 225 args).run Tryz.prog w = .ok (.enter 225 args) w:=enters_of Tryz.func225 (by kernel_rfl) rfl
theorem ent49 : ∀ args w,(callFunc 226 args).run Tryz.prog w = .ok (.enter 226 args) w:=enters_of Tryz.func226 (by kernel_rfl) rfl
theorem ent32 : ∀ args w,(callFunc 209 args).run Tryz.prog w = .ok (.enter 209 args) w:=enters_of Tryz.func209 (by kernel_rfl) rfl
theorem ent33 : ∀ args w,(callFunc 210 args).run Tryz.prog w = .ok (.enter 210 args) w:=enters_of Tryz.func210 (by kernel_rfl) rfl
theorem ent34 : ∀ args w,(callFunc 211 args).run Tryz.prog w = .ok (.enter 211 args) w:=enters_of Tryz.func211 (by kernel_rfl) rfl
theorem stm_all {w0 : World} {l : List Tok} {lv : Value} {r bx m f o i : Nat} {dv : Value} {xs : List St} (x : Ty w0 l lv) (hb : BlkC w0 l lv r bx m f) (ho : o ≤ 30) (w : World) (h : Stb w0 w r bx m l lv ⟨i, 0, 0⟩ o dv xs) (hlt : i < l.length) (hf : l.length - i ≤ f) :
   Calls Tryz.prog 228 #[.pointer (some ⟨r,0,none⟩)] w fun e w' => e = .returned (.tuple #[]) ∧ ∃ q' dv' xs',Out w0 w w' r bx m l lv q' o dv dv' xs' ∧ ∃ res,stR l f o i = some res ∧ RS l xs res q' xs':=by
 have ha:=alt_of_blk x hb
 have hrf : refP l ⟨i,0,0⟩ = ⟨l.length,5,plc l i⟩:=by
   rw [refP_live]
   have : refK l i = (5,plc l i):=by unfold refK plc; rw [if_pos hlt]
   rw [this]
 by_cases hk : kindL l i = 0
 · have hres : ∃ res,stR l f o i = some res ∧ RS l xs res ⟨l.length,5,plc l i⟩ xs:=⟨.err 5 (plc l i),by unfold stR; rw [if_pos hk],rfl,by decide,Nat.le_refl _⟩
   by_cases h1 : (tokO l i).1 = 1
   · have hkf : kindF (tokO l i).2.1 1 13 = 0:=by unfold kindL at hk; rw [if_pos ⟨hlt,h1⟩] at hk; exact hk
     refine (stm_nil x w h hlt h1 (by rw [hkf]; rfl)).mono ?_
     rintro e w' ⟨h1,dv2,h2⟩
     rw [hrf] at h2
     exact ⟨h1,_,dv2,xs,h2,hres⟩
   · refine (stm_no x w h hlt h1).mono ?_
     rintro e w' ⟨h1,dv2,h2⟩
     rw [hrf] at h2
     exact ⟨h1,_,dv2,xs,h2,hres⟩
 · have h1 : (tokO l i).1 = 1:=by
     by_cases h1 : (tokO l i).1 = 1
     · exact h1
     · exfalso; apply hk; unfold kindL; rw [if_neg (fun hh => h1 hh.2)]
   have hkf : kindF (tokO l i).2.1 1 13 = kindL l i:=by unfold kindL; rw [if_pos ⟨hlt,h1⟩]
   have hbd:=kindF_le (tokO l i).2.1 13 1
   rw [hkf] at hbd
   obtain ⟨k,hkk⟩ : ∃ k,k = kindL l i:=⟨_,rfl⟩
   rw [← hkk] at hbd hkf hk
   have hk1 : 1 ≤ k:=by omega
   have hk13 : k ≤ 13:=by omega
   have go : ∀ (F : Nat) (cap : Array Value), (∀ args w, (callFunc F args).run Tryz.prog w = .ok (.enter F args) w) → fnV bx k = .func (.func F) #[] cap → RdC w0 l lv r bx m f o i k F cap xs →
       Calls Tryz.prog 228 #[.pointer (some ⟨r,0,none⟩)] w fun e w' => e = .returned (.tuple #[]) ∧ ∃ q' dv' xs',Out w0 w w' r bx m l lv q' o dv dv' xs' ∧ ∃ res,stR l f o i = some res ∧ RS l xs res q' xs':=by
     intro F cap hE hfn hrd
     refine (stm_walk x w h hlt F cap hE h1 (by show fnV bx (kindF (tokO l i).2.1 1 13) = _; rw [hkf]; exact hfn) k (fun y q2 xs2 => xs.length < xs2.length ∧ RdRel l f o k i (xs ++ [zSt]) y q2 xs2) ?_).mono ?_
     · intro w' dv1 h'
       refine (hrd w' dv1 h').mono ?_
       rintro e w'' ⟨y,q2,dv2,xs2,g1,g2,g3,g4⟩
       exact ⟨y,q2,dv2,xs2,g1,g2,g3,g3,g4⟩
     · rintro e w' ⟨g1,y,q2,dv2,xs2,g2,g3,g4⟩
       exact ⟨g1,_,dv2,_,g2,stm_rel hkk.symm hk1 hk13 g3 g4⟩
   have hkc : k = 1 ∨ k = 2 ∨ k = 3 ∨ k = 4 ∨ k = 5 ∨ k = 6 ∨ k = 7 ∨ k = 8 ∨ k = 9 ∨ k = 10 ∨ k = 11 ∨ k = 12 ∨ k = 13:=by omega
   clear hkk hk hbd hkf hk1 hk13
   rcases hkc with rfl | rfl | rfl | rfl | rfl | rfl | rfl | rfl | rfl | rfl | rfl | rfl | rfl
   · exact go 209 #[] ent32 rfl (rd_bare rfl rfl fun w' _ h' => clo32 w' h')
   · exact go 212 _ ent35 rfl (rd2 x hlt)
   · exact go 215 _ ent38 rfl (rd3 x hlt)
   · exact go 216 _ ent39 rfl (rd4 x hlt)
   · exact go 217 _ ent40 rfl (rd5 x hlt)
   · exact go 218 _ ent41 rfl (rd6 x hlt)
   · exact go 219 _ ent42 rfl (rd7 x hlt)
   · exact go 210 #[] ent33 rfl (rd_bare rfl rfl fun w' _ h' => clo33 w' h')
   · exact go 220 _ ent43 rfl (rd9 x hlt)
   · exact go 222 _ ent45 rfl (rd10 x hlt hb ha ho hf)
   · exact go 225 _ ent48 rfl (rd11 x hlt hb ho hf)
   · exact go 226 _ ent49 rfl (rd12 hlt hb ho hf)
   · exact go 211 #[] ent34 rfl (rd_bare rfl rfl fun w' _ h' => clo34 w' h')
theorem seq_rel_step {l : List Tok} {g o i : Nat} {xs xs2 : List St} {q2 : Pq} {res : SRes} (hi : i < l.length) (hs : sgAt l i [125] = false) (h1 : stR l g o i = some res) (h2 : RS l xs res q2 xs2) {q3 : Pq} {xs3 : List St} (h3 : SeqRel l g o q2 xs2 q3 xs3) : SeqRel l (g + 1) o ⟨i,0,0⟩ xs q3 xs3:=by
 refine ⟨fun h => absurd rfl h,fun _ => ?_⟩
 show ∃ res,lst l (g + 1) o i = some res ∧ _
 rw [lst_step,if_pos ⟨hi,hs⟩,h1]
 cases res with
 | err k a =>
  obtain ⟨e1,e2,e3⟩:=h2
  obtain ⟨rfl,rfl⟩:=h3.1 (by rw [e1]; exact e2)
  exact ⟨_,rfl,e1,e2,e3⟩
 | ok ys j =>
  obtain ⟨rfl,rfl⟩:=h2
  obtain ⟨r3,g1,g2⟩:=h3.2 rfl
  simp only []
  rw [show (⟨j,0,0⟩ : Pq).n = j from rfl] at g1
  rw [g1]
  cases r3 with
  | err k a => exact ⟨_,rfl,g2.1,g2.2.1,by have:=g2.2.2; rw [List.length_append] at this; omega⟩
  | ok r j4 => exact ⟨_,rfl,g2.1,by rw [g2.2,List.append_assoc]⟩
theorem seq_rel_end {l : List Tok} {g o : Nat} {q : Pq} {xs : List St} (hq : q.ok l.length) (hg : q.k = 0 → 1 ≤ g) (h : q.k = 0 → ¬ (q.n < l.length ∧ sgAt l q.n [125] = false)) : SeqRel l g o q xs q xs:=by
 refine ⟨fun _ => ⟨rfl,rfl⟩,fun hk => ?_⟩
 obtain ⟨g',rfl⟩ : ∃ g',g = g' + 1:=⟨g - 1,by have:=hg hk; omega⟩
 refine ⟨.ok [] q.n,?_,Pq.live hq hk,by simp⟩
 rw [lst_step,if_neg (h hk)]
theorem seq_all {w0 : World} {l : List Tok} {lv : Value} {r bx m : Nat} (x : Ty w0 l lv) : ∀ f,SeqC w0 l lv r bx m f:=by
 intro f
 induction f using Nat.strongRecOn with
 | _ f ih =>
  intro o w q dv xs ho31 ho h hf
  have HX:=Lib.hid x
  have HSTM : Hid (∀ g i,g + 1 ≤ f → o ≤ 30 → i < l.length → l.length - i ≤ g → ∀ W dv1 xs1,Stb w0 W r bx m l lv ⟨i,0,0⟩ o dv1 xs1 → Calls Tryz.prog 228 #[.pointer (some ⟨r,0,none⟩)] W fun e w' => e = .returned (.tuple #[]) ∧ ∃ q' dv' xs',Out w0 W w' r bx m l lv q' o dv1 dv' xs' ∧ ∃ res,stR l g o i = some res ∧ RS l xs1 res q' xs'):=
   fun g i hg ho hi hgi W dv1 xs1 hW => stm_all x (blk_of_seq x (ih g (by omega))) ho W hW hi hgi
  have HH:=Lib.hid h
  have HF:=Lib.hid hf
  have HOO:=Lib.hid ho
  have HLN : Hid (l.length ≤ 100000):=x.x.hn
  clear x h ih hf ho ho31
  go_enter Tryz.func195,Tryz.ntmps195
  go_wp2_with fail
  go_loopg [] (f + 1) (fun fuel wr => ∃ q' dv' xs' g,Out w0 w wr r bx m l lv q' o dv dv' xs' ∧ g ≤ f ∧ g + 1 ≤ fuel ∧ (q'.k = 0 → q.k = 0 ∧ l.length - q'.n + 1 ≤ g) ∧ ∀ q2 xs2,SeqRel l g o q' xs' q2 xs2 → SeqRel l f o q xs q2 xs2)
  case atStart => exact ⟨q,dv,xs,f,Out.of HH.out HH.out.sta (Keep.refl _ _) (Nat.le_refl _),Nat.le_refl _,Nat.le_refl _,fun hk => ⟨hk,HF.out hk⟩,fun _ _ h => h⟩
  case round =>
   obtain ⟨q',dv',xs',g,hout,hg,hgf,hk',hcont⟩:=hrel
   have HO:=Lib.hid hout
   have HK:=Lib.hid hk'
   have HC:=Lib.hid hcont
   have hqk:=hout.st.sta.ok
   have HTC:=Lib.hid (HX.out.x.ht.below hout.st.sta.bel)
   clear hout hk' hcont
   obtain ⟨ad,cp,hlv,hct⟩:=HTC.out
   have hlvv:=hlv
   obtain ⟨⟨c0,c1,_,_,_,_,_⟩,_⟩:=HO.out.st.sta.prs.facts
   have hr:=HO.out.st.sta.prs.lt
   rw [hlv] at c0
   obtain ⟨L,hL⟩ : ∃ L,L = l.length:=⟨_,rfl⟩
   obtain ⟨n,hn⟩ : ∃ n,n = q'.n:=⟨_,rfl⟩
   have HLL:=Lib.hid hL
   have HNN:=Lib.hid hn
   have hln:=HLN.out
   by_cases hlt : q'.n < l.length
   ·have hk0 : q'.k = 0:=by
     by_cases hk : q'.k = 0
     ·exact hk
     ·have:=hqk.2.2 hk; omega
    obtain ⟨b,hb⟩ : ∃ b,atB l q'.n 3 [125] = b:=⟨_,rfl⟩
    have HS:=Lib.hid (fun (w' : World) (h' : Below wr.heap.size wr w') => sees_any l r lv dv' (.map (some m)) q'.n o q'.k q'.a 3 ⟨#[125]⟩ w' (HO.out.st.sta.prs.below h') (HTC.out.below h') HX.out.x.hn (by decide) b hb)
    rw [← hL] at c0 hln
    rw [← hn] at c1
    have hlt' : n < L:=by omega
    have q1 : decide ((n : Int) < (L : Int)) = true:=by simp; omega
    have q2 : decide (n < L) = true:=by simp; omega
    have HB:=Lib.hid hb
    have HLT:=Lib.hid hlt
    have HK0:=Lib.hid hk0
    have HQK:=Lib.hid hqk
    clear hct hlv hlvv hL hn hb hlt hk0 hqk
    cases b with
    | true =>
     go_wp2
     go_region_held3 (fun w' => w'.cell? ⟨r,0,none⟩ = some (.slice ad L cp) ∧ w'.cell? ⟨r,1,none⟩ = some (.int .i64 n) ∧ Below wr.heap.size wr w')
      (first | exact ⟨c0,c1,Below.refl _ _⟩ | exact ⟨c0,c1,(Below.refl _ _).drew⟩ | assumption | (go_split_ands; exact ⟨(hb3.cell (p:=⟨r,0,none⟩) hr).trans c0,(hb3.cell (p:=⟨r,1,none⟩) hr).trans c1,hb3⟩))
      ((go_split_ands; with_reducible refine Calls.mono (HS.out _ (by assumption)) ?_; rintro e w2 ⟨rfl,hb2⟩; have hb3 : Below wr.heap.size wr w2:=Below.trans (by assumption) (hb2.mono (Below.size (by assumption)))))
     go_split_ands
     rename_i hbz
     have HBZ:=Lib.hid hbz
     clear hbz
     go_wp2
     refine bodyPost_end (v:=.tuple #[]) (by simp [results,Tryz.results195,go_sem]) rfl ⟨rfl,q',dv',xs',HO.out.move (HO.out.st.sta.below HBZ.out) (Below.keep HBZ.out) (Nat.le_refl _),HC.out _ _ (seq_rel_end HQK.out (fun hk => by have:=HK.out hk; omega) (fun _ hh => by rw [sgAt_at,HB.out] at hh; exact absurd hh.2 (by simp)))⟩
    | false =>
     obtain ⟨hq0,hgl⟩:=HK.out HK0.out
     obtain ⟨g',rfl⟩ : ∃ g',g = g' + 1:=⟨g - 1,by omega⟩
     have hqq:=Pq.live HQK.out HK0.out
     have HSM:=Lib.hid (fun (W : World) (hW : Stb w0 W r bx m l lv ⟨q'.n,0,0⟩ o dv' xs') => HSTM.out g' q'.n hg (HOO.out hq0) HLT.out (by omega) W dv' xs' hW)
     have HQQ:=Lib.hid hqq
     have HQ0:=Lib.hid hq0
     clear hqq hq0
     go_wp2
     go_region_held3 (fun w' => w'.cell? ⟨r,0,none⟩ = some (.slice ad L cp) ∧ w'.cell? ⟨r,1,none⟩ = some (.int .i64 n) ∧ Below wr.heap.size wr w')
      (first | exact ⟨c0,c1,Below.refl _ _⟩ | exact ⟨c0,c1,(Below.refl _ _).drew⟩ | assumption | (go_split_ands; exact ⟨(hb3.cell (p:=⟨r,0,none⟩) hr).trans c0,(hb3.cell (p:=⟨r,1,none⟩) hr).trans c1,hb3⟩))
      ((go_split_ands; with_reducible refine Calls.mono (HS.out _ (by assumption)) ?_; rintro e w2 ⟨rfl,hb2⟩; have hb3 : Below wr.heap.size wr w2:=Below.trans (by assumption) (hb2.mono (Below.size (by assumption)))))
     go_split_ands
     rename_i hbz
     have HBZ:=Lib.hid hbz
     clear hbz
     have HO2:=Lib.hid (HO.out.move (HO.out.st.sta.below HBZ.out) (Below.keep HBZ.out) (Nat.le_refl _))
     go_wp2_with fail
     refine (HSM.out _ (by rw [← HQQ.out]; exact HO2.out.st)).mono ?_
     rintro e w4 ⟨rfl,q4,dv4,xs4,h4,res,h5,h6⟩
     have HO4:=Lib.hid (HO2.out.trans h4)
     have HRES:=Lib.hid h5
     have HRS:=Lib.hid h6
     clear h4 h5 h6
     go_wp2
     go_roundg (gk - 1)
     case measure => omega
     case rel =>
      have hs : sgAt l q'.n [125] = false:=HB.out
      refine ⟨q4,dv4,xs4,g',HO4.out,by omega,by omega,fun hk4 => ⟨HQ0.out,?_⟩,fun q2 xs2 h2 => HC.out _ _ ?_⟩
      ·cases res with
       | err k a => have:=HRS.out; rw [this.1] at hk4; exact absurd hk4 this.2.1
       | ok ys j =>
        have:=HRS.out
        rw [this.1]
        have hj:=stR_lt HX.out.plc HLT.out HRES.out
        have h7:=HLT.out
        show l.length - j + 1 ≤ g'
        omega
      ·rw [HQQ.out]
       exact seq_rel_step HLT.out hs HRES.out HRS.out h2
   ·have hqn:=hqk.1
    rw [← hL] at c0 hln
    rw [← hn] at c1
    have hlt' : L ≤ n:=by omega
    have q1 : decide ((n : Int) < (L : Int)) = false:=by simp; omega
    have q2 : decide (n < L) = false:=by simp; omega
    have HLT:=Lib.hid hlt
    have HQK:=Lib.hid hqk
    clear hct hlv hlvv hL hn hlt hqk hqn
    go_wp2
    go_quiet (fail)
    go_wp2
    refine bodyPost_end (v:=.tuple #[]) (by simp [results,Tryz.results195,go_sem]) rfl ⟨rfl,q',dv',xs',HO.out.move (HO.out.st.sta.drewN _) ((Keep.refl _ _).drewN _) (Nat.le_refl _),HC.out _ _ (seq_rel_end HQK.out (fun hk => by have:=HK.out hk; omega) (fun _ hh => HLT.out hh.1))⟩
theorem below_grow1 {B m : Nat} {w0 w w' : World} (h : Below B w0 w) (hg : w.grownBy w' (some m)) (hm : B ≤ m) (hB : B ≤ w.heap.size) : Below B w0 w':=
 ⟨hg.os.trans h.os,hg.tape.trans h.tape,hg.output.trans h.output,Nat.le_trans h.size hg.size,fun k hk => (hg.block k (by omega) (fun e => by cases e; omega)).trans (h.block k hk)⟩
theorem grammar_any (r : Nat) (w : World) : Calls Tryz.prog 194 #[.pointer (some ⟨r,0,none⟩)] w fun e w' => ∃ m bx,e = .returned (.map (some m)) ∧ Mp w' m (entsR bx) ∧ Bx w' bx r ∧ Below w.heap.size w w':=by
 have H0 : Hid (Mp ((w.alloc (.cells #[.pointer (some ⟨r,0,none⟩)] 213)).alloc (.map #[] 0)) (w.heap.size + 1) []):=by
  have:=heap_alloc_new (w.alloc (.cells #[.pointer (some ⟨r,0,none⟩)] 213)) (.map #[] 0)
  rw [show (w.alloc (.cells #[.pointer (some ⟨r,0,none⟩)] 213)).heap.size = w.heap.size + 1 by simp] at this
  exact this
 have B0 : Hid (Below w.heap.size w ((w.alloc (.cells #[.pointer (some ⟨r,0,none⟩)] 213)).alloc (.map #[] 0))):=((Below.refl _ _).alloc (Nat.le_refl _) _).alloc (by simp) _
 have X0 : Hid (Bx ((w.alloc (.cells #[.pointer (some ⟨r,0,none⟩)] 213)).alloc (.map #[] 0)) w.heap.size r):=by
  have h0 : Bx (w.alloc (.cells #[.pointer (some ⟨r,0,none⟩)] 213)) w.heap.size r:=heap_alloc_new w _
  exact h0.keep ((Keep.refl (w.heap.size + 1) _).alloc _) (by omega)
 have hmk : ∀ w,(Instr.makeMap 194 none).run Tryz.prog w = .ok (.map (some w.heap.size)) (w.alloc (.map #[] 0)):=fun w => run_makeMap_plain w 194
 go_enter Tryz.func194,Tryz.ntmps194
 go_wp2_with (refine wpList_ins rfl _ _ _ rfl _ _ _ _ rfl rfl rfl H0.out (by simp) ?_)
 intro w1 h1 g1
 have H1:=Lib.hid h1
 have B1:=Lib.hid (below_grow1 B0.out g1 (Nat.le_succ _) B0.out.size)
 have X1 : Hid (Bx w1 w.heap.size r):=by
  have:=X0.out
  unfold Bx at this
  show _ = _
  rw [g1.block w.heap.size (Array.getElem?_eq_some_iff.1 this).1 (by simp)]
  exact this
 clear h1 g1 H0 B0 X0
 go_wp2_with (refine wpList_ins rfl _ _ _ rfl _ _ _ _ rfl rfl rfl H1.out (by simp) ?_)
 intro w2 h2 g2
 have H2:=Lib.hid h2
 have B2:=Lib.hid (below_grow1 B1.out g2 (Nat.le_succ _) B1.out.size)
 have X2 : Hid (Bx w2 w.heap.size r):=by
  have:=X1.out
  unfold Bx at this
  show _ = _
  rw [g2.block w.heap.size (Array.getElem?_eq_some_iff.1 this).1 (by simp)]
  exact this
 clear h2 g2 H1 B1 X1
 go_wp2_with (refine wpList_ins rfl _ _ _ rfl _ _ _ _ rfl rfl rfl H2.out (by simp) ?_)
 intro w3 h3 g3
 have H3:=Lib.hid h3
 have B3:=Lib.hid (below_grow1 B2.out g3 (Nat.le_succ _) B2.out.size)
 have X3 : Hid (Bx w3 w.heap.size r):=by
  have:=X2.out
  unfold Bx at this
  show _ = _
  rw [g3.block w.heap.size (Array.getElem?_eq_some_iff.1 this).1 (by simp)]
  exact this
 clear h3 g3 H2 B2 X2
 go_wp2_with (refine wpList_ins rfl _ _ _ rfl _ _ _ _ rfl rfl rfl H3.out (by simp) ?_)
 intro w4 h4 g4
 have H4:=Lib.hid h4
 have B4:=Lib.hid (below_grow1 B3.out g4 (Nat.le_succ _) B3.out.size)
 have X4 : Hid (Bx w4 w.heap.size r):=by
  have:=X3.out
  unfold Bx at this
  show _ = _
  rw [g4.block w.heap.size (Array.getElem?_eq_some_iff.1 this).1 (by simp)]
  exact this
 clear h4 g4 H3 B3 X3
 go_wp2_with (refine wpList_ins rfl _ _ _ rfl _ _ _ _ rfl rfl rfl H4.out (by simp) ?_)
 intro w5 h5 g5
 have H5:=Lib.hid h5
 have B5:=Lib.hid (below_grow1 B4.out g5 (Nat.le_succ _) B4.out.size)
 have X5 : Hid (Bx w5 w.heap.size r):=by
  have:=X4.out
  unfold Bx at this
  show _ = _
  rw [g5.block w.heap.size (Array.getElem?_eq_some_iff.1 this).1 (by simp)]
  exact this
 clear h5 g5 H4 B4 X4
 go_wp2_with (refine wpList_ins rfl _ _ _ rfl _ _ _ _ rfl rfl rfl H5.out (by simp) ?_)
 intro w6 h6 g6
 have H6:=Lib.hid h6
 have B6:=Lib.hid (below_grow1 B5.out g6 (Nat.le_succ _) B5.out.size)
 have X6 : Hid (Bx w6 w.heap.size r):=by
  have:=X5.out
  unfold Bx at this
  show _ = _
  rw [g6.block w.heap.size (Array.getElem?_eq_some_iff.1 this).1 (by simp)]
  exact this
 clear h6 g6 H5 B5 X5
 go_wp2_with (refine wpList_ins rfl _ _ _ rfl _ _ _ _ rfl rfl rfl H6.out (by simp) ?_)
 intro w7 h7 g7
 have H7:=Lib.hid h7
 have B7:=Lib.hid (below_grow1 B6.out g7 (Nat.le_succ _) B6.out.size)
 have X7 : Hid (Bx w7 w.heap.size r):=by
  have:=X6.out
  unfold Bx at this
  show _ = _
  rw [g7.block w.heap.size (Array.getElem?_eq_some_iff.1 this).1 (by simp)]
  exact this
 clear h7 g7 H6 B6 X6
 go_wp2_with (refine wpList_ins rfl _ _ _ rfl _ _ _ _ rfl rfl rfl H7.out (by simp) ?_)
 intro w8 h8 g8
 have H8:=Lib.hid h8
 have B8:=Lib.hid (below_grow1 B7.out g8 (Nat.le_succ _) B7.out.size)
 have X8 : Hid (Bx w8 w.heap.size r):=by
  have:=X7.out
  unfold Bx at this
  show _ = _
  rw [g8.block w.heap.size (Array.getElem?_eq_some_iff.1 this).1 (by simp)]
  exact this
 clear h8 g8 H7 B7 X7
 go_wp2_with (refine wpList_ins rfl _ _ _ rfl _ _ _ _ rfl rfl rfl H8.out (by simp) ?_)
 intro w9 h9 g9
 have H9:=Lib.hid h9
 have B9:=Lib.hid (below_grow1 B8.out g9 (Nat.le_succ _) B8.out.size)
 have X9 : Hid (Bx w9 w.heap.size r):=by
  have:=X8.out
  unfold Bx at this
  show _ = _
  rw [g9.block w.heap.size (Array.getElem?_eq_some_iff.1 this).1 (by simp)]
  exact this
 clear h9 g9 H8 B8 X8
 go_wp2_with (refine wpList_ins rfl _ _ _ rfl _ _ _ _ rfl rfl rfl H9.out (by simp) ?_)
 intro w10 h10 g10
 have H10:=Lib.hid h10
 have B10:=Lib.hid (below_grow1 B9.out g10 (Nat.le_succ _) B9.out.size)
 have X10 : Hid (Bx w10 w.heap.size r):=by
  have:=X9.out
  unfold Bx at this
  show _ = _
  rw [g10.block w.heap.size (Array.getElem?_eq_some_iff.1 this).1 (by simp)]
  exact this
 clear h10 g10 H9 B9 X9
 go_wp2_with (refine wpList_ins rfl _ _ _ rfl _ _ _ _ rfl rfl rfl H10.out (by simp) ?_)
 intro w11 h11 g11
 have H11:=Lib.hid h11
 have B11:=Lib.hid (below_grow1 B10.out g11 (Nat.le_succ _) B10.out.size)
 have X11 : Hid (Bx w11 w.heap.size r):=by
  have:=X10.out
  unfold Bx at this
  show _ = _
  rw [g11.block w.heap.size (Array.getElem?_eq_some_iff.1 this).1 (by simp)]
  exact this
 clear h11 g11 H10 B10 X10
 go_wp2_with (refine wpList_ins rfl _ _ _ rfl _ _ _ _ rfl rfl rfl H11.out (by simp) ?_)
 intro w12 h12 g12
 have H12:=Lib.hid h12
 have B12:=Lib.hid (below_grow1 B11.out g12 (Nat.le_succ _) B11.out.size)
 have X12 : Hid (Bx w12 w.heap.size r):=by
  have:=X11.out
  unfold Bx at this
  show _ = _
  rw [g12.block w.heap.size (Array.getElem?_eq_some_iff.1 this).1 (by simp)]
  exact this
 clear h12 g12 H11 B11 X11
 go_wp2_with (refine wpList_ins rfl _ _ _ rfl _ _ _ _ rfl rfl rfl H12.out (by simp) ?_)
 intro w13 h13 g13
 have H13:=Lib.hid h13
 have B13:=Lib.hid (below_grow1 B12.out g13 (Nat.le_succ _) B12.out.size)
 have X13 : Hid (Bx w13 w.heap.size r):=by
  have:=X12.out
  unfold Bx at this
  show _ = _
  rw [g13.block w.heap.size (Array.getElem?_eq_some_iff.1 this).1 (by simp)]
  exact this
 clear h13 g13 H12 B12 X12
 go_wp2
 go_ret
 exact ⟨w.heap.size + 1,w.heap.size,rfl,H13.out,X13.out,B13.out⟩
theorem seq_none {w0 w : World} {r bx m : Nat} {l : List Tok} {lv : Value} {q : Pq} {o : Nat} {dv : Value} {xs : List St} (h : Stb w0 w r bx m l lv q o dv xs) (ht : TokC w lv l) (hl : l.length = 0) :
  Calls Tryz.prog 195 #[.pointer (some ⟨r,0,none⟩)] w fun e w' => e = .returned (.tuple #[]) ∧ Out w0 w w' r bx m l lv q o dv dv xs:=by
 have HO:=Lib.hid h
 have hn:=h.sta.ok.1
 obtain ⟨⟨c0,c1,_,_,_,_,_⟩,_⟩:=h.sta.prs.facts
 have hr:=h.sta.prs.lt
 obtain ⟨ad,cp,rfl,_⟩:=ht
 rw [hl] at c0
 rw [show q.n = 0 by omega] at c1
 clear h hl hn
 go_enter Tryz.func195,Tryz.ntmps195
 go_wp2_with fail
 go_loopg [] 1 (fun fuel wr => wr = w)
 case atStart => rfl
 case round =>
  subst hrel
  go_wp2
  go_quiet (fail)
  go_wp2
  refine bodyPost_end (v:=.tuple #[]) (by simp [results,Tryz.results195,go_sem]) rfl ⟨rfl,Out.of HO.out (HO.out.sta.drewN _) ((Keep.refl _ _).drewN _) (Nat.le_refl _)⟩
theorem sparse_out (l : List Tok) (lv : Value) (i : Int) (w : World) (ht : TokC w lv l) (_hn : l.length ≤ 100000) (h : i < 0 ∨ (l.length : Int) < i) : Calls Tryz.prog 169 #[lv,.int .i64 i] w (LAns (.err 1 0) w):=by
 obtain ⟨ad,cp,rfl,_⟩:=ht
 obtain ⟨L,hL⟩ : ∃ L,L = l.length:=⟨_,rfl⟩
 rw [← hL] at h _hn ⊢
 clear hL
 by_cases h0 : i < 0
 ·have q1 : decide (i < 0) = true:=by simp; omega
  clear h
  go_enter Tryz.func169,Tryz.ntmps169
  go_wp2
  refine bodyPost_ret (v:=.tuple #[.slice none 0 0,.int .i64 0,.int .i64 1,.int .i64 0]) (by simp [results,Tryz.results169,go_sem]) rfl ⟨rfl,Below.refl _ _⟩
 ·have hlt : (L : Int) < i:=by omega
  have q1 : decide (i < 0) = false:=by simp; omega
  have q2 : decide ((L : Int) < i) = true:=by simp; omega
  clear h h0
  go_enter Tryz.func169,Tryz.ntmps169
  go_wp2
  refine bodyPost_ret (v:=.tuple #[.slice none 0 0,.int .i64 0,.int .i64 1,.int .i64 0]) (by simp [results,Tryz.results169,go_sem]) rfl ⟨rfl,Below.refl _ _⟩
theorem sparse_in (l : List Tok) (lv : Value) (i : Nat) (w : World) (ht : TokC w lv l) (hs : Sgn w) (hn : l.length ≤ 100000) (hok : TokOK l) (hi : i ≤ l.length) : Calls Tryz.prog 169 #[lv,.int .i64 i] w (LAns (stmtR l i) w):=by
 have hplc : ∀ i,(tokO l i).2.2.2 + (tokO l i).2.1.length ≤ 200000:=fun i => by have:=hok i; omega
 have HSEQ : Hid (∀ W m bx,Stb w W w.heap.size bx m l lv ⟨i,0,0⟩ 0 (.slice none 0 0) [] → Calls Tryz.prog 195 #[.pointer (some ⟨w.heap.size,0,none⟩)] W fun e w' => e = .returned (.tuple #[]) ∧ ∃ q' dv' xs',Out w W w' w.heap.size bx m l lv q' 0 (.slice none 0 0) dv' xs' ∧ SeqRel l (l.length + 1) 0 ⟨i,0,0⟩ [] q' xs'):=by
  intro W m bx hW
  by_cases h0 : l.length = 0
  ·refine (seq_none hW (ht.below hW.sta.bel) h0).mono ?_
   rintro e w' ⟨h1,h2⟩
   exact ⟨h1,_,_,_,h2,seq_rel_end hW.sta.ok (fun _ => by omega) (fun _ hh => by have:=hh.1; omega)⟩
  ·exact seq_all ⟨⟨ht,hn,hok,by omega⟩,hs⟩ (l.length + 1) 0 W ⟨i,0,0⟩ _ [] (by omega) (fun _ => by omega) hW (fun _ => by show l.length - i + 1 ≤ l.length + 1; omega)
 obtain ⟨res,hres⟩:=lst_total l hplc (l.length + 1) 0 i hi (by omega)
 have HFIN : Hid (∀ q' xs',SeqRel l (l.length + 1) 0 ⟨i,0,0⟩ [] q' xs' → RS l [] res q' xs' ∧ stmtR l i = finS l i res):=fun q' xs' hq => by
  obtain ⟨r2,h1,h2⟩:=hq.2 rfl
  rw [show (⟨i,0,0⟩ : Pq).n = i from rfl,hres] at h1
  cases h1
  exact ⟨h2,stmtR_of l i res hi hres⟩
 have HTC:=Lib.hid ht
 have HRES:=Lib.hid hres
 have HHI:=Lib.hid hi
 obtain ⟨ad,cp,rfl,_⟩:=ht
 obtain ⟨L,hL⟩ : ∃ L,L = l.length:=⟨_,rfl⟩
 have HL:=Lib.hid hL
 have hiL : i ≤ L:=by omega
 have hLn : L ≤ 100000:=by omega
 rw [← hL]
 have q1 : decide ((i : Int) < 0) = false:=by simp
 have q2 : decide ((L : Int) < (i : Int)) = false:=by simp; omega
 have q3 : decide (L < i) = false:=by simp; omega
 have hfz : (w.alloc (.cells #[.slice ad L cp,.int .i64 i,.int .i64 0,.slice none 0 0,.map none,.int .i64 0,.int .i64 0] 196)).heap[w.heap.size]? = some (.cells #[.slice ad L cp,.int .i64 i,.int .i64 0,.slice none 0 0,.map none,.int .i64 0,.int .i64 0] 196 (0,0)):=heap_alloc_new w _
 have HP0 : Hid (Prs (w.alloc (.cells #[.slice ad L cp,.int .i64 i,.int .i64 0,.slice none 0 0,.map none,.int .i64 0,.int .i64 0] 196)) w.heap.size (.slice ad L cp) i 0 (.slice none 0 0) (.map none) 0 0):=hfz
 have HB0 : Hid (Below w.heap.size w (w.alloc (.cells #[.slice ad L cp,.int .i64 i,.int .i64 0,.slice none 0 0,.map none,.int .i64 0,.int .i64 0] 196))):=(Below.refl _ _).alloc (Nat.le_refl _) _
 clear hplc hs hn hok hi hL hres hfz
 go_enter Tryz.func169,Tryz.ntmps169
 go_wp2_with fail
 generalize (w.alloc (.cells #[.slice ad L cp,.int .i64 i,.int .i64 0,.slice none 0 0,.map none,.int .i64 0,.int .i64 0] 196)) = w1 at HP0 HB0 ⊢
 refine (grammar_any _ _).mono ?_
 rintro e w2 ⟨m,bx,rfl,hm,hbx,hb2⟩
 have HP2:=Lib.hid (HP0.out.below hb2)
 have HB2:=Lib.hid (HB0.out.trans (hb2.mono HB0.out.size))
 have HM2:=Lib.hid hm
 have HX2:=Lib.hid hbx
 obtain ⟨⟨c0,c1,c2,c3,c4,c5,c6⟩,_,_,_,f4,_⟩:=HP2.out.facts
 have hr2:=HP2.out.lt
 clear hm hbx hb2 HP0 HB0
 go_wp2_with fail
 have hk3 : Keep w.heap.size w2 (w2.setCell ⟨w.heap.size,4,none⟩ (.map (some m))):=(Keep.refl _ w2).setCell 4 _
 have hst : Stb w (w2.setCell ⟨w.heap.size,4,none⟩ (.map (some m))) w.heap.size bx m l (.slice ad l.length cp) ⟨i,0,0⟩ 0 (.slice none 0 0) []:=by
  have hp:=HP2.out
  rw [HL.out] at hp
  exact ⟨⟨hp.set.2.2.2.1 _,keep_bel HB2.out (Nat.le_refl _) hk3,Nat.le_refl _,HHI.out,fun _ => rfl,fun h => absurd rfl h⟩,SOwn.nil _ _,Nat.zero_le _,HM2.out.keep hk3 (HM2.out.ne HP2.out),HX2.out.keep hk3 (HX2.out.ne HP2.out)⟩
 have HST:=Lib.hid hst
 clear hst hk3 c0 c1 c2 c3 c4 c5 c6 f4 hr2 HM2 HX2 HP2 HB2
 refine (HSEQ.out _ m bx HST.out).mono ?_
 rintro e w4 ⟨rfl,q',dv',xs',hout,hrel⟩
 have HO:=Lib.hid hout
 obtain ⟨hRS,hfin⟩:=HFIN.out _ _ hrel
 have HRS:=Lib.hid hRS
 have HFN:=Lib.hid hfin
 obtain ⟨⟨c0,c1,c2,c3,c4,c5,c6⟩,_⟩:=HO.out.st.sta.prs.facts
 have hr4:=HO.out.st.sta.prs.lt
 have HBW:=Lib.hid HO.out.st.sta.bel
 clear hout hrel hRS hfin HST HSEQ HFIN
 cases res with
 | err k a =>
  obtain ⟨h1,h2,_⟩:=HRS.out
  rw [h1] at c1 c5 c6
  simp only [] at c5 c6
  have z1 : ((k : Int) != 0) = true:=by simp; omega
  have z2 : ((k : Int) == 0) = false:=by simp; omega
  have hans : stmtR l i = .err k a:=HFN.out
  have HANS:=Lib.hid hans
  clear h1 h2 hans HRS HFN
  go_wp2
  go_quiet (fail)
  go_wp2
  refine bodyPost_ret (v:=.tuple #[.slice none 0 0,.int .i64 0,.int .i64 k,.int .i64 a]) (by simp [results,Tryz.results169,go_sem]) rfl ?_
  rw [HANS.out]
  exact ⟨rfl,HBW.out.trans ((below_end _).mono HBW.out.size)⟩
 | ok ys j =>
  obtain ⟨h1,h2⟩:=HRS.out
  rw [List.nil_append] at h2
  subst h2
  rw [h1] at c1 c5 c6
  simp only [] at c1 c5 c6
  obtain ⟨ad8,cp8,hdv⟩:=HO.out.st.own.shape
  subst hdv
  obtain ⟨nn,hnn⟩ : ∃ nn,nn = xs'.length:=⟨_,rfl⟩
  have hn9 : nn ≤ 100000:=by
   have h5:=HO.out.st.len
   have h6:=HO.out.st.sta.ok.1
   have h7:=HL.out
   omega
  rw [← hnn] at c3
  have HNN:=Lib.hid hnn
  have HJ : Hid (j ≤ 100000):=by
   have h6:=HO.out.st.sta.ok.1
   rw [h1] at h6
   have h7:=HL.out
   show j ≤ 100000
   simp only [] at h6
   omega
  have HOWN:=Lib.hid HO.out.st.own
  by_cases hbig : 200 < nn
  ·have hlt : i < l.length:=by
    by_cases hlt : i < l.length
    ·exact hlt
    ·have h3:=HRES.out
     rw [lst_step,if_neg (fun hh => hlt hh.1)] at h3
     injection h3 with h3
     injection h3 with h3 h4
     rw [← h3] at hnn
     simp at hnn
     omega
   have hrk : refK l i = (5,l[i].2.2.2):=refK_in l i hlt
   have hans : stmtR l i = .err 2 l[i].2.2.2:=by
    rw [HFN.out]
    show (if 200 < xs'.length then SRes.err 2 (refK l i).2 else .ok xs' j) = _
    rw [if_pos (by rw [← hnn]; exact hbig),hrk]
   obtain ⟨ad',cp',hlv',hct⟩:=HTC.out.below HBW.out
   obtain ⟨g,hg,hglt,k0,k1,k2,k3⟩:=hct i hlt
   injection hlv' with e1 e2 e3
   rw [hg] at e1
   subst e1
   obtain ⟨tp,htp⟩ : ∃ tp,tp = l[i].2.2.2:=⟨_,rfl⟩
   rw [← htp] at k3 hans
   have hlt2 : i < L:=by have:=HL.out; omega
   have z1 : decide ((200 : Int) < (nn : Int)) = true:=by simp; omega
   have z2 : decide (200 < nn) = true:=by simp; omega
   have HANS:=Lib.hid hans
   clear h1 hans HRS HFN hnn hbig hct k0 k1 k2 e2 e3 htp hrk hlt
   go_wp2
   go_quiet (fail)
   go_wp2
   refine bodyPost_ret (v:=.tuple #[.slice none 0 0,.int .i64 0,.int .i64 2,.int .i64 tp]) (by simp [results,Tryz.results169,go_sem]) rfl ?_
   rw [HANS.out]
   exact ⟨rfl,HBW.out.trans ((below_end _).mono HBW.out.size)⟩
  ·have z1 : decide ((200 : Int) < (nn : Int)) = false:=by simp; omega
   have z2 : decide (200 < nn) = false:=by simp; omega
   have hans : stmtR l i = .ok xs' j:=by
    rw [HFN.out]
    show (if 200 < xs'.length then SRes.err 2 (refK l i).2 else .ok xs' j) = _
    rw [if_neg (by rw [← hnn]; exact hbig)]
   have HANS:=Lib.hid hans
   clear h1 hans HRS HFN hnn hbig
   go_wp2
   go_quiet (fail)
   go_wp2
   refine bodyPost_ret (v:=.tuple #[.slice ad8 nn cp8,.int .i64 j,.int .i64 0,.int .i64 0]) (by simp [results,Tryz.results169,go_sem]) rfl ?_
   rw [HANS.out]
   refine ⟨_,rfl,?_,HBW.out.trans ((below_end _).mono HBW.out.size)⟩
   rw [HNN.out]
   exact HOWN.out.below (below_end _)
theorem sparse_any (l : List Tok) (lv : Value) (i : Int) (w : World) (ht : TokC w lv l) (hs : Sgn w) (hn : l.length ≤ 100000) (hok : TokOK l) : Calls Tryz.prog 169 #[lv,.int .i64 i] w (LAns (stmtR l i) w):=by
 by_cases h : i < 0 ∨ (l.length : Int) < i
 ·have e : stmtR l i = .err 1 0:=by unfold stmtR; rw [if_pos h]
  rw [e]
  exact sparse_out l lv i w ht hn h
 ·obtain ⟨n,rfl⟩ : ∃ n : Nat,i = n:=⟨i.toNat,by omega⟩
  exact sparse_in l lv n w ht hs hn hok (by omega)
end Go.Proofs.YtcghccjnadagcaaGreatDoor
