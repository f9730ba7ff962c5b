/- Facts. -/
import Derived.Test.YtcghccjnadagcaaGreatDoorYk
set_option maxRecDepth 100000
set_option maxHeartbeats 32000000
namespace Go.Proofs.YtcghccjnadagcaaGreatDoor
open Go.RowKit
theorem stb_expr' {w0 : World} {l : List Tok} {lv : Value} {r bx m : Nat} {q : Pq} {o : Nat} {dv : Value} {xs : List St} {E : List Nd × Pq} (hE : exP l q = E) (x : Ty w0 l lv) (W : World) (h : Stb w0 W r bx m l lv q o dv xs) :
  Calls Tryz.prog 214 #[.pointer (some ⟨r,0,none⟩),.slice none 0 0] W fun e w' => ∃ v,e = .returned v ∧ w'.ownsRow W.heap.size 46 5 v E.1.length (rowN E.1) ∧ Stb w0 w' r bx m l lv E.2 o dv xs ∧ Keep r W w':=by
 subst hE; exact stb_expr x W h
theorem clo49 {w0 : World} {l : List Tok} {lv : Value} {r bx m f : Nat} {q : Pq} {o : Nat} {dv : Value} {xs : List St} (hb : BlkC w0 l lv r bx m f) (w : World) (h : Stb w0 w r bx m l lv q o dv xs) (ho : o ≤ 30) (hf1 : q.k = 0 → l.length - q.n ≤ f) :
  Calls Tryz.prog 226 #[.pointer (some ⟨bx,0,none⟩)] w fun e w' => ∃ q1 xs1,BlkRel l f o q xs q1 xs1 ∧ ∃ dv2,ToR w0 r bx m l lv q1 o dv dv2 xs1 w (St.mk 12 (⟨#[]⟩ : ByteArray) (⟨#[]⟩ : ByteArray) [] [] false ((xs1.length : Int) - (xs.length : Int)) 0 0) e w':=by
 have C2:=Lib.hid (fun (W : World) (hW : Stb w0 W r bx m l lv q o dv xs) => hb o W q dv xs ho hW hf1)
 have hbr:=h.bx.ne h.sta.prs
 have HW0 : Hid (Stb w0 (w.alloc (.cells #[.int .i64 0,.string ⟨#[]⟩,.string ⟨#[]⟩,.slice none 0 0,.slice none 0 0,.bool false,.int .i64 0,.int .i64 0,.int .i64 0] 42)) r bx m l lv q o dv xs):=h.alloc _
 have hB0 : BlkS (w.alloc (.cells #[.int .i64 0,.string ⟨#[]⟩,.string ⟨#[]⟩,.slice none 0 0,.slice none 0 0,.bool false,.int .i64 0,.int .i64 0,.int .i64 0] 42)) w.heap.size (st0 0 0) (.slice none 0 0) (.slice none 0 0):=heap_alloc_new w _
 have hk0 : Keep r w (w.alloc (.cells #[.int .i64 0,.string ⟨#[]⟩,.string ⟨#[]⟩,.slice none 0 0,.slice none 0 0,.bool false,.int .i64 0,.int .i64 0,.int .i64 0] 42)):=(Keep.refl r w).alloc _
 have hrs : w.heap.size ≠ r:=by have:=h.sta.prs.lt; omega
 have hdv : dv.ownBlock ≠ some w.heap.size:=fun e => by have:=(h.own.blk _ e).2.1; omega
 have HLE:=Lib.hid (h.sta.bel.size)
 have HH:=Lib.hid h
 clear h hb hf1 ho
 have c00:=HH.out.bx.cell
 have hb00:=HH.out.bx.lt
 go_enter Tryz.func226,Tryz.ntmps226
 go_wp2_with fail
 generalize (w.alloc (.cells #[.int .i64 0,.string ⟨#[]⟩,.string ⟨#[]⟩,.slice none 0 0,.slice none 0 0,.bool false,.int .i64 0,.int .i64 0,.int .i64 0] 42)) = w1 at HW0 hB0 hk0 ⊢
 have hzs : w.heap.size < w1.heap.size:=hB0.lt
 have c0:=HW0.out.bx.cell
 have hb1:=HW0.out.bx.lt
 have hbs : bx ≠ w.heap.size:=by
  rintro rfl
  have h1:=HW0.out.bx
  unfold Bx at h1; unfold BlkS at hB0
  rw [h1] at hB0; cases hB0
 have HB0:=Lib.hid hB0
 have HK0:=Lib.hid hk0
 have HBS:=Lib.hid hbs
 have HRS:=Lib.hid hrs
 have HDV:=Lib.hid hdv
 have HO0 : Hid (Out w0 w1 w1 r bx m l lv q o dv dv xs):=Out.of HW0.out HW0.out.sta (Keep.refl _ _) (Nat.le_refl _)
 clear hB0 hk0 hbs hrs hdv hzs
 refine (C2.out _ HW0.out).mono ?_
 rintro e W2 ⟨q2,dv2,xs2,rfl,h2,r2⟩
 have HO2 : Hid (Out w0 w1 W2 r bx m l lv q2 o dv dv2 xs2):=h2
 have HR2:=Lib.hid r2
 clear h2 r2
 obtain ⟨⟨b0,b1,b2,b3,b4,b5,b6,b7,b8⟩,bf⟩:=(HB0.out.keepD HO2.out.kd HRS.out (Ne.symm HDV.out)).facts
 simp only [st0] at b0 b1 b2 b3 b4 b5 b6 b7 b8
 have f0:=bf 0
 have f1:=bf 1
 have f2:=bf 2
 have f3:=bf 3
 have f4:=bf 4
 have f5:=bf 5
 have f6:=bf 6
 have f7:=bf 7
 have f8:=bf 8
 clear bf
 clear c0
 go_wp2_with fail
 all_goals
  have hend:=clo_endB HB0.out HK0.out HO2.out HDV.out HRS.out HLE.out (St.mk 12 (⟨#[]⟩ : ByteArray) (⟨#[]⟩ : ByteArray) [] [] false ((xs2.length : Int) - (xs.length : Int)) 0 0) (.slice none 0 0) (.slice none 0 0) (World.ownsRow_nil _ _ _ _) (World.ownsRow_nil _ _ _ _)
  go_wp2
  exact bodyPost_ret (v:=.agg (St.cells (St.mk 12 (⟨#[]⟩ : ByteArray) (⟨#[]⟩ : ByteArray) [] [] false ((xs2.length : Int) - (xs.length : Int)) 0 0) (.slice none 0 0) (.slice none 0 0))) (results_st Tryz.results226 _ _ _ _ _ _ rfl hend.1) rfl ⟨q2,xs2,HR2.out,dv2,hend.2⟩
theorem clo48 {w0 : World} {l : List Tok} {lv : Value} {r bx m f : Nat} {q : Pq} {o : Nat} {dv : Value} {xs : List St} (x : Ty w0 l lv) (hb : BlkC w0 l lv r bx m f) (w : World) (h : Stb w0 w r bx m l lv q o dv xs) (ho : o ≤ 30) (hf1 : (exP l q).2.k = 0 → l.length - (exP l q).2.n ≤ f) :
  Calls Tryz.prog 225 #[.pointer (some ⟨bx,0,none⟩)] w fun e w' => ∃ q1 xs1,BlkRel l f o (exP l q).2 xs q1 xs1 ∧ ∃ dv2,ToR w0 r bx m l lv q1 o dv dv2 xs1 w (St.mk 11 (⟨#[]⟩ : ByteArray) (⟨#[]⟩ : ByteArray) (exP l q).1 [] false ((xs1.length : Int) - (xs.length : Int)) 0 0) e w':=by
 obtain ⟨EE,hEE⟩ : ∃ EE,exP l q = EE:=⟨_,rfl⟩
 have C1:=Lib.hid (fun (W : World) (hW : Stb w0 W r bx m l lv q o dv xs) => stb_expr' hEE x W hW)
 rw [hEE] at hf1 ⊢
 obtain ⟨V1,Q1⟩:=EE
 simp only [] at C1 hf1 ⊢
 clear hEE
 have C2:=Lib.hid (fun (W : World) (hW : Stb w0 W r bx m l lv Q1 o dv xs) => hb o W Q1 dv xs ho hW hf1)
 have hbr:=h.bx.ne h.sta.prs
 have HW0 : Hid (Stb w0 (w.alloc (.cells #[.int .i64 0,.string ⟨#[]⟩,.string ⟨#[]⟩,.slice none 0 0,.slice none 0 0,.bool false,.int .i64 0,.int .i64 0,.int .i64 0] 42)) r bx m l lv q o dv xs):=h.alloc _
 have hB0 : BlkS (w.alloc (.cells #[.int .i64 0,.string ⟨#[]⟩,.string ⟨#[]⟩,.slice none 0 0,.slice none 0 0,.bool false,.int .i64 0,.int .i64 0,.int .i64 0] 42)) w.heap.size (st0 0 0) (.slice none 0 0) (.slice none 0 0):=heap_alloc_new w _
 have hk0 : Keep r w (w.alloc (.cells #[.int .i64 0,.string ⟨#[]⟩,.string ⟨#[]⟩,.slice none 0 0,.slice none 0 0,.bool false,.int .i64 0,.int .i64 0,.int .i64 0] 42)):=(Keep.refl r w).alloc _
 have hrs : w.heap.size ≠ r:=by have:=h.sta.prs.lt; omega
 have hdv : dv.ownBlock ≠ some w.heap.size:=fun e => by have:=(h.own.blk _ e).2.1; omega
 have HLE:=Lib.hid (h.sta.bel.size)
 have HH:=Lib.hid h
 clear x h hb hf1 ho
 go_enter Tryz.func225,Tryz.ntmps225
 go_wp2_with fail
 generalize (w.alloc (.cells #[.int .i64 0,.string ⟨#[]⟩,.string ⟨#[]⟩,.slice none 0 0,.slice none 0 0,.bool false,.int .i64 0,.int .i64 0,.int .i64 0] 42)) = w1 at HW0 hB0 hk0 ⊢
 have hzs : w.heap.size < w1.heap.size:=hB0.lt
 have c0:=HW0.out.bx.cell
 have hb1:=HW0.out.bx.lt
 have hbs : bx ≠ w.heap.size:=by
  rintro rfl
  have h1:=HW0.out.bx
  unfold Bx at h1; unfold BlkS at hB0
  rw [h1] at hB0; cases hB0
 have HB0:=Lib.hid hB0
 have HK0:=Lib.hid hk0
 have HBS:=Lib.hid hbs
 have HRS:=Lib.hid hrs
 have HDV:=Lib.hid hdv
 have HO0 : Hid (Out w0 w1 w1 r bx m l lv q o dv dv xs):=Out.of HW0.out HW0.out.sta (Keep.refl _ _) (Nat.le_refl _)
 clear hB0 hk0 hbs hrs hdv hzs
 go_region_held3 (fun w' => w'.cell? ⟨bx,0,none⟩ = some (.pointer (some ⟨r,0,none⟩)))
  (repeat (with_reducible first | exact c0 | assumption | refine cell_drew ?_ | refine cell_alloc ?_ _ | refine cell_set ?_ HBS.out _))
  ((first
   | ((with_reducible refine Calls.mono (C2.out _ ?_) ?_); (repeat (with_reducible first | exact HO1.out.st | refine Stb.drew ?_ | refine Stb.alloc ?_ _)); rintro e W2 ⟨q2,dv2,xs2,rfl,h2,r2⟩; have HO2 : Hid (Out w0 w1 W2 r bx m l lv q2 o dv dv2 xs2):=HO1.out.trans (Out.keep h2 (by repeat (with_reducible first | exact (Keep.refl _ _) | refine Keep.drew ?_ | refine Keep.alloc ?_ _))); have HR2:=Lib.hid r2; have HY2 : Hid (W2.ownsRow w.heap.size 46 5 (.slice ad1 V1.length cp1) V1.length (rowN V1)):=row_keepD HY1.out HO1.out.st (Out.keep h2 (by repeat (with_reducible first | exact (Keep.refl _ _) | refine Keep.drew ?_ | refine Keep.alloc ?_ _))).kd; clear h2 r2; have hc2:=HO2.out.st.bx.cell; obtain ⟨⟨b0,b1,b2,b3,b4,b5,b6,b7,b8⟩,bf⟩:=(HB0.out.keepD HO2.out.kd HRS.out (Ne.symm HDV.out)).facts; simp only [st0] at b0 b1 b2 b3 b4 b5 b6 b7 b8; have f0:=bf 0; have f1:=bf 1; have f2:=bf 2; have f3:=bf 3; have f4:=bf 4; have f5:=bf 5; have f6:=bf 6; have f7:=bf 7; have f8:=bf 8; clear bf)
   | ((with_reducible refine Calls.mono (C1.out _ ?_) ?_); (repeat (with_reducible first | exact HO0.out.st | refine Stb.drew ?_ | refine Stb.alloc ?_ _)); rintro e W1 ⟨U1,rfl,hy1,hs1,hk1⟩; obtain ⟨ad1,cp1,rfl,hz1⟩:=own_shape hy1; clear hz1; have hkk1 : Keep r w1 W1:=Keep.trans (by repeat (with_reducible first | exact (Keep.refl _ _) | refine Keep.drew ?_ | refine Keep.alloc ?_ _)) hk1; have HY1 : Hid (W1.ownsRow w.heap.size 46 5 (.slice ad1 V1.length cp1) V1.length (rowN V1)):=own_mono hy1 (by have:=HK0.out.size; simp; omega); have HO1 : Hid (Out w0 w1 W1 r bx m l lv Q1 o dv dv xs):=⟨hs1,hkk1.toD,Plw.refl _ _⟩; clear hy1 hs1 hk1 hkk1; have hc1:=HO1.out.st.bx.cell)))
 all_goals
  have hend:=clo_endB HB0.out HK0.out HO2.out HDV.out HRS.out HLE.out (St.mk 11 (⟨#[]⟩ : ByteArray) (⟨#[]⟩ : ByteArray) V1 [] false ((xs2.length : Int) - (xs.length : Int)) 0 0) (.slice ad1 V1.length cp1) (.slice none 0 0) HY2.out (World.ownsRow_nil _ _ _ _)
  go_wp2
  exact bodyPost_ret (v:=.agg (St.cells (St.mk 11 (⟨#[]⟩ : ByteArray) (⟨#[]⟩ : ByteArray) V1 [] false ((xs2.length : Int) - (xs.length : Int)) 0 0) (.slice ad1 V1.length cp1) (.slice none 0 0))) (results_st Tryz.results225 _ _ _ _ _ _ rfl hend.1) rfl ⟨q2,xs2,HR2.out,dv2,hend.2⟩
theorem clo45 {w0 : World} {l : List Tok} {lv : Value} {r bx m f : Nat} {q : Pq} {o : Nat} {dv : Value} {xs : List St} (x : Ty w0 l lv) (hb : BlkC w0 l lv r bx m f) (ha : AltC w0 l lv r bx m f) (w : World) (h : Stb w0 w r bx m l lv q o dv xs) (ho : o ≤ 30) (hf1 : (exP l q).2.k = 0 → l.length - (exP l q).2.n ≤ f) (hf2 : ∀ q1 xs1,BlkRel l f o (exP l q).2 xs q1 xs1 → q1.k = 0 → l.length - q1.n ≤ f) :
  Calls Tryz.prog 222 #[.pointer (some ⟨bx,0,none⟩)] w fun e w' => ∃ q1 xs1,BlkRel l f o (exP l q).2 xs q1 xs1 ∧ ∃ q2 xs2,AltRel l f o q1 xs1 q2 xs2 ∧ ∃ dv2,ToR w0 r bx m l lv q2 o dv dv2 xs2 w (St.mk 10 (⟨#[]⟩ : ByteArray) (⟨#[]⟩ : ByteArray) (exP l q).1 [] false ((xs1.length : Int) - (xs.length : Int)) ((xs2.length : Int) - (xs1.length : Int)) 0) e w':=by
 obtain ⟨EE,hEE⟩ : ∃ EE,exP l q = EE:=⟨_,rfl⟩
 have C1:=Lib.hid (fun (W : World) (hW : Stb w0 W r bx m l lv q o dv xs) => stb_expr' hEE x W hW)
 rw [hEE] at hf1 ⊢
 rw [hEE] at hf2
 obtain ⟨V1,Q1⟩:=EE
 simp only [] at C1 hf1 ⊢
 simp only [] at hf2
 clear hEE
 have C2:=Lib.hid (fun (W : World) (hW : Stb w0 W r bx m l lv Q1 o dv xs) => hb o W Q1 dv xs ho hW hf1)
 have C3:=Lib.hid (fun (W : World) (q1 : Pq) (dv1 : Value) (xs1 : List St) (hW : Stb w0 W r bx m l lv q1 o dv1 xs1) (hr1 : BlkRel l f o Q1 xs q1 xs1) => ha o W q1 dv1 xs1 ho hW (hf2 q1 xs1 hr1))
 have hbr:=h.bx.ne h.sta.prs
 have HW0 : Hid (Stb w0 (w.alloc (.cells #[.int .i64 0,.string ⟨#[]⟩,.string ⟨#[]⟩,.slice none 0 0,.slice none 0 0,.bool false,.int .i64 0,.int .i64 0,.int .i64 0] 42)) r bx m l lv q o dv xs):=h.alloc _
 have hB0 : BlkS (w.alloc (.cells #[.int .i64 0,.string ⟨#[]⟩,.string ⟨#[]⟩,.slice none 0 0,.slice none 0 0,.bool false,.int .i64 0,.int .i64 0,.int .i64 0] 42)) w.heap.size (st0 0 0) (.slice none 0 0) (.slice none 0 0):=heap_alloc_new w _
 have hk0 : Keep r w (w.alloc (.cells #[.int .i64 0,.string ⟨#[]⟩,.string ⟨#[]⟩,.slice none 0 0,.slice none 0 0,.bool false,.int .i64 0,.int .i64 0,.int .i64 0] 42)):=(Keep.refl r w).alloc _
 have hrs : w.heap.size ≠ r:=by have:=h.sta.prs.lt; omega
 have hdv : dv.ownBlock ≠ some w.heap.size:=fun e => by have:=(h.own.blk _ e).2.1; omega
 have HLE:=Lib.hid (h.sta.bel.size)
 have HH:=Lib.hid h
 clear x h hb hf1 ha hf2 ho
 go_enter Tryz.func222,Tryz.ntmps222
 go_wp2_with fail
 generalize (w.alloc (.cells #[.int .i64 0,.string ⟨#[]⟩,.string ⟨#[]⟩,.slice none 0 0,.slice none 0 0,.bool false,.int .i64 0,.int .i64 0,.int .i64 0] 42)) = w1 at HW0 hB0 hk0 ⊢
 have hzs : w.heap.size < w1.heap.size:=hB0.lt
 have c0:=HW0.out.bx.cell
 have hb1:=HW0.out.bx.lt
 have hbs : bx ≠ w.heap.size:=by
  rintro rfl
  have h1:=HW0.out.bx
  unfold Bx at h1; unfold BlkS at hB0
  rw [h1] at hB0; cases hB0
 have HB0:=Lib.hid hB0
 have HK0:=Lib.hid hk0
 have HBS:=Lib.hid hbs
 have HRS:=Lib.hid hrs
 have HDV:=Lib.hid hdv
 have HO0 : Hid (Out w0 w1 w1 r bx m l lv q o dv dv xs):=Out.of HW0.out HW0.out.sta (Keep.refl _ _) (Nat.le_refl _)
 clear hB0 hk0 hbs hrs hdv hzs
 go_region_held3 (fun w' => w'.cell? ⟨bx,0,none⟩ = some (.pointer (some ⟨r,0,none⟩)))
  (repeat (with_reducible first | exact c0 | assumption | refine cell_drew ?_ | refine cell_alloc ?_ _ | refine cell_set ?_ HBS.out _))
  ((first
   | ((with_reducible refine Calls.mono (C3.out _ q2 dv2 xs2 ?_ HR2.out) ?_); (repeat (with_reducible first | exact HO2.out.st | refine Stb.drew ?_ | refine Stb.alloc ?_ _)); rintro e W3 ⟨q3,dv3,xs3,rfl,h3,r3⟩; have HO3 : Hid (Out w0 w1 W3 r bx m l lv q3 o dv dv3 xs3):=HO2.out.trans (Out.keep h3 (by repeat (with_reducible first | exact (Keep.refl _ _) | refine Keep.drew ?_ | refine Keep.alloc ?_ _))); have HR3:=Lib.hid r3; have HY3 : Hid (W3.ownsRow w.heap.size 46 5 (.slice ad1 V1.length cp1) V1.length (rowN V1)):=row_keepD HY2.out HO2.out.st (Out.keep h3 (by repeat (with_reducible first | exact (Keep.refl _ _) | refine Keep.drew ?_ | refine Keep.alloc ?_ _))).kd; clear h3 r3; have hc3:=HO3.out.st.bx.cell; obtain ⟨⟨b0,b1,b2,b3,b4,b5,b6,b7,b8⟩,bf⟩:=(HB0.out.keepD HO3.out.kd HRS.out (Ne.symm HDV.out)).facts; simp only [st0] at b0 b1 b2 b3 b4 b5 b6 b7 b8; have f0:=bf 0; have f1:=bf 1; have f2:=bf 2; have f3:=bf 3; have f4:=bf 4; have f5:=bf 5; have f6:=bf 6; have f7:=bf 7; have f8:=bf 8; clear bf)
   | ((with_reducible refine Calls.mono (C2.out _ ?_) ?_); (repeat (with_reducible first | exact HO1.out.st | refine Stb.drew ?_ | refine Stb.alloc ?_ _)); rintro e W2 ⟨q2,dv2,xs2,rfl,h2,r2⟩; have HO2 : Hid (Out w0 w1 W2 r bx m l lv q2 o dv dv2 xs2):=HO1.out.trans (Out.keep h2 (by repeat (with_reducible first | exact (Keep.refl _ _) | refine Keep.drew ?_ | refine Keep.alloc ?_ _))); have HR2:=Lib.hid r2; have HY2 : Hid (W2.ownsRow w.heap.size 46 5 (.slice ad1 V1.length cp1) V1.length (rowN V1)):=row_keepD HY1.out HO1.out.st (Out.keep h2 (by repeat (with_reducible first | exact (Keep.refl _ _) | refine Keep.drew ?_ | refine Keep.alloc ?_ _))).kd; clear h2 r2; have hc2:=HO2.out.st.bx.cell)
   | ((with_reducible refine Calls.mono (C1.out _ ?_) ?_); (repeat (with_reducible first | exact HO0.out.st | refine Stb.drew ?_ | refine Stb.alloc ?_ _)); rintro e W1 ⟨U1,rfl,hy1,hs1,hk1⟩; obtain ⟨ad1,cp1,rfl,hz1⟩:=own_shape hy1; clear hz1; have hkk1 : Keep r w1 W1:=Keep.trans (by repeat (with_reducible first | exact (Keep.refl _ _) | refine Keep.drew ?_ | refine Keep.alloc ?_ _)) hk1; have HY1 : Hid (W1.ownsRow w.heap.size 46 5 (.slice ad1 V1.length cp1) V1.length (rowN V1)):=own_mono hy1 (by have:=HK0.out.size; simp; omega); have HO1 : Hid (Out w0 w1 W1 r bx m l lv Q1 o dv dv xs):=⟨hs1,hkk1.toD,Plw.refl _ _⟩; clear hy1 hs1 hk1 hkk1; have hc1:=HO1.out.st.bx.cell)))
 all_goals
  have hend:=clo_endB HB0.out HK0.out HO3.out HDV.out HRS.out HLE.out (St.mk 10 (⟨#[]⟩ : ByteArray) (⟨#[]⟩ : ByteArray) V1 [] false ((xs2.length : Int) - (xs.length : Int)) ((xs3.length : Int) - (xs2.length : Int)) 0) (.slice ad1 V1.length cp1) (.slice none 0 0) HY3.out (World.ownsRow_nil _ _ _ _)
  go_wp2
  exact bodyPost_ret (v:=.agg (St.cells (St.mk 10 (⟨#[]⟩ : ByteArray) (⟨#[]⟩ : ByteArray) V1 [] false ((xs2.length : Int) - (xs.length : Int)) ((xs3.length : Int) - (xs2.length : Int)) 0) (.slice ad1 V1.length cp1) (.slice none 0 0))) (results_st Tryz.results222 _ _ _ _ _ _ rfl hend.1) rfl ⟨q2,xs2,HR2.out,q3,xs3,HR3.out,dv3,hend.2⟩
theorem clo32 {w0 : World} {l : List Tok} {lv : Value} {r bx m : Nat} {q : Pq} {o : Nat} {dv : Value} {xs : List St} (w : World) (h : Stb w0 w r bx m l lv q o dv xs) : Calls Tryz.prog 209 #[] w (ToR w0 r bx m l lv q o dv dv xs w (st0 1 0)):=by
 have HH:=Lib.hid h
 clear h
 go_enter Tryz.func209,Tryz.ntmps209
 go_wp2
 exact bodyPost_ret (v:=.agg (St.cells (st0 1 0) (.slice none 0 0) (.slice none 0 0))) (results_st Tryz.results209 _ _ w.heap.size (st0 1 0) _ _ rfl (heap_alloc_new w _)) rfl ⟨_,_,rfl,World.ownsRow_nil _ _ _ _,World.ownsRow_nil _ _ _ _,Out.of HH.out (HH.out.sta.alloc _) ((Keep.refl _ _).alloc _) (Nat.le_refl _)⟩
theorem clo33 {w0 : World} {l : List Tok} {lv : Value} {r bx m : Nat} {q : Pq} {o : Nat} {dv : Value} {xs : List St} (w : World) (h : Stb w0 w r bx m l lv q o dv xs) : Calls Tryz.prog 210 #[] w (ToR w0 r bx m l lv q o dv dv xs w (st0 8 0)):=by
 have HH:=Lib.hid h
 clear h
 go_enter Tryz.func210,Tryz.ntmps210
 go_wp2
 exact bodyPost_ret (v:=.agg (St.cells (st0 8 0) (.slice none 0 0) (.slice none 0 0))) (results_st Tryz.results210 _ _ w.heap.size (st0 8 0) _ _ rfl (heap_alloc_new w _)) rfl ⟨_,_,rfl,World.ownsRow_nil _ _ _ _,World.ownsRow_nil _ _ _ _,Out.of HH.out (HH.out.sta.alloc _) ((Keep.refl _ _).alloc _) (Nat.le_refl _)⟩
theorem clo34 {w0 : World} {l : List Tok} {lv : Value} {r bx m : Nat} {q : Pq} {o : Nat} {dv : Value} {xs : List St} (w : World) (h : Stb w0 w r bx m l lv q o dv xs) : Calls Tryz.prog 211 #[] w (ToR w0 r bx m l lv q o dv dv xs w (st0 13 0)):=by
 have HH:=Lib.hid h
 clear h
 go_enter Tryz.func211,Tryz.ntmps211
 go_wp2
 exact bodyPost_ret (v:=.agg (St.cells (st0 13 0) (.slice none 0 0) (.slice none 0 0))) (results_st Tryz.results211 _ _ w.heap.size (st0 13 0) _ _ rfl (heap_alloc_new w _)) rfl ⟨_,_,rfl,World.ownsRow_nil _ _ _ _,World.ownsRow_nil _ _ _ _,Out.of HH.out (HH.out.sta.alloc _) ((Keep.refl _ _).alloc _) (Nat.le_refl _)⟩
theorem set_left9 (a : List Value) (i : Nat) (u : Value) : ∀ (p : List Value),(p ++ a).set (p.length + i) u = p ++ a.set i u
 | [] => by simp
 | x :: p => by
  rw [List.length_cons,show p.length + 1 + i = (p.length + i) + 1 by omega,List.cons_append,List.set_cons_succ,set_left9 a i u p]
  rfl
def set9L (a : List Value) (o : Nat) (u0 u1 u2 u3 u4 u5 u6 u7 u8 : Value) : List Value:=
 ((((((((a.set o u0).set (o + 1) u1).set (o + 2) u2).set (o + 3) u3).set (o + 4) u4).set (o + 5) u5).set (o + 6) u6).set (o + 7) u7).set (o + 8) u8
theorem set9L_left (p a : List Value) (o : Nat) (u0 u1 u2 u3 u4 u5 u6 u7 u8 : Value) : set9L (p ++ a) (p.length + o) u0 u1 u2 u3 u4 u5 u6 u7 u8 = p ++ set9L a o u0 u1 u2 u3 u4 u5 u6 u7 u8:=by
 unfold set9L
 simp only [Nat.add_assoc,set_left9]
theorem rowS_set (x : St) (ve vf : Value) : ∀ (ts : List SI) (i : Nat),i < ts.length → set9L (rowS ts) (i * 9) (.int .i64 x.kind) (.string x.reg) (.string x.loc) ve vf (.bool x.ne) (.int .i64 x.body) (.int .i64 x.els) (.int .i64 x.pl) = rowS (ts.set i (x,ve,vf)):=by
 intro ts
 induction ts with
 | nil => intro i h; cases h
 | cons t ts ih =>
  intro i h
  have hc : rowS (t :: ts) = cellsI t ++ rowS ts:=rfl
  cases i with
  | zero =>
   rw [hc]
   rfl
  | succ i =>
   have hl : (cellsI t).length = 9:=rfl
   rw [hc,show (i + 1) * 9 = (cellsI t).length + i * 9 by rw [hl]; omega,set9L_left,ih i (by simpa using h)]
   rfl
abbrev set9o (w : World) (b o : Nat) (u0 u1 u2 u3 u4 u5 u6 u7 u8 : Value) : World:=((((((((w.setCell ⟨b,o,none⟩ u0).setCell ⟨b,o + 1,none⟩ u1).setCell ⟨b,o + 2,none⟩ u2).setCell ⟨b,o + 3,none⟩ u3).setCell ⟨b,o + 4,none⟩ u4).setCell ⟨b,o + 5,none⟩ u5).setCell ⟨b,o + 6,none⟩ u6).setCell ⟨b,o + 7,none⟩ u7).setCell ⟨b,o + 8,none⟩ u8
theorem heap_set1 {w : World} {g : Nat} {cur : Array Value} {t : TypeId} (h : w.heap[g]? = some (.cells cur t (0,0))) (o : Nat) (u : Value) : (w.setCell ⟨g,o,none⟩ u).heap[g]? = some (.cells (cur.setIfInBounds o u) t (0,0)):=by
 have hlt:=(Array.getElem?_eq_some_iff.1 h).1
 simp [World.setCell,Array.getElem?_modify,h]
theorem keep_set9o (w : World) (b o : Nat) (u0 u1 u2 u3 u4 u5 u6 u7 u8 : Value) : Keep b w (set9o w b o u0 u1 u2 u3 u4 u5 u6 u7 u8):=
 ((((((((Keep.refl b w).setCell o _).setCell (o + 1) _).setCell (o + 2) _).setCell (o + 3) _).setCell (o + 4) _).setCell (o + 5) _).setCell (o + 6) _).setCell (o + 7) _ |>.setCell (o + 8) _
theorem heap_set9 {w : World} {g : Nat} {cur : Array Value} {t : TypeId} (h : w.heap[g]? = some (.cells cur t (0,0))) (o : Nat) (u0 u1 u2 u3 u4 u5 u6 u7 u8 : Value) :
  ∃ cur',(set9o w g o u0 u1 u2 u3 u4 u5 u6 u7 u8).heap[g]? = some (.cells cur' t (0,0)) ∧ cur'.toList = set9L cur.toList o u0 u1 u2 u3 u4 u5 u6 u7 u8 ∧ cur'.size = cur.size:=by
 refine ⟨_,heap_set1 (heap_set1 (heap_set1 (heap_set1 (heap_set1 (heap_set1 (heap_set1 (heap_set1 (heap_set1 h _ _) _ _) _ _) _ _) _ _) _ _) _ _) _ _) _ _,?_,by simp⟩
 simp [set9L]
theorem take_set9 (a : List Value) (n o : Nat) (u0 u1 u2 u3 u4 u5 u6 u7 u8 : Value) : (set9L a o u0 u1 u2 u3 u4 u5 u6 u7 u8).take n = set9L (a.take n) o u0 u1 u2 u3 u4 u5 u6 u7 u8:=by
 unfold set9L
 simp only [List.take_set]
theorem keep_bel' {w0 w w' : World} {g : Nat} (hb : Below w0.heap.size w0 w) (hr : w0.heap.size ≤ g) (hk : Keep g w w') : Below w0.heap.size w0 w':=keep_bel hb hr hk
theorem Stb.store {w0 w : World} {r bx m : Nat} {l : List Tok} {lv : Value} {q : Pq} {o g n cap : Nat} {xs : List St} (h : Stb w0 w r bx m l lv q o (.slice (some ⟨g,0,none⟩) n cap) xs) (i : Nat) (hi : i < xs.length) (x : St) (ve vf : Value)
  (h1 : w.ownsRow 0 46 5 ve x.e.length (rowN x.e)) (h2 : w.ownsRow 0 46 5 vf x.f.length (rowN x.f)) :
  Stb w0 (set9o w g (i * 9) (.int .i64 x.kind) (.string x.reg) (.string x.loc) ve vf (.bool x.ne) (.int .i64 x.body) (.int .i64 x.els) (.int .i64 x.pl)) r bx m l lv q o (.slice (some ⟨g,0,none⟩) n cap) (xs.set i x):=by
 have hk:=keep_set9o w g (i * 9) (.int .i64 x.kind) (.string x.reg) (.string x.loc) ve vf (.bool x.ne) (.int .i64 x.body) (.int .i64 x.els) (.int .i64 x.pl)
 obtain ⟨hg0,hglt,cu,hcu⟩:=h.own.blk g rfl
 have hgr : r ≠ g:=by
  rintro rfl
  have hp:=h.sta.prs
  unfold Prs at hp
  rw [hp] at hcu; cases hcu
 have hrow : ∀ B n v ys,w.ownsRow B 46 5 v n ys → (set9o w g (i * 9) (.int .i64 x.kind) (.string x.reg) (.string x.loc) ve vf (.bool x.ne) (.int .i64 x.body) (.int .i64 x.els) (.int .i64 x.pl)).ownsRow B 46 5 v n ys:=by
  intro B n v ys hh
  obtain ⟨k1,k2⟩:=hh
  refine ⟨k1,?_⟩
  rcases k2 with k2 | ⟨g',cap',cur',hv,hg',hh',z⟩
  ·exact .inl k2
  ·refine .inr ⟨g',cap',cur',hv,hg',?_,z⟩
   rw [hk.block g' (Array.getElem?_eq_some_iff.1 hh').1 ?_]; exact hh'
   rintro rfl
   rw [hcu] at hh'; cases hh'
 refine ⟨⟨h.sta.prs.keep hk hgr,keep_bel' h.sta.bel hg0 hk,h.sta.hr,h.sta.ok⟩,?_,by rw [List.length_set]; exact h.len,?_,?_⟩
 ·obtain ⟨ts,e1,e2,e3⟩:=h.own
  have hil : i < ts.length:=by rw [← e1,List.length_map] at hi; exact hi
  refine ⟨ts.set i (x,ve,vf),by rw [List.map_set,e1],?_,fun t ht => ?_⟩
  ·obtain ⟨g1,g2⟩:=e2
   refine ⟨by rw [rowS_length],?_⟩
   rcases g2 with ⟨hv,_⟩ | ⟨g',cap',cur,hv,hB,hh,hn1,hn2,hn3,hn4⟩
   ·cases hv
   ·cases hv
    obtain ⟨cur',c1,c2,c3⟩:=heap_set9 hh (i * 9) (.int .i64 x.kind) (.string x.reg) (.string x.loc) ve vf (.bool x.ne) (.int .i64 x.body) (.int .i64 x.els) (.int .i64 x.pl)
    refine .inr ⟨g,cap,cur',by rw [List.length_set],hB,c1,by rw [List.length_set]; exact hn1,hn2,c3.trans hn3,?_⟩
    rw [c2,take_set9,List.length_set,hn4,rowS_set x ve vf ts i hil]
  ·rcases List.mem_or_eq_of_mem_set ht with ht | rfl
   ·exact ⟨hrow _ _ _ _ (e3 t ht).1,hrow _ _ _ _ (e3 t ht).2⟩
   ·exact ⟨hrow _ _ _ _ h1,hrow _ _ _ _ h2⟩
 ·refine h.mp.keep hk ?_
  rintro rfl
  have h3:=h.mp
  unfold Mp at h3
  rw [h3] at hcu; cases hcu
 ·refine h.bx.keep hk ?_
  rintro rfl
  have h3:=h.bx
  unfold Bx at h3
  rw [h3] at hcu; cases hcu
theorem SOwn.cells {w : World} {B g n cap : Nat} {xs : List St} (h : SOwn w B (.slice (some ⟨g,0,none⟩) n cap) xs) (i : Nat) (hi : i < xs.length) : (∀ k,k < 9 → (w.cell? ⟨g,i * 9 + k,none⟩).isSome = true) ∧ ∀ k,w.frozen? ⟨g,k,none⟩ = false:=by
 obtain ⟨ts,e1,⟨g1,g2⟩,_⟩:=h
 have hil : i < ts.length:=by rw [← e1,List.length_map] at hi; exact hi
 rcases g2 with ⟨hv,_⟩ | ⟨g',cap',cur,hv,hB,hh,hn1,hn2,hn3,hn4⟩
 ·cases hv
 ·cases hv
  refine ⟨fun k hk => ?_,fun k => by simp [World.frozen?,hh]⟩
  have hlt : i * 9 + k < cur.size:=by rw [hn3]; omega
  simp [World.cell?,hh,hlt]
theorem Stb.push {z0 : St} {w0 W w4 : World} {r bx m : Nat} {l : List Tok} {lv : Value} {q : Pq} {o : Nat} {dv v' : Value} {xs : List St} {ts : List SI} (h : Stb w0 W r bx m l lv q o dv xs) (e1 : ts.map (·.1) = xs) (e3 : SIn W ts)
  (ho : w4.ownsRow w0.heap.size 42 9 v' (xs.length + 1) (rowS ts ++ rowS [(z0,.slice none 0 0,.slice none 0 0)])) (hz : z0.e = [] ∧ z0.f = []) (hg : W.grownBy w4 dv.ownBlock) (hp : v'.ownBlock = dv.ownBlock ∨ v'.ownBlock = some W.heap.size) (hn : xs.length + 1 ≤ q.n) :
  Prs w4 r lv q.n o dv (.map (some m)) q.k q.a ∧ Stb w0 (w4.setCell ⟨r,3,none⟩ v') r bx m l lv q o v' (xs ++ [z0]) ∧ KeepD r dv.ownBlock W (w4.setCell ⟨r,3,none⟩ v') ∧ Plw W dv.ownBlock v'.ownBlock:=by
 have hdr : some r ≠ dv.ownBlock:=fun e => by
  obtain ⟨_,_,cu,hc⟩:=h.own.blk r e.symm
  have hp:=h.sta.prs
  unfold Prs at hp
  rw [hp] at hc; cases hc
 have hP : Prs w4 r lv q.n o dv (.map (some m)) q.k q.a:=by
  unfold Prs; rw [hg.block r h.sta.prs.lt hdr]; exact h.sta.prs
 have hk3 : Keep r w4 (w4.setCell ⟨r,3,none⟩ v'):=(Keep.refl r w4).setCell 3 _
 have kd : KeepD r dv.ownBlock W (w4.setCell ⟨r,3,none⟩ v'):=
  ⟨hk3.os.trans hg.os,hk3.tape.trans hg.tape,hk3.output.trans hg.output,Nat.le_trans hg.size hk3.size,fun k k1 k2 k3 => (hk3.block k (Nat.lt_of_lt_of_le k1 hg.size) k2).trans (hg.block k k1 k3)⟩
 have pl : Plw W dv.ownBlock v'.ownBlock:=by
  rcases hp with hp | hp
  ·exact .inl hp
  ·exact .inr fun g e => by rw [hp] at e; cases e; exact Nat.le_refl _
 have hnode : ∀ v n ys,W.ownsRow 0 46 5 v n ys → (w4.setCell ⟨r,3,none⟩ v').ownsRow 0 46 5 v n ys:=fun v n ys hh => row_keepD hh h kd
 refine ⟨hP,⟨⟨hP.set.2.2.1 v',kd.bel h.sta.bel h.sta.hr (fun g e => (h.own.blk g e).1) h.sta.bel.size,h.sta.hr,h.sta.ok⟩,?_,by rw [List.length_append]; exact hn,?_,?_⟩,kd,pl⟩
 ·refine ⟨ts ++ [(z0,.slice none 0 0,.slice none 0 0)],by rw [List.map_append,e1]; rfl,?_,?_⟩
  ·rw [rowS_append,List.length_append]
   have hl : ts.length = xs.length:=by rw [← e1,List.length_map]
   rw [hl]
   have hrow:=ho
   obtain ⟨g1,g2⟩:=hrow
   refine ⟨g1,?_⟩
   rcases g2 with g2 | ⟨g,cap,cur,hv,hg',hh,z⟩
   ·exact .inl g2
   ·refine .inr ⟨g,cap,cur,hv,hg',?_,z⟩
    rw [hk3.block g (Array.getElem?_eq_some_iff.1 hh).1 ?_]; exact hh
    rintro rfl
    unfold Prs at hP
    rw [hP] at hh; cases hh
  ·intro t ht
   rcases List.mem_append.1 ht with ht | ht
   ·exact ⟨hnode _ _ _ (e3 t ht).1,hnode _ _ _ (e3 t ht).2⟩
   ·obtain rfl:=List.mem_singleton.1 ht
    simp only []
    rw [hz.1,hz.2]
    exact ⟨World.ownsRow_nil _ _ _ _,World.ownsRow_nil _ _ _ _⟩
 ·have hm:=h.mp
  have hmr:=hm.ne h.sta.prs
  unfold Mp at hm ⊢
  rw [kd.block m (Mp.lt h.mp) hmr (fun e => by
   obtain ⟨_,_,cu,hc⟩:=h.own.blk m e.symm
   rw [hm] at hc; cases hc)]
  exact hm
 ·have hb:=h.bx
  have hbr:=hb.ne h.sta.prs
  unfold Bx at hb ⊢
  rw [kd.block bx (Bx.lt h.bx) hbr (fun e => by
   obtain ⟨_,_,cu,hc⟩:=h.own.blk bx e.symm
   rw [hb] at hc; cases hc)]
  exact hb
theorem Blk4.keepD {w0 w w' : World} {r bx m : Nat} {l : List Tok} {lv : Value} {q : Pq} {o : Nat} {dv : Value} {xs : List St} {b : Nat} {x0 x1 x2 x3 : Value} (h : Blk4 w b x0 x1 x2 x3) (hs : Stb w0 w r bx m l lv q o dv xs) (kd : KeepD r dv.ownBlock w w') : Blk4 w' b x0 x1 x2 x3:=by
 unfold Blk4 at *
 rw [kd.block b (Array.getElem?_eq_some_iff.1 h).1 ?_ ?_]; exact h
 ·rintro rfl
  have hp:=hs.sta.prs
  unfold Prs at hp
  rw [hp] at h; cases h
 ·intro e
  obtain ⟨_,_,cu,hc⟩:=hs.own.blk b e.symm
  rw [hc] at h; cases h
theorem Out.store {w0 w w1 : World} {r bx m : Nat} {l : List Tok} {lv : Value} {q : Pq} {o g n cap : Nat} {dv : Value} {xs : List St} (h : Out w0 w w1 r bx m l lv q o dv (.slice (some ⟨g,0,none⟩) n cap) xs) (i : Nat) (hi : i < xs.length) (x : St) (ve vf : Value)
  (h1 : w1.ownsRow 0 46 5 ve x.e.length (rowN x.e)) (h2 : w1.ownsRow 0 46 5 vf x.f.length (rowN x.f)) :
  Out w0 w (set9o w1 g (i * 9) (.int .i64 x.kind) (.string x.reg) (.string x.loc) ve vf (.bool x.ne) (.int .i64 x.body) (.int .i64 x.els) (.int .i64 x.pl)) r bx m l lv q o dv (.slice (some ⟨g,0,none⟩) n cap) (xs.set i x):=by
 have hk:=keep_set9o w1 g (i * 9) (.int .i64 x.kind) (.string x.reg) (.string x.loc) ve vf (.bool x.ne) (.int .i64 x.body) (.int .i64 x.els) (.int .i64 x.pl)
 have kd : KeepD r (Value.slice (some ⟨g,0,none⟩) n cap).ownBlock w1 (set9o w1 g (i * 9) (.int .i64 x.kind) (.string x.reg) (.string x.loc) ve vf (.bool x.ne) (.int .i64 x.body) (.int .i64 x.els) (.int .i64 x.pl)):=
  ⟨hk.os,hk.tape,hk.output,hk.size,fun k k1 _ k3 => hk.block k k1 (fun e => k3 (by rw [e]; rfl))⟩
 exact ⟨h.st.store i hi x ve vf h1 h2,h.kd.trans h.pl kd,h.pl⟩
end Go.Proofs.YtcghccjnadagcaaGreatDoor
