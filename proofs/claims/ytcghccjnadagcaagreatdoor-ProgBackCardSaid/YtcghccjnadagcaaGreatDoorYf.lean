/- Facts. -/
import Derived.Test.YtcghccjnadagcaaGreatDoorYd
set_option maxRecDepth 100000
set_option maxHeartbeats 32000000
namespace Go.Proofs.YtcghccjnadagcaaGreatDoor
open Go.RowKit
theorem clo35 {w0 : World} {l : List Tok} {lv : Value} {r b : Nat} {q : Pq} {o : Nat} {dv mv : Value} (x : Ty w0 l lv) (w : World) (h : Sta w0 w r l lv q o dv mv) (hb : Bx w b r) :
  Calls Tryz.prog 212 #[.pointer (some ⟨b,0,none⟩)] w (ToS w0 r l lv (exP l (sgP l (nmP l q).2 [61])).2 o dv mv w (St.mk 2 (nmP l q).1 (⟨#[]⟩ : ByteArray) (exP l (sgP l (nmP l q).2 [61])).1 [] false 0 0 0)):=by
 have HX:=Lib.hid x
 have C1:=Lib.hid (fun (W : World) (hW : Sta w0 W r l lv q o dv mv) => with_kpQ hW (sname_of HX.out.x W (.slice none 0 0) (ssigns0_any W hW)))
 have C2:=Lib.hid (fun (W : World) (hW : Sta w0 W r l lv (nmP l q).2 o dv mv) (g : Nat) (hg : StrR W g ⟨#[61]⟩) => with_kpE hW (sexpr_of HX.out W (.slice (some ⟨g,0,none⟩) 1 1) (ssigns1_any HX.out.x W hW g ⟨#[61]⟩ hg)))
 obtain ⟨R1,hR1⟩ : ∃ z,z = nmP l q:=⟨_,rfl⟩
 rw [show nmP l q = R1 from hR1.symm]
 try rw [show nmP l q = R1 from hR1.symm] at C1
 try rw [show nmP l q = R1 from hR1.symm] at C2
 clear hR1
 obtain ⟨V1,Q1⟩:=R1
 simp only [] at C1 C2 ⊢
 obtain ⟨R2,hR2⟩ : ∃ z,z = exP l (sgP l Q1 [61]):=⟨_,rfl⟩
 rw [show exP l (sgP l Q1 [61]) = R2 from hR2.symm]
 try rw [show exP l (sgP l Q1 [61]) = R2 from hR2.symm] at C2
 clear hR2
 obtain ⟨V2,Q2⟩:=R2
 simp only [] at C2 ⊢
 have hbr:=hb.ne h.prs
 have HW0 : Hid (Sta w0 (w.alloc (.cells #[.int .i64 0,.string ⟨#[]⟩,.string ⟨#[]⟩,.slice none 0 0,.slice none 0 0,.bool false,.int .i64 0,.int .i64 0,.int .i64 0] 42)) r l lv q o dv mv):=h.alloc _
 have hB0 : BlkS (w.alloc (.cells #[.int .i64 0,.string ⟨#[]⟩,.string ⟨#[]⟩,.slice none 0 0,.slice none 0 0,.bool false,.int .i64 0,.int .i64 0,.int .i64 0] 42)) w.heap.size (st0 0 0) (.slice none 0 0) (.slice none 0 0):=heap_alloc_new w _
 have hk0 : Keep r w (w.alloc (.cells #[.int .i64 0,.string ⟨#[]⟩,.string ⟨#[]⟩,.slice none 0 0,.slice none 0 0,.bool false,.int .i64 0,.int .i64 0,.int .i64 0] 42)):=(Keep.refl r w).alloc _
 have hrs : w.heap.size ≠ r:=by have:=h.prs.lt; omega
 have hbz:=hb.lt
 have HLE:=Lib.hid (h.bel.size)
 clear x h
 go_enter Tryz.func212,Tryz.ntmps212
 go_wp2_with fail
 generalize (w.alloc (.cells #[.int .i64 0,.string ⟨#[]⟩,.string ⟨#[]⟩,.slice none 0 0,.slice none 0 0,.bool false,.int .i64 0,.int .i64 0,.int .i64 0] 42)) = w1 at HW0 hB0 hk0 ⊢
 have hzs : w.heap.size < w1.heap.size:=hB0.lt
 have hb1 : b < w1.heap.size:=by omega
 have c0 : w1.cell? ⟨b,0,none⟩ = some (.pointer (some ⟨r,0,none⟩)):=(hk0.cell (p:=⟨b,0,none⟩) hbz hbr).trans hb.cell
 obtain ⟨⟨b0,b1,b2,b3,b4,b5,b6,b7,b8⟩,bf⟩:=hB0.facts
 simp only [st0] at b0 b1 b2 b3 b4 b5 b6 b7 b8
 have f0:=bf 0
 have f1:=bf 1
 have f2:=bf 2
 have f3:=bf 3
 have f4:=bf 4
 have f5:=bf 5
 have f6:=bf 6
 have f7:=bf 7
 have f8:=bf 8
 have HB0:=Lib.hid hB0
 have HK0:=Lib.hid hk0
 have hkk0 : Keep r w1 w1:=Keep.refl _ _
 have hbs : b ≠ w.heap.size:=by omega
 have HBS:=Lib.hid hbs
 have HRS:=Lib.hid hrs
 have KP0 : Hid (Kp w1 w1):=⟨fun _ _ h => h,fun _ _ _ _ h => h⟩
 clear hb hB0 hk0 bf b0 b1 b2 b3 b4 b5 b6 b7 b8 f0 f1 f2 f3 f4 f5 f6 f7 f8
 go_region_held3 (fun w' => w'.cell? ⟨b,0,none⟩ = some (.pointer (some ⟨r,0,none⟩)))
  (repeat (with_reducible first | exact c0 | assumption | refine cell_drew ?_ | refine cell_alloc ?_ _ | refine cell_set ?_ HBS.out _))
  ((first
   | ((with_reducible refine Calls.mono (C2.out _ ?_ _ ?_) ?_); (repeat (with_reducible first | exact HW1.out | refine Sta.drew ?_ | refine Sta.alloc ?_ _)); (repeat (with_reducible first | exact StrR.new _ _ | exact StrR.newA _ _ _ | exact StrR.newB _ _ _ _ | exact StrR.newC _ _ _ _ | refine KP1.out.str _ _ ?_ | refine StrR.drew ?_ | refine StrR.alloc ?_ _)); rintro e W2 ⟨U2,rfl,hy2,hs2,hk2,hp2⟩; obtain ⟨ad2,cp2,rfl,hz2⟩:=own_shape hy2; clear hz2; have HY2 : Hid (W2.ownsRow w.heap.size 46 5 (.slice ad2 V2.length cp2) V2.length (rowN V2)):=own_mono hy2 (by have:=HK0.out.size; have:=hkk1.size; simp; omega); clear hy2; have HW2:=Lib.hid hs2; have hkk2 : Keep r w1 W2:=Keep.trans (by repeat (with_reducible first | exact (Keep.refl _ _) | exact hkk1 | refine Keep.drew ?_ | refine Keep.alloc ?_ _)) hk2; have hc2 : W2.cell? ⟨b,0,none⟩ = some (.pointer (some ⟨r,0,none⟩)):=(hkk2.cell (p:=⟨b,0,none⟩) hb1 hbr).trans c0; have KP2:=Lib.hid hp2; clear hs2 hk2 hp2; obtain ⟨⟨b0,b1,b2,b3,b4,b5,b6,b7,b8⟩,bf⟩:=(HB0.out.keep hkk2 hrs).facts; simp only [st0] at b0 b1 b2 b3 b4 b5 b6 b7 b8; have f0:=bf 0; have f1:=bf 1; have f2:=bf 2; have f3:=bf 3; have f4:=bf 4; have f5:=bf 5; have f6:=bf 6; have f7:=bf 7; have f8:=bf 8; have HKK:=Lib.hid hkk2; have HBS:=Lib.hid hbs; clear bf hkk2 hkk0 c0 hb1 hbz hzs hrs hbr)
   | ((with_reducible refine Calls.mono (C1.out _ ?_) ?_); (repeat (with_reducible first | exact HW0.out | refine Sta.drew ?_ | refine Sta.alloc ?_ _)); rintro e W1 ⟨rfl,hs1,hk1,hp1⟩; have HW1:=Lib.hid hs1; have hkk1 : Keep r w1 W1:=Keep.trans (by repeat (with_reducible first | exact (Keep.refl _ _) | exact hkk0 | refine Keep.drew ?_ | refine Keep.alloc ?_ _)) hk1; have hc1 : W1.cell? ⟨b,0,none⟩ = some (.pointer (some ⟨r,0,none⟩)):=(hkk1.cell (p:=⟨b,0,none⟩) hb1 hbr).trans c0; have KP1:=Lib.hid hp1; clear hs1 hk1 hp1)))
 all_goals
  have hend:=clo_end (HB0.out.keep HKK.out HRS.out) (HK0.out.trans HKK.out) HRS.out HW2.out HLE.out (St.mk 2 V1 (⟨#[]⟩ : ByteArray) V2 [] false 0 0 0) (.slice ad2 V2.length cp2) (.slice none 0 0) (by repeat (with_reducible first | exact HY2.out | refine row_alloc ?_ _ | refine row_drew ?_)) (World.ownsRow_nil _ _ _ _)
  go_wp2
  exact bodyPost_ret (v:=.agg (St.cells (St.mk 2 V1 (⟨#[]⟩ : ByteArray) V2 [] false 0 0 0) (.slice ad2 V2.length cp2) (.slice none 0 0))) (results_st Tryz.results212 _ _ _ _ _ _ rfl hend.1) rfl hend.2
theorem clo38 {w0 : World} {l : List Tok} {lv : Value} {r b : Nat} {q : Pq} {o : Nat} {dv mv : Value} (x : Ty w0 l lv) (w : World) (h : Sta w0 w r l lv q o dv mv) (hb : Bx w b r) :
  Calls Tryz.prog 215 #[.pointer (some ⟨b,0,none⟩)] w (ToS w0 r l lv (nmP l (sgP l (nmP l q).2 [61])).2 o dv mv w (St.mk 3 (nmP l q).1 (nmP l (sgP l (nmP l q).2 [61])).1 [] [] false 0 0 0)):=by
 have HX:=Lib.hid x
 have C1:=Lib.hid (fun (W : World) (hW : Sta w0 W r l lv q o dv mv) => with_kpQ hW (sname_of HX.out.x W (.slice none 0 0) (ssigns0_any W hW)))
 have C2:=Lib.hid (fun (W : World) (hW : Sta w0 W r l lv (nmP l q).2 o dv mv) (g : Nat) (hg : StrR W g ⟨#[61]⟩) => with_kpQ hW (sname_of HX.out.x W (.slice (some ⟨g,0,none⟩) 1 1) (ssigns1_any HX.out.x W hW g ⟨#[61]⟩ hg)))
 obtain ⟨R1,hR1⟩ : ∃ z,z = nmP l q:=⟨_,rfl⟩
 rw [show nmP l q = R1 from hR1.symm]
 try rw [show nmP l q = R1 from hR1.symm] at C1
 try rw [show nmP l q = R1 from hR1.symm] at C2
 clear hR1
 obtain ⟨V1,Q1⟩:=R1
 simp only [] at C1 C2 ⊢
 obtain ⟨R2,hR2⟩ : ∃ z,z = nmP l (sgP l Q1 [61]):=⟨_,rfl⟩
 rw [show nmP l (sgP l Q1 [61]) = R2 from hR2.symm]
 try rw [show nmP l (sgP l Q1 [61]) = R2 from hR2.symm] at C2
 clear hR2
 obtain ⟨V2,Q2⟩:=R2
 simp only [] at C2 ⊢
 have hbr:=hb.ne h.prs
 have HW0 : Hid (Sta w0 (w.alloc (.cells #[.int .i64 0,.string ⟨#[]⟩,.string ⟨#[]⟩,.slice none 0 0,.slice none 0 0,.bool false,.int .i64 0,.int .i64 0,.int .i64 0] 42)) r l lv q o dv mv):=h.alloc _
 have hB0 : BlkS (w.alloc (.cells #[.int .i64 0,.string ⟨#[]⟩,.string ⟨#[]⟩,.slice none 0 0,.slice none 0 0,.bool false,.int .i64 0,.int .i64 0,.int .i64 0] 42)) w.heap.size (st0 0 0) (.slice none 0 0) (.slice none 0 0):=heap_alloc_new w _
 have hk0 : Keep r w (w.alloc (.cells #[.int .i64 0,.string ⟨#[]⟩,.string ⟨#[]⟩,.slice none 0 0,.slice none 0 0,.bool false,.int .i64 0,.int .i64 0,.int .i64 0] 42)):=(Keep.refl r w).alloc _
 have hrs : w.heap.size ≠ r:=by have:=h.prs.lt; omega
 have hbz:=hb.lt
 have HLE:=Lib.hid (h.bel.size)
 clear x h
 go_enter Tryz.func215,Tryz.ntmps215
 go_wp2_with fail
 generalize (w.alloc (.cells #[.int .i64 0,.string ⟨#[]⟩,.string ⟨#[]⟩,.slice none 0 0,.slice none 0 0,.bool false,.int .i64 0,.int .i64 0,.int .i64 0] 42)) = w1 at HW0 hB0 hk0 ⊢
 have hzs : w.heap.size < w1.heap.size:=hB0.lt
 have hb1 : b < w1.heap.size:=by omega
 have c0 : w1.cell? ⟨b,0,none⟩ = some (.pointer (some ⟨r,0,none⟩)):=(hk0.cell (p:=⟨b,0,none⟩) hbz hbr).trans hb.cell
 obtain ⟨⟨b0,b1,b2,b3,b4,b5,b6,b7,b8⟩,bf⟩:=hB0.facts
 simp only [st0] at b0 b1 b2 b3 b4 b5 b6 b7 b8
 have f0:=bf 0
 have f1:=bf 1
 have f2:=bf 2
 have f3:=bf 3
 have f4:=bf 4
 have f5:=bf 5
 have f6:=bf 6
 have f7:=bf 7
 have f8:=bf 8
 have HB0:=Lib.hid hB0
 have HK0:=Lib.hid hk0
 have hkk0 : Keep r w1 w1:=Keep.refl _ _
 have hbs : b ≠ w.heap.size:=by omega
 have HBS:=Lib.hid hbs
 have HRS:=Lib.hid hrs
 have KP0 : Hid (Kp w1 w1):=⟨fun _ _ h => h,fun _ _ _ _ h => h⟩
 clear hb hB0 hk0 bf b0 b1 b2 b3 b4 b5 b6 b7 b8 f0 f1 f2 f3 f4 f5 f6 f7 f8
 go_region_held3 (fun w' => w'.cell? ⟨b,0,none⟩ = some (.pointer (some ⟨r,0,none⟩)))
  (repeat (with_reducible first | exact c0 | assumption | refine cell_drew ?_ | refine cell_alloc ?_ _ | refine cell_set ?_ HBS.out _))
  ((first
   | ((with_reducible refine Calls.mono (C2.out _ ?_ _ ?_) ?_); (repeat (with_reducible first | exact HW1.out | refine Sta.drew ?_ | refine Sta.alloc ?_ _)); (repeat (with_reducible first | exact StrR.new _ _ | exact StrR.newA _ _ _ | exact StrR.newB _ _ _ _ | exact StrR.newC _ _ _ _ | refine KP1.out.str _ _ ?_ | refine StrR.drew ?_ | refine StrR.alloc ?_ _)); rintro e W2 ⟨rfl,hs2,hk2,hp2⟩; have HW2:=Lib.hid hs2; have hkk2 : Keep r w1 W2:=Keep.trans (by repeat (with_reducible first | exact (Keep.refl _ _) | exact hkk1 | refine Keep.drew ?_ | refine Keep.alloc ?_ _)) hk2; have hc2 : W2.cell? ⟨b,0,none⟩ = some (.pointer (some ⟨r,0,none⟩)):=(hkk2.cell (p:=⟨b,0,none⟩) hb1 hbr).trans c0; have KP2:=Lib.hid hp2; clear hs2 hk2 hp2; obtain ⟨⟨b0,b1,b2,b3,b4,b5,b6,b7,b8⟩,bf⟩:=(HB0.out.keep hkk2 hrs).facts; simp only [st0] at b0 b1 b2 b3 b4 b5 b6 b7 b8; have f0:=bf 0; have f1:=bf 1; have f2:=bf 2; have f3:=bf 3; have f4:=bf 4; have f5:=bf 5; have f6:=bf 6; have f7:=bf 7; have f8:=bf 8; have HKK:=Lib.hid hkk2; have HBS:=Lib.hid hbs; clear bf hkk2 hkk0 c0 hb1 hbz hzs hrs hbr)
   | ((with_reducible refine Calls.mono (C1.out _ ?_) ?_); (repeat (with_reducible first | exact HW0.out | refine Sta.drew ?_ | refine Sta.alloc ?_ _)); rintro e W1 ⟨rfl,hs1,hk1,hp1⟩; have HW1:=Lib.hid hs1; have hkk1 : Keep r w1 W1:=Keep.trans (by repeat (with_reducible first | exact (Keep.refl _ _) | exact hkk0 | refine Keep.drew ?_ | refine Keep.alloc ?_ _)) hk1; have hc1 : W1.cell? ⟨b,0,none⟩ = some (.pointer (some ⟨r,0,none⟩)):=(hkk1.cell (p:=⟨b,0,none⟩) hb1 hbr).trans c0; have KP1:=Lib.hid hp1; clear hs1 hk1 hp1)))
 all_goals
  have hend:=clo_end (HB0.out.keep HKK.out HRS.out) (HK0.out.trans HKK.out) HRS.out HW2.out HLE.out (St.mk 3 V1 V2 [] [] false 0 0 0) (.slice none 0 0) (.slice none 0 0) (World.ownsRow_nil _ _ _ _) (World.ownsRow_nil _ _ _ _)
  go_wp2
  exact bodyPost_ret (v:=.agg (St.cells (St.mk 3 V1 V2 [] [] false 0 0 0) (.slice none 0 0) (.slice none 0 0))) (results_st Tryz.results215 _ _ _ _ _ _ rfl hend.1) rfl hend.2
theorem clo39 {w0 : World} {l : List Tok} {lv : Value} {r b : Nat} {q : Pq} {o : Nat} {dv mv : Value} (x : Ty w0 l lv) (w : World) (h : Sta w0 w r l lv q o dv mv) (hb : Bx w b r) :
  Calls Tryz.prog 216 #[.pointer (some ⟨b,0,none⟩)] w (ToS w0 r l lv (exP l (sgP l (nmP l q).2 [61])).2 o dv mv w (St.mk 4 (⟨#[]⟩ : ByteArray) (nmP l q).1 (exP l (sgP l (nmP l q).2 [61])).1 [] false 0 0 0)):=by
 have HX:=Lib.hid x
 have C1:=Lib.hid (fun (W : World) (hW : Sta w0 W r l lv q o dv mv) => with_kpQ hW (sname_of HX.out.x W (.slice none 0 0) (ssigns0_any W hW)))
 have C2:=Lib.hid (fun (W : World) (hW : Sta w0 W r l lv (nmP l q).2 o dv mv) (g : Nat) (hg : StrR W g ⟨#[61]⟩) => with_kpE hW (sexpr_of HX.out W (.slice (some ⟨g,0,none⟩) 1 1) (ssigns1_any HX.out.x W hW g ⟨#[61]⟩ hg)))
 obtain ⟨R1,hR1⟩ : ∃ z,z = nmP l q:=⟨_,rfl⟩
 rw [show nmP l q = R1 from hR1.symm]
 try rw [show nmP l q = R1 from hR1.symm] at C1
 try rw [show nmP l q = R1 from hR1.symm] at C2
 clear hR1
 obtain ⟨V1,Q1⟩:=R1
 simp only [] at C1 C2 ⊢
 obtain ⟨R2,hR2⟩ : ∃ z,z = exP l (sgP l Q1 [61]):=⟨_,rfl⟩
 rw [show exP l (sgP l Q1 [61]) = R2 from hR2.symm]
 try rw [show exP l (sgP l Q1 [61]) = R2 from hR2.symm] at C2
 clear hR2
 obtain ⟨V2,Q2⟩:=R2
 simp only [] at C2 ⊢
 have hbr:=hb.ne h.prs
 have HW0 : Hid (Sta w0 (w.alloc (.cells #[.int .i64 0,.string ⟨#[]⟩,.string ⟨#[]⟩,.slice none 0 0,.slice none 0 0,.bool false,.int .i64 0,.int .i64 0,.int .i64 0] 42)) r l lv q o dv mv):=h.alloc _
 have hB0 : BlkS (w.alloc (.cells #[.int .i64 0,.string ⟨#[]⟩,.string ⟨#[]⟩,.slice none 0 0,.slice none 0 0,.bool false,.int .i64 0,.int .i64 0,.int .i64 0] 42)) w.heap.size (st0 0 0) (.slice none 0 0) (.slice none 0 0):=heap_alloc_new w _
 have hk0 : Keep r w (w.alloc (.cells #[.int .i64 0,.string ⟨#[]⟩,.string ⟨#[]⟩,.slice none 0 0,.slice none 0 0,.bool false,.int .i64 0,.int .i64 0,.int .i64 0] 42)):=(Keep.refl r w).alloc _
 have hrs : w.heap.size ≠ r:=by have:=h.prs.lt; omega
 have hbz:=hb.lt
 have HLE:=Lib.hid (h.bel.size)
 clear x h
 go_enter Tryz.func216,Tryz.ntmps216
 go_wp2_with fail
 generalize (w.alloc (.cells #[.int .i64 0,.string ⟨#[]⟩,.string ⟨#[]⟩,.slice none 0 0,.slice none 0 0,.bool false,.int .i64 0,.int .i64 0,.int .i64 0] 42)) = w1 at HW0 hB0 hk0 ⊢
 have hzs : w.heap.size < w1.heap.size:=hB0.lt
 have hb1 : b < w1.heap.size:=by omega
 have c0 : w1.cell? ⟨b,0,none⟩ = some (.pointer (some ⟨r,0,none⟩)):=(hk0.cell (p:=⟨b,0,none⟩) hbz hbr).trans hb.cell
 obtain ⟨⟨b0,b1,b2,b3,b4,b5,b6,b7,b8⟩,bf⟩:=hB0.facts
 simp only [st0] at b0 b1 b2 b3 b4 b5 b6 b7 b8
 have f0:=bf 0
 have f1:=bf 1
 have f2:=bf 2
 have f3:=bf 3
 have f4:=bf 4
 have f5:=bf 5
 have f6:=bf 6
 have f7:=bf 7
 have f8:=bf 8
 have HB0:=Lib.hid hB0
 have HK0:=Lib.hid hk0
 have hkk0 : Keep r w1 w1:=Keep.refl _ _
 have hbs : b ≠ w.heap.size:=by omega
 have HBS:=Lib.hid hbs
 have HRS:=Lib.hid hrs
 have KP0 : Hid (Kp w1 w1):=⟨fun _ _ h => h,fun _ _ _ _ h => h⟩
 clear hb hB0 hk0 bf b0 b1 b2 b3 b4 b5 b6 b7 b8 f0 f1 f2 f3 f4 f5 f6 f7 f8
 go_region_held3 (fun w' => w'.cell? ⟨b,0,none⟩ = some (.pointer (some ⟨r,0,none⟩)))
  (repeat (with_reducible first | exact c0 | assumption | refine cell_drew ?_ | refine cell_alloc ?_ _ | refine cell_set ?_ HBS.out _))
  ((first
   | ((with_reducible refine Calls.mono (C2.out _ ?_ _ ?_) ?_); (repeat (with_reducible first | exact HW1.out | refine Sta.drew ?_ | refine Sta.alloc ?_ _)); (repeat (with_reducible first | exact StrR.new _ _ | exact StrR.newA _ _ _ | exact StrR.newB _ _ _ _ | exact StrR.newC _ _ _ _ | refine KP1.out.str _ _ ?_ | refine StrR.drew ?_ | refine StrR.alloc ?_ _)); rintro e W2 ⟨U2,rfl,hy2,hs2,hk2,hp2⟩; obtain ⟨ad2,cp2,rfl,hz2⟩:=own_shape hy2; clear hz2; have HY2 : Hid (W2.ownsRow w.heap.size 46 5 (.slice ad2 V2.length cp2) V2.length (rowN V2)):=own_mono hy2 (by have:=HK0.out.size; have:=hkk1.size; simp; omega); clear hy2; have HW2:=Lib.hid hs2; have hkk2 : Keep r w1 W2:=Keep.trans (by repeat (with_reducible first | exact (Keep.refl _ _) | exact hkk1 | refine Keep.drew ?_ | refine Keep.alloc ?_ _)) hk2; have hc2 : W2.cell? ⟨b,0,none⟩ = some (.pointer (some ⟨r,0,none⟩)):=(hkk2.cell (p:=⟨b,0,none⟩) hb1 hbr).trans c0; have KP2:=Lib.hid hp2; clear hs2 hk2 hp2; obtain ⟨⟨b0,b1,b2,b3,b4,b5,b6,b7,b8⟩,bf⟩:=(HB0.out.keep hkk2 hrs).facts; simp only [st0] at b0 b1 b2 b3 b4 b5 b6 b7 b8; have f0:=bf 0; have f1:=bf 1; have f2:=bf 2; have f3:=bf 3; have f4:=bf 4; have f5:=bf 5; have f6:=bf 6; have f7:=bf 7; have f8:=bf 8; have HKK:=Lib.hid hkk2; have HBS:=Lib.hid hbs; clear bf hkk2 hkk0 c0 hb1 hbz hzs hrs hbr)
   | ((with_reducible refine Calls.mono (C1.out _ ?_) ?_); (repeat (with_reducible first | exact HW0.out | refine Sta.drew ?_ | refine Sta.alloc ?_ _)); rintro e W1 ⟨rfl,hs1,hk1,hp1⟩; have HW1:=Lib.hid hs1; have hkk1 : Keep r w1 W1:=Keep.trans (by repeat (with_reducible first | exact (Keep.refl _ _) | exact hkk0 | refine Keep.drew ?_ | refine Keep.alloc ?_ _)) hk1; have hc1 : W1.cell? ⟨b,0,none⟩ = some (.pointer (some ⟨r,0,none⟩)):=(hkk1.cell (p:=⟨b,0,none⟩) hb1 hbr).trans c0; have KP1:=Lib.hid hp1; clear hs1 hk1 hp1)))
 all_goals
  have hend:=clo_end (HB0.out.keep HKK.out HRS.out) (HK0.out.trans HKK.out) HRS.out HW2.out HLE.out (St.mk 4 (⟨#[]⟩ : ByteArray) V1 V2 [] false 0 0 0) (.slice ad2 V2.length cp2) (.slice none 0 0) (by repeat (with_reducible first | exact HY2.out | refine row_alloc ?_ _ | refine row_drew ?_)) (World.ownsRow_nil _ _ _ _)
  go_wp2
  exact bodyPost_ret (v:=.agg (St.cells (St.mk 4 (⟨#[]⟩ : ByteArray) V1 V2 [] false 0 0 0) (.slice ad2 V2.length cp2) (.slice none 0 0))) (results_st Tryz.results216 _ _ _ _ _ _ rfl hend.1) rfl hend.2
theorem clo43 {w0 : World} {l : List Tok} {lv : Value} {r b : Nat} {q : Pq} {o : Nat} {dv mv : Value} (x : Ty w0 l lv) (w : World) (h : Sta w0 w r l lv q o dv mv) (hb : Bx w b r) :
  Calls Tryz.prog 220 #[.pointer (some ⟨b,0,none⟩)] w (ToS w0 r l lv (exP l (dfP l (nmP l q).2).2).2 o dv mv w (St.mk 9 (⟨#[]⟩ : ByteArray) (nmP l q).1 (exP l (dfP l (nmP l q).2).2).1 [] (dfP l (nmP l q).2).1 0 0 0)):=by
 have HX:=Lib.hid x
 have C1:=Lib.hid (fun (W : World) (hW : Sta w0 W r l lv q o dv mv) => with_kpQ hW (sname_of HX.out.x W (.slice none 0 0) (ssigns0_any W hW)))
 have C2:=Lib.hid (fun (W : World) (hW : Sta w0 W r l lv (nmP l q).2 o dv mv) => with_kpQ hW (sdiffers_any HX.out.x W hW))
 have C3:=Lib.hid (fun (W : World) (hW : Sta w0 W r l lv (dfP l (nmP l q).2).2 o dv mv) => with_kpE hW (sexpr_of HX.out W (.slice none 0 0) (ssigns0_any W hW)))
 obtain ⟨R1,hR1⟩ : ∃ z,z = nmP l q:=⟨_,rfl⟩
 rw [show nmP l q = R1 from hR1.symm]
 try rw [show nmP l q = R1 from hR1.symm] at C1
 try rw [show nmP l q = R1 from hR1.symm] at C2
 try rw [show nmP l q = R1 from hR1.symm] at C3
 clear hR1
 obtain ⟨V1,Q1⟩:=R1
 simp only [] at C1 C2 C3 ⊢
 obtain ⟨R2,hR2⟩ : ∃ z,z = dfP l Q1:=⟨_,rfl⟩
 rw [show dfP l Q1 = R2 from hR2.symm]
 try rw [show dfP l Q1 = R2 from hR2.symm] at C2
 try rw [show dfP l Q1 = R2 from hR2.symm] at C3
 clear hR2
 obtain ⟨V2,Q2⟩:=R2
 simp only [] at C2 C3 ⊢
 obtain ⟨R3,hR3⟩ : ∃ z,z = exP l Q2:=⟨_,rfl⟩
 rw [show exP l Q2 = R3 from hR3.symm]
 try rw [show exP l Q2 = R3 from hR3.symm] at C3
 clear hR3
 obtain ⟨V3,Q3⟩:=R3
 simp only [] at C3 ⊢
 have hbr:=hb.ne h.prs
 have HW0 : Hid (Sta w0 (w.alloc (.cells #[.int .i64 0,.string ⟨#[]⟩,.string ⟨#[]⟩,.slice none 0 0,.slice none 0 0,.bool false,.int .i64 0,.int .i64 0,.int .i64 0] 42)) r l lv q o dv mv):=h.alloc _
 have hB0 : BlkS (w.alloc (.cells #[.int .i64 0,.string ⟨#[]⟩,.string ⟨#[]⟩,.slice none 0 0,.slice none 0 0,.bool false,.int .i64 0,.int .i64 0,.int .i64 0] 42)) w.heap.size (st0 0 0) (.slice none 0 0) (.slice none 0 0):=heap_alloc_new w _
 have hk0 : Keep r w (w.alloc (.cells #[.int .i64 0,.string ⟨#[]⟩,.string ⟨#[]⟩,.slice none 0 0,.slice none 0 0,.bool false,.int .i64 0,.int .i64 0,.int .i64 0] 42)):=(Keep.refl r w).alloc _
 have hrs : w.heap.size ≠ r:=by have:=h.prs.lt; omega
 have hbz:=hb.lt
 have HLE:=Lib.hid (h.bel.size)
 clear x h
 go_enter Tryz.func220,Tryz.ntmps220
 go_wp2_with fail
 generalize (w.alloc (.cells #[.int .i64 0,.string ⟨#[]⟩,.string ⟨#[]⟩,.slice none 0 0,.slice none 0 0,.bool false,.int .i64 0,.int .i64 0,.int .i64 0] 42)) = w1 at HW0 hB0 hk0 ⊢
 have hzs : w.heap.size < w1.heap.size:=hB0.lt
 have hb1 : b < w1.heap.size:=by omega
 have c0 : w1.cell? ⟨b,0,none⟩ = some (.pointer (some ⟨r,0,none⟩)):=(hk0.cell (p:=⟨b,0,none⟩) hbz hbr).trans hb.cell
 obtain ⟨⟨b0,b1,b2,b3,b4,b5,b6,b7,b8⟩,bf⟩:=hB0.facts
 simp only [st0] at b0 b1 b2 b3 b4 b5 b6 b7 b8
 have f0:=bf 0
 have f1:=bf 1
 have f2:=bf 2
 have f3:=bf 3
 have f4:=bf 4
 have f5:=bf 5
 have f6:=bf 6
 have f7:=bf 7
 have f8:=bf 8
 have HB0:=Lib.hid hB0
 have HK0:=Lib.hid hk0
 have hkk0 : Keep r w1 w1:=Keep.refl _ _
 have hbs : b ≠ w.heap.size:=by omega
 have HBS:=Lib.hid hbs
 have HRS:=Lib.hid hrs
 have KP0 : Hid (Kp w1 w1):=⟨fun _ _ h => h,fun _ _ _ _ h => h⟩
 clear hb hB0 hk0 bf b0 b1 b2 b3 b4 b5 b6 b7 b8 f0 f1 f2 f3 f4 f5 f6 f7 f8
 go_region_held3 (fun w' => w'.cell? ⟨b,0,none⟩ = some (.pointer (some ⟨r,0,none⟩)))
  (repeat (with_reducible first | exact c0 | assumption | refine cell_drew ?_ | refine cell_alloc ?_ _ | refine cell_set ?_ HBS.out _))
  ((first
   | ((with_reducible refine Calls.mono (C3.out _ ?_) ?_); (repeat (with_reducible first | exact HW2.out | refine Sta.drew ?_ | refine Sta.alloc ?_ _)); rintro e W3 ⟨U3,rfl,hy3,hs3,hk3,hp3⟩; obtain ⟨ad3,cp3,rfl,hz3⟩:=own_shape hy3; clear hz3; have HY3 : Hid (W3.ownsRow w.heap.size 46 5 (.slice ad3 V3.length cp3) V3.length (rowN V3)):=own_mono hy3 (by have:=HK0.out.size; have:=hkk2.size; simp; omega); clear hy3; have HW3:=Lib.hid hs3; have hkk3 : Keep r w1 W3:=Keep.trans (by repeat (with_reducible first | exact (Keep.refl _ _) | exact hkk2 | refine Keep.drew ?_ | refine Keep.alloc ?_ _)) hk3; have hc3 : W3.cell? ⟨b,0,none⟩ = some (.pointer (some ⟨r,0,none⟩)):=(hkk3.cell (p:=⟨b,0,none⟩) hb1 hbr).trans c0; have KP3:=Lib.hid hp3; clear hs3 hk3 hp3; obtain ⟨⟨b0,b1,b2,b3,b4,b5,b6,b7,b8⟩,bf⟩:=(HB0.out.keep hkk3 hrs).facts; simp only [st0] at b0 b1 b2 b3 b4 b5 b6 b7 b8; have f0:=bf 0; have f1:=bf 1; have f2:=bf 2; have f3:=bf 3; have f4:=bf 4; have f5:=bf 5; have f6:=bf 6; have f7:=bf 7; have f8:=bf 8; have HKK:=Lib.hid hkk3; have HBS:=Lib.hid hbs; clear bf hkk3 hkk0 c0 hb1 hbz hzs hrs hbr)
   | ((with_reducible refine Calls.mono (C2.out _ ?_) ?_); (repeat (with_reducible first | exact HW1.out | refine Sta.drew ?_ | refine Sta.alloc ?_ _)); rintro e W2 ⟨rfl,hs2,hk2,hp2⟩; have HW2:=Lib.hid hs2; have hkk2 : Keep r w1 W2:=Keep.trans (by repeat (with_reducible first | exact (Keep.refl _ _) | exact hkk1 | refine Keep.drew ?_ | refine Keep.alloc ?_ _)) hk2; have hc2 : W2.cell? ⟨b,0,none⟩ = some (.pointer (some ⟨r,0,none⟩)):=(hkk2.cell (p:=⟨b,0,none⟩) hb1 hbr).trans c0; have KP2:=Lib.hid hp2; clear hs2 hk2 hp2)
   | ((with_reducible refine Calls.mono (C1.out _ ?_) ?_); (repeat (with_reducible first | exact HW0.out | refine Sta.drew ?_ | refine Sta.alloc ?_ _)); rintro e W1 ⟨rfl,hs1,hk1,hp1⟩; have HW1:=Lib.hid hs1; have hkk1 : Keep r w1 W1:=Keep.trans (by repeat (with_reducible first | exact (Keep.refl _ _) | exact hkk0 | refine Keep.drew ?_ | refine Keep.alloc ?_ _)) hk1; have hc1 : W1.cell? ⟨b,0,none⟩ = some (.pointer (some ⟨r,0,none⟩)):=(hkk1.cell (p:=⟨b,0,none⟩) hb1 hbr).trans c0; have KP1:=Lib.hid hp1; clear hs1 hk1 hp1)))
 all_goals
  have hend:=clo_end (HB0.out.keep HKK.out HRS.out) (HK0.out.trans HKK.out) HRS.out HW3.out HLE.out (St.mk 9 (⟨#[]⟩ : ByteArray) V1 V3 [] V2 0 0 0) (.slice ad3 V3.length cp3) (.slice none 0 0) (by repeat (with_reducible first | exact HY3.out | refine row_alloc ?_ _ | refine row_drew ?_)) (World.ownsRow_nil _ _ _ _)
  go_wp2
  exact bodyPost_ret (v:=.agg (St.cells (St.mk 9 (⟨#[]⟩ : ByteArray) V1 V3 [] V2 0 0 0) (.slice ad3 V3.length cp3) (.slice none 0 0))) (results_st Tryz.results220 _ _ _ _ _ _ rfl hend.1) rfl hend.2
theorem clo40 {w0 : World} {l : List Tok} {lv : Value} {r b : Nat} {q : Pq} {o : Nat} {dv mv : Value} (x : Ty w0 l lv) (w : World) (h : Sta w0 w r l lv q o dv mv) (hb : Bx w b r) :
  Calls Tryz.prog 217 #[.pointer (some ⟨b,0,none⟩)] w (ToS w0 r l lv (exP l (sgP l (exP l (sgP l (nmP l (sgP l (nmP l q).2 [61])).2 [44])).2 [44])).2 o dv mv w (St.mk 5 (nmP l q).1 (nmP l (sgP l (nmP l q).2 [61])).1 (exP l (sgP l (nmP l (sgP l (nmP l q).2 [61])).2 [44])).1 (exP l (sgP l (exP l (sgP l (nmP l (sgP l (nmP l q).2 [61])).2 [44])).2 [44])).1 false 0 0 0)):=by
 have HX:=Lib.hid x
 have C1:=Lib.hid (fun (W : World) (hW : Sta w0 W r l lv q o dv mv) => with_kpQ hW (sname_of HX.out.x W (.slice none 0 0) (ssigns0_any W hW)))
 have C2:=Lib.hid (fun (W : World) (hW : Sta w0 W r l lv (nmP l q).2 o dv mv) (g : Nat) (hg : StrR W g ⟨#[61]⟩) => with_kpQ hW (sname_of HX.out.x W (.slice (some ⟨g,0,none⟩) 1 1) (ssigns1_any HX.out.x W hW g ⟨#[61]⟩ hg)))
 have C3:=Lib.hid (fun (W : World) (hW : Sta w0 W r l lv (nmP l (sgP l (nmP l q).2 [61])).2 o dv mv) (g : Nat) (hg : StrR W g ⟨#[44]⟩) => with_kpE hW (sexpr_of HX.out W (.slice (some ⟨g,0,none⟩) 1 1) (ssigns1_any HX.out.x W hW g ⟨#[44]⟩ hg)))
 have C4:=Lib.hid (fun (W : World) (hW : Sta w0 W r l lv (exP l (sgP l (nmP l (sgP l (nmP l q).2 [61])).2 [44])).2 o dv mv) (g : Nat) (hg : StrR W g ⟨#[44]⟩) => with_kpE hW (sexpr_of HX.out W (.slice (some ⟨g,0,none⟩) 1 1) (ssigns1_any HX.out.x W hW g ⟨#[44]⟩ hg)))
 obtain ⟨R1,hR1⟩ : ∃ z,z = nmP l q:=⟨_,rfl⟩
 rw [show nmP l q = R1 from hR1.symm]
 try rw [show nmP l q = R1 from hR1.symm] at C1
 try rw [show nmP l q = R1 from hR1.symm] at C2
 try rw [show nmP l q = R1 from hR1.symm] at C3
 try rw [show nmP l q = R1 from hR1.symm] at C4
 clear hR1
 obtain ⟨V1,Q1⟩:=R1
 simp only [] at C1 C2 C3 C4 ⊢
 obtain ⟨R2,hR2⟩ : ∃ z,z = nmP l (sgP l Q1 [61]):=⟨_,rfl⟩
 rw [show nmP l (sgP l Q1 [61]) = R2 from hR2.symm]
 try rw [show nmP l (sgP l Q1 [61]) = R2 from hR2.symm] at C2
 try rw [show nmP l (sgP l Q1 [61]) = R2 from hR2.symm] at C3
 try rw [show nmP l (sgP l Q1 [61]) = R2 from hR2.symm] at C4
 clear hR2
 obtain ⟨V2,Q2⟩:=R2
 simp only [] at C2 C3 C4 ⊢
 obtain ⟨R3,hR3⟩ : ∃ z,z = exP l (sgP l Q2 [44]):=⟨_,rfl⟩
 rw [show exP l (sgP l Q2 [44]) = R3 from hR3.symm]
 try rw [show exP l (sgP l Q2 [44]) = R3 from hR3.symm] at C3
 try rw [show exP l (sgP l Q2 [44]) = R3 from hR3.symm] at C4
 clear hR3
 obtain ⟨V3,Q3⟩:=R3
 simp only [] at C3 C4 ⊢
 obtain ⟨R4,hR4⟩ : ∃ z,z = exP l (sgP l Q3 [44]):=⟨_,rfl⟩
 rw [show exP l (sgP l Q3 [44]) = R4 from hR4.symm]
 try rw [show exP l (sgP l Q3 [44]) = R4 from hR4.symm] at C4
 clear hR4
 obtain ⟨V4,Q4⟩:=R4
 simp only [] at C4 ⊢
 have hbr:=hb.ne h.prs
 have HW0 : Hid (Sta w0 (w.alloc (.cells #[.int .i64 0,.string ⟨#[]⟩,.string ⟨#[]⟩,.slice none 0 0,.slice none 0 0,.bool false,.int .i64 0,.int .i64 0,.int .i64 0] 42)) r l lv q o dv mv):=h.alloc _
 have hB0 : BlkS (w.alloc (.cells #[.int .i64 0,.string ⟨#[]⟩,.string ⟨#[]⟩,.slice none 0 0,.slice none 0 0,.bool false,.int .i64 0,.int .i64 0,.int .i64 0] 42)) w.heap.size (st0 0 0) (.slice none 0 0) (.slice none 0 0):=heap_alloc_new w _
 have hk0 : Keep r w (w.alloc (.cells #[.int .i64 0,.string ⟨#[]⟩,.string ⟨#[]⟩,.slice none 0 0,.slice none 0 0,.bool false,.int .i64 0,.int .i64 0,.int .i64 0] 42)):=(Keep.refl r w).alloc _
 have hrs : w.heap.size ≠ r:=by have:=h.prs.lt; omega
 have hbz:=hb.lt
 have HLE:=Lib.hid (h.bel.size)
 clear x h
 go_enter Tryz.func217,Tryz.ntmps217
 go_wp2_with fail
 generalize (w.alloc (.cells #[.int .i64 0,.string ⟨#[]⟩,.string ⟨#[]⟩,.slice none 0 0,.slice none 0 0,.bool false,.int .i64 0,.int .i64 0,.int .i64 0] 42)) = w1 at HW0 hB0 hk0 ⊢
 have hzs : w.heap.size < w1.heap.size:=hB0.lt
 have hb1 : b < w1.heap.size:=by omega
 have c0 : w1.cell? ⟨b,0,none⟩ = some (.pointer (some ⟨r,0,none⟩)):=(hk0.cell (p:=⟨b,0,none⟩) hbz hbr).trans hb.cell
 obtain ⟨⟨b0,b1,b2,b3,b4,b5,b6,b7,b8⟩,bf⟩:=hB0.facts
 simp only [st0] at b0 b1 b2 b3 b4 b5 b6 b7 b8
 have f0:=bf 0
 have f1:=bf 1
 have f2:=bf 2
 have f3:=bf 3
 have f4:=bf 4
 have f5:=bf 5
 have f6:=bf 6
 have f7:=bf 7
 have f8:=bf 8
 have HB0:=Lib.hid hB0
 have HK0:=Lib.hid hk0
 have hkk0 : Keep r w1 w1:=Keep.refl _ _
 have hbs : b ≠ w.heap.size:=by omega
 have HBS:=Lib.hid hbs
 have HRS:=Lib.hid hrs
 have KP0 : Hid (Kp w1 w1):=⟨fun _ _ h => h,fun _ _ _ _ h => h⟩
 clear hb hB0 hk0 bf b0 b1 b2 b3 b4 b5 b6 b7 b8 f0 f1 f2 f3 f4 f5 f6 f7 f8
 go_region_held3 (fun w' => w'.cell? ⟨b,0,none⟩ = some (.pointer (some ⟨r,0,none⟩)))
  (repeat (with_reducible first | exact c0 | assumption | refine cell_drew ?_ | refine cell_alloc ?_ _ | refine cell_set ?_ HBS.out _))
  ((first
   | ((with_reducible refine Calls.mono (C4.out _ ?_ _ ?_) ?_); (repeat (with_reducible first | exact HW3.out | refine Sta.drew ?_ | refine Sta.alloc ?_ _)); (repeat (with_reducible first | exact StrR.new _ _ | exact StrR.newA _ _ _ | exact StrR.newB _ _ _ _ | exact StrR.newC _ _ _ _ | refine KP3.out.str _ _ ?_ | refine KP2.out.str _ _ ?_ | refine KP1.out.str _ _ ?_ | refine StrR.drew ?_ | refine StrR.alloc ?_ _)); rintro e W4 ⟨U4,rfl,hy4,hs4,hk4,hp4⟩; obtain ⟨ad4,cp4,rfl,hz4⟩:=own_shape hy4; clear hz4; have HY4 : Hid (W4.ownsRow w.heap.size 46 5 (.slice ad4 V4.length cp4) V4.length (rowN V4)):=own_mono hy4 (by have:=HK0.out.size; have:=hkk3.size; simp; omega); clear hy4; have HW4:=Lib.hid hs4; have hkk4 : Keep r w1 W4:=Keep.trans (by repeat (with_reducible first | exact (Keep.refl _ _) | exact hkk3 | refine Keep.drew ?_ | refine Keep.alloc ?_ _)) hk4; have hc4 : W4.cell? ⟨b,0,none⟩ = some (.pointer (some ⟨r,0,none⟩)):=(hkk4.cell (p:=⟨b,0,none⟩) hb1 hbr).trans c0; have KP4:=Lib.hid hp4; clear hs4 hk4 hp4; obtain ⟨⟨b0,b1,b2,b3,b4,b5,b6,b7,b8⟩,bf⟩:=(HB0.out.keep hkk4 hrs).facts; simp only [st0] at b0 b1 b2 b3 b4 b5 b6 b7 b8; have f0:=bf 0; have f1:=bf 1; have f2:=bf 2; have f3:=bf 3; have f4:=bf 4; have f5:=bf 5; have f6:=bf 6; have f7:=bf 7; have f8:=bf 8; have HKK:=Lib.hid hkk4; have HBS:=Lib.hid hbs; clear bf hkk4 hkk0 c0 hb1 hbz hzs hrs hbr)
   | ((with_reducible refine Calls.mono (C3.out _ ?_ _ ?_) ?_); (repeat (with_reducible first | exact HW2.out | refine Sta.drew ?_ | refine Sta.alloc ?_ _)); (repeat (with_reducible first | exact StrR.new _ _ | exact StrR.newA _ _ _ | exact StrR.newB _ _ _ _ | exact StrR.newC _ _ _ _ | refine KP2.out.str _ _ ?_ | refine KP1.out.str _ _ ?_ | refine StrR.drew ?_ | refine StrR.alloc ?_ _)); rintro e W3 ⟨U3,rfl,hy3,hs3,hk3,hp3⟩; obtain ⟨ad3,cp3,rfl,hz3⟩:=own_shape hy3; clear hz3; have HY3 : Hid (W3.ownsRow w.heap.size 46 5 (.slice ad3 V3.length cp3) V3.length (rowN V3)):=own_mono hy3 (by have:=HK0.out.size; have:=hkk2.size; simp; omega); clear hy3; have HW3:=Lib.hid hs3; have hkk3 : Keep r w1 W3:=Keep.trans (by repeat (with_reducible first | exact (Keep.refl _ _) | exact hkk2 | refine Keep.drew ?_ | refine Keep.alloc ?_ _)) hk3; have hc3 : W3.cell? ⟨b,0,none⟩ = some (.pointer (some ⟨r,0,none⟩)):=(hkk3.cell (p:=⟨b,0,none⟩) hb1 hbr).trans c0; have KP3:=Lib.hid hp3; clear hs3 hk3 hp3)
   | ((with_reducible refine Calls.mono (C2.out _ ?_ _ ?_) ?_); (repeat (with_reducible first | exact HW1.out | refine Sta.drew ?_ | refine Sta.alloc ?_ _)); (repeat (with_reducible first | exact StrR.new _ _ | exact StrR.newA _ _ _ | exact StrR.newB _ _ _ _ | exact StrR.newC _ _ _ _ | refine KP1.out.str _ _ ?_ | refine StrR.drew ?_ | refine StrR.alloc ?_ _)); rintro e W2 ⟨rfl,hs2,hk2,hp2⟩; have HW2:=Lib.hid hs2; have hkk2 : Keep r w1 W2:=Keep.trans (by repeat (with_reducible first | exact (Keep.refl _ _) | exact hkk1 | refine Keep.drew ?_ | refine Keep.alloc ?_ _)) hk2; have hc2 : W2.cell? ⟨b,0,none⟩ = some (.pointer (some ⟨r,0,none⟩)):=(hkk2.cell (p:=⟨b,0,none⟩) hb1 hbr).trans c0; have KP2:=Lib.hid hp2; clear hs2 hk2 hp2)
   | ((with_reducible refine Calls.mono (C1.out _ ?_) ?_); (repeat (with_reducible first | exact HW0.out | refine Sta.drew ?_ | refine Sta.alloc ?_ _)); rintro e W1 ⟨rfl,hs1,hk1,hp1⟩; have HW1:=Lib.hid hs1; have hkk1 : Keep r w1 W1:=Keep.trans (by repeat (with_reducible first | exact (Keep.refl _ _) | exact hkk0 | refine Keep.drew ?_ | refine Keep.alloc ?_ _)) hk1; have hc1 : W1.cell? ⟨b,0,none⟩ = some (.pointer (some ⟨r,0,none⟩)):=(hkk1.cell (p:=⟨b,0,none⟩) hb1 hbr).trans c0; have KP1:=Lib.hid hp1; clear hs1 hk1 hp1)))
 all_goals
  have hend:=clo_end (HB0.out.keep HKK.out HRS.out) (HK0.out.trans HKK.out) HRS.out HW4.out HLE.out (St.mk 5 V1 V2 V3 V4 false 0 0 0) (.slice ad3 V3.length cp3) (.slice ad4 V4.length cp4) (by repeat (with_reducible first | exact HY3.out | refine KP4.out.row _ _ _ _ ?_ | refine row_alloc ?_ _ | refine row_drew ?_)) (by repeat (with_reducible first | exact HY4.out | refine row_alloc ?_ _ | refine row_drew ?_))
  go_wp2
  exact bodyPost_ret (v:=.agg (St.cells (St.mk 5 V1 V2 V3 V4 false 0 0 0) (.slice ad3 V3.length cp3) (.slice ad4 V4.length cp4))) (results_st Tryz.results217 _ _ _ _ _ _ rfl hend.1) rfl hend.2
theorem clo41 {w0 : World} {l : List Tok} {lv : Value} {r b : Nat} {q : Pq} {o : Nat} {dv mv : Value} (x : Ty w0 l lv) (w : World) (h : Sta w0 w r l lv q o dv mv) (hb : Bx w b r) :
  Calls Tryz.prog 218 #[.pointer (some ⟨b,0,none⟩)] w (ToS w0 r l lv (exP l (sgP l (nmP l (sgP l (nmP l q).2 [61])).2 [44])).2 o dv mv w (St.mk 6 (nmP l q).1 (nmP l (sgP l (nmP l q).2 [61])).1 (exP l (sgP l (nmP l (sgP l (nmP l q).2 [61])).2 [44])).1 [] false 0 0 0)):=by
 have HX:=Lib.hid x
 have C1:=Lib.hid (fun (W : World) (hW : Sta w0 W r l lv q o dv mv) => with_kpQ hW (sname_of HX.out.x W (.slice none 0 0) (ssigns0_any W hW)))
 have C2:=Lib.hid (fun (W : World) (hW : Sta w0 W r l lv (nmP l q).2 o dv mv) (g : Nat) (hg : StrR W g ⟨#[61]⟩) => with_kpQ hW (sname_of HX.out.x W (.slice (some ⟨g,0,none⟩) 1 1) (ssigns1_any HX.out.x W hW g ⟨#[61]⟩ hg)))
 have C3:=Lib.hid (fun (W : World) (hW : Sta w0 W r l lv (nmP l (sgP l (nmP l q).2 [61])).2 o dv mv) (g : Nat) (hg : StrR W g ⟨#[44]⟩) => with_kpE hW (sexpr_of HX.out W (.slice (some ⟨g,0,none⟩) 1 1) (ssigns1_any HX.out.x W hW g ⟨#[44]⟩ hg)))
 obtain ⟨R1,hR1⟩ : ∃ z,z = nmP l q:=⟨_,rfl⟩
 rw [show nmP l q = R1 from hR1.symm]
 try rw [show nmP l q = R1 from hR1.symm] at C1
 try rw [show nmP l q = R1 from hR1.symm] at C2
 try rw [show nmP l q = R1 from hR1.symm] at C3
 clear hR1
 obtain ⟨V1,Q1⟩:=R1
 simp only [] at C1 C2 C3 ⊢
 obtain ⟨R2,hR2⟩ : ∃ z,z = nmP l (sgP l Q1 [61]):=⟨_,rfl⟩
 rw [show nmP l (sgP l Q1 [61]) = R2 from hR2.symm]
 try rw [show nmP l (sgP l Q1 [61]) = R2 from hR2.symm] at C2
 try rw [show nmP l (sgP l Q1 [61]) = R2 from hR2.symm] at C3
 clear hR2
 obtain ⟨V2,Q2⟩:=R2
 simp only [] at C2 C3 ⊢
 obtain ⟨R3,hR3⟩ : ∃ z,z = exP l (sgP l Q2 [44]):=⟨_,rfl⟩
 rw [show exP l (sgP l Q2 [44]) = R3 from hR3.symm]
 try rw [show exP l (sgP l Q2 [44]) = R3 from hR3.symm] at C3
 clear hR3
 obtain ⟨V3,Q3⟩:=R3
 simp only [] at C3 ⊢
 have hbr:=hb.ne h.prs
 have HW0 : Hid (Sta w0 (w.alloc (.cells #[.int .i64 0,.string ⟨#[]⟩,.string ⟨#[]⟩,.slice none 0 0,.slice none 0 0,.bool false,.int .i64 0,.int .i64 0,.int .i64 0] 42)) r l lv q o dv mv):=h.alloc _
 have hB0 : BlkS (w.alloc (.cells #[.int .i64 0,.string ⟨#[]⟩,.string ⟨#[]⟩,.slice none 0 0,.slice none 0 0,.bool false,.int .i64 0,.int .i64 0,.int .i64 0] 42)) w.heap.size (st0 0 0) (.slice none 0 0) (.slice none 0 0):=heap_alloc_new w _
 have hk0 : Keep r w (w.alloc (.cells #[.int .i64 0,.string ⟨#[]⟩,.string ⟨#[]⟩,.slice none 0 0,.slice none 0 0,.bool false,.int .i64 0,.int .i64 0,.int .i64 0] 42)):=(Keep.refl r w).alloc _
 have hrs : w.heap.size ≠ r:=by have:=h.prs.lt; omega
 have hbz:=hb.lt
 have HLE:=Lib.hid (h.bel.size)
 clear x h
 go_enter Tryz.func218,Tryz.ntmps218
 go_wp2_with fail
 generalize (w.alloc (.cells #[.int .i64 0,.string ⟨#[]⟩,.string ⟨#[]⟩,.slice none 0 0,.slice none 0 0,.bool false,.int .i64 0,.int .i64 0,.int .i64 0] 42)) = w1 at HW0 hB0 hk0 ⊢
 have hzs : w.heap.size < w1.heap.size:=hB0.lt
 have hb1 : b < w1.heap.size:=by omega
 have c0 : w1.cell? ⟨b,0,none⟩ = some (.pointer (some ⟨r,0,none⟩)):=(hk0.cell (p:=⟨b,0,none⟩) hbz hbr).trans hb.cell
 obtain ⟨⟨b0,b1,b2,b3,b4,b5,b6,b7,b8⟩,bf⟩:=hB0.facts
 simp only [st0] at b0 b1 b2 b3 b4 b5 b6 b7 b8
 have f0:=bf 0
 have f1:=bf 1
 have f2:=bf 2
 have f3:=bf 3
 have f4:=bf 4
 have f5:=bf 5
 have f6:=bf 6
 have f7:=bf 7
 have f8:=bf 8
 have HB0:=Lib.hid hB0
 have HK0:=Lib.hid hk0
 have hkk0 : Keep r w1 w1:=Keep.refl _ _
 have hbs : b ≠ w.heap.size:=by omega
 have HBS:=Lib.hid hbs
 have HRS:=Lib.hid hrs
 have KP0 : Hid (Kp w1 w1):=⟨fun _ _ h => h,fun _ _ _ _ h => h⟩
 clear hb hB0 hk0 bf b0 b1 b2 b3 b4 b5 b6 b7 b8 f0 f1 f2 f3 f4 f5 f6 f7 f8
 go_region_held3 (fun w' => w'.cell? ⟨b,0,none⟩ = some (.pointer (some ⟨r,0,none⟩)))
  (repeat (with_reducible first | exact c0 | assumption | refine cell_drew ?_ | refine cell_alloc ?_ _ | refine cell_set ?_ HBS.out _))
  ((first
   | ((with_reducible refine Calls.mono (C3.out _ ?_ _ ?_) ?_); (repeat (with_reducible first | exact HW2.out | refine Sta.drew ?_ | refine Sta.alloc ?_ _)); (repeat (with_reducible first | exact StrR.new _ _ | exact StrR.newA _ _ _ | exact StrR.newB _ _ _ _ | exact StrR.newC _ _ _ _ | refine KP2.out.str _ _ ?_ | refine KP1.out.str _ _ ?_ | refine StrR.drew ?_ | refine StrR.alloc ?_ _)); rintro e W3 ⟨U3,rfl,hy3,hs3,hk3,hp3⟩; obtain ⟨ad3,cp3,rfl,hz3⟩:=own_shape hy3; clear hz3; have HY3 : Hid (W3.ownsRow w.heap.size 46 5 (.slice ad3 V3.length cp3) V3.length (rowN V3)):=own_mono hy3 (by have:=HK0.out.size; have:=hkk2.size; simp; omega); clear hy3; have HW3:=Lib.hid hs3; have hkk3 : Keep r w1 W3:=Keep.trans (by repeat (with_reducible first | exact (Keep.refl _ _) | exact hkk2 | refine Keep.drew ?_ | refine Keep.alloc ?_ _)) hk3; have hc3 : W3.cell? ⟨b,0,none⟩ = some (.pointer (some ⟨r,0,none⟩)):=(hkk3.cell (p:=⟨b,0,none⟩) hb1 hbr).trans c0; have KP3:=Lib.hid hp3; clear hs3 hk3 hp3; obtain ⟨⟨b0,b1,b2,b3,b4,b5,b6,b7,b8⟩,bf⟩:=(HB0.out.keep hkk3 hrs).facts; simp only [st0] at b0 b1 b2 b3 b4 b5 b6 b7 b8; have f0:=bf 0; have f1:=bf 1; have f2:=bf 2; have f3:=bf 3; have f4:=bf 4; have f5:=bf 5; have f6:=bf 6; have f7:=bf 7; have f8:=bf 8; have HKK:=Lib.hid hkk3; have HBS:=Lib.hid hbs; clear bf hkk3 hkk0 c0 hb1 hbz hzs hrs hbr)
   | ((with_reducible refine Calls.mono (C2.out _ ?_ _ ?_) ?_); (repeat (with_reducible first | exact HW1.out | refine Sta.drew ?_ | refine Sta.alloc ?_ _)); (repeat (with_reducible first | exact StrR.new _ _ | exact StrR.newA _ _ _ | exact StrR.newB _ _ _ _ | exact StrR.newC _ _ _ _ | refine KP1.out.str _ _ ?_ | refine StrR.drew ?_ | refine StrR.alloc ?_ _)); rintro e W2 ⟨rfl,hs2,hk2,hp2⟩; have HW2:=Lib.hid hs2; have hkk2 : Keep r w1 W2:=Keep.trans (by repeat (with_reducible first | exact (Keep.refl _ _) | exact hkk1 | refine Keep.drew ?_ | refine Keep.alloc ?_ _)) hk2; have hc2 : W2.cell? ⟨b,0,none⟩ = some (.pointer (some ⟨r,0,none⟩)):=(hkk2.cell (p:=⟨b,0,none⟩) hb1 hbr).trans c0; have KP2:=Lib.hid hp2; clear hs2 hk2 hp2)
   | ((with_reducible refine Calls.mono (C1.out _ ?_) ?_); (repeat (with_reducible first | exact HW0.out | refine Sta.drew ?_ | refine Sta.alloc ?_ _)); rintro e W1 ⟨rfl,hs1,hk1,hp1⟩; have HW1:=Lib.hid hs1; have hkk1 : Keep r w1 W1:=Keep.trans (by repeat (with_reducible first | exact (Keep.refl _ _) | exact hkk0 | refine Keep.drew ?_ | refine Keep.alloc ?_ _)) hk1; have hc1 : W1.cell? ⟨b,0,none⟩ = some (.pointer (some ⟨r,0,none⟩)):=(hkk1.cell (p:=⟨b,0,none⟩) hb1 hbr).trans c0; have KP1:=Lib.hid hp1; clear hs1 hk1 hp1)))
 all_goals
  have hend:=clo_end (HB0.out.keep HKK.out HRS.out) (HK0.out.trans HKK.out) HRS.out HW3.out HLE.out (St.mk 6 V1 V2 V3 [] false 0 0 0) (.slice ad3 V3.length cp3) (.slice none 0 0) (by repeat (with_reducible first | exact HY3.out | refine row_alloc ?_ _ | refine row_drew ?_)) (World.ownsRow_nil _ _ _ _)
  go_wp2
  exact bodyPost_ret (v:=.agg (St.cells (St.mk 6 V1 V2 V3 [] false 0 0 0) (.slice ad3 V3.length cp3) (.slice none 0 0))) (results_st Tryz.results218 _ _ _ _ _ _ rfl hend.1) rfl hend.2
theorem clo42 {w0 : World} {l : List Tok} {lv : Value} {r b : Nat} {q : Pq} {o : Nat} {dv mv : Value} (x : Ty w0 l lv) (w : World) (h : Sta w0 w r l lv q o dv mv) (hb : Bx w b r) :
  Calls Tryz.prog 219 #[.pointer (some ⟨b,0,none⟩)] w (ToS w0 r l lv (exP l (sgP l (nmP l (sgP l (nmP l q).2 [61])).2 [44])).2 o dv mv w (St.mk 7 (nmP l q).1 (nmP l (sgP l (nmP l q).2 [61])).1 (exP l (sgP l (nmP l (sgP l (nmP l q).2 [61])).2 [44])).1 [] false 0 0 0)):=by
 have HX:=Lib.hid x
 have C1:=Lib.hid (fun (W : World) (hW : Sta w0 W r l lv q o dv mv) => with_kpQ hW (sname_of HX.out.x W (.slice none 0 0) (ssigns0_any W hW)))
 have C2:=Lib.hid (fun (W : World) (hW : Sta w0 W r l lv (nmP l q).2 o dv mv) (g : Nat) (hg : StrR W g ⟨#[61]⟩) => with_kpQ hW (sname_of HX.out.x W (.slice (some ⟨g,0,none⟩) 1 1) (ssigns1_any HX.out.x W hW g ⟨#[61]⟩ hg)))
 have C3:=Lib.hid (fun (W : World) (hW : Sta w0 W r l lv (nmP l (sgP l (nmP l q).2 [61])).2 o dv mv) (g : Nat) (hg : StrR W g ⟨#[44]⟩) => with_kpE hW (sexpr_of HX.out W (.slice (some ⟨g,0,none⟩) 1 1) (ssigns1_any HX.out.x W hW g ⟨#[44]⟩ hg)))
 obtain ⟨R1,hR1⟩ : ∃ z,z = nmP l q:=⟨_,rfl⟩
 rw [show nmP l q = R1 from hR1.symm]
 try rw [show nmP l q = R1 from hR1.symm] at C1
 try rw [show nmP l q = R1 from hR1.symm] at C2
 try rw [show nmP l q = R1 from hR1.symm] at C3
 clear hR1
 obtain ⟨V1,Q1⟩:=R1
 simp only [] at C1 C2 C3 ⊢
 obtain ⟨R2,hR2⟩ : ∃ z,z = nmP l (sgP l Q1 [61]):=⟨_,rfl⟩
 rw [show nmP l (sgP l Q1 [61]) = R2 from hR2.symm]
 try rw [show nmP l (sgP l Q1 [61]) = R2 from hR2.symm] at C2
 try rw [show nmP l (sgP l Q1 [61]) = R2 from hR2.symm] at C3
 clear hR2
 obtain ⟨V2,Q2⟩:=R2
 simp only [] at C2 C3 ⊢
 obtain ⟨R3,hR3⟩ : ∃ z,z = exP l (sgP l Q2 [44]):=⟨_,rfl⟩
 rw [show exP l (sgP l Q2 [44]) = R3 from hR3.symm]
 try rw [show exP l (sgP l Q2 [44]) = R3 from hR3.symm] at C3
 clear hR3
 obtain ⟨V3,Q3⟩:=R3
 simp only [] at C3 ⊢
 have hbr:=hb.ne h.prs
 have HW0 : Hid (Sta w0 (w.alloc (.cells #[.int .i64 0,.string ⟨#[]⟩,.string ⟨#[]⟩,.slice none 0 0,.slice none 0 0,.bool false,.int .i64 0,.int .i64 0,.int .i64 0] 42)) r l lv q o dv mv):=h.alloc _
 have hB0 : BlkS (w.alloc (.cells #[.int .i64 0,.string ⟨#[]⟩,.string ⟨#[]⟩,.slice none 0 0,.slice none 0 0,.bool false,.int .i64 0,.int .i64 0,.int .i64 0] 42)) w.heap.size (st0 0 0) (.slice none 0 0) (.slice none 0 0):=heap_alloc_new w _
 have hk0 : Keep r w (w.alloc (.cells #[.int .i64 0,.string ⟨#[]⟩,.string ⟨#[]⟩,.slice none 0 0,.slice none 0 0,.bool false,.int .i64 0,.int .i64 0,.int .i64 0] 42)):=(Keep.refl r w).alloc _
 have hrs : w.heap.size ≠ r:=by have:=h.prs.lt; omega
 have hbz:=hb.lt
 have HLE:=Lib.hid (h.bel.size)
 clear x h
 go_enter Tryz.func219,Tryz.ntmps219
 go_wp2_with fail
 generalize (w.alloc (.cells #[.int .i64 0,.string ⟨#[]⟩,.string ⟨#[]⟩,.slice none 0 0,.slice none 0 0,.bool false,.int .i64 0,.int .i64 0,.int .i64 0] 42)) = w1 at HW0 hB0 hk0 ⊢
 have hzs : w.heap.size < w1.heap.size:=hB0.lt
 have hb1 : b < w1.heap.size:=by omega
 have c0 : w1.cell? ⟨b,0,none⟩ = some (.pointer (some ⟨r,0,none⟩)):=(hk0.cell (p:=⟨b,0,none⟩) hbz hbr).trans hb.cell
 obtain ⟨⟨b0,b1,b2,b3,b4,b5,b6,b7,b8⟩,bf⟩:=hB0.facts
 simp only [st0] at b0 b1 b2 b3 b4 b5 b6 b7 b8
 have f0:=bf 0
 have f1:=bf 1
 have f2:=bf 2
 have f3:=bf 3
 have f4:=bf 4
 have f5:=bf 5
 have f6:=bf 6
 have f7:=bf 7
 have f8:=bf 8
 have HB0:=Lib.hid hB0
 have HK0:=Lib.hid hk0
 have hkk0 : Keep r w1 w1:=Keep.refl _ _
 have hbs : b ≠ w.heap.size:=by omega
 have HBS:=Lib.hid hbs
 have HRS:=Lib.hid hrs
 have KP0 : Hid (Kp w1 w1):=⟨fun _ _ h => h,fun _ _ _ _ h => h⟩
 clear hb hB0 hk0 bf b0 b1 b2 b3 b4 b5 b6 b7 b8 f0 f1 f2 f3 f4 f5 f6 f7 f8
 go_region_held3 (fun w' => w'.cell? ⟨b,0,none⟩ = some (.pointer (some ⟨r,0,none⟩)))
  (repeat (with_reducible first | exact c0 | assumption | refine cell_drew ?_ | refine cell_alloc ?_ _ | refine cell_set ?_ HBS.out _))
  ((first
   | ((with_reducible refine Calls.mono (C3.out _ ?_ _ ?_) ?_); (repeat (with_reducible first | exact HW2.out | refine Sta.drew ?_ | refine Sta.alloc ?_ _)); (repeat (with_reducible first | exact StrR.new _ _ | exact StrR.newA _ _ _ | exact StrR.newB _ _ _ _ | exact StrR.newC _ _ _ _ | refine KP2.out.str _ _ ?_ | refine KP1.out.str _ _ ?_ | refine StrR.drew ?_ | refine StrR.alloc ?_ _)); rintro e W3 ⟨U3,rfl,hy3,hs3,hk3,hp3⟩; obtain ⟨ad3,cp3,rfl,hz3⟩:=own_shape hy3; clear hz3; have HY3 : Hid (W3.ownsRow w.heap.size 46 5 (.slice ad3 V3.length cp3) V3.length (rowN V3)):=own_mono hy3 (by have:=HK0.out.size; have:=hkk2.size; simp; omega); clear hy3; have HW3:=Lib.hid hs3; have hkk3 : Keep r w1 W3:=Keep.trans (by repeat (with_reducible first | exact (Keep.refl _ _) | exact hkk2 | refine Keep.drew ?_ | refine Keep.alloc ?_ _)) hk3; have hc3 : W3.cell? ⟨b,0,none⟩ = some (.pointer (some ⟨r,0,none⟩)):=(hkk3.cell (p:=⟨b,0,none⟩) hb1 hbr).trans c0; have KP3:=Lib.hid hp3; clear hs3 hk3 hp3; obtain ⟨⟨b0,b1,b2,b3,b4,b5,b6,b7,b8⟩,bf⟩:=(HB0.out.keep hkk3 hrs).facts; simp only [st0] at b0 b1 b2 b3 b4 b5 b6 b7 b8; have f0:=bf 0; have f1:=bf 1; have f2:=bf 2; have f3:=bf 3; have f4:=bf 4; have f5:=bf 5; have f6:=bf 6; have f7:=bf 7; have f8:=bf 8; have HKK:=Lib.hid hkk3; have HBS:=Lib.hid hbs; clear bf hkk3 hkk0 c0 hb1 hbz hzs hrs hbr)
   | ((with_reducible refine Calls.mono (C2.out _ ?_ _ ?_) ?_); (repeat (with_reducible first | exact HW1.out | refine Sta.drew ?_ | refine Sta.alloc ?_ _)); (repeat (with_reducible first | exact StrR.new _ _ | exact StrR.newA _ _ _ | exact StrR.newB _ _ _ _ | exact StrR.newC _ _ _ _ | refine KP1.out.str _ _ ?_ | refine StrR.drew ?_ | refine StrR.alloc ?_ _)); rintro e W2 ⟨rfl,hs2,hk2,hp2⟩; have HW2:=Lib.hid hs2; have hkk2 : Keep r w1 W2:=Keep.trans (by repeat (with_reducible first | exact (Keep.refl _ _) | exact hkk1 | refine Keep.drew ?_ | refine Keep.alloc ?_ _)) hk2; have hc2 : W2.cell? ⟨b,0,none⟩ = some (.pointer (some ⟨r,0,none⟩)):=(hkk2.cell (p:=⟨b,0,none⟩) hb1 hbr).trans c0; have KP2:=Lib.hid hp2; clear hs2 hk2 hp2)
   | ((with_reducible refine Calls.mono (C1.out _ ?_) ?_); (repeat (with_reducible first | exact HW0.out | refine Sta.drew ?_ | refine Sta.alloc ?_ _)); rintro e W1 ⟨rfl,hs1,hk1,hp1⟩; have HW1:=Lib.hid hs1; have hkk1 : Keep r w1 W1:=Keep.trans (by repeat (with_reducible first | exact (Keep.refl _ _) | exact hkk0 | refine Keep.drew ?_ | refine Keep.alloc ?_ _)) hk1; have hc1 : W1.cell? ⟨b,0,none⟩ = some (.pointer (some ⟨r,0,none⟩)):=(hkk1.cell (p:=⟨b,0,none⟩) hb1 hbr).trans c0; have KP1:=Lib.hid hp1; clear hs1 hk1 hp1)))
 all_goals
  have hend:=clo_end (HB0.out.keep HKK.out HRS.out) (HK0.out.trans HKK.out) HRS.out HW3.out HLE.out (St.mk 7 V1 V2 V3 [] false 0 0 0) (.slice ad3 V3.length cp3) (.slice none 0 0) (by repeat (with_reducible first | exact HY3.out | refine row_alloc ?_ _ | refine row_drew ?_)) (World.ownsRow_nil _ _ _ _)
  go_wp2
  exact bodyPost_ret (v:=.agg (St.cells (St.mk 7 V1 V2 V3 [] false 0 0 0) (.slice ad3 V3.length cp3) (.slice none 0 0))) (results_st Tryz.results219 _ _ _ _ _ _ rfl hend.1) rfl hend.2
end Go.Proofs.YtcghccjnadagcaaGreatDoor
