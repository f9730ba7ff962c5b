/- What named does at a name of a thread's. -/
import Derived.Test.YtifbhlgingaahaaDoorRc
namespace Go.Proofs.YtifbhlgingaahaaDoor
open Go.RowKit

set_option maxHeartbeats 16000000 in
theorem named_of (l : List Tok) (b : Nat) (lv : Value) (i d : Nat) (w : World) (hp : Pst w b lv i d 0 0) (hx : PCtx l b lv w) (hlt : i + 3 ≤ l.length) (hdot : sgAt l (i + 1) [46] = true) (hnm : nmAt l (i + 2) = true) :
    Calls Tryd.prog 79 #[.pointer (some ⟨b, 0, none⟩)] w (PPost l lv b d i (namedR l i) w) := by
  have hr : namedR l i = .ok (.leaf ⟨4, 0, txt l (i + 2), txt l i, plc l i⟩) (i + 3) := by unfold namedR; rw [hdot, hnm]; rfl
  rw [hr]; clear hr
  have hb := hp.lt
  have hn := hx.hn
  have HP := Lib.hid hp
  have HX := Lib.hid hx
  have hrb : w.heap.size ≠ b := by omega
  have HDOT := Lib.hid hdot
  have HNM := Lib.hid hnm
  obtain ⟨⟨c0, c1, c2, c3, c4⟩, f1, f2, f3, f4⟩ := hp.facts
  clear hp hx hdot hnm
  go_enter Tryd.func79, Tryd.ntmps79
  go_wp2_with fail
  have hK1 : Keep b w (w.alloc (.cells #[.slice none 0 0, .int .i64 0, .int .i64 0] 48)) := (Keep.refl b w).alloc _
  have hP1 : Pst (w.alloc (.cells #[.slice none 0 0, .int .i64 0, .int .i64 0] 48)) b lv i d 0 0 := HP.out.alloc _
  have hR1 : Blk3 (w.alloc (.cells #[.slice none 0 0, .int .i64 0, .int .i64 0] 48)) w.heap.size (.slice none 0 0) (.int .i64 0) (.int .i64 0) := heap_alloc_new w _
  generalize (w.alloc (.cells #[.slice none 0 0, .int .i64 0, .int .i64 0] 48)) = w1 at hK1 hP1 hR1 ⊢
  refine ((HX.out.keep hK1).token hP1).mono ?_
  rintro e w2 ⟨rfl, hb2⟩
  have HK2 := Lib.hid (hK1.below hb2)
  have HP2 := Lib.hid (hP1.below hb2)
  have HR2 := Lib.hid (hR1.below hb2)
  obtain ⟨tk, htk⟩ : ∃ t, t = (tokO l i).1 := ⟨_, rfl⟩
  obtain ⟨tn, htn⟩ : ∃ t, t = (tokO l i).2.2.1 := ⟨_, rfl⟩
  obtain ⟨tx, htx⟩ : ∃ t, t = txt l i := ⟨_, rfl⟩
  obtain ⟨tp, htp⟩ : ∃ t, t = plc l i := ⟨_, rfl⟩
  rw [← htk, ← htn, ← htx, ← htp]
  have hb2' : b < w2.heap.size := HP2.out.lt
  have HTX := Lib.hid htx
  have HTP := Lib.hid htp
  clear hK1 hP1 hR1 hb2 c0 c1 c2 c3 c4 f1 f2 f3 f4 htk htn htx htp
  obtain ⟨⟨c0, c1, c2, c3, c4⟩, f1, f2, f3, f4⟩ := HP2.out.facts
  go_wp2_with fail
  have HK3 := Lib.hid ((HK2.out.setCell 1 (.int .i64 ((i : Int) + 1))).alloc (.cells #[.int .i64 tk, .string tx, .int .i64 tn, .int .i64 tp] 51))
  have HP3 : Hid (Pst ((w2.setCell ⟨b, 1, none⟩ (.int .i64 ((i : Int) + 1))).alloc (.cells #[.int .i64 tk, .string tx, .int .i64 tn, .int .i64 tp] 51)) b lv ((i + 1 : Nat) : Int) d 0 0) := ((HP2.out.set.1 ((i + 1 : Nat) : Int)).alloc _)
  have HR3 := Lib.hid ((HR2.out.other b 1 hrb (.int .i64 ((i : Int) + 1))).alloc (.cells #[.int .i64 tk, .string tx, .int .i64 tn, .int .i64 tp] 51))
  have HT3 : Hid (Blk4 ((w2.setCell ⟨b, 1, none⟩ (.int .i64 ((i : Int) + 1))).alloc (.cells #[.int .i64 tk, .string tx, .int .i64 tn, .int .i64 tp] 51)) w2.heap.size (.int .i64 tk) (.string tx) (.int .i64 tn) (.int .i64 tp)) := blk_new_set w2 _ _ _
  have hgr : w.heap.size < w2.heap.size := HR2.out.lt
  clear HP2 HR2 HK2 c0 c1 c2 c3 c4 f1 f2 f3 f4
  generalize ((w2.setCell ⟨b, 1, none⟩ (.int .i64 ((i : Int) + 1))).alloc (.cells #[.int .i64 tk, .string tx, .int .i64 tn, .int .i64 tp] 51)) = w3 at HK3 HP3 HR3 HT3 ⊢
  obtain ⟨g, hg⟩ : ∃ g, g = w2.heap.size := ⟨_, rfl⟩
  rw [← hg] at hb2' HT3 hgr ⊢
  clear hg
  have hgb : g ≠ b := by omega
  refine ((HX.out.keep HK3.out).sign HP3.out _ true HDOT.out).mono ?_
  rintro e w4 ⟨rfl, hb4⟩
  have HK4 := Lib.hid (HK3.out.below hb4)
  have HP4 := Lib.hid (HP3.out.below hb4)
  have HR4 := Lib.hid (HR3.out.below hb4)
  have HT4 := Lib.hid (HT3.out.below hb4 HT3.out.lt)
  have hb4' : b < w4.heap.size := HP4.out.lt
  obtain ⟨⟨c0, c1, c2, c3, c4⟩, f1, f2, f3, f4⟩ := HP4.out.facts
  clear HK3 HP3 HR3 HT3 hb4
  have e1 : (((i + 1 : Nat) : Int)) = (i : Int) + 1 := Int.natCast_add _ _
  rw [e1] at c1
  clear e1
  go_wp2_with fail
  have e2 : (i : Int) + 1 + 1 = ((i + 2 : Nat) : Int) := by omega
  rw [e2]
  clear e2
  have HK5 := Lib.hid (HK4.out.setCell 1 (.int .i64 ((i + 2 : Nat) : Int)))
  have HP5 := Lib.hid (HP4.out.set.1 ((i + 2 : Nat) : Int))
  have HR5 := Lib.hid (HR4.out.other b 1 hrb (.int .i64 ((i + 2 : Nat) : Int)))
  have HT5 : Hid (Blk4 (w4.setCell ⟨b, 1, none⟩ (.int .i64 ((i + 2 : Nat) : Int))) g (.int .i64 tk) (.string tx) (.int .i64 tn) (.int .i64 tp)) := by
    show _ = _
    rw [Below.heap_setCell _ _ _ _ (by exact hgb)]; exact HT4.out
  clear HK4 HP4 HR4 HT4 c0 c1 c2 c3 c4 f1 f2 f3 f4 hb4'
  generalize w4.setCell ⟨b, 1, none⟩ (.int .i64 ((i + 2 : Nat) : Int)) = w5 at HK5 HP5 HR5 HT5 ⊢
  refine ((HX.out.keep HK5.out).name HP5.out true HNM.out).mono ?_
  rintro e w6 ⟨rfl, hb6⟩
  have HK6 := Lib.hid (HK5.out.below hb6)
  have HP6 := Lib.hid (HP5.out.below hb6)
  have HR6 := Lib.hid (HR5.out.below hb6)
  have HT6 := Lib.hid (HT5.out.below hb6 HT5.out.lt)
  clear HK5 HP5 HR5 HT5 hb6
  have HTOK := fun w' (hk : Keep b w w') (hp : Pst w' b lv ((i + 2 : Nat) : Int) d 0 0) => (HX.out.keep hk).token hp
  obtain ⟨yk, hyk⟩ : ∃ t, t = (tokO l (i + 2)).1 := ⟨_, rfl⟩
  obtain ⟨yn, hyn⟩ : ∃ t, t = (tokO l (i + 2)).2.2.1 := ⟨_, rfl⟩
  obtain ⟨yx, hyx⟩ : ∃ t, t = txt l (i + 2) := ⟨_, rfl⟩
  obtain ⟨yp, hyp⟩ : ∃ t, t = plc l (i + 2) := ⟨_, rfl⟩
  rw [← hyk, ← hyn, ← hyx, ← hyp] at HTOK
  have HYX := Lib.hid hyx
  clear hyk hyn hyx hyp
  obtain ⟨⟨t0, t1, t2, t3⟩, tf0, tf1, tf2, tf3⟩ := HT6.out.facts
  go_wp2_with fail
  have HTK : ∀ w', Keep b w w' → Pst w' b lv ((i + 2 : Nat) : Int) d 0 0 → Calls Tryd.prog 66 #[.pointer (some ⟨b, 0, none⟩)] w' fun e w'' => e = .returned (.agg #[.int .i64 yk, .string yx, .int .i64 yn, .int .i64 yp]) ∧ Below w'.heap.size w' w'' := HTOK
  have HTK2 := Lib.hid HTK
  clear HTOK HTK
  have hgl6 : g < w6.heap.size := HT6.out.lt
  have hfd : ∀ w : World, (Instr.field 51 (.agg #[.int .i64 yk, .string yx, .int .i64 yn, .int .i64 yp]) 1).run Tryd.prog w = .ok (.string yx) w := fun _ => by kernel_rfl
  go_cut [4] (fun s4 wx => ∃ gB : Nat, s4 = .pointer (some ⟨gB, 0, none⟩) ∧ Blk5 wx gB ⟨4, 0, yx, tx, tp⟩ ∧ gB ≠ b ∧ Keep b w wx ∧ Pst wx b lv ((i + 2 : Nat) : Int) d 0 0 ∧ Blk3 wx w.heap.size (.slice none 0 0) (.int .i64 0) (.int .i64 0))
  case first =>
    have hgb6 : w6.heap.size ≠ b := by have := HP6.out.lt; omega
    go_region_with (go_at_call 66; refine (HTK2.out _ (by first | exact HK6.out.drewN 1 | exact (HK6.out.alloc _).drewN 1 | exact (HK6.out.drewN 1).alloc _) (by first | exact HP6.out | exact HP6.out.alloc _ | exact (HP6.out.drewN 1).alloc _)).mono ?_; rintro e w7 ⟨rfl, hb7⟩; have hb67 : Below w6.heap.size w6 w7 := (by first | exact ((Below.refl _ w6).drew).trans hb7 | exact (((Below.refl _ w6).alloc (Nat.le_refl _) _).drew).trans (hb7.mono (by simp)) | exact (((Below.refl _ w6).drew).alloc (Nat.le_refl _) _).trans (hb7.mono (by simp))); have hgl7 : g < w7.heap.size := Nat.lt_of_lt_of_le hgl6 hb67.size; have t1' := (hb67.cell (p := ⟨g, 1, none⟩) hgl6).trans t1; have t3' := (hb67.cell (p := ⟨g, 3, none⟩) hgl6).trans t3; try (have hnb : Blk5 w7 w6.heap.size ⟨0, 0, ⟨#[]⟩, ⟨#[]⟩, 0⟩ := (hb7.block w6.heap.size (by simp)).trans (heap_alloc_new w6 _); obtain ⟨⟨n0, n1, n2, n3, n4⟩, nf0, nf1, nf2, nf3, nf4⟩ := hnb.facts))
    all_goals
      go_wp2_with fail
      go_meet
      first
        | exact fin5 hnb hgb6 (by have := HR6.out.lt; omega) (HK6.out.below hb67) (HP6.out.below hb67) (HR6.out.below hb67) HK6.out.size _ _ _ _ _
        | exact ⟨w7.heap.size, rfl, heap_alloc_new w7 _, by have := (HP6.out.below hb67).lt; omega, (HK6.out.below hb67).alloc _, (HP6.out.below hb67).alloc _, (HR6.out.below hb67).alloc _⟩
  case rest =>
    obtain ⟨gB, rfl, hB, hgB, hKc, hPc, hRc⟩ := hcut
    have HBc := Lib.hid hB
    have HKc := Lib.hid hKc
    have HPc := Lib.hid hPc
    have HRc := Lib.hid hRc
    obtain ⟨⟨n0, n1, n2, n3, n4⟩, nf0, nf1, nf2, nf3, nf4⟩ := hB.facts
    obtain ⟨⟨c0, c1, c2, c3, c4⟩, f1, f2, f3, f4⟩ := hPc.facts
    have hbc : b < wc.heap.size := hPc.lt
    have hgc : gB < wc.heap.size := hB.lt
    clear hB hKc hPc hRc
    simp only [] at n0 n1 n2 n3 n4
    have e1 : (((i + 2 : Nat) : Int)) = (i : Int) + 2 := Int.natCast_add _ _
    rw [e1] at c1
    clear e1
    have HJ := Lib.hid (join0 ⟨4, 0, yx, tx, tp⟩ (b + 1) (wc.setCell ⟨b, 1, none⟩ (.int .i64 ((i : Int) + 3))) (by rw [size_set]; omega))
    simp only [nodeV] at HJ
    go_wp2_with fail
    refine HJ.out.mono ?_
    rintro e w8 ⟨⟨pad, pcap, ps, pd, pxs⟩, rfl, ho7, hl1, hl2, hs7, hd7, hx7, hb8⟩
    have HIN : Hid (PtIn w8 (b + 1) ⟨pad, pcap, ps, pd, pxs⟩ (i + 3 - i)) := ⟨ho7, hl1, hl2, by simp only [] at hs7 ⊢; omega, by simp only [] at hd7 ⊢; omega, by simp only [] at hd7 hs7 ⊢; omega⟩
    have HRES : Hid (ResOK (.ok (.leaf ⟨4, 0, yx, tx, tp⟩) (i + 3)) ⟨pad, pcap, ps, pd, pxs⟩ (i + 3) 0 0) := ResOK_leaf _ _ _ hs7 hd7 hx7
    have HK8 := Lib.hid ((HKc.out.setCell 1 (.int .i64 ((i : Int) + 3))).below hb8)
    have HP8 : Hid (Pst w8 b lv ((i + 3 : Nat) : Int) d 0 0) := (HPc.out.set.1 ((i + 3 : Nat) : Int)).below hb8
    have HR8 := Lib.hid ((HRc.out.other b 1 hrb (.int .i64 ((i : Int) + 3))).below hb8)
    obtain ⟨⟨r0, r1, r2⟩, rf0, rf1, rf2⟩ := HR8.out.facts
    clear ho7 hl1 hl2 hs7 hd7 hx7 hb8 HKc HPc HRc HBc HJ n0 n1 n2 n3 n4 nf0 nf1 nf2 nf3 nf4 c0 c1 c2 c3 c4 f1 f2 f3 f4
    simp only [PtR.nv]
    obtain ⟨m, hm⟩ : ∃ m, m = pxs.length := ⟨_, rfl⟩
    rw [← hm]
    have HM := Lib.hid hm
    clear hm
    go_wp2_with fail
    obtain ⟨z1, z2, z3, z4⟩ := fin_part HP8.out HR8.out hrb HIN.out HK8.out (Nat.le_refl _) (.slice pad m pcap) (.int .i64 ps) (.int .i64 pd)
    refine bodyPost_ret (v := .agg #[.slice pad m pcap, .int .i64 ps, .int .i64 pd]) (results_part Tryd.results79 _ _ w.heap.size _ _ _ rfl z4) rfl ?_
    rw [HTX.out, HTP.out, HYX.out] at HRES
    exact ⟨⟨pad, pcap, ps, pd, pxs⟩, i + 3, 0, 0, by rw [HM.out]; rfl, z1, z2.more (Nat.le_add_right _ _), by omega, by omega, z3, HRES.out, fun _ => rfl⟩

end Go.Proofs.YtifbhlgingaahaaDoor
