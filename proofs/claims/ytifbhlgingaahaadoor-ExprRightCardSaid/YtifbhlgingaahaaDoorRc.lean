/- What named does. -/
import Derived.Test.YtifbhlgingaahaaDoorRb
import Derived.Deep.DeepCutAuto
namespace Go.Proofs.YtifbhlgingaahaaDoor
open Go.RowKit

theorem ResOK_leaf (x : Nd) (p : PtR) (j : Nat) (h1 : p.s = 1) (h2 : p.d = 0) (h3 : p.s ≤ 200 ∧ p.d ≤ 30 → p.xs = x :: []) : ResOK (.ok (.leaf x) j) p j 0 0 :=
  ⟨rfl, rfl, rfl, by rw [h1]; rfl, by rw [h2]; rfl, h3⟩

theorem tokv_parts (l : List Tok) (i : Nat) : tokV l i = .agg #[.int .i64 (tokO l i).1, .string (txt l i), .int .i64 (tokO l i).2.2.1, .int .i64 (plc l i)] := tokV_eq l i

/-- What the calls that named makes do, from whatever world the parser stands in. -/
structure PCtx (l : List Tok) (b : Nat) (lv : Value) (w : World) : Prop where
  ht : TokS w b lv l
  hs : Sgn w
  h0 : 0 < b
  hn : l.length ≤ 100000
  ok : TokOK l
theorem PCtx.keep {l : List Tok} {b : Nat} {lv : Value} {w w' : World} (h : PCtx l b lv w) (hk : Keep b w w') : PCtx l b lv w' := ⟨h.ht.keep hk, h.hs.keep hk h.h0, h.h0, h.hn, h.ok⟩
theorem PCtx.token {l : List Tok} {b : Nat} {lv : Value} {w : World} (h : PCtx l b lv w) {i : Nat} {op er pl : Int} (hp : Pst w b lv i op er pl) :
    Calls Tryd.prog 66 #[.pointer (some ⟨b, 0, none⟩)] w fun e w' => e = .returned (.agg #[.int .i64 (tokO l i).1, .string (txt l i), .int .i64 (tokO l i).2.2.1, .int .i64 (plc l i)]) ∧ Below w.heap.size w w' := by
  rw [← tokv_parts]; exact token_any l b lv i op er pl w hp h.ht h.hn
theorem PCtx.sign {l : List Tok} {b : Nat} {lv : Value} {w : World} (h : PCtx l b lv w) {i : Nat} {op er pl : Int} (hp : Pst w b lv i op er pl) (x : ByteArray) (r : Bool) (hr : sgAt l i x.data.toList = r) :
    Calls Tryd.prog 60 #[.pointer (some ⟨b, 0, none⟩), .string x] w fun e w' => e = .returned (.bool r) ∧ Below w.heap.size w w' := sign_is l b lv i op er pl x w hp h.ht h.hn r hr
theorem PCtx.name {l : List Tok} {b : Nat} {lv : Value} {w : World} (h : PCtx l b lv w) {i : Nat} {op er pl : Int} (hp : Pst w b lv i op er pl) (r : Bool) (hr : nmAt l i = r) :
    Calls Tryd.prog 78 #[.pointer (some ⟨b, 0, none⟩)] w fun e w' => e = .returned (.bool r) ∧ Below w.heap.size w w' := name_is l b lv i op er pl w hp h.ht h.hn (h.ok i).2.1 r hr
theorem PCtx.refuse {l : List Tok} {b : Nat} {lv : Value} {w : World} (h : PCtx l b lv w) {i : Nat} {op er pl : Int} (hp : Pst w b lv i op er pl) (hz : er = 0 → pl = 0) :
    Calls Tryd.prog 77 #[.pointer (some ⟨b, 0, none⟩)] w (FailTo b lv i op (fst0 er (refK l i).1) (snd0 er (refK l i).2 pl) w) := refuse_any l b lv i op er pl w hp hz h.ht h.hn h.ok

theorem size_set (w : World) (a : Addr) (u : Value) : (w.setCell a u).heap.size = w.heap.size := by simp [World.setCell]
theorem blk_new_set (w : World) (a : Addr) (u : Value) (o : Obj) : ((w.setCell a u).alloc o).heap[w.heap.size]? = some o := by
  have h := heap_alloc_new (w.setCell a u) o
  rwa [size_set] at h

theorem Blk5.set5 {w : World} {r : Nat} {x : Nd} (h : Blk5 w r x) (a0 a1 : Int) (a2 a3 : ByteArray) (a4 : Int) :
    Blk5 (((((w.setCell ⟨r, 0, none⟩ (.int .i64 a0)).setCell ⟨r, 1, none⟩ (.int .i64 a1)).setCell ⟨r, 2, none⟩ (.string a2)).setCell ⟨r, 3, none⟩ (.string a3)).setCell ⟨r, 4, none⟩ (.int .i64 a4)) r ⟨a0, a1, a2, a3, a4⟩ := by
  unfold Blk5 at h
  have hlt := (Array.getElem?_eq_some_iff.1 h).1
  simp [Blk5, World.setCell, Array.getElem?_modify, h]
theorem fin5 {w W : World} {b r rr : Nat} {lv x0 x1 x2 : Value} {nx op er pl : Int} {x : Nd} (h : Blk5 W r x) (hrb : r ≠ b) (hr : rr ≠ r) (hK : Keep b w W) (hP : Pst W b lv nx op er pl) (hR : Blk3 W rr x0 x1 x2) (hwr : w.heap.size ≤ r) (a0 a1 : Int) (a2 a3 : ByteArray) (a4 : Int) :
    ∃ gB : Nat, Value.pointer (some ⟨r, 0, none⟩) = .pointer (some ⟨gB, 0, none⟩) ∧ Blk5 (((((W.setCell ⟨r, 0, none⟩ (.int .i64 a0)).setCell ⟨r, 1, none⟩ (.int .i64 a1)).setCell ⟨r, 2, none⟩ (.string a2)).setCell ⟨r, 3, none⟩ (.string a3)).setCell ⟨r, 4, none⟩ (.int .i64 a4)) gB ⟨a0, a1, a2, a3, a4⟩ ∧ gB ≠ b ∧
      Keep b w (((((W.setCell ⟨r, 0, none⟩ (.int .i64 a0)).setCell ⟨r, 1, none⟩ (.int .i64 a1)).setCell ⟨r, 2, none⟩ (.string a2)).setCell ⟨r, 3, none⟩ (.string a3)).setCell ⟨r, 4, none⟩ (.int .i64 a4)) ∧
      Pst (((((W.setCell ⟨r, 0, none⟩ (.int .i64 a0)).setCell ⟨r, 1, none⟩ (.int .i64 a1)).setCell ⟨r, 2, none⟩ (.string a2)).setCell ⟨r, 3, none⟩ (.string a3)).setCell ⟨r, 4, none⟩ (.int .i64 a4)) b lv nx op er pl ∧
      Blk3 (((((W.setCell ⟨r, 0, none⟩ (.int .i64 a0)).setCell ⟨r, 1, none⟩ (.int .i64 a1)).setCell ⟨r, 2, none⟩ (.string a2)).setCell ⟨r, 3, none⟩ (.string a3)).setCell ⟨r, 4, none⟩ (.int .i64 a4)) rr x0 x1 x2 :=
  ⟨r, rfl, h.set5 a0 a1 a2 a3 a4, hrb, ((((hK.setNew hwr _).setNew hwr _).setNew hwr _).setNew hwr _).setNew hwr _,
    ((((hP.other _ _ hrb _).other _ _ hrb _).other _ _ hrb _).other _ _ hrb _).other _ _ hrb _, ((((hR.other _ _ hr _).other _ _ hr _).other _ _ hr _).other _ _ hr _).other _ _ hr _⟩

theorem refK_pos (l : List Tok) (i : Nat) : (refK l i).1 ≠ 0 := by unfold refK; split <;> simp

set_option maxHeartbeats 2000000 in
theorem named_reg (l : List Tok) (b : Nat) (lv : Value) (i d : Nat) (w : World) (hp : Pst w b lv i d 0 0) (hx : PCtx l b lv w) (hlt : i < l.length) (hdot : sgAt l (i + 1) [46] = false) :
    Calls Tryd.prog 79 #[.pointer (some ⟨b, 0, none⟩)] w (PPost l lv b d i (namedR l i) w) := by
  have hr : namedR l i = .ok (.leaf ⟨2, 0, txt l i, ⟨#[]⟩, plc l i⟩) (i + 1) := by unfold namedR; rw [hdot]; rfl
  rw [hr]; clear hr
  have hb := hp.lt
  have hn := hx.hn
  have HP := Lib.hid hp
  have HX := Lib.hid hx
  have hrb : w.heap.size ≠ b := by omega
  have HDOT := Lib.hid hdot
  obtain ⟨⟨c0, c1, c2, c3, c4⟩, f1, f2, f3, f4⟩ := hp.facts
  clear hp hx hdot
  go_enter Tryd.func79, Tryd.ntmps79
  go_wp2_with fail
  have hK1 : Keep b w (w.alloc (.cells #[.slice none 0 0, .int .i64 0, .int .i64 0] 48)) := (Keep.refl b w).alloc _
  have hP1 : Pst (w.alloc (.cells #[.slice none 0 0, .int .i64 0, .int .i64 0] 48)) b lv i d 0 0 := HP.out.alloc _
  have hR1 : Blk3 (w.alloc (.cells #[.slice none 0 0, .int .i64 0, .int .i64 0] 48)) w.heap.size (.slice none 0 0) (.int .i64 0) (.int .i64 0) := heap_alloc_new w _
  generalize (w.alloc (.cells #[.slice none 0 0, .int .i64 0, .int .i64 0] 48)) = w1 at hK1 hP1 hR1 ⊢
  refine ((HX.out.keep hK1).token hP1).mono ?_
  rintro e w2 ⟨rfl, hb2⟩
  have HK2 := Lib.hid (hK1.below hb2)
  have HP2 := Lib.hid (hP1.below hb2)
  have HR2 := Lib.hid (hR1.below hb2)
  obtain ⟨tk, htk⟩ : ∃ t, t = (tokO l i).1 := ⟨_, rfl⟩
  obtain ⟨tn, htn⟩ : ∃ t, t = (tokO l i).2.2.1 := ⟨_, rfl⟩
  obtain ⟨tx, htx⟩ : ∃ t, t = txt l i := ⟨_, rfl⟩
  obtain ⟨tp, htp⟩ : ∃ t, t = plc l i := ⟨_, rfl⟩
  rw [← htk, ← htn, ← htx, ← htp]
  have hb2' : b < w2.heap.size := HP2.out.lt
  have HTX := Lib.hid htx
  have HTP := Lib.hid htp
  clear hK1 hP1 hR1 hb2 c0 c1 c2 c3 c4 f1 f2 f3 f4 htk htn htx htp
  obtain ⟨⟨c0, c1, c2, c3, c4⟩, f1, f2, f3, f4⟩ := HP2.out.facts
  go_wp2_with fail
  have HK3 := Lib.hid ((HK2.out.setCell 1 (.int .i64 ((i : Int) + 1))).alloc (.cells #[.int .i64 tk, .string tx, .int .i64 tn, .int .i64 tp] 51))
  have HP3 : Hid (Pst ((w2.setCell ⟨b, 1, none⟩ (.int .i64 ((i : Int) + 1))).alloc (.cells #[.int .i64 tk, .string tx, .int .i64 tn, .int .i64 tp] 51)) b lv ((i + 1 : Nat) : Int) d 0 0) := ((HP2.out.set.1 ((i + 1 : Nat) : Int)).alloc _)
  have HR3 := Lib.hid ((HR2.out.other b 1 hrb (.int .i64 ((i : Int) + 1))).alloc (.cells #[.int .i64 tk, .string tx, .int .i64 tn, .int .i64 tp] 51))
  have HT3 : Hid (Blk4 ((w2.setCell ⟨b, 1, none⟩ (.int .i64 ((i : Int) + 1))).alloc (.cells #[.int .i64 tk, .string tx, .int .i64 tn, .int .i64 tp] 51)) w2.heap.size (.int .i64 tk) (.string tx) (.int .i64 tn) (.int .i64 tp)) := blk_new_set w2 _ _ _
  have hgr : w.heap.size < w2.heap.size := HR2.out.lt
  clear HP2 HR2 HK2 c0 c1 c2 c3 c4 f1 f2 f3 f4
  generalize ((w2.setCell ⟨b, 1, none⟩ (.int .i64 ((i : Int) + 1))).alloc (.cells #[.int .i64 tk, .string tx, .int .i64 tn, .int .i64 tp] 51)) = w3 at HK3 HP3 HR3 HT3 ⊢
  obtain ⟨g, hg⟩ : ∃ g, g = w2.heap.size := ⟨_, rfl⟩
  rw [← hg] at hb2' HT3 hgr ⊢
  clear hg
  have hgb : g ≠ b := by omega
  refine ((HX.out.keep HK3.out).sign HP3.out _ false HDOT.out).mono ?_
  rintro e w4 ⟨rfl, hb4⟩
  have HK4 := Lib.hid (HK3.out.below hb4)
  have HP4 := Lib.hid (HP3.out.below hb4)
  have HR4 := Lib.hid (HR3.out.below hb4)
  obtain ⟨⟨c0, c1, c2, c3⟩, _⟩ := (HT3.out.below hb4 HT3.out.lt).facts
  clear HK3 HP3 HR3 HT3 hb4
  have HJ := Lib.hid (join0 ⟨2, 0, tx, ⟨#[]⟩, tp⟩ (b + 1) w4 HP4.out.lt)
  go_wp2_with fail
  refine HJ.out.mono ?_
  rintro e w5 ⟨⟨pad, pcap, ps, pd, pxs⟩, rfl, ho5, hl1, hl2, hs5, hd5, hx5, hb5⟩
  have HIN : Hid (PtIn w5 (b + 1) ⟨pad, pcap, ps, pd, pxs⟩ (i + 1 - i)) := ⟨ho5, hl1, hl2, by simp only [] at hs5 ⊢; omega, by simp only [] at hd5 ⊢; omega, by simp only [] at hd5 hs5 ⊢; omega⟩
  have HRES : Hid (ResOK (.ok (.leaf ⟨2, 0, tx, ⟨#[]⟩, tp⟩) (i + 1)) ⟨pad, pcap, ps, pd, pxs⟩ (i + 1) 0 0) := ResOK_leaf _ _ _ hs5 hd5 hx5
  have HK5 := Lib.hid (HK4.out.below hb5)
  have HP5 := Lib.hid (HP4.out.below hb5)
  have HR5 := Lib.hid (HR4.out.below hb5)
  obtain ⟨⟨r0, r1, r2⟩, rf0, rf1, rf2⟩ := HR5.out.facts
  clear ho5 hl1 hl2 hs5 hd5 hx5 hb5 HK4 HP4 HR4 HJ c0 c1 c2 c3
  simp only [PtR.nv]
  obtain ⟨m, hm⟩ : ∃ m, m = pxs.length := ⟨_, rfl⟩
  rw [← hm]
  have HM := Lib.hid hm
  clear hm
  go_wp2_with fail
  obtain ⟨z1, z2, z3, z4⟩ := fin_part HP5.out HR5.out hrb HIN.out HK5.out (Nat.le_refl _) (.slice pad m pcap) (.int .i64 ps) (.int .i64 pd)
  refine bodyPost_ret (v := .agg #[.slice pad m pcap, .int .i64 ps, .int .i64 pd]) (results_part Tryd.results79 _ _ w.heap.size _ _ _ rfl z4) rfl ?_
  rw [HTX.out, HTP.out] at HRES
  exact ⟨⟨pad, pcap, ps, pd, pxs⟩, i + 1, 0, 0, by rw [HM.out]; rfl, z1, z2.more (Nat.le_add_right _ _), by omega, by omega, z3, HRES.out, fun _ => rfl⟩

set_option maxHeartbeats 2000000 in
theorem named_bad (l : List Tok) (b : Nat) (lv : Value) (i d : Nat) (w : World) (hp : Pst w b lv i d 0 0) (hx : PCtx l b lv w) (hlt : i + 2 ≤ l.length) (hdot : sgAt l (i + 1) [46] = true) (hnm : nmAt l (i + 2) = false) :
    Calls Tryd.prog 79 #[.pointer (some ⟨b, 0, none⟩)] w (PPost l lv b d i (namedR l i) w) := by
  have hr : namedR l i = refR l (i + 2) := by unfold namedR; rw [hdot, hnm]; rfl
  rw [hr]; clear hr
  have hb := hp.lt
  have hn := hx.hn
  have HP := Lib.hid hp
  have HX := Lib.hid hx
  have hrb : w.heap.size ≠ b := by omega
  have HDOT := Lib.hid hdot
  have HNM := Lib.hid hnm
  obtain ⟨⟨c0, c1, c2, c3, c4⟩, f1, f2, f3, f4⟩ := hp.facts
  clear hp hx hdot hnm
  go_enter Tryd.func79, Tryd.ntmps79
  go_wp2_with fail
  have hK1 : Keep b w (w.alloc (.cells #[.slice none 0 0, .int .i64 0, .int .i64 0] 48)) := (Keep.refl b w).alloc _
  have hP1 : Pst (w.alloc (.cells #[.slice none 0 0, .int .i64 0, .int .i64 0] 48)) b lv i d 0 0 := HP.out.alloc _
  have hR1 : Blk3 (w.alloc (.cells #[.slice none 0 0, .int .i64 0, .int .i64 0] 48)) w.heap.size (.slice none 0 0) (.int .i64 0) (.int .i64 0) := heap_alloc_new w _
  generalize (w.alloc (.cells #[.slice none 0 0, .int .i64 0, .int .i64 0] 48)) = w1 at hK1 hP1 hR1 ⊢
  refine ((HX.out.keep hK1).token hP1).mono ?_
  rintro e w2 ⟨rfl, hb2⟩
  have HK2 := Lib.hid (hK1.below hb2)
  have HP2 := Lib.hid (hP1.below hb2)
  have HR2 := Lib.hid (hR1.below hb2)
  obtain ⟨tk, htk⟩ : ∃ t, t = (tokO l i).1 := ⟨_, rfl⟩
  obtain ⟨tn, htn⟩ : ∃ t, t = (tokO l i).2.2.1 := ⟨_, rfl⟩
  obtain ⟨tx, htx⟩ : ∃ t, t = txt l i := ⟨_, rfl⟩
  obtain ⟨tp, htp⟩ : ∃ t, t = plc l i := ⟨_, rfl⟩
  rw [← htk, ← htn, ← htx, ← htp]
  have hb2' : b < w2.heap.size := HP2.out.lt
  have HTX := Lib.hid htx
  have HTP := Lib.hid htp
  clear hK1 hP1 hR1 hb2 c0 c1 c2 c3 c4 f1 f2 f3 f4 htk htn htx htp
  obtain ⟨⟨c0, c1, c2, c3, c4⟩, f1, f2, f3, f4⟩ := HP2.out.facts
  go_wp2_with fail
  have HK3 := Lib.hid ((HK2.out.setCell 1 (.int .i64 ((i : Int) + 1))).alloc (.cells #[.int .i64 tk, .string tx, .int .i64 tn, .int .i64 tp] 51))
  have HP3 : Hid (Pst ((w2.setCell ⟨b, 1, none⟩ (.int .i64 ((i : Int) + 1))).alloc (.cells #[.int .i64 tk, .string tx, .int .i64 tn, .int .i64 tp] 51)) b lv ((i + 1 : Nat) : Int) d 0 0) := ((HP2.out.set.1 ((i + 1 : Nat) : Int)).alloc _)
  have HR3 := Lib.hid ((HR2.out.other b 1 hrb (.int .i64 ((i : Int) + 1))).alloc (.cells #[.int .i64 tk, .string tx, .int .i64 tn, .int .i64 tp] 51))
  have HT3 : Hid (Blk4 ((w2.setCell ⟨b, 1, none⟩ (.int .i64 ((i : Int) + 1))).alloc (.cells #[.int .i64 tk, .string tx, .int .i64 tn, .int .i64 tp] 51)) w2.heap.size (.int .i64 tk) (.string tx) (.int .i64 tn) (.int .i64 tp)) := blk_new_set w2 _ _ _
  have hgr : w.heap.size < w2.heap.size := HR2.out.lt
  clear HP2 HR2 HK2 c0 c1 c2 c3 c4 f1 f2 f3 f4
  generalize ((w2.setCell ⟨b, 1, none⟩ (.int .i64 ((i : Int) + 1))).alloc (.cells #[.int .i64 tk, .string tx, .int .i64 tn, .int .i64 tp] 51)) = w3 at HK3 HP3 HR3 HT3 ⊢
  obtain ⟨g, hg⟩ : ∃ g, g = w2.heap.size := ⟨_, rfl⟩
  rw [← hg] at hb2' HT3 hgr ⊢
  clear hg
  have hgb : g ≠ b := by omega
  refine ((HX.out.keep HK3.out).sign HP3.out _ true HDOT.out).mono ?_
  rintro e w4 ⟨rfl, hb4⟩
  have HK4 := Lib.hid (HK3.out.below hb4)
  have HP4 := Lib.hid (HP3.out.below hb4)
  have HR4 := Lib.hid (HR3.out.below hb4)
  have HT4 := Lib.hid (HT3.out.below hb4 HT3.out.lt)
  have hb4' : b < w4.heap.size := HP4.out.lt
  obtain ⟨⟨c0, c1, c2, c3, c4⟩, f1, f2, f3, f4⟩ := HP4.out.facts
  clear HK3 HP3 HR3 HT3 hb4
  have e1 : (((i + 1 : Nat) : Int)) = (i : Int) + 1 := Int.natCast_add _ _
  rw [e1] at c1
  clear e1
  go_wp2_with fail
  have e2 : (i : Int) + 1 + 1 = ((i + 2 : Nat) : Int) := by omega
  rw [e2]
  clear e2
  have HK5 := Lib.hid (HK4.out.setCell 1 (.int .i64 ((i + 2 : Nat) : Int)))
  have HP5 := Lib.hid (HP4.out.set.1 ((i + 2 : Nat) : Int))
  have HR5 := Lib.hid (HR4.out.other b 1 hrb (.int .i64 ((i + 2 : Nat) : Int)))
  have HT5 : Hid (Blk4 (w4.setCell ⟨b, 1, none⟩ (.int .i64 ((i + 2 : Nat) : Int))) g (.int .i64 tk) (.string tx) (.int .i64 tn) (.int .i64 tp)) := by
    show _ = _
    rw [Below.heap_setCell _ _ _ _ (by exact hgb)]; exact HT4.out
  clear HK4 HP4 HR4 HT4 c0 c1 c2 c3 c4 f1 f2 f3 f4 hb4'
  generalize w4.setCell ⟨b, 1, none⟩ (.int .i64 ((i + 2 : Nat) : Int)) = w5 at HK5 HP5 HR5 HT5 ⊢
  refine ((HX.out.keep HK5.out).name HP5.out false HNM.out).mono ?_
  rintro e w6 ⟨rfl, hb6⟩
  have HK6 := Lib.hid (HK5.out.below hb6)
  have HP6 := Lib.hid (HP5.out.below hb6)
  have HR6 := Lib.hid (HR5.out.below hb6)
  have HT6 := Lib.hid (HT5.out.below hb6 HT5.out.lt)
  clear HK5 HP5 HR5 HT5 hb6
  go_wp2_with fail
  refine ((HX.out.keep HK6.out).refuse HP6.out (fun _ => rfl)).mono ?_
  rintro e w7 ⟨rfl, hp7, hk7⟩
  have HK7 := Lib.hid (HK6.out.trans hk7)
  have HP7 : Hid (Pst w7 b lv ((i + 2 : Nat) : Int) d (refK l (i + 2)).1 (refK l (i + 2)).2) := hp7
  have HR7 := Lib.hid (HR6.out.keep hk7 hrb)
  obtain ⟨⟨r0, r1, r2⟩, rf0, rf1, rf2⟩ := HR7.out.facts
  clear hp7 hk7 HK6 HP6 HR6 HT6
  unfold partZ
  go_wp2_with fail
  obtain ⟨z1, z2, z3, z4⟩ := fin_part HP7.out HR7.out hrb (pt_zero w7 (b + 1) (i + 2 - i)) HK7.out (Nat.le_refl _) (.slice none 0 0) (.int .i64 0) (.int .i64 0)
  refine bodyPost_ret (v := .agg #[.slice none 0 0, .int .i64 0, .int .i64 0]) (results_part Tryd.results79 _ _ w.heap.size _ _ _ rfl z4) rfl ?_
  exact ⟨⟨none, 0, 0, 0, []⟩, i + 2, _, _, rfl, z1, z2.more (Nat.le_add_right _ _), by omega, hlt, z3, ⟨rfl, rfl, refK_pos _ _⟩, fun h => absurd (by exact_mod_cast h) (refK_pos l (i + 2))⟩

end Go.Proofs.YtifbhlgingaahaaDoor
