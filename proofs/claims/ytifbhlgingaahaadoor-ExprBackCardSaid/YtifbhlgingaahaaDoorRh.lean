/- What the floors of the grammar do. -/
import Derived.Test.YtifbhlgingaahaaDoorRg0
import Derived.Test.YtifbhlgingaahaaDoorRg1
import Derived.Test.YtifbhlgingaahaaDoorRg2
import Derived.Test.YtifbhlgingaahaaDoorRg3
import Derived.Test.YtifbhlgingaahaaDoorRg4
import Derived.Test.YtifbhlgingaahaaDoorRd
namespace Go.Proofs.YtifbhlgingaahaaDoor
open Go.RowKit

theorem intsB_new (w : World) (b : Nat) (hb : b < w.heap.size) (os : List Nat) (cs : Array Value) (hc : cs = (os.map fun o => Value.int .i64 (o : Nat)).toArray) : IntsB (w.alloc (.cells cs 3)) b (.slice (some ⟨w.heap.size, 0, none⟩) os.length os.length) os := by
  have h : (w.alloc (.cells cs 3)).heap[w.heap.size]? = _ := heap_alloc_new w _
  refine ⟨w.heap.size, os.length, rfl, by simp, by omega, fun i hi => ?_⟩
  unfold World.cell?
  simp only [h]
  subst hc
  simp [hi]

set_option maxHeartbeats 2000000 in
theorem nested_deepF (F : Nat) (l : List Tok) (b : Nat) (lv : Value) (i : Nat) (w : World) (hp : Pst w b lv i 30 0 0) (ht : TokS w b lv l) (hlt : i < l.length) :
    Calls Tryd.prog 76 #[.pointer (some ⟨b, 0, none⟩), .func (.func F) #[] #[]] w (FailTo b lv i 30 ((7 : Nat) : Int) (plc l i) w) := by
  rw [plc_in l i hlt]
  obtain ⟨ad, cap, rfl, hc⟩ := ht
  obtain ⟨⟨c0, c1, c2, _, _⟩, _⟩ := hp.facts
  have hb := hp.lt
  obtain ⟨g, rfl, hg1, hg2, k0, k1, k2, k3⟩ := hc i hlt
  obtain ⟨tp, htp⟩ : ∃ t, t = l[i].2.2.2 := ⟨_, rfl⟩
  rw [← htp] at k3 ⊢
  clear k0 k1 k2
  obtain ⟨n, hN⟩ : ∃ n, n = l.length := ⟨_, rfl⟩
  rw [← hN] at c0 hp ⊢
  have hlt' : i < n := by omega
  have HF : ∀ w', Pst w' b (.slice (some ⟨g, 0, none⟩) n cap) i 30 0 0 → Calls Tryd.prog 80 #[.pointer (some ⟨b, 0, none⟩), .int .i64 7, .int .i64 tp] w' (FailTo b (.slice (some ⟨g, 0, none⟩) n cap) i 30 7 tp w') := fun w' hp' => fail_first _ _ _ _ _ _ _ hp'
  have HP : Hid (Pst w b (.slice (some ⟨g, 0, none⟩) n cap) i 30 0 0) := hp
  have hrb : w.heap.size ≠ b := by omega
  clear hN hc htp hlt hp
  go_enter Tryd.func76, Tryd.ntmps76
  go_wp2
  have hK1 : Keep b w (w.alloc (.cells #[.slice none 0 0, .int .i64 0, .int .i64 0] 48)) := (Keep.refl b w).alloc _
  have hR1 : Blk3 (w.alloc (.cells #[.slice none 0 0, .int .i64 0, .int .i64 0] 48)) w.heap.size (.slice none 0 0) (.int .i64 0) (.int .i64 0) := heap_alloc_new w _
  have hP1 : Pst (w.alloc (.cells #[.slice none 0 0, .int .i64 0, .int .i64 0] 48)) b (.slice (some ⟨g, 0, none⟩) n cap) i 30 0 0 := HP.out.alloc _
  generalize (w.alloc (.cells #[.slice none 0 0, .int .i64 0, .int .i64 0] 48)) = w1 at hK1 hR1 hP1 ⊢
  have k3' : w1.cell? ⟨g, i * 4 + 3, none⟩ = some (.int .i64 tp) := (hK1.cell (p := ⟨g, _, none⟩) hg1 hg2).trans k3
  obtain ⟨⟨d0, d1, _, _, _⟩, _⟩ := hP1.facts
  have HP1 := Lib.hid hP1
  have HR1 := Lib.hid hR1
  clear hP1 hR1 c0 c1 c2 k3
  go_still_tail 12, (by kernel_rfl)
  change wpList _ _ _ _ _ w1.drew
  have hK2 : Keep b w w1.drew := hK1.drewN 1
  have HP2 : Hid (Pst w1.drew b (.slice (some ⟨g, 0, none⟩) n cap) i 30 0 0) := HP1.out
  have HR2 : Hid (Blk3 w1.drew w.heap.size (.slice none 0 0) (.int .i64 0) (.int .i64 0)) := HR1.out
  clear hK1 HP1 HR1 k3' d0 d1
  generalize w1.drew = w2 at hK2 HP2 HR2 ⊢
  go_wp2_with fail
  refine (HF _ HP2.out).mono ?_
  rintro e w3 ⟨rfl, hp3, hk3⟩
  obtain ⟨⟨r0, r1, r2⟩, f0, f1, f2⟩ := (HR2.out.keep hk3 hrb).facts
  have HP3 := Lib.hid hp3
  have hK3 := hK2.trans hk3
  clear hp3 hk3
  unfold partZ
  go_wp2
  refine bodyPost_ret (v := partZ) (by simp [results, Tryd.results76, go_sem, partZ, r0, r1, r2]) rfl ⟨rfl, ?_, ?_⟩
  · exact ((HP3.out.other _ _ hrb _).other _ _ hrb _).other _ _ hrb _
  · exact ((hK3.setNew (Nat.le_refl _) _).setNew (Nat.le_refl _) _).setNew (Nat.le_refl _) _

set_option maxHeartbeats 2000000 in
theorem lv31 (l : List Tok) (b : Nat) (lv : Value) (i d f : Nat) (r : Res) (w : World) (hp : Pst w b lv i d 0 0) (hx : PCtx l b lv w) (hi : i ≤ l.length)
    (hrun : run l (f + 1) (.lv 0) d i = some r)
    (hF : ∀ f' i' r', f' ≤ f → i' ≤ l.length → run l f' (.lv (0 + 1)) d i' = some r' → ∀ W, Pst W b lv i' d 0 0 → PCtx l b lv W → Calls Tryd.prog 44 #[.pointer (some ⟨b, 0, none⟩)] W (PPost l lv b d i' r' W)) :
    Calls Tryd.prog 31 #[.pointer (some ⟨b, 0, none⟩)] w (PPost l lv b d i r w) := by
  have hb := hp.lt
  have hrb : w.heap.size ≠ b := by omega
  obtain ⟨ad, cap, hlv, _⟩ := hx.ht
  subst hlv
  obtain ⟨⟨c0, c1, c2, c3, c4⟩, f1, f2, f3, f4⟩ := hp.facts
  have HP := Lib.hid hp
  have HX := Lib.hid hx
  have hn := hx.hn
  have HRUN := Lib.hid hrun
  have HF := Lib.hid hF
  clear hp hx hrun hF
  obtain ⟨n, hN⟩ : ∃ n, n = l.length := ⟨_, rfl⟩
  rw [← hN] at c0
  have HN := Lib.hid hN
  clear hN
  go_enter Tryd.func31, Tryd.ntmps31
  go_wp2_with fail
  have hK1 : Keep b w (w.alloc (.cells #[.slice none 0 0, .int .i64 0, .int .i64 0] 48)) := (Keep.refl b w).alloc _
  have hP1 : Pst (w.alloc (.cells #[.slice none 0 0, .int .i64 0, .int .i64 0] 48)) b (.slice ad l.length cap) i d 0 0 := HP.out.alloc _
  have hR1 : Blk3 (w.alloc (.cells #[.slice none 0 0, .int .i64 0, .int .i64 0] 48)) w.heap.size (.slice none 0 0) (.int .i64 0) (.int .i64 0) := heap_alloc_new w _
  have hV2 := intsB_new (w.alloc (.cells #[.slice none 0 0, .int .i64 0, .int .i64 0] 48)) b hP1.lt (opsOf 0) #[.int .i64 14] rfl
  have hsz : (w.alloc (.cells #[.slice none 0 0, .int .i64 0, .int .i64 0] 48)).heap.size = w.heap.size + 1 := by simp
  have hK2 := hK1.alloc (.cells #[.int .i64 14] 3)
  have hP2 := hP1.alloc (.cells #[.int .i64 14] 3)
  have hR2 := hR1.alloc (.cells #[.int .i64 14] 3)
  rw [hsz] at hV2
  have hl : (opsOf 0).length = 1 := rfl
  rw [hl] at hV2
  clear hsz hl hK1 hP1 hR1
  generalize ((w.alloc (.cells #[.slice none 0 0, .int .i64 0, .int .i64 0] 48)).alloc (.cells #[.int .i64 14] 3)) = w2 at hK2 hP2 hR2 hV2 ⊢
  rw [HN.out]
  refine (chain0 l b (.slice ad l.length cap) _ i d f l.length r w2 hP2 (HX.out.keep hK2) hi hV2 rfl HRUN.out HF.out).mono ?_
  rintro e w3 ⟨⟨pad, pcap, ps, pd, pxs⟩, j, er, pl, rfl, hp3, hin, hij, hjl, hk3, hres, hz⟩
  have HK3 := Lib.hid (hK2.trans hk3)
  have HP3 := Lib.hid hp3
  have HR3 := Lib.hid (hR2.keep hk3 hrb)
  have HIN := Lib.hid hin
  have HRES := Lib.hid hres
  have HZ := Lib.hid hz
  obtain ⟨⟨r0, r1, r2⟩, rf0, rf1, rf2⟩ := HR3.out.facts
  clear hp3 hin hk3 hres hz hK2 hP2 hR2 hV2 c0 c1 c2 c3 c4 f1 f2 f3 f4
  simp only [PtR.nv]
  obtain ⟨m, hm⟩ : ∃ m, m = pxs.length := ⟨_, rfl⟩
  rw [← hm]
  have HM := Lib.hid hm
  clear hm
  go_wp2_with fail
  obtain ⟨z1, z2, z3, z4⟩ := fin_part HP3.out HR3.out hrb HIN.out HK3.out (Nat.le_refl _) (.slice pad m pcap) (.int .i64 ps) (.int .i64 pd)
  refine bodyPost_ret (v := .agg #[.slice pad m pcap, .int .i64 ps, .int .i64 pd]) (results_part Tryd.results31 _ _ w.heap.size _ _ _ rfl z4) rfl ?_
  exact ⟨⟨pad, pcap, ps, pd, pxs⟩, j, er, pl, by rw [HM.out]; rfl, z1, z2, hij, hjl, z3, HRES.out, HZ.out⟩

set_option maxHeartbeats 2000000 in
theorem lv44 (l : List Tok) (b : Nat) (lv : Value) (i d f : Nat) (r : Res) (w : World) (hp : Pst w b lv i d 0 0) (hx : PCtx l b lv w) (hi : i ≤ l.length)
    (hrun : run l (f + 1) (.lv 1) d i = some r)
    (hF : ∀ f' i' r', f' ≤ f → i' ≤ l.length → run l f' (.lv (1 + 1)) d i' = some r' → ∀ W, Pst W b lv i' d 0 0 → PCtx l b lv W → Calls Tryd.prog 56 #[.pointer (some ⟨b, 0, none⟩)] W (PPost l lv b d i' r' W)) :
    Calls Tryd.prog 44 #[.pointer (some ⟨b, 0, none⟩)] w (PPost l lv b d i r w) := by
  have hb := hp.lt
  have hrb : w.heap.size ≠ b := by omega
  obtain ⟨ad, cap, hlv, _⟩ := hx.ht
  subst hlv
  obtain ⟨⟨c0, c1, c2, c3, c4⟩, f1, f2, f3, f4⟩ := hp.facts
  have HP := Lib.hid hp
  have HX := Lib.hid hx
  have hn := hx.hn
  have HRUN := Lib.hid hrun
  have HF := Lib.hid hF
  clear hp hx hrun hF
  obtain ⟨n, hN⟩ : ∃ n, n = l.length := ⟨_, rfl⟩
  rw [← hN] at c0
  have HN := Lib.hid hN
  clear hN
  go_enter Tryd.func44, Tryd.ntmps44
  go_wp2_with fail
  have hK1 : Keep b w (w.alloc (.cells #[.slice none 0 0, .int .i64 0, .int .i64 0] 48)) := (Keep.refl b w).alloc _
  have hP1 : Pst (w.alloc (.cells #[.slice none 0 0, .int .i64 0, .int .i64 0] 48)) b (.slice ad l.length cap) i d 0 0 := HP.out.alloc _
  have hR1 : Blk3 (w.alloc (.cells #[.slice none 0 0, .int .i64 0, .int .i64 0] 48)) w.heap.size (.slice none 0 0) (.int .i64 0) (.int .i64 0) := heap_alloc_new w _
  have hV2 := intsB_new (w.alloc (.cells #[.slice none 0 0, .int .i64 0, .int .i64 0] 48)) b hP1.lt (opsOf 1) #[.int .i64 13] rfl
  have hsz : (w.alloc (.cells #[.slice none 0 0, .int .i64 0, .int .i64 0] 48)).heap.size = w.heap.size + 1 := by simp
  have hK2 := hK1.alloc (.cells #[.int .i64 13] 3)
  have hP2 := hP1.alloc (.cells #[.int .i64 13] 3)
  have hR2 := hR1.alloc (.cells #[.int .i64 13] 3)
  rw [hsz] at hV2
  have hl : (opsOf 1).length = 1 := rfl
  rw [hl] at hV2
  clear hsz hl hK1 hP1 hR1
  generalize ((w.alloc (.cells #[.slice none 0 0, .int .i64 0, .int .i64 0] 48)).alloc (.cells #[.int .i64 13] 3)) = w2 at hK2 hP2 hR2 hV2 ⊢
  rw [HN.out]
  refine (chain1 l b (.slice ad l.length cap) _ i d f l.length r w2 hP2 (HX.out.keep hK2) hi hV2 rfl HRUN.out HF.out).mono ?_
  rintro e w3 ⟨⟨pad, pcap, ps, pd, pxs⟩, j, er, pl, rfl, hp3, hin, hij, hjl, hk3, hres, hz⟩
  have HK3 := Lib.hid (hK2.trans hk3)
  have HP3 := Lib.hid hp3
  have HR3 := Lib.hid (hR2.keep hk3 hrb)
  have HIN := Lib.hid hin
  have HRES := Lib.hid hres
  have HZ := Lib.hid hz
  obtain ⟨⟨r0, r1, r2⟩, rf0, rf1, rf2⟩ := HR3.out.facts
  clear hp3 hin hk3 hres hz hK2 hP2 hR2 hV2 c0 c1 c2 c3 c4 f1 f2 f3 f4
  simp only [PtR.nv]
  obtain ⟨m, hm⟩ : ∃ m, m = pxs.length := ⟨_, rfl⟩
  rw [← hm]
  have HM := Lib.hid hm
  clear hm
  go_wp2_with fail
  obtain ⟨z1, z2, z3, z4⟩ := fin_part HP3.out HR3.out hrb HIN.out HK3.out (Nat.le_refl _) (.slice pad m pcap) (.int .i64 ps) (.int .i64 pd)
  refine bodyPost_ret (v := .agg #[.slice pad m pcap, .int .i64 ps, .int .i64 pd]) (results_part Tryd.results44 _ _ w.heap.size _ _ _ rfl z4) rfl ?_
  exact ⟨⟨pad, pcap, ps, pd, pxs⟩, j, er, pl, by rw [HM.out]; rfl, z1, z2, hij, hjl, z3, HRES.out, HZ.out⟩

set_option maxHeartbeats 2000000 in
theorem lv56 (l : List Tok) (b : Nat) (lv : Value) (i d f : Nat) (r : Res) (w : World) (hp : Pst w b lv i d 0 0) (hx : PCtx l b lv w) (hi : i ≤ l.length)
    (hrun : run l (f + 1) (.lv 2) d i = some r)
    (hF : ∀ f' i' r', f' ≤ f → i' ≤ l.length → run l f' (.lv (2 + 1)) d i' = some r' → ∀ W, Pst W b lv i' d 0 0 → PCtx l b lv W → Calls Tryd.prog 61 #[.pointer (some ⟨b, 0, none⟩)] W (PPost l lv b d i' r' W)) :
    Calls Tryd.prog 56 #[.pointer (some ⟨b, 0, none⟩)] w (PPost l lv b d i r w) := by
  have hb := hp.lt
  have hrb : w.heap.size ≠ b := by omega
  obtain ⟨ad, cap, hlv, _⟩ := hx.ht
  subst hlv
  obtain ⟨⟨c0, c1, c2, c3, c4⟩, f1, f2, f3, f4⟩ := hp.facts
  have HP := Lib.hid hp
  have HX := Lib.hid hx
  have hn := hx.hn
  have HRUN := Lib.hid hrun
  have HF := Lib.hid hF
  clear hp hx hrun hF
  obtain ⟨n, hN⟩ : ∃ n, n = l.length := ⟨_, rfl⟩
  rw [← hN] at c0
  have HN := Lib.hid hN
  clear hN
  go_enter Tryd.func56, Tryd.ntmps56
  go_wp2_with fail
  have hK1 : Keep b w (w.alloc (.cells #[.slice none 0 0, .int .i64 0, .int .i64 0] 48)) := (Keep.refl b w).alloc _
  have hP1 : Pst (w.alloc (.cells #[.slice none 0 0, .int .i64 0, .int .i64 0] 48)) b (.slice ad l.length cap) i d 0 0 := HP.out.alloc _
  have hR1 : Blk3 (w.alloc (.cells #[.slice none 0 0, .int .i64 0, .int .i64 0] 48)) w.heap.size (.slice none 0 0) (.int .i64 0) (.int .i64 0) := heap_alloc_new w _
  have hV2 := intsB_new (w.alloc (.cells #[.slice none 0 0, .int .i64 0, .int .i64 0] 48)) b hP1.lt (opsOf 2) #[.int .i64 9, .int .i64 10, .int .i64 11, .int .i64 12] rfl
  have hsz : (w.alloc (.cells #[.slice none 0 0, .int .i64 0, .int .i64 0] 48)).heap.size = w.heap.size + 1 := by simp
  have hK2 := hK1.alloc (.cells #[.int .i64 9, .int .i64 10, .int .i64 11, .int .i64 12] 3)
  have hP2 := hP1.alloc (.cells #[.int .i64 9, .int .i64 10, .int .i64 11, .int .i64 12] 3)
  have hR2 := hR1.alloc (.cells #[.int .i64 9, .int .i64 10, .int .i64 11, .int .i64 12] 3)
  rw [hsz] at hV2
  have hl : (opsOf 2).length = 4 := rfl
  rw [hl] at hV2
  clear hsz hl hK1 hP1 hR1
  generalize ((w.alloc (.cells #[.slice none 0 0, .int .i64 0, .int .i64 0] 48)).alloc (.cells #[.int .i64 9, .int .i64 10, .int .i64 11, .int .i64 12] 3)) = w2 at hK2 hP2 hR2 hV2 ⊢
  skip
  refine (chain2 l b (.slice ad l.length cap) _ i d f 1 r w2 hP2 (HX.out.keep hK2) hi hV2 rfl HRUN.out HF.out).mono ?_
  rintro e w3 ⟨⟨pad, pcap, ps, pd, pxs⟩, j, er, pl, rfl, hp3, hin, hij, hjl, hk3, hres, hz⟩
  have HK3 := Lib.hid (hK2.trans hk3)
  have HP3 := Lib.hid hp3
  have HR3 := Lib.hid (hR2.keep hk3 hrb)
  have HIN := Lib.hid hin
  have HRES := Lib.hid hres
  have HZ := Lib.hid hz
  obtain ⟨⟨r0, r1, r2⟩, rf0, rf1, rf2⟩ := HR3.out.facts
  clear hp3 hin hk3 hres hz hK2 hP2 hR2 hV2 c0 c1 c2 c3 c4 f1 f2 f3 f4
  simp only [PtR.nv]
  obtain ⟨m, hm⟩ : ∃ m, m = pxs.length := ⟨_, rfl⟩
  rw [← hm]
  have HM := Lib.hid hm
  clear hm
  go_wp2_with fail
  obtain ⟨z1, z2, z3, z4⟩ := fin_part HP3.out HR3.out hrb HIN.out HK3.out (Nat.le_refl _) (.slice pad m pcap) (.int .i64 ps) (.int .i64 pd)
  refine bodyPost_ret (v := .agg #[.slice pad m pcap, .int .i64 ps, .int .i64 pd]) (results_part Tryd.results56 _ _ w.heap.size _ _ _ rfl z4) rfl ?_
  exact ⟨⟨pad, pcap, ps, pd, pxs⟩, j, er, pl, by rw [HM.out]; rfl, z1, z2, hij, hjl, z3, HRES.out, HZ.out⟩

set_option maxHeartbeats 2000000 in
theorem lv61 (l : List Tok) (b : Nat) (lv : Value) (i d f : Nat) (r : Res) (w : World) (hp : Pst w b lv i d 0 0) (hx : PCtx l b lv w) (hi : i ≤ l.length)
    (hrun : run l (f + 1) (.lv 3) d i = some r)
    (hF : ∀ f' i' r', f' ≤ f → i' ≤ l.length → run l f' (.lv (3 + 1)) d i' = some r' → ∀ W, Pst W b lv i' d 0 0 → PCtx l b lv W → Calls Tryd.prog 67 #[.pointer (some ⟨b, 0, none⟩)] W (PPost l lv b d i' r' W)) :
    Calls Tryd.prog 61 #[.pointer (some ⟨b, 0, none⟩)] w (PPost l lv b d i r w) := by
  have hb := hp.lt
  have hrb : w.heap.size ≠ b := by omega
  obtain ⟨ad, cap, hlv, _⟩ := hx.ht
  subst hlv
  obtain ⟨⟨c0, c1, c2, c3, c4⟩, f1, f2, f3, f4⟩ := hp.facts
  have HP := Lib.hid hp
  have HX := Lib.hid hx
  have hn := hx.hn
  have HRUN := Lib.hid hrun
  have HF := Lib.hid hF
  clear hp hx hrun hF
  obtain ⟨n, hN⟩ : ∃ n, n = l.length := ⟨_, rfl⟩
  rw [← hN] at c0
  have HN := Lib.hid hN
  clear hN
  go_enter Tryd.func61, Tryd.ntmps61
  go_wp2_with fail
  have hK1 : Keep b w (w.alloc (.cells #[.slice none 0 0, .int .i64 0, .int .i64 0] 48)) := (Keep.refl b w).alloc _
  have hP1 : Pst (w.alloc (.cells #[.slice none 0 0, .int .i64 0, .int .i64 0] 48)) b (.slice ad l.length cap) i d 0 0 := HP.out.alloc _
  have hR1 : Blk3 (w.alloc (.cells #[.slice none 0 0, .int .i64 0, .int .i64 0] 48)) w.heap.size (.slice none 0 0) (.int .i64 0) (.int .i64 0) := heap_alloc_new w _
  have hV2 := intsB_new (w.alloc (.cells #[.slice none 0 0, .int .i64 0, .int .i64 0] 48)) b hP1.lt (opsOf 3) #[.int .i64 6, .int .i64 7] rfl
  have hsz : (w.alloc (.cells #[.slice none 0 0, .int .i64 0, .int .i64 0] 48)).heap.size = w.heap.size + 1 := by simp
  have hK2 := hK1.alloc (.cells #[.int .i64 6, .int .i64 7] 3)
  have hP2 := hP1.alloc (.cells #[.int .i64 6, .int .i64 7] 3)
  have hR2 := hR1.alloc (.cells #[.int .i64 6, .int .i64 7] 3)
  rw [hsz] at hV2
  have hl : (opsOf 3).length = 2 := rfl
  rw [hl] at hV2
  clear hsz hl hK1 hP1 hR1
  generalize ((w.alloc (.cells #[.slice none 0 0, .int .i64 0, .int .i64 0] 48)).alloc (.cells #[.int .i64 6, .int .i64 7] 3)) = w2 at hK2 hP2 hR2 hV2 ⊢
  rw [HN.out]
  refine (chain3 l b (.slice ad l.length cap) _ i d f l.length r w2 hP2 (HX.out.keep hK2) hi hV2 rfl HRUN.out HF.out).mono ?_
  rintro e w3 ⟨⟨pad, pcap, ps, pd, pxs⟩, j, er, pl, rfl, hp3, hin, hij, hjl, hk3, hres, hz⟩
  have HK3 := Lib.hid (hK2.trans hk3)
  have HP3 := Lib.hid hp3
  have HR3 := Lib.hid (hR2.keep hk3 hrb)
  have HIN := Lib.hid hin
  have HRES := Lib.hid hres
  have HZ := Lib.hid hz
  obtain ⟨⟨r0, r1, r2⟩, rf0, rf1, rf2⟩ := HR3.out.facts
  clear hp3 hin hk3 hres hz hK2 hP2 hR2 hV2 c0 c1 c2 c3 c4 f1 f2 f3 f4
  simp only [PtR.nv]
  obtain ⟨m, hm⟩ : ∃ m, m = pxs.length := ⟨_, rfl⟩
  rw [← hm]
  have HM := Lib.hid hm
  clear hm
  go_wp2_with fail
  obtain ⟨z1, z2, z3, z4⟩ := fin_part HP3.out HR3.out hrb HIN.out HK3.out (Nat.le_refl _) (.slice pad m pcap) (.int .i64 ps) (.int .i64 pd)
  refine bodyPost_ret (v := .agg #[.slice pad m pcap, .int .i64 ps, .int .i64 pd]) (results_part Tryd.results61 _ _ w.heap.size _ _ _ rfl z4) rfl ?_
  exact ⟨⟨pad, pcap, ps, pd, pxs⟩, j, er, pl, by rw [HM.out]; rfl, z1, z2, hij, hjl, z3, HRES.out, HZ.out⟩

set_option maxHeartbeats 2000000 in
theorem lv67 (l : List Tok) (b : Nat) (lv : Value) (i d f : Nat) (r : Res) (w : World) (hp : Pst w b lv i d 0 0) (hx : PCtx l b lv w) (hi : i ≤ l.length)
    (hrun : run l (f + 1) (.lv 4) d i = some r)
    (hF : ∀ f' i' r', f' ≤ f → i' ≤ l.length → run l f' (.lv (4 + 1)) d i' = some r' → ∀ W, Pst W b lv i' d 0 0 → PCtx l b lv W → Calls Tryd.prog 73 #[.pointer (some ⟨b, 0, none⟩)] W (PPost l lv b d i' r' W)) :
    Calls Tryd.prog 67 #[.pointer (some ⟨b, 0, none⟩)] w (PPost l lv b d i r w) := by
  have hb := hp.lt
  have hrb : w.heap.size ≠ b := by omega
  obtain ⟨ad, cap, hlv, _⟩ := hx.ht
  subst hlv
  obtain ⟨⟨c0, c1, c2, c3, c4⟩, f1, f2, f3, f4⟩ := hp.facts
  have HP := Lib.hid hp
  have HX := Lib.hid hx
  have hn := hx.hn
  have HRUN := Lib.hid hrun
  have HF := Lib.hid hF
  clear hp hx hrun hF
  obtain ⟨n, hN⟩ : ∃ n, n = l.length := ⟨_, rfl⟩
  rw [← hN] at c0
  have HN := Lib.hid hN
  clear hN
  go_enter Tryd.func67, Tryd.ntmps67
  go_wp2_with fail
  have hK1 : Keep b w (w.alloc (.cells #[.slice none 0 0, .int .i64 0, .int .i64 0] 48)) := (Keep.refl b w).alloc _
  have hP1 : Pst (w.alloc (.cells #[.slice none 0 0, .int .i64 0, .int .i64 0] 48)) b (.slice ad l.length cap) i d 0 0 := HP.out.alloc _
  have hR1 : Blk3 (w.alloc (.cells #[.slice none 0 0, .int .i64 0, .int .i64 0] 48)) w.heap.size (.slice none 0 0) (.int .i64 0) (.int .i64 0) := heap_alloc_new w _
  have hV2 := intsB_new (w.alloc (.cells #[.slice none 0 0, .int .i64 0, .int .i64 0] 48)) b hP1.lt (opsOf 4) #[.int .i64 8] rfl
  have hsz : (w.alloc (.cells #[.slice none 0 0, .int .i64 0, .int .i64 0] 48)).heap.size = w.heap.size + 1 := by simp
  have hK2 := hK1.alloc (.cells #[.int .i64 8] 3)
  have hP2 := hP1.alloc (.cells #[.int .i64 8] 3)
  have hR2 := hR1.alloc (.cells #[.int .i64 8] 3)
  rw [hsz] at hV2
  have hl : (opsOf 4).length = 1 := rfl
  rw [hl] at hV2
  clear hsz hl hK1 hP1 hR1
  generalize ((w.alloc (.cells #[.slice none 0 0, .int .i64 0, .int .i64 0] 48)).alloc (.cells #[.int .i64 8] 3)) = w2 at hK2 hP2 hR2 hV2 ⊢
  rw [HN.out]
  refine (chain4 l b (.slice ad l.length cap) _ i d f l.length r w2 hP2 (HX.out.keep hK2) hi hV2 rfl HRUN.out HF.out).mono ?_
  rintro e w3 ⟨⟨pad, pcap, ps, pd, pxs⟩, j, er, pl, rfl, hp3, hin, hij, hjl, hk3, hres, hz⟩
  have HK3 := Lib.hid (hK2.trans hk3)
  have HP3 := Lib.hid hp3
  have HR3 := Lib.hid (hR2.keep hk3 hrb)
  have HIN := Lib.hid hin
  have HRES := Lib.hid hres
  have HZ := Lib.hid hz
  obtain ⟨⟨r0, r1, r2⟩, rf0, rf1, rf2⟩ := HR3.out.facts
  clear hp3 hin hk3 hres hz hK2 hP2 hR2 hV2 c0 c1 c2 c3 c4 f1 f2 f3 f4
  simp only [PtR.nv]
  obtain ⟨m, hm⟩ : ∃ m, m = pxs.length := ⟨_, rfl⟩
  rw [← hm]
  have HM := Lib.hid hm
  clear hm
  go_wp2_with fail
  obtain ⟨z1, z2, z3, z4⟩ := fin_part HP3.out HR3.out hrb HIN.out HK3.out (Nat.le_refl _) (.slice pad m pcap) (.int .i64 ps) (.int .i64 pd)
  refine bodyPost_ret (v := .agg #[.slice pad m pcap, .int .i64 ps, .int .i64 pd]) (results_part Tryd.results67 _ _ w.heap.size _ _ _ rfl z4) rfl ?_
  exact ⟨⟨pad, pcap, ps, pd, pxs⟩, j, er, pl, by rw [HM.out]; rfl, z1, z2, hij, hjl, z3, HRES.out, HZ.out⟩

theorem nested_deepN (F : Nat) (l : List Tok) (b : Nat) (lv : Value) (i : Nat) (w : World) (hp : Pst w b lv i 30 0 0) (ht : TokS w b lv l) (hlt : i < l.length) :
    Calls Tryd.prog 76 #[.pointer (some ⟨b, 0, none⟩), .func (.func F) #[] #[]] w (NPost l lv b 30 i (.err 7 (plc l i)) w) :=
  (nested_deepF F l b lv i w hp ht hlt).mono fun e w' h => fail_postN h (by omega) (by omega)

/-- The function of a floor. -/
def lvF : Nat → Nat
  | 0 => 31
  | 1 => 44
  | 2 => 56
  | 3 => 61
  | 4 => 67
  | _ => 73

theorem nested_lv0 (l : List Tok) (b : Nat) (lv : Value) (i d : Nat) (r : Res) (w : World) (hp : Pst w b lv i d 0 0) (hx : PCtx l b lv w) (hlt : i < l.length) (hd : d ≤ 30)
    (hF : d < 30 → ∀ W, Pst W b lv ((i + 1 : Nat) : Int) ((d + 1 : Nat) : Int) 0 0 → PCtx l b lv W → Calls Tryd.prog 31 #[.pointer (some ⟨b, 0, none⟩)] W (PPost l lv b (d + 1) (i + 1) r W)) :
    Calls Tryd.prog 76 #[.pointer (some ⟨b, 0, none⟩), .func (.func 31) #[] #[]] w (NPost l lv b d i (if d = 30 then .err 7 (plc l i) else r) w) := by
  by_cases h : d = 30
  · subst h
    rw [if_pos rfl]
    exact (nested_deepN 31 l b lv i w hp hx.ht hlt)
  · rw [if_neg h]
    exact (nested_go31 l b lv i d r w hp hx.ht hx.hs hx.h0 (by omega) hx.hn hlt fun W h1 h2 h3 => hF (by omega) W h1 ⟨h2, h3, hx.h0, hx.hn, hx.ok⟩).mono fun e w' h => h.toN
theorem nested_lv5 (l : List Tok) (b : Nat) (lv : Value) (i d : Nat) (r : Res) (w : World) (hp : Pst w b lv i d 0 0) (hx : PCtx l b lv w) (hlt : i < l.length) (hd : d ≤ 30)
    (hF : d < 30 → ∀ W, Pst W b lv ((i + 1 : Nat) : Int) ((d + 1 : Nat) : Int) 0 0 → PCtx l b lv W → Calls Tryd.prog 73 #[.pointer (some ⟨b, 0, none⟩)] W (PPost l lv b (d + 1) (i + 1) r W)) :
    Calls Tryd.prog 76 #[.pointer (some ⟨b, 0, none⟩), .func (.func 73) #[] #[]] w (NPost l lv b d i (if d = 30 then .err 7 (plc l i) else r) w) := by
  by_cases h : d = 30
  · subst h
    rw [if_pos rfl]
    exact (nested_deepN 73 l b lv i w hp hx.ht hlt)
  · rw [if_neg h]
    exact (nested_go73 l b lv i d r w hp hx.ht hx.hs hx.h0 (by omega) hx.hn hlt fun W h1 h2 h3 => hF (by omega) W h1 ⟨h2, h3, hx.h0, hx.hn, hx.ok⟩).mono fun e w' h => h.toN

theorem nmAt_lt {l : List Tok} {i : Nat} (h : nmAt l i = true) : i < l.length := by
  unfold nmAt tokO at h
  by_cases h1 : i < l.length
  · exact h1
  · rw [List.getElem?_eq_none (by omega)] at h; simp at h

theorem named_any (l : List Tok) (b : Nat) (lv : Value) (i d : Nat) (w : World) (hp : Pst w b lv i d 0 0) (hx : PCtx l b lv w) (hlt : i < l.length) : Calls Tryd.prog 79 #[.pointer (some ⟨b, 0, none⟩)] w (PPost l lv b d i (namedR l i) w) := by
  cases h : sgAt l (i + 1) [46] with
  | false => exact named_reg l b lv i d w hp hx hlt h
  | true =>
    have := sgAt_lt h
    cases h2 : nmAt l (i + 2) with
    | false => exact named_bad l b lv i d w hp hx (by omega) h h2
    | true =>
      have := nmAt_lt h2
      exact named_of l b lv i d w hp hx (by omega) h h2

/-- What the parser's functions do is what the plain parser says. -/
theorem run_any (l : List Tok) (b : Nat) (lv : Value) : ∀ (f n d i : Nat) (r : Res), n ≤ 5 → d ≤ 30 → i ≤ l.length → run l f (.lv n) d i = some r → ∀ W, Pst W b lv i d 0 0 → PCtx l b lv W → Calls Tryd.prog (lvF n) #[.pointer (some ⟨b, 0, none⟩)] W (PPost l lv b d i r W) := by
  intro f
  induction f using Nat.strongRecOn with
  | _ f ih =>
    intro n d i r hn hd hi hr W hp hx
    cases f with
    | zero => cases hr
    | succ f =>
      have hF : ∀ m, m ≤ 5 → ∀ f' i' r', f' ≤ f → i' ≤ l.length → run l f' (.lv m) d i' = some r' → ∀ W, Pst W b lv i' d 0 0 → PCtx l b lv W → Calls Tryd.prog (lvF m) #[.pointer (some ⟨b, 0, none⟩)] W (PPost l lv b d i' r' W) := fun m hm f' i' r' h1 h2 h3 W h4 h5 => ih f' (by omega) m d i' r' hm hd h2 h3 W h4 h5
      match n, hn with
      | 0, _ => exact lv31 l b lv i d f r W hp hx hi hr (hF 1 (by omega))
      | 1, _ => exact lv44 l b lv i d f r W hp hx hi hr (hF 2 (by omega))
      | 2, _ => exact lv56 l b lv i d f r W hp hx hi hr (hF 3 (by omega))
      | 3, _ => exact lv61 l b lv i d f r W hp hx hi hr (hF 4 (by omega))
      | 4, _ => exact lv67 l b lv i d f r W hp hx hi hr (hF 5 (by omega))
      | 5, _ =>
        unfold run at hr
        rw [if_pos rfl] at hr
        show Calls Tryd.prog 73 _ _ _
        cases h33 : sgAt l i [33] with
        | true =>
          rw [h33, if_pos rfl] at hr
          have hlt := sgAt_lt h33
          obtain ⟨r1, hr1, hrun⟩ : ∃ r1, (d < 30 → run l f (.lv 5) (d + 1) (i + 1) = some r1) ∧ r = unR l i (if d = 30 then .err 7 (plc l i) else r1) := by
            by_cases h : d = 30
            · rw [if_pos h] at hr
              refine ⟨.err 0 0, fun h' => by omega, ?_⟩
              rw [if_pos h]; cases hr; rfl
            · rw [if_neg h] at hr
              cases h1 : run l f (.lv 5) (d + 1) (i + 1) with
              | none => rw [h1] at hr; cases hr
              | some r1 =>
                rw [h1] at hr
                refine ⟨r1, fun _ => rfl, ?_⟩
                rw [if_neg h]
                cases r1 <;> (cases hr; rfl)
          rw [hrun]
          exact operand_un l b lv i d _ W hp hx h33 fun W h1 h2 => nested_lv5 l b lv i d r1 W h1 h2 hlt hd fun hd' W h1 h2 => ih f (by omega) 5 (d + 1) (i + 1) r1 (by omega) (by omega) (by omega) (hr1 hd') W h1 h2
        | false =>
          rw [h33, if_neg (by simp)] at hr
          cases h40 : sgAt l i [40] with
          | true =>
            rw [h40, if_pos rfl] at hr
            have hlt := sgAt_lt h40
            obtain ⟨r1, hr1, hrun⟩ : ∃ r1, (d < 30 → run l f (.lv 0) (d + 1) (i + 1) = some r1) ∧ r = brR l (if d = 30 then .err 7 (plc l i) else r1) := by
              by_cases h : d = 30
              · rw [if_pos h] at hr
                refine ⟨.err 0 0, fun h' => by omega, ?_⟩
                rw [if_pos h]; cases hr; rfl
              · rw [if_neg h] at hr
                cases h1 : run l f (.lv 0) (d + 1) (i + 1) with
                | none => rw [h1] at hr; cases hr
                | some r1 =>
                  rw [h1] at hr
                  refine ⟨r1, fun _ => rfl, ?_⟩
                  rw [if_neg h]
                  cases r1 with
                  | err k a => cases hr; rfl
                  | ok e j =>
                    simp only [] at hr
                    unfold brR
                    simp only []
                    by_cases hc : sgAt l j [41] = true
                    · rw [if_pos hc] at hr ⊢; cases hr; rfl
                    · rw [if_neg hc] at hr ⊢; cases hr; rfl
            rw [hrun]
            exact operand_br l b lv i d _ W hp hx h33 h40 fun W h1 h2 => nested_lv0 l b lv i d r1 W h1 h2 hlt hd fun hd' W h1 h2 => ih f (by omega) 0 (d + 1) (i + 1) r1 (by omega) (by omega) (by omega) (hr1 hd') W h1 h2
          | false =>
            rw [h40, if_neg (by simp)] at hr
            cases hnm : nmAt l i with
            | true =>
              rw [hnm, if_pos rfl] at hr
              have hlt := nmAt_lt hnm
              cases hr
              exact operand_nm l b lv i d _ W hp hx h33 h40 hnm fun W h1 h2 => named_any l b lv i d W h1 h2 hlt
            | false =>
              rw [hnm, if_neg (by simp)] at hr
              cases hnu : nuAt l i with
              | true =>
                rw [hnu, if_pos rfl] at hr
                cases hr
                exact operand_nu l b lv i d W hp hx h33 h40 hnm hnu
              | false =>
                rw [hnu, if_neg (by simp)] at hr
                cases hr
                exact operand_rf l b lv i d W hp hx h33 h40 hnm hnu hi

end Go.Proofs.YtifbhlgingaahaaDoor
