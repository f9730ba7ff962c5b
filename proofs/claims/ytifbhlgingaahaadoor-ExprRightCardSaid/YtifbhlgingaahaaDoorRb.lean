/- What nested does. -/
import Derived.Test.YtifbhlgingaahaaDoorRa
namespace Go.Proofs.YtifbhlgingaahaaDoor
open Go.RowKit

theorem plc_in (l : List Tok) (i : Nat) (h : i < l.length) : plc l i = l[i].2.2.2 := by unfold plc; rw [tokO_in l i h]

theorem own_set {w : World} {B n r o t : Nat} {v u : Value} {xs : List Value} {c : Array Value} {fz : Nat × Nat} (h : w.ownsRow B 32 5 v n xs) (hr : w.heap[r]? = some (.cells c t fz)) (ht : t ≠ 32) : (w.setCell ⟨r, o, none⟩ u).ownsRow B 32 5 v n xs := by
  obtain ⟨h1, h2⟩ := h
  refine ⟨h1, ?_⟩
  rcases h2 with h2 | ⟨g, cap, cur, hv, hg, hh, hr2⟩
  · exact .inl h2
  · refine .inr ⟨g, cap, cur, hv, hg, ?_, hr2⟩
    rw [Below.heap_setCell _ _ _ _ (fun e => ?_)]
    · exact hh
    · have e' : g = r := e
      rw [e', hr] at hh
      cases hh
      exact ht rfl
theorem PtIn.set3 {w : World} {B c r o : Nat} {p : PtR} {x0 x1 x2 u : Value} (h : PtIn w B p c) (hr : Blk3 w r x0 x1 x2) : PtIn (w.setCell ⟨r, o, none⟩ u) B p c := ⟨own_set h.1 hr (by decide), h.2⟩
theorem PtIn.setP {w : World} {B c b o : Nat} {p : PtR} {lv u : Value} {nx op er pl : Int} (h : PtIn w B p c) (hr : Pst w b lv nx op er pl) : PtIn (w.setCell ⟨b, o, none⟩ u) B p c := ⟨own_set h.1 hr (by decide), h.2⟩
theorem PtIn.below {w w' : World} {B c : Nat} {p : PtR} (h : PtIn w B p c) (hb : Below w.heap.size w w') : PtIn w' B p c := ⟨own_below h.1 hb, h.2⟩
theorem PtIn.keep {w w' : World} {B c b : Nat} {p : PtR} (h : PtIn w B p c) (hb : Keep b w w') (hB : b < B) : PtIn w' B p c := ⟨own_keep h.1 hb hB, h.2⟩
theorem PtIn.alloc {w : World} {B c : Nat} {p : PtR} (h : PtIn w B p c) (o : Obj) : PtIn (w.alloc o) B p c := h.below ((Below.refl _ _).alloc (Nat.le_refl _) _)
theorem PtIn.more {w : World} {B c c' : Nat} {p : PtR} (h : PtIn w B p c) (hc : c ≤ c') : PtIn w B p c' := by
  obtain ⟨h1, h2, h3, h4, h5, h6⟩ := h
  exact ⟨h1, h2, h3, by omega, h5, h6⟩

/-- A result's block is filled. -/
def fill3 (w : World) (r : Nat) (u0 u1 u2 : Value) : World := ((w.setCell ⟨r, 0, none⟩ u0).setCell ⟨r, 1, none⟩ u1).setCell ⟨r, 2, none⟩ u2
theorem fin_part {w W : World} {b r B c : Nat} {lv x0 x1 x2 : Value} {nx op er pl : Int} {p : PtR} (hP : Pst W b lv nx op er pl) (hR : Blk3 W r x0 x1 x2) (hrb : r ≠ b) (hI : PtIn W B p c) (hK : Keep b w W) (hr : w.heap.size ≤ r) (u0 u1 u2 : Value) :
    Pst (fill3 W r u0 u1 u2) b lv nx op er pl ∧ PtIn (fill3 W r u0 u1 u2) B p c ∧ Keep b w (fill3 W r u0 u1 u2) ∧ Blk3 (fill3 W r u0 u1 u2) r u0 u1 u2 := by
  have h1 := hR.set.1 u0
  have h2 := h1.set.2.1 u1
  exact ⟨((hP.other _ _ hrb _).other _ _ hrb _).other _ _ hrb _, ((hI.set3 hR).set3 h1).set3 h2, ((hK.setNew hr _).setNew hr _).setNew hr _, h2.set.2.2 u2⟩

theorem results_part {fn : Func} {p : Tmp} (h : fn.results = #[.cell p 48]) (tmps : Array Value) (w : World) (r : Nat) (u0 u1 u2 : Value) (hp : tmps.getD p undef = .pointer (some ⟨r, 0, none⟩)) (hb : Blk3 w r u0 u1 u2) :
    (results fn tmps).run Tryd.prog w = .ok (.agg #[u0, u1, u2]) w := by
  obtain ⟨⟨y0, y1, y2⟩, _⟩ := hb.facts
  have hp2 : tmps[p]?.getD undef = .pointer (some ⟨r, 0, none⟩) := by simpa using hp
  simp only [results, h]
  simp [hp2, go_sem, y0, y1, y2]

theorem pt_zero (w : World) (B c : Nat) : PtIn w B ⟨none, 0, 0, 0, []⟩ c := ⟨World.ownsRow_nil _ _ _ _, by simp, by simp, by simp, by simp, by simp⟩

theorem fail_post {l : List Tok} {lv : Value} {b d i k a : Nat} {w : World} {e : Ending} {w' : World} (h : FailTo b lv i d k a w e w') (hi : i ≤ l.length) (hk : k ≠ 0) : PPost l lv b d i (.err k a) w e w' := by
  obtain ⟨rfl, hp, hk2⟩ := h
  refine ⟨⟨none, 0, 0, 0, []⟩, i, k, a, rfl, hp, pt_zero _ _ _, Nat.le_refl _, hi, hk2, ⟨rfl, rfl, hk⟩, fun h => ?_⟩
  omega

set_option maxHeartbeats 2000000 in
theorem nested_deep (F : Nat) (l : List Tok) (b : Nat) (lv : Value) (i : Nat) (w : World) (hp : Pst w b lv i 30 0 0) (ht : TokS w b lv l) (hlt : i < l.length) :
    Calls Tryd.prog 76 #[.pointer (some ⟨b, 0, none⟩), .func (.func F) #[] #[]] w (PPost l lv b 30 i (.err 7 (plc l i)) w) := by
  suffices h : Calls Tryd.prog 76 #[.pointer (some ⟨b, 0, none⟩), .func (.func F) #[] #[]] w (FailTo b lv i 30 7 (plc l i) w) from h.mono fun e w' h => fail_post h (by omega) (by omega)
  rw [plc_in l i hlt]
  obtain ⟨ad, cap, rfl, hc⟩ := ht
  obtain ⟨⟨c0, c1, c2, _, _⟩, _⟩ := hp.facts
  have hb := hp.lt
  obtain ⟨g, rfl, hg1, hg2, k0, k1, k2, k3⟩ := hc i hlt
  obtain ⟨tp, htp⟩ : ∃ t, t = l[i].2.2.2 := ⟨_, rfl⟩
  rw [← htp] at k3 ⊢
  clear k0 k1 k2
  obtain ⟨n, hN⟩ : ∃ n, n = l.length := ⟨_, rfl⟩
  rw [← hN] at c0 hp ⊢
  have hlt' : i < n := by omega
  have HF : ∀ w', Pst w' b (.slice (some ⟨g, 0, none⟩) n cap) i 30 0 0 → Calls Tryd.prog 80 #[.pointer (some ⟨b, 0, none⟩), .int .i64 7, .int .i64 tp] w' (FailTo b (.slice (some ⟨g, 0, none⟩) n cap) i 30 7 tp w') := fun w' hp' => fail_first _ _ _ _ _ _ _ hp'
  have HP : Hid (Pst w b (.slice (some ⟨g, 0, none⟩) n cap) i 30 0 0) := hp
  have hrb : w.heap.size ≠ b := by omega
  clear hN hc htp hlt hp
  go_enter Tryd.func76, Tryd.ntmps76
  go_wp2
  have hK1 : Keep b w (w.alloc (.cells #[.slice none 0 0, .int .i64 0, .int .i64 0] 48)) := (Keep.refl b w).alloc _
  have hR1 : Blk3 (w.alloc (.cells #[.slice none 0 0, .int .i64 0, .int .i64 0] 48)) w.heap.size (.slice none 0 0) (.int .i64 0) (.int .i64 0) := heap_alloc_new w _
  have hP1 : Pst (w.alloc (.cells #[.slice none 0 0, .int .i64 0, .int .i64 0] 48)) b (.slice (some ⟨g, 0, none⟩) n cap) i 30 0 0 := HP.out.alloc _
  generalize (w.alloc (.cells #[.slice none 0 0, .int .i64 0, .int .i64 0] 48)) = w1 at hK1 hR1 hP1 ⊢
  have k3' : w1.cell? ⟨g, i * 4 + 3, none⟩ = some (.int .i64 tp) := (hK1.cell (p := ⟨g, _, none⟩) hg1 hg2).trans k3
  obtain ⟨⟨d0, d1, _, _, _⟩, _⟩ := hP1.facts
  have HP1 := Lib.hid hP1
  have HR1 := Lib.hid hR1
  clear hP1 hR1 c0 c1 c2 k3
  go_still_tail 12, (by kernel_rfl)
  change wpList _ _ _ _ _ w1.drew
  have hK2 : Keep b w w1.drew := hK1.drewN 1
  have HP2 : Hid (Pst w1.drew b (.slice (some ⟨g, 0, none⟩) n cap) i 30 0 0) := HP1.out
  have HR2 : Hid (Blk3 w1.drew w.heap.size (.slice none 0 0) (.int .i64 0) (.int .i64 0)) := HR1.out
  clear hK1 HP1 HR1 k3' d0 d1
  generalize w1.drew = w2 at hK2 HP2 HR2 ⊢
  go_wp2_with fail
  refine (HF _ HP2.out).mono ?_
  rintro e w3 ⟨rfl, hp3, hk3⟩
  obtain ⟨⟨r0, r1, r2⟩, f0, f1, f2⟩ := (HR2.out.keep hk3 hrb).facts
  have HP3 := Lib.hid hp3
  have hK3 := hK2.trans hk3
  clear hp3 hk3
  unfold partZ
  go_wp2
  refine bodyPost_ret (v := partZ) (by simp [results, Tryd.results76, go_sem, partZ, r0, r1, r2]) rfl ⟨rfl, ?_, ?_⟩
  · exact ((HP3.out.other _ _ hrb _).other _ _ hrb _).other _ _ hrb _
  · exact ((hK3.setNew (Nat.le_refl _) _).setNew (Nat.le_refl _) _).setNew (Nat.le_refl _) _

set_option maxHeartbeats 2000000 in
theorem nested_go73 (l : List Tok) (b : Nat) (lv : Value) (i d : Nat) (r : Res) (w : World) (hp : Pst w b lv i d 0 0) (ht : TokS w b lv l) (hs : Sgn w) (h0 : 0 < b) (hd : d < 30) (hn : l.length ≤ 100000) (hlt : i < l.length)
    (hF : ∀ W, Pst W b lv ((i + 1 : Nat) : Int) ((d + 1 : Nat) : Int) 0 0 → TokS W b lv l → Sgn W → Calls Tryd.prog 73 #[.pointer (some ⟨b, 0, none⟩)] W (PPost l lv b (d + 1) (i + 1) r W)) :
    Calls Tryd.prog 76 #[.pointer (some ⟨b, 0, none⟩), .func (.func 73) #[] #[]] w (PPost l lv b d (i + 1) r w) := by
  have hb := hp.lt
  obtain ⟨⟨c0, c1, c2, c3, c4⟩, f1, f2, f3, f4⟩ := hp.facts
  have HP := Lib.hid hp
  have hrb : w.heap.size ≠ b := by omega
  have HF : Hid (∀ W, Pst W b lv ((i : Int) + 1) ((d : Int) + 1) 0 0 → TokS W b lv l → Sgn W → Calls Tryd.prog 73 #[.pointer (some ⟨b, 0, none⟩)] W (PPost l lv b (d + 1) (i + 1) r W)) := fun W h => hF W (by rw [Int.natCast_add, Int.natCast_add]; exact h)
  have HT := Lib.hid ht
  have HS := Lib.hid hs
  have q1 : ((d : Int) == 30) = false := by simp; omega
  clear hp hF ht hs
  go_enter Tryd.func76, Tryd.ntmps76
  go_wp2_with fail
  have hK1 : Keep b w (((w.setCell ⟨b, 1, none⟩ (.int .i64 ((i : Int) + 1))).setCell ⟨b, 2, none⟩ (.int .i64 ((d : Int) + 1))).alloc (.cells #[.slice none 0 0, .int .i64 0, .int .i64 0] 48)) := (((Keep.refl b w).setCell 1 _).setCell 2 _).alloc _
  have hP1 : Pst (((w.setCell ⟨b, 1, none⟩ (.int .i64 ((i : Int) + 1))).setCell ⟨b, 2, none⟩ (.int .i64 ((d : Int) + 1))).alloc (.cells #[.slice none 0 0, .int .i64 0, .int .i64 0] 48)) b lv ((i : Int) + 1) ((d : Int) + 1) 0 0 := ((HP.out.set.1 _).set.2.1 _).alloc _
  have hR1 : Blk3 (((w.setCell ⟨b, 1, none⟩ (.int .i64 ((i : Int) + 1))).setCell ⟨b, 2, none⟩ (.int .i64 ((d : Int) + 1))).alloc (.cells #[.slice none 0 0, .int .i64 0, .int .i64 0] 48)) w.heap.size (.slice none 0 0) (.int .i64 0) (.int .i64 0) := by
    have h := heap_alloc_new ((w.setCell ⟨b, 1, none⟩ (.int .i64 ((i : Int) + 1))).setCell ⟨b, 2, none⟩ (.int .i64 ((d : Int) + 1))) (.cells #[.slice none 0 0, .int .i64 0, .int .i64 0] 48)
    simpa [Blk3, World.setCell] using h
  have HT1 := Lib.hid (HT.out.keep hK1)
  have HS1 := Lib.hid (HS.out.keep hK1 h0)
  generalize (((w.setCell ⟨b, 1, none⟩ (.int .i64 ((i : Int) + 1))).setCell ⟨b, 2, none⟩ (.int .i64 ((d : Int) + 1))).alloc (.cells #[.slice none 0 0, .int .i64 0, .int .i64 0] 48)) = w1 at hK1 hP1 hR1 HT1 HS1 ⊢
  have HP1 := Lib.hid hP1
  have HR1 := Lib.hid hR1
  have HK1 := Lib.hid hK1
  clear hP1 hR1 hK1 c0 c1 c2 c3 c4 f1 f2 f3 f4 HT HS
  go_wp2_with fail
  refine (HF.out _ HP1.out HT1.out HS1.out).mono ?_
  rintro e w2 ⟨⟨pad, pcap, ps, pd, pxs⟩, j, er, pl, rfl, hp2, hin, hij, hjl, hk2, hres, hz⟩
  have HIN := Lib.hid hin
  have HRES := Lib.hid hres
  have HK2 := Lib.hid (HK1.out.trans hk2)
  have HR2 := Lib.hid (HR1.out.keep hk2 hrb)
  have HP2 := Lib.hid hp2
  have HZ := Lib.hid hz
  have hw2 : w.heap.size ≤ w2.heap.size := HK2.out.size
  have hrw : w.heap.size < w2.heap.size := HR2.out.lt
  have hb2 : b < w2.heap.size := HP2.out.lt
  obtain ⟨⟨c0, c1, c2, c3, c4⟩, f1, f2, f3, f4⟩ := hp2.facts
  obtain ⟨⟨r0, r1, r2⟩, rf0, rf1, rf2⟩ := HR2.out.facts
  clear hin hres hk2 hp2 hz HK1 HR1 HP1 HF HT1 HS1
  simp only [PtR.nv]
  have e1 : ((d : Int) + 1) - 1 = d := by omega
  obtain ⟨m, hm⟩ : ∃ m, m = pxs.length := ⟨_, rfl⟩
  rw [← hm]
  have HM := Lib.hid hm
  clear hm
  go_wp2_with fail
  obtain ⟨z1, z2, z3, z4⟩ := fin_part (HP2.out.set.2.1 d) (HR2.out.other b 2 hrb _) hrb (HIN.out.setP HP2.out) (HK2.out.setCell 2 _) (Nat.le_refl _) (.slice pad m pcap) (.int .i64 ps) (.int .i64 pd)
  refine bodyPost_ret (v := .agg #[.slice pad m pcap, .int .i64 ps, .int .i64 pd]) (results_part Tryd.results76 _ _ w.heap.size _ _ _ rfl (z4.alloc _)) rfl ?_
  refine ⟨⟨pad, pcap, ps, pd, pxs⟩, j, er, pl, ?_, z1.alloc _, z2.alloc _, hij, hjl, z3.alloc _, HRES.out, HZ.out⟩
  rw [HM.out]; rfl

set_option maxHeartbeats 2000000 in
theorem nested_go31 (l : List Tok) (b : Nat) (lv : Value) (i d : Nat) (r : Res) (w : World) (hp : Pst w b lv i d 0 0) (ht : TokS w b lv l) (hs : Sgn w) (h0 : 0 < b) (hd : d < 30) (hn : l.length ≤ 100000) (hlt : i < l.length)
    (hF : ∀ W, Pst W b lv ((i + 1 : Nat) : Int) ((d + 1 : Nat) : Int) 0 0 → TokS W b lv l → Sgn W → Calls Tryd.prog 31 #[.pointer (some ⟨b, 0, none⟩)] W (PPost l lv b (d + 1) (i + 1) r W)) :
    Calls Tryd.prog 76 #[.pointer (some ⟨b, 0, none⟩), .func (.func 31) #[] #[]] w (PPost l lv b d (i + 1) r w) := by
  have hb := hp.lt
  obtain ⟨⟨c0, c1, c2, c3, c4⟩, f1, f2, f3, f4⟩ := hp.facts
  have HP := Lib.hid hp
  have hrb : w.heap.size ≠ b := by omega
  have HF : Hid (∀ W, Pst W b lv ((i : Int) + 1) ((d : Int) + 1) 0 0 → TokS W b lv l → Sgn W → Calls Tryd.prog 31 #[.pointer (some ⟨b, 0, none⟩)] W (PPost l lv b (d + 1) (i + 1) r W)) := fun W h => hF W (by rw [Int.natCast_add, Int.natCast_add]; exact h)
  have HT := Lib.hid ht
  have HS := Lib.hid hs
  have q1 : ((d : Int) == 30) = false := by simp; omega
  clear hp hF ht hs
  go_enter Tryd.func76, Tryd.ntmps76
  go_wp2_with fail
  have hK1 : Keep b w (((w.setCell ⟨b, 1, none⟩ (.int .i64 ((i : Int) + 1))).setCell ⟨b, 2, none⟩ (.int .i64 ((d : Int) + 1))).alloc (.cells #[.slice none 0 0, .int .i64 0, .int .i64 0] 48)) := (((Keep.refl b w).setCell 1 _).setCell 2 _).alloc _
  have hP1 : Pst (((w.setCell ⟨b, 1, none⟩ (.int .i64 ((i : Int) + 1))).setCell ⟨b, 2, none⟩ (.int .i64 ((d : Int) + 1))).alloc (.cells #[.slice none 0 0, .int .i64 0, .int .i64 0] 48)) b lv ((i : Int) + 1) ((d : Int) + 1) 0 0 := ((HP.out.set.1 _).set.2.1 _).alloc _
  have hR1 : Blk3 (((w.setCell ⟨b, 1, none⟩ (.int .i64 ((i : Int) + 1))).setCell ⟨b, 2, none⟩ (.int .i64 ((d : Int) + 1))).alloc (.cells #[.slice none 0 0, .int .i64 0, .int .i64 0] 48)) w.heap.size (.slice none 0 0) (.int .i64 0) (.int .i64 0) := by
    have h := heap_alloc_new ((w.setCell ⟨b, 1, none⟩ (.int .i64 ((i : Int) + 1))).setCell ⟨b, 2, none⟩ (.int .i64 ((d : Int) + 1))) (.cells #[.slice none 0 0, .int .i64 0, .int .i64 0] 48)
    simpa [Blk3, World.setCell] using h
  have HT1 := Lib.hid (HT.out.keep hK1)
  have HS1 := Lib.hid (HS.out.keep hK1 h0)
  generalize (((w.setCell ⟨b, 1, none⟩ (.int .i64 ((i : Int) + 1))).setCell ⟨b, 2, none⟩ (.int .i64 ((d : Int) + 1))).alloc (.cells #[.slice none 0 0, .int .i64 0, .int .i64 0] 48)) = w1 at hK1 hP1 hR1 HT1 HS1 ⊢
  have HP1 := Lib.hid hP1
  have HR1 := Lib.hid hR1
  have HK1 := Lib.hid hK1
  clear hP1 hR1 hK1 c0 c1 c2 c3 c4 f1 f2 f3 f4 HT HS
  go_wp2_with fail
  refine (HF.out _ HP1.out HT1.out HS1.out).mono ?_
  rintro e w2 ⟨⟨pad, pcap, ps, pd, pxs⟩, j, er, pl, rfl, hp2, hin, hij, hjl, hk2, hres, hz⟩
  have HIN := Lib.hid hin
  have HRES := Lib.hid hres
  have HK2 := Lib.hid (HK1.out.trans hk2)
  have HR2 := Lib.hid (HR1.out.keep hk2 hrb)
  have HP2 := Lib.hid hp2
  have HZ := Lib.hid hz
  have hw2 : w.heap.size ≤ w2.heap.size := HK2.out.size
  have hrw : w.heap.size < w2.heap.size := HR2.out.lt
  have hb2 : b < w2.heap.size := HP2.out.lt
  obtain ⟨⟨c0, c1, c2, c3, c4⟩, f1, f2, f3, f4⟩ := hp2.facts
  obtain ⟨⟨r0, r1, r2⟩, rf0, rf1, rf2⟩ := HR2.out.facts
  clear hin hres hk2 hp2 hz HK1 HR1 HP1 HF HT1 HS1
  simp only [PtR.nv]
  have e1 : ((d : Int) + 1) - 1 = d := by omega
  obtain ⟨m, hm⟩ : ∃ m, m = pxs.length := ⟨_, rfl⟩
  rw [← hm]
  have HM := Lib.hid hm
  clear hm
  go_wp2_with fail
  obtain ⟨z1, z2, z3, z4⟩ := fin_part (HP2.out.set.2.1 d) (HR2.out.other b 2 hrb _) hrb (HIN.out.setP HP2.out) (HK2.out.setCell 2 _) (Nat.le_refl _) (.slice pad m pcap) (.int .i64 ps) (.int .i64 pd)
  refine bodyPost_ret (v := .agg #[.slice pad m pcap, .int .i64 ps, .int .i64 pd]) (results_part Tryd.results76 _ _ w.heap.size _ _ _ rfl (z4.alloc _)) rfl ?_
  refine ⟨⟨pad, pcap, ps, pd, pxs⟩, j, er, pl, ?_, z1.alloc _, z2.alloc _, hij, hjl, z3.alloc _, HRES.out, HZ.out⟩
  rw [HM.out]; rfl

end Go.Proofs.YtifbhlgingaahaaDoor
