/- Layer 14, the code: Back. -/
import Derived.Test.YtklejedddkhfjaaNl
namespace Go.Proofs.Ytklejedddkhfjaa
set_option linter.unusedSimpArgs false
set_option linter.unusedVariables false
open Go.RowKit

/-- A row whose first k edges are turned. -/
def swpL (A : List Edg) (k : Nat) : List Edg := (A.take k).map swp ++ A.drop k
theorem swpL_len (A : List Edg) (k : Nat) : (swpL A k).length = A.length := by simp [swpL]; omega
theorem swpL_zero (A : List Edg) : swpL A 0 = A := by simp [swpL]
theorem swpL_all (A : List Edg) : swpL A A.length = A.map swp := by simp [swpL]
theorem swpL_at (A : List Edg) (k : Nat) (h : k < A.length) : (swpL A k)[k]? = some A[k] := by
  unfold swpL
  have hl : ((A.take k).map swp).length = k := by rw [List.length_map, List.length_take]; omega
  rw [List.getElem?_append_right (by omega), hl, Nat.sub_self, List.getElem?_drop, Nat.add_zero, List.getElem?_eq_getElem h]
theorem swpL_set (A : List Edg) (k : Nat) (h : k < A.length) : (swpL A k).set k (swp A[k]) = swpL A (k + 1) := by
  unfold swpL
  have hl : ((A.take k).map swp).length = k := by rw [List.length_map, List.length_take]; omega
  rw [List.set_append_right _ _ (by omega), hl, Nat.sub_self, List.drop_eq_getElem_cons h, List.set_cons_zero, List.take_add_one, List.getElem?_eq_getElem h, List.map_append, List.append_assoc]
  rfl
def noG : Gr := ⟨[], [], []⟩
theorem noG_D (w : World) : GrD w (.slice none 0 0) (.slice none 0 0) (.slice none 0 0) noG := ⟨SlD.nil, SlD.nil, SlD.nil⟩
def backZ (g : Gr) : Gr := if rightG g = true then backG g else noG
def keepZ (g : Gr) (l : List Bool) : Gr := if rightG g = true then keepG g l else noG

set_option maxRecDepth 100000 in
set_option maxHeartbeats 8000000 in
theorem back_any (g : Gr) (vs va vt : Value) (w : World) (hd : GrD w vs va vt g) (hn : g.st.length ≤ 1001 ∧ g.to.length ≤ 1000 ∧ g.ag.length ≤ 1000) :
    Calls Try.prog 22 #[.agg #[vs, va, vt]] w fun e w' => ∃ us ua ut, e = .returned (.agg #[us, ua, ut]) ∧ GrD w' us ua ut (backZ g) ∧ Below w.heap.size w w' := by
  obtain ⟨q, hq⟩ : ∃ q, rightG g = q := ⟨_, rfl⟩
  have HR := Lib.hid fun (W : World) (h : Below w.heap.size w W) => right14_any g vs va vt W (hd.below h) hn q hq
  have HRW := Lib.hid fun (W : World) (h : Below w.heap.size w W) (hg : RG g) => list_any g hg vs va vt W (hd.below h) ⟨hn.1, hn.2.1⟩
  have HCT := Lib.hid fun (W : World) (h : Below w.heap.size w W) (h1 : 1 ≤ g.st.length) => count_any vs va vt g W (hd.below h).s h1 (by omega)
  have HQ := Lib.hid hq
  have HSZ : Hid (g.to.length ≤ 1000 ∧ g.st.length ≤ 1001) := Lib.hid ⟨hn.2.1, hn.1⟩
  obtain ⟨a1, p1, rfl⟩ := hd.s.shape0
  obtain ⟨a2, p2, rfl⟩ := hd.t.shape0
  obtain ⟨a3, p3, rfl⟩ := hd.a.shape0
  clear hd hn hq
  generalize hn : g.st.length = n at HR HRW HCT ⊢
  generalize hl : g.ag.length = l at HR HRW HCT ⊢
  generalize hm : g.to.length = m at HR HRW HCT ⊢
  have HN := Lib.hid hn
  clear hn hl hm
  have L2 := two_new w 26 26 #[.slice a1 n p1, .slice a3 l p3, .slice a2 m p2] #[.slice none 0 0, .slice none 0 0, .slice none 0 0]
  have BX := Lib.hid L2.1
  have KX := Lib.hid L2.2.1
  have RX := Lib.hid L2.2.2
  clear L2
  go_enter Try.func22, Try.ntmps22
  go_wp2_with fail
  generalize World.alloc (World.alloc w _) _ = w0 at BX KX RX ⊢
  obtain ⟨r, hr⟩ : ∃ r, r = w.heap.size + 1 := ⟨_, rfl⟩
  rw [← hr] at RX ⊢
  have HRR : Hid (w.heap.size < r ∧ r < w0.heap.size) := Lib.hid ⟨by omega, RX.out.lt⟩
  clear hr
  refine (HR.out _ BX.out).mono ?_
  rintro e w1 ⟨rfl, b1⟩
  have BY := Lib.hid (BX.out.trans (b1.mono BX.out.size))
  have KY := Lib.hid (KX.out.below b1)
  have RY := Lib.hid (RX.out.below b1)
  have HR1 : Hid (w.heap.size < r ∧ r < w1.heap.size) := Lib.hid ⟨HRR.out.1, RY.out.lt⟩
  clear b1 HR BX KX RX HRR
  cases q with
  | false =>
    have d0 := RY.out.cell 0
    have d1 := RY.out.cell 1
    have d2 := RY.out.cell 2
    have f0 := RY.out.fz 0
    have f1 := RY.out.fz 1
    have f2 := RY.out.fz 2
    have lr := RY.out.lt
    have HS := Lib.hid (set3_bk (.slice none 0 0) (.slice none 0 0) (.slice none 0 0) RY.out)
    have HK := Lib.hid (set3_keep (w := w1) (g := r) (.slice none 0 0) (.slice none 0 0) (.slice none 0 0))
    go_wp2_with fail
    generalize ((w1.setCell _ _).setCell _ _).setCell _ _ = w9 at HS HK ⊢
    clear d0 d1 d2
    have d0 := HS.out.cell 0
    have d1 := HS.out.cell 1
    have d2 := HS.out.cell 2
    refine bodyPost_ret (v := .agg #[.slice none 0 0, .slice none 0 0, .slice none 0 0]) (by simp [results, Try.results22, go_sem, d0, d1, d2]) rfl ?_
    exact ⟨_, _, _, rfl, by rw [show backZ g = noG from if_neg (fun h => by rw [HQ.out] at h; cases h)]; exact noG_D _, BY.out.trans (HK.out.below (fun _ h => by rw [h]; exact Nat.le_of_lt HR1.out.1) BY.out.size)⟩
  | true =>
    have HG := Lib.hid (right_RG g HQ.out)
    have HO : Hid (backZ g = bld (numN g) ((allL g).map swp)) := Lib.hid (if_pos HQ.out)
    have HLL : Hid ((allL g).length ≤ 1000 ∧ numN g ≤ 1000) := Lib.hid ⟨by rw [HG.out.allLen]; exact HSZ.out.1, by have := HSZ.out.2; unfold numN; omega⟩
    have HRK := Lib.hid fun (W : World) (h : Below w.heap.size w W) => HRW.out W h HG.out
    have HCK := Lib.hid fun (W : World) (h : Below w.heap.size w W) => HCT.out W h (by rw [← HN.out]; exact HG.out.pos)
    have c0 := KY.out.cell 0
    have c1 := KY.out.cell 1
    have c2 := KY.out.cell 2
    have lw := KY.out.lt
    obtain ⟨M, hM⟩ : ∃ M, M = (allL g).length := ⟨_, rfl⟩
    have HM := Lib.hid hM
    rw [← hM] at HLL HRK
    clear HRW HCT hM
    go_wp2_with fail
    refine (HRK.out _ BY.out).mono ?_
    rintro e w2 ⟨gl, rfl, ho, hlt, b2⟩
    have BZ := Lib.hid (BY.out.trans (b2.mono BY.out.size))
    have KZ := Lib.hid (KY.out.below b2)
    have RZ := Lib.hid (RY.out.below b2)
    have HE0 : Hid (BkE w2 gl (swpL (allL g) 0)) := Lib.hid (by rw [swpL_zero]; exact ho)
    have HGL : Hid (w.heap.size < gl) := Lib.hid (by have := BY.out.size; omega)
    clear b2 c0 c1 c2 lw ho hlt BY KY RY
    go_wp2_with fail
    go_loopg [4, 14] M (fun fuel s4 i' wr => ∃ (k : Nat), i' = .int .i64 k ∧ k ≤ M ∧ M - k ≤ fuel ∧ BkE wr gl (swpL (allL g) k) ∧ Below w.heap.size w wr ∧ Bk wr w.heap.size 26 #[.slice a1 n p1, .slice a3 l p3, .slice a2 m p2] ∧ Bk wr r 26 #[.slice none 0 0, .slice none 0 0, .slice none 0 0])
    case atStart => exact ⟨0, rfl, Nat.zero_le _, Nat.le_refl _, HE0.out, BZ.out, KZ.out, RZ.out⟩
    case round =>
      clear HE0 BZ KZ RZ
      obtain ⟨k, rfl, hk, hf, he, hb, hkk, hrr⟩ := hrel
      have HE := Lib.hid he
      have HB := Lib.hid hb
      have HK := Lib.hid hkk
      have HX := Lib.hid hrr
      clear he hb hkk hrr
      have i5 : IntKind.i64.wrap ((k : Int) + 1) = (k : Int) + 1 := IntWalk.i64_in _ (by have := HLL.out; omega)
      by_cases hlt : k < M
      · have hk1 : k < (allL g).length := by rw [← HM.out]; exact hlt
        obtain ⟨x0, x1, x2⟩ := bkE_at HE.out k _ (swpL_at _ k hk1)
        have HSE := Lib.hid (swpL_set (allL g) k hk1)
        obtain ⟨⟨ef, ea, et⟩, hE⟩ : ∃ e, e = (allL g)[k] := ⟨_, rfl⟩
        rw [← hE] at x0 x1 x2 HSE
        have HEN := Lib.hid (HE.out.set k (swp (ef, ea, et)))
        rw [HSE.out] at HEN
        have f0 := HE.out.fz (k * 3)
        have f1 := HE.out.fz (k * 3 + 1)
        have f2 := HE.out.fz (k * 3 + 2)
        have lg := HE.out.lt
        have i1 : (0 : Int) ≤ (k : Int) := by omega
        have i2 : (k : Int) < (M : Int) := by omega
        have HO3 := Lib.hid (set3_oth wr gl (k * 3) (k * 3 + 1) (k * 3 + 2) (.int .i64 et) (.int .i64 ea) (.int .i64 ef))
        have n1 : gl ≠ w.heap.size := Nat.ne_of_gt HGL.out
        have n2 : r ≠ gl := Ne.symm (bk_ne HE.out HX.out (by decide))
        have HBN := Lib.hid (HB.out.trans (HO3.out.below (fun _ h => by rw [h]; exact Nat.le_of_lt HGL.out) HB.out.size))
        have HKN := Lib.hid (HO3.out.bk HK.out (Ne.symm n1))
        have HXN := Lib.hid (HO3.out.bk HX.out n2)
        clear hk1 hE n1 n2 HO3 HSE
        go_wp2_with fail
        go_roundg (gk - 1)
        case measure => omega
        case rel => exact ⟨k + 1, by go_num, by omega, by omega, bk_alloc HEN.out _, bal HBN.out _, bk_alloc HKN.out _, bk_alloc HXN.out _⟩
      · obtain rfl : k = M := by omega
        have HE2 : Hid (BkE wr gl ((allL g).map swp)) := Lib.hid (by have h := HE.out; rw [HM.out, swpL_all] at h; exact h)
        have c0 := HK.out.cell 0
        have c1 := HK.out.cell 1
        have c2 := HK.out.cell 2
        have lw := HK.out.lt
        have HFR : Hid (∀ e ∈ (allL g).map swp, 0 ≤ e.1 ∧ e.1 < (numN g : Int)) := Lib.hid (swp_ok HG.out.allOk).fr
        have HML : Hid (((allL g).map swp).length = k) := Lib.hid (by rw [List.length_map, HM.out])
        clear HE hlt hf hk HRK
        go_wp2_with fail
        refine (HCK.out _ HB.out).mono ?_
        rintro e w3 ⟨rfl, b3⟩
        have B3 := Lib.hid (HB.out.trans (b3.mono HB.out.size))
        have X3 := Lib.hid (HX.out.below b3)
        have E3 := Lib.hid (edgsD_of_bk (show BkE w3 gl _ from Bk.below HE2.out b3) HML.out (by have := HLL.out; omega))
        clear b3 c0 c1 c2 lw HCK
        go_wp2_with fail
        have HLN := Lib.hid (bld_lens (numN g) _ HFR.out)
        refine (graph_any (numN g) _ _ _ E3.out HLL.out.2 (by rw [HML.out]; exact HLL.out.1) HFR.out).mono ?_
        rintro e w4 ⟨gs, ga, gt, rfl, gd, b4⟩
        have B4 := Lib.hid (B3.out.trans (b4.mono B3.out.size))
        have X4 := Lib.hid (X3.out.below b4)
        have HGD : Hid (GrB w3.heap.size w4 gs ga gt (backZ g)) := Lib.hid (by rw [HO.out]; exact gd)
        have HR3 : Hid (r < w3.heap.size) := Lib.hid X3.out.lt
        rw [HML.out]
        rw [HML.out, ← HO.out] at HLN
        clear gd b4
        have d0 := X4.out.cell 0
        have d1 := X4.out.cell 1
        have d2 := X4.out.cell 2
        have f0 := X4.out.fz 0
        have f1 := X4.out.fz 1
        have f2 := X4.out.fz 2
        have lr := X4.out.lt
        obtain ⟨N1, hN1⟩ : ∃ x, x = numN g + 1 := ⟨_, rfl⟩
        rw [← hN1] at HLN ⊢
        have HN6 : Hid (N1 ≤ 1000000 ∧ k ≤ 1000000 ∧ k ≤ 1000000) := Lib.hid (by have := HLL.out; omega)
        clear hN1
        have HS := Lib.hid (set3_bk (.slice (some ⟨gs, 0, none⟩) N1 N1) (.slice (some ⟨ga, 0, none⟩) k k) (.slice (some ⟨gt, 0, none⟩) k k) X4.out)
        have HK4 := Lib.hid (set3_keep (w := w4) (g := r) (.slice (some ⟨gs, 0, none⟩) N1 N1) (.slice (some ⟨ga, 0, none⟩) k k) (.slice (some ⟨gt, 0, none⟩) k k))
        go_wp2_with fail
        generalize ((w4.setCell _ _).setCell _ _).setCell _ _ = w9 at HS HK4 ⊢
        clear d0 d1 d2
        have d0 := HS.out.cell 0
        have d1 := HS.out.cell 1
        have d2 := HS.out.cell 2
        refine bodyPost_ret (v := .agg #[.slice (some ⟨gs, 0, none⟩) N1 N1, .slice (some ⟨ga, 0, none⟩) k k, .slice (some ⟨gt, 0, none⟩) k k]) (by simp [results, Try.results22, go_sem, d0, d1, d2]) rfl ?_
        refine ⟨_, _, _, rfl, ?_, B4.out.trans (HK4.out.below (fun _ h => by rw [h]; exact Nat.le_of_lt HR1.out.1) B4.out.size)⟩
        exact (HGD.out.oth HK4.out (fun _ h => by rw [h]; exact Nat.le_of_lt HR3.out)).grD HLN.out.1 HLN.out.2.1 HLN.out.2.2 HN6.out

end Go.Proofs.Ytklejedddkhfjaa
