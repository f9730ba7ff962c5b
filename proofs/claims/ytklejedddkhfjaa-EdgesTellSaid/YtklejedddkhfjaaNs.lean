/- Layer 14, the code: Build. -/
import Derived.Test.YtklejedddkhfjaaNm
namespace Go.Proofs.Ytklejedddkhfjaa
set_option linter.unusedSimpArgs false
set_option linter.unusedVariables false
open Go.RowKit

/-- Is there a graph of these edges? Which one, which error? -/
def okB (n : Int) (l : List Edg) : Bool := decide (0 ≤ n) && l.all (okE n)
def buildG (n : Int) (l : List Edg) : Gr := if okB n l = true then bld n.toNat l else noG
def buildE (n : Int) (l : List Edg) : Int := if okB n l = true then 0 else 1
theorem all_at {l : List Edg} {p : Edg → Bool} {k : Nat} (h : k < l.length) : (l.drop k).all p = (p l[k] && (l.drop (k + 1)).all p) := by
  rw [List.drop_eq_getElem_cons h, List.all_cons]

theorem okE_parts (N : Int) (e : Edg) : okE N e = (decide (0 ≤ e.1 ∧ e.1 < N) && (decide (0 ≤ e.2.2 ∧ e.2.2 < N) && decide (0 ≤ e.2.1))) := by
  rw [Bool.eq_iff_iff]
  unfold okE
  simp only [Bool.and_eq_true, decide_eq_true_eq]
set_option maxRecDepth 100000 in
set_option maxHeartbeats 8000000 in
theorem build_any (n : Int) (l : List Edg) (v : Value) (w : World) (hd : EdgsD w v l) (hn : n ≤ 1000) (hl : l.length ≤ 1000) :
    Calls Try.prog 9 #[.int .i64 n, v] w fun e w' => ∃ us ua ut, e = .returned (.tuple #[.agg #[us, ua, ut], .int .i64 (buildE n l)]) ∧ GrD w' us ua ut (buildG n l) ∧ Below w.heap.size w w' := by
  have HD := Lib.hid hd
  obtain ⟨ad, cap, rfl⟩ := hd.shape0
  obtain ⟨m, hm⟩ : ∃ m, m = l.length := ⟨_, rfl⟩
  rw [← hm] at HD hl ⊢
  have HM := Lib.hid hm
  obtain ⟨q, hq⟩ : ∃ q, okB n l = q := ⟨_, rfl⟩
  have HQ := Lib.hid hq
  have HB : Hid (q = false → buildG n l = noG ∧ buildE n l = 1) := Lib.hid (fun h => ⟨if_neg (by rw [hq, h]; decide), if_neg (by rw [hq, h]; decide)⟩)
  have HC : Hid (q = true → buildG n l = bld n.toNat l ∧ buildE n l = 0) := Lib.hid (fun h => ⟨if_pos (by rw [hq, h]), if_pos (by rw [hq, h])⟩)
  have HSZ : Hid (n ≤ 1000 ∧ m ≤ 1000) := Lib.hid ⟨hn, hl⟩
  have BX := Lib.hid (bal (Below.refl w.heap.size w) (.cells #[.slice none 0 0, .slice none 0 0, .slice none 0 0] 26))
  have RX := Lib.hid (Bk.new w 26 #[.slice none 0 0, .slice none 0 0, .slice none 0 0])
  clear hd hl hm hq
  by_cases h0 : n < 0
  · have HF := Lib.hid (HB.out (by rw [← HQ.out]; unfold okB; rw [decide_eq_false (by omega)]; rfl))
    go_enter Try.func9, Try.ntmps9
    go_upto_region 1 with fail
    generalize World.alloc w _ = w0 at BX RX ⊢
    have HRR : Hid (w.heap.size ≤ w.heap.size) := Lib.hid (Nat.le_refl _)
    have d0 := RX.out.cell 0
    have d1 := RX.out.cell 1
    have d2 := RX.out.cell 2
    have f0 := RX.out.fz 0
    have f1 := RX.out.fz 1
    have f2 := RX.out.fz 2
    have lr := RX.out.lt
    have HS := Lib.hid (set3_bk (.slice none 0 0) (.slice none 0 0) (.slice none 0 0) RX.out)
    have HK := Lib.hid (set3_keep (w := w0) (g := w.heap.size) (.slice none 0 0) (.slice none 0 0) (.slice none 0 0))
    go_wp2_with fail
    generalize ((w0.setCell _ _).setCell _ _).setCell _ _ = w9 at HS HK ⊢
    clear d0 d1 d2
    have d0 := HS.out.cell 0
    have d1 := HS.out.cell 1
    have d2 := HS.out.cell 2
    refine bodyPost_ret (v := .tuple #[.agg #[.slice none 0 0, .slice none 0 0, .slice none 0 0], .int .i64 1]) (by simp [results, Try.results9, go_sem, d0, d1, d2]) rfl ?_
    exact ⟨_, _, _, by rw [HF.out.2], by rw [HF.out.1]; exact noG_D _, BX.out.trans (HK.out.below (fun _ h => by rw [h]; exact HRR.out) BX.out.size)⟩
  · have h1 : ¬ 100000 < n := by omega
    obtain ⟨N, rfl⟩ : ∃ N : Nat, n = (N : Int) := ⟨n.toNat, by omega⟩
    have HA0 : Hid ((l.drop 0).all (okE N) = q) := Lib.hid (by rw [← HQ.out]; unfold okB; rw [decide_eq_true (by omega)]; rfl)
    rw [Int.toNat_natCast] at HC
    clear HQ hn
    go_enter Try.func9, Try.ntmps9
    go_wp2_with fail
    generalize World.alloc w _ = w0 at BX RX ⊢
    obtain ⟨r, hr⟩ : ∃ r, r = w.heap.size := ⟨_, rfl⟩
    rw [← hr] at RX ⊢
    have HRR : Hid (w.heap.size ≤ r) := Lib.hid (Nat.le_of_eq hr.symm)
    clear hr
    go_loopg [17] m (fun fuel i' wr => ∃ (k : Nat), i' = .int .i64 k ∧ k ≤ m ∧ m - k ≤ fuel ∧ (l.drop k).all (okE N) = q ∧ Below w.heap.size w wr ∧ Bk wr r 26 #[.slice none 0 0, .slice none 0 0, .slice none 0 0] ∧ (l.take k).all (okE N) = true)
    case atStart => exact ⟨0, rfl, Nat.zero_le _, Nat.le_refl _, HA0.out, BX.out, RX.out, rfl⟩
    case round =>
      clear HA0 BX RX
      obtain ⟨k, rfl, hk, hf, ha, hb, hx, ht⟩ := hrel
      have HA := Lib.hid ha
      have BW := Lib.hid hb
      have RW := Lib.hid hx
      have HT := Lib.hid ht
      clear ha hb hx ht
      have i5 : IntKind.i64.wrap ((k : Int) + 1) = (k : Int) + 1 := IntWalk.i64_in _ (by have := HSZ.out; omega)
      by_cases hlt : k < m
      · have hk1 : k < l.length := by rw [← HM.out]; exact hlt
        obtain ⟨b, off, rfl, hbl, x0, x1, x2⟩ := EdgsD.at2 (HD.out.below BW.out) k hk1
        have HF := Lib.hid (all_at (p := okE N) hk1)
        have HTN : Hid (okE N l[k] = true → (l.take (k + 1)).all (okE N) = true) := Lib.hid (fun h => by
          rw [List.take_add_one, List.getElem?_eq_getElem hk1, List.all_append, HT.out]
          simp [h])
        obtain ⟨⟨ef, ea, et⟩, hE⟩ : ∃ e, e = l[k] := ⟨_, rfl⟩
        rw [← hE] at x0 x1 x2 HF HTN
        have i1 : (0 : Int) ≤ (k : Int) := by omega
        have i2 : (k : Int) < (m : Int) := by omega
        obtain ⟨q1, hq1⟩ : ∃ q, decide (0 ≤ ef ∧ ef < (N : Int)) = q := ⟨_, rfl⟩
        obtain ⟨q2, hq2⟩ : ∃ q, decide (0 ≤ et ∧ et < (N : Int)) = q := ⟨_, rfl⟩
        have HOK : Hid (okE N (ef, ea, et) = (q1 && (q2 && decide (0 ≤ ea)))) := Lib.hid (by rw [← hq1, ← hq2]; exact okE_parts N (ef, ea, et))
        have HQ1 := Lib.hid hq1
        have HQ2 := Lib.hid hq2
        have HEB := Lib.hid (Bk.new wr 44 #[.int .i64 ef, .int .i64 ea, .int .i64 et])
        have BW2 := Lib.hid (bal BW.out (.cells #[.int .i64 ef, .int .i64 ea, .int .i64 et] 44))
        have RW2 := Lib.hid (bk_alloc RW.out (.cells #[.int .i64 ef, .int .i64 ea, .int .i64 et] 44))
        clear hk1 hE hq1 hq2
        go_wp2_with fail
        refine (within_any _ _ q1 HQ1.out _).mono ?_
        rintro e w7 ⟨rfl, rfl⟩
        cases q1 with
        | false =>
          have HQF : Hid (q = false) := Lib.hid (by rw [← HA.out, HF.out, HOK.out]; rfl)
          have HG := Lib.hid (HB.out HQF.out)
          generalize World.alloc _ _ = w7 at RW2 BW2 ⊢
          have d0 := RW2.out.cell 0
          have d1 := RW2.out.cell 1
          have d2 := RW2.out.cell 2
          have f0 := RW2.out.fz 0
          have f1 := RW2.out.fz 1
          have f2 := RW2.out.fz 2
          have lr := RW2.out.lt
          have HS := Lib.hid (set3_bk (.slice none 0 0) (.slice none 0 0) (.slice none 0 0) RW2.out)
          have HK := Lib.hid (set3_keep (w := w7) (g := r) (.slice none 0 0) (.slice none 0 0) (.slice none 0 0))
          go_wp2_with fail
          generalize ((w7.setCell _ _).setCell _ _).setCell _ _ = w9 at HS HK ⊢
          clear d0 d1 d2
          have d0 := HS.out.cell 0
          have d1 := HS.out.cell 1
          have d2 := HS.out.cell 2
          refine bodyPost_ret (v := .tuple #[.agg #[.slice none 0 0, .slice none 0 0, .slice none 0 0], .int .i64 1]) (by simp [results, Try.results9, go_sem, d0, d1, d2]) rfl ?_
          exact ⟨_, _, _, by rw [HG.out.2], by rw [HG.out.1]; exact noG_D _, BW2.out.trans (HK.out.below (fun _ h => by rw [h]; exact HRR.out) BW2.out.size)⟩
        | true =>
          go_wp2_with fail
          refine (within_any _ _ q2 HQ2.out _).mono ?_
          rintro e w8 ⟨rfl, rfl⟩
          cases q2 with
          | false =>
            have HQF : Hid (q = false) := Lib.hid (by rw [← HA.out, HF.out, HOK.out]; rfl)
            have HG := Lib.hid (HB.out HQF.out)
            generalize World.alloc _ _ = w7 at RW2 BW2 ⊢
            have d0 := RW2.out.cell 0
            have d1 := RW2.out.cell 1
            have d2 := RW2.out.cell 2
            have f0 := RW2.out.fz 0
            have f1 := RW2.out.fz 1
            have f2 := RW2.out.fz 2
            have lr := RW2.out.lt
            have HS := Lib.hid (set3_bk (.slice none 0 0) (.slice none 0 0) (.slice none 0 0) RW2.out)
            have HK := Lib.hid (set3_keep (w := w7) (g := r) (.slice none 0 0) (.slice none 0 0) (.slice none 0 0))
            go_wp2_with fail
            generalize ((w7.setCell _ _).setCell _ _).setCell _ _ = w9 at HS HK ⊢
            clear d0 d1 d2
            have d0 := HS.out.cell 0
            have d1 := HS.out.cell 1
            have d2 := HS.out.cell 2
            refine bodyPost_ret (v := .tuple #[.agg #[.slice none 0 0, .slice none 0 0, .slice none 0 0], .int .i64 1]) (by simp [results, Try.results9, go_sem, d0, d1, d2]) rfl ?_
            exact ⟨_, _, _, by rw [HG.out.2], by rw [HG.out.1]; exact noG_D _, BW2.out.trans (HK.out.below (fun _ h => by rw [h]; exact HRR.out) BW2.out.size)⟩
          | true =>
            by_cases hea : ea < 0
            · have HQF : Hid (q = false) := Lib.hid (by rw [← HA.out, HF.out, HOK.out, decide_eq_false (by omega)]; rfl)
              have HG := Lib.hid (HB.out HQF.out)
              generalize World.alloc _ _ = w7 at HEB RW2 BW2 ⊢
              have e1 := HEB.out.cell 1
              have le := HEB.out.lt
              have d0 := RW2.out.cell 0
              have d1 := RW2.out.cell 1
              have d2 := RW2.out.cell 2
              have f0 := RW2.out.fz 0
              have f1 := RW2.out.fz 1
              have f2 := RW2.out.fz 2
              have lr := RW2.out.lt
              have HS := Lib.hid (set3_bk (.slice none 0 0) (.slice none 0 0) (.slice none 0 0) RW2.out)
              have HK := Lib.hid (set3_keep (w := w7) (g := r) (.slice none 0 0) (.slice none 0 0) (.slice none 0 0))
              go_wp2_with fail
              generalize ((w7.setCell _ _).setCell _ _).setCell _ _ = w9 at HS HK ⊢
              clear d0 d1 d2
              have d0 := HS.out.cell 0
              have d1 := HS.out.cell 1
              have d2 := HS.out.cell 2
              refine bodyPost_ret (v := .tuple #[.agg #[.slice none 0 0, .slice none 0 0, .slice none 0 0], .int .i64 1]) (by simp [results, Try.results9, go_sem, d0, d1, d2]) rfl ?_
              exact ⟨_, _, _, by rw [HG.out.2], by rw [HG.out.1]; exact noG_D _, BW2.out.trans (HK.out.below (fun _ h => by rw [h]; exact HRR.out) BW2.out.size)⟩
            · have HOE : Hid (okE N (ef, ea, et) = true) := Lib.hid (by rw [HOK.out, decide_eq_true (by omega)]; rfl)
              have HAN : Hid ((l.drop (k + 1)).all (okE N) = q) := Lib.hid (by rw [← HA.out, HF.out, HOE.out]; rfl)
              have HTT := Lib.hid (HTN.out HOE.out)
              go_wp2_with fail
              go_roundg (gk - 1)
              case measure => omega
              case rel => exact ⟨k + 1, by go_num, by omega, by omega, HAN.out, BW2.out, RW2.out, HTT.out⟩
      · obtain rfl : k = m := by omega
        have HTL : Hid (l.all (okE N) = true) := Lib.hid (by have h := HT.out; rw [HM.out, List.take_length] at h; exact h)
        have HQT : Hid (q = true) := Lib.hid (by rw [← HA.out, HM.out, List.drop_length]; rfl)
        have HG := Lib.hid (HC.out HQT.out)
        have HAO : Hid (AllOk N l) := Lib.hid (fun e he => List.all_eq_true.1 HTL.out e he)
        have HLN := Lib.hid (bld_lens N l HAO.out.fr)
        have HED := Lib.hid (HD.out.below BW.out)
        clear HA HT HTL hlt hf hk
        go_wp2_with fail
        refine (graph_any N l _ _ HED.out (by have := HSZ.out; omega) (by rw [← HM.out]; exact HSZ.out.2) HAO.out.fr).mono ?_
        rintro e w4 ⟨gs, ga, gt, rfl, gd, b4⟩
        have B4 := Lib.hid (BW.out.trans (b4.mono BW.out.size))
        have X4 := Lib.hid (RW.out.below b4)
        have HGD : Hid (GrB wr.heap.size w4 gs ga gt (buildG N l)) := Lib.hid (by rw [HG.out.1]; exact gd)
        have HR3 : Hid (r < wr.heap.size) := Lib.hid RW.out.lt
        rw [← HM.out]
        rw [← HM.out, ← HG.out.1] at HLN
        clear gd b4
        have d0 := X4.out.cell 0
        have d1 := X4.out.cell 1
        have d2 := X4.out.cell 2
        have f0 := X4.out.fz 0
        have f1 := X4.out.fz 1
        have f2 := X4.out.fz 2
        have lr := X4.out.lt
        obtain ⟨N1, hN1⟩ : ∃ x, x = N + 1 := ⟨_, rfl⟩
        rw [← hN1] at HLN ⊢
        have HN6 : Hid (N1 ≤ 1000000 ∧ k ≤ 1000000 ∧ k ≤ 1000000) := Lib.hid (by have := HSZ.out; omega)
        clear hN1
        have HS := Lib.hid (set3_bk (.slice (some ⟨gs, 0, none⟩) N1 N1) (.slice (some ⟨ga, 0, none⟩) k k) (.slice (some ⟨gt, 0, none⟩) k k) X4.out)
        have HK4 := Lib.hid (set3_keep (w := w4) (g := r) (.slice (some ⟨gs, 0, none⟩) N1 N1) (.slice (some ⟨ga, 0, none⟩) k k) (.slice (some ⟨gt, 0, none⟩) k k))
        go_wp2_with fail
        generalize ((w4.setCell _ _).setCell _ _).setCell _ _ = w9 at HS HK4 ⊢
        clear d0 d1 d2
        have d0 := HS.out.cell 0
        have d1 := HS.out.cell 1
        have d2 := HS.out.cell 2
        refine bodyPost_ret (v := .tuple #[.agg #[.slice (some ⟨gs, 0, none⟩) N1 N1, .slice (some ⟨ga, 0, none⟩) k k, .slice (some ⟨gt, 0, none⟩) k k], .int .i64 0]) (by simp [results, Try.results9, go_sem, d0, d1, d2]) rfl ?_
        refine ⟨_, _, _, by rw [HG.out.2], ?_, B4.out.trans (HK4.out.below (fun _ h => by rw [h]; exact HRR.out) B4.out.size)⟩
        exact (HGD.out.oth HK4.out (fun _ h => by rw [h]; exact Nat.le_of_lt HR3.out)).grD HLN.out.1 HLN.out.2.1 HLN.out.2.2 HN6.out

end Go.Proofs.Ytklejedddkhfjaa
