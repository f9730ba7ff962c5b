/- Layer 14, the reference: Build. -/
import Derived.Test.YtkdpimifojjhaaaPa
namespace Go.Proofs.Ytkdpimifojjhaaa
set_option linter.unusedSimpArgs false
set_option linter.unusedVariables false
open Go.RowKit

/-- A graph whose rows are one's own. -/
structure GrO (B : Nat) (w : World) (us ua ut : Value) (g : Gr) : Prop where
  s : w.ownsRow B 3 1 us g.st.length (ints g.st)
  a : w.ownsRow B 3 1 ua g.ag.length (ints g.ag)
  t : w.ownsRow B 3 1 ut g.to.length (ints g.to)
theorem GrO.grD {B : Nat} {w : World} {us ua ut : Value} {g : Gr} (h : GrO B w us ua ut g) : GrD w us ua ut g :=
  ⟨intsD_of_own (by rw [← ints_flat]; exact h.s), intsD_of_own (by rw [← ints_flat]; exact h.a), intsD_of_own (by rw [← ints_flat]; exact h.t)⟩
theorem GrO.below {B : Nat} {w w' : World} {us ua ut : Value} {g : Gr} (h : GrO B w us ua ut g) (hb : Below w.heap.size w w') : GrO B w' us ua ut g := ⟨own_below h.s hb, own_below h.a hb, own_below h.t hb⟩
theorem GrO.oth {B : Nat} {F : Nat → Prop} {w w' : World} {us ua ut : Value} {g : Gr} (h : GrO B w us ua ut g) (ho : Oth F w w') (hF : ∀ x, F x → x < B) : GrO B w' us ua ut g :=
  ⟨ho.own h.s (fun x hx h1 => by have := hF _ h1; have := (h.s.lt x hx).1; omega), ho.own h.a (fun x hx h1 => by have := hF _ h1; have := (h.a.lt x hx).1; omega), ho.own h.t (fun x hx h1 => by have := hF _ h1; have := (h.t.lt x hx).1; omega)⟩
theorem noG_O (B : Nat) (w : World) : GrO B w (.slice none 0 0) (.slice none 0 0) (.slice none 0 0) noG := ⟨⟨rfl, .inl ⟨rfl, rfl⟩⟩, ⟨rfl, .inl ⟨rfl, rfl⟩⟩, ⟨rfl, .inl ⟨rfl, rfl⟩⟩⟩
theorem ints_inj {a b : List Int} (h : ints a = ints b) : a = b := by
  unfold ints at h
  exact (List.map_inj_right (fun x y e => by injection e)).1 h
theorem map_snoc {α β : Type} (f : α → β) (l : List α) (x : α) : (l ++ [x]).map f = l.map f ++ [f x] := by simp
set_option maxRecDepth 100000 in
set_option maxHeartbeats 8000000 in
theorem rbuild_own (n : Int) (l : List Edg) (v : Value) (w : World) (hd : EdgsD w v l) (hn : n ≤ 1000) (hl : l.length ≤ 1000) :
    Calls Try.prog 24 #[.int .i64 n, v] w fun e w' => ∃ us ua ut, e = .returned (.tuple #[.agg #[us, ua, ut], .int .i64 (buildE n l)]) ∧ GrO w.heap.size w' us ua ut (buildG n l) ∧ Below w.heap.size w w' := by
  have HD := Lib.hid hd
  obtain ⟨ad, cap, rfl⟩ := hd.shape0
  obtain ⟨m, hm⟩ : ∃ m, m = l.length := ⟨_, rfl⟩
  rw [← hm] at HD hl ⊢
  have HM := Lib.hid hm
  obtain ⟨q, hq⟩ : ∃ q, okB n l = q := ⟨_, rfl⟩
  have HQ := Lib.hid hq
  have HB : Hid (q = false → buildG n l = noG ∧ buildE n l = 1) := Lib.hid (fun h => ⟨if_neg (by rw [hq, h]; decide), if_neg (by rw [hq, h]; decide)⟩)
  have HC : Hid (q = true → buildG n l = bld n.toNat l ∧ buildE n l = 0) := Lib.hid (fun h => ⟨if_pos (by rw [hq, h]), if_pos (by rw [hq, h])⟩)
  have HSZ : Hid (n ≤ 1000 ∧ m ≤ 1000) := Lib.hid ⟨hn, hl⟩
  have BX := Lib.hid (bal (Below.refl w.heap.size w) (.cells #[.slice none 0 0, .slice none 0 0, .slice none 0 0] 24))
  have RX := Lib.hid (Bk.new w 24 #[.slice none 0 0, .slice none 0 0, .slice none 0 0])
  clear hd hl hm hq
  by_cases h0 : n < 0
  · have HF := Lib.hid (HB.out (by rw [← HQ.out]; unfold okB; rw [decide_eq_false (by omega)]; rfl))
    go_enter Try.func24, Try.ntmps24
    go_upto_region 1 with fail
    generalize World.alloc w _ = w0 at BX RX ⊢
    have HRR : Hid (w.heap.size ≤ w.heap.size) := Lib.hid (Nat.le_refl _)
    have d0 := RX.out.cell 0
    have d1 := RX.out.cell 1
    have d2 := RX.out.cell 2
    have f0 := RX.out.fz 0
    have f1 := RX.out.fz 1
    have f2 := RX.out.fz 2
    have lr := RX.out.lt
    have HS := Lib.hid (set3_bk (.slice none 0 0) (.slice none 0 0) (.slice none 0 0) RX.out)
    have HK := Lib.hid (set3_keep (w := w0) (g := w.heap.size) (.slice none 0 0) (.slice none 0 0) (.slice none 0 0))
    go_wp2_with fail
    generalize ((w0.setCell _ _).setCell _ _).setCell _ _ = w9 at HS HK ⊢
    clear d0 d1 d2
    have d0 := HS.out.cell 0
    have d1 := HS.out.cell 1
    have d2 := HS.out.cell 2
    refine bodyPost_ret (v := .tuple #[.agg #[.slice none 0 0, .slice none 0 0, .slice none 0 0], .int .i64 1]) (by simp [results, Try.results24, go_sem, d0, d1, d2]) rfl ?_
    exact ⟨_, _, _, by rw [HF.out.2], by rw [HF.out.1]; exact noG_O _ _, BX.out.trans (HK.out.below (fun _ h => by rw [h]; exact HRR.out) BX.out.size)⟩
  · have h1 : ¬ 100000 < n := by omega
    obtain ⟨N, rfl⟩ : ∃ N : Nat, n = (N : Int) := ⟨n.toNat, by omega⟩
    have HA0 : Hid ((l.drop 0).all (okE N) = q) := Lib.hid (by rw [← HQ.out]; unfold okB; rw [decide_eq_true (by omega)]; rfl)
    rw [Int.toNat_natCast] at HC
    clear HQ hn
    go_enter Try.func24, Try.ntmps24
    go_wp2_with fail
    generalize World.alloc w _ = w0 at BX RX ⊢
    obtain ⟨r, hr⟩ : ∃ r, r = w.heap.size := ⟨_, rfl⟩
    rw [← hr] at RX ⊢
    have HRR : Hid (w.heap.size ≤ r) := Lib.hid (Nat.le_of_eq hr.symm)
    clear hr
    go_loopg [6] m (fun fuel i' wr => ∃ (k : Nat), i' = .int .i64 k ∧ k ≤ m ∧ m - k ≤ fuel ∧ (l.drop k).all (okE N) = q ∧ wr = w0 ∧ (l.take k).all (okE N) = true)
    case atStart => exact ⟨0, rfl, Nat.zero_le _, Nat.le_refl _, HA0.out, rfl, rfl⟩
    case round =>
      clear HA0
      obtain ⟨k, rfl, hk, hf, ha, rfl, ht⟩ := hrel
      have HA := Lib.hid ha
      have HT := Lib.hid ht
      clear ha ht
      have i5 : IntKind.i64.wrap ((k : Int) + 1) = (k : Int) + 1 := IntWalk.i64_in _ (by have := HSZ.out; omega)
      by_cases hlt : k < m
      · have hk1 : k < l.length := by rw [← HM.out]; exact hlt
        obtain ⟨b, off, rfl, hbl, x0, x1, x2⟩ := EdgsD.at2 (HD.out.below BX.out) k hk1
        have HF := Lib.hid (all_at (p := okE N) hk1)
        have HTN : Hid (okE N l[k] = true → (l.take (k + 1)).all (okE N) = true) := Lib.hid (fun h => by
          rw [List.take_add_one, List.getElem?_eq_getElem hk1, List.all_append, HT.out]
          simp [h])
        obtain ⟨⟨ef, ea, et⟩, hE⟩ : ∃ e, e = l[k] := ⟨_, rfl⟩
        rw [← hE] at x0 x1 x2 HF HTN
        have i1 : (0 : Int) ≤ (k : Int) := by omega
        have i2 : (k : Int) < (m : Int) := by omega
        clear hk1 hE
        by_cases hok : okE N (ef, ea, et) = true
        · have hh := of_decide_eq_true hok
          have HAN : Hid ((l.drop (k + 1)).all (okE N) = q) := Lib.hid (by rw [← HA.out, HF.out, hok]; rfl)
          have HTT := Lib.hid (HTN.out hok)
          have a1 : ¬ ef < 0 := by have := hh.1.1; simp only [] at this; omega
          have a2 : ¬ (N : Int) ≤ ef := by have := hh.1.2; simp only [] at this; omega
          have a3 : ¬ et < 0 := by have := hh.2.1.1; simp only [] at this; omega
          have a4 : ¬ (N : Int) ≤ et := by have := hh.2.1.2; simp only [] at this; omega
          have a5 : ¬ ea < 0 := by have := hh.2.2; simp only [] at this; omega
          clear hok hh
          go_wp2_with fail
          go_roundg (gk - 1)
          case measure => omega
          case rel => exact ⟨k + 1, by go_num, by omega, by omega, HAN.out, rfl, HTT.out⟩
        · have HQF : Hid (q = false) := Lib.hid (by rw [← HA.out, HF.out, Bool.eq_false_iff.2 hok]; rfl)
          have HG := Lib.hid (HB.out HQF.out)
          clear HTN
          by_cases a1 : ef < 0
          · clear hok
            have d0 := RX.out.cell 0
            have d1 := RX.out.cell 1
            have d2 := RX.out.cell 2
            have f0 := RX.out.fz 0
            have f1 := RX.out.fz 1
            have f2 := RX.out.fz 2
            have lr := RX.out.lt
            have HS := Lib.hid (set3_bk (.slice none 0 0) (.slice none 0 0) (.slice none 0 0) RX.out)
            have HK := Lib.hid (set3_keep (w := wr) (g := r) (.slice none 0 0) (.slice none 0 0) (.slice none 0 0))
            go_wp2_with fail
            generalize ((wr.setCell _ _).setCell _ _).setCell _ _ = w9 at HS HK ⊢
            clear d0 d1 d2
            have d0 := HS.out.cell 0
            have d1 := HS.out.cell 1
            have d2 := HS.out.cell 2
            refine bodyPost_ret (v := .tuple #[.agg #[.slice none 0 0, .slice none 0 0, .slice none 0 0], .int .i64 1]) (by simp [results, Try.results24, go_sem, d0, d1, d2]) rfl ?_
            exact ⟨_, _, _, by rw [HG.out.2], by rw [HG.out.1]; exact noG_O _ _, BX.out.trans (HK.out.below (fun _ h => by rw [h]; exact HRR.out) BX.out.size)⟩
          · skip
            by_cases a2 : (N : Int) ≤ ef
            · clear hok
              have d0 := RX.out.cell 0
              have d1 := RX.out.cell 1
              have d2 := RX.out.cell 2
              have f0 := RX.out.fz 0
              have f1 := RX.out.fz 1
              have f2 := RX.out.fz 2
              have lr := RX.out.lt
              have HS := Lib.hid (set3_bk (.slice none 0 0) (.slice none 0 0) (.slice none 0 0) RX.out)
              have HK := Lib.hid (set3_keep (w := wr) (g := r) (.slice none 0 0) (.slice none 0 0) (.slice none 0 0))
              go_wp2_with fail
              generalize ((wr.setCell _ _).setCell _ _).setCell _ _ = w9 at HS HK ⊢
              clear d0 d1 d2
              have d0 := HS.out.cell 0
              have d1 := HS.out.cell 1
              have d2 := HS.out.cell 2
              refine bodyPost_ret (v := .tuple #[.agg #[.slice none 0 0, .slice none 0 0, .slice none 0 0], .int .i64 1]) (by simp [results, Try.results24, go_sem, d0, d1, d2]) rfl ?_
              exact ⟨_, _, _, by rw [HG.out.2], by rw [HG.out.1]; exact noG_O _ _, BX.out.trans (HK.out.below (fun _ h => by rw [h]; exact HRR.out) BX.out.size)⟩
            · skip
              by_cases a3 : et < 0
              · clear hok
                have d0 := RX.out.cell 0
                have d1 := RX.out.cell 1
                have d2 := RX.out.cell 2
                have f0 := RX.out.fz 0
                have f1 := RX.out.fz 1
                have f2 := RX.out.fz 2
                have lr := RX.out.lt
                have HS := Lib.hid (set3_bk (.slice none 0 0) (.slice none 0 0) (.slice none 0 0) RX.out)
                have HK := Lib.hid (set3_keep (w := wr) (g := r) (.slice none 0 0) (.slice none 0 0) (.slice none 0 0))
                go_wp2_with fail
                generalize ((wr.setCell _ _).setCell _ _).setCell _ _ = w9 at HS HK ⊢
                clear d0 d1 d2
                have d0 := HS.out.cell 0
                have d1 := HS.out.cell 1
                have d2 := HS.out.cell 2
                refine bodyPost_ret (v := .tuple #[.agg #[.slice none 0 0, .slice none 0 0, .slice none 0 0], .int .i64 1]) (by simp [results, Try.results24, go_sem, d0, d1, d2]) rfl ?_
                exact ⟨_, _, _, by rw [HG.out.2], by rw [HG.out.1]; exact noG_O _ _, BX.out.trans (HK.out.below (fun _ h => by rw [h]; exact HRR.out) BX.out.size)⟩
              · skip
                by_cases a4 : (N : Int) ≤ et
                · clear hok
                  have d0 := RX.out.cell 0
                  have d1 := RX.out.cell 1
                  have d2 := RX.out.cell 2
                  have f0 := RX.out.fz 0
                  have f1 := RX.out.fz 1
                  have f2 := RX.out.fz 2
                  have lr := RX.out.lt
                  have HS := Lib.hid (set3_bk (.slice none 0 0) (.slice none 0 0) (.slice none 0 0) RX.out)
                  have HK := Lib.hid (set3_keep (w := wr) (g := r) (.slice none 0 0) (.slice none 0 0) (.slice none 0 0))
                  go_wp2_with fail
                  generalize ((wr.setCell _ _).setCell _ _).setCell _ _ = w9 at HS HK ⊢
                  clear d0 d1 d2
                  have d0 := HS.out.cell 0
                  have d1 := HS.out.cell 1
                  have d2 := HS.out.cell 2
                  refine bodyPost_ret (v := .tuple #[.agg #[.slice none 0 0, .slice none 0 0, .slice none 0 0], .int .i64 1]) (by simp [results, Try.results24, go_sem, d0, d1, d2]) rfl ?_
                  exact ⟨_, _, _, by rw [HG.out.2], by rw [HG.out.1]; exact noG_O _ _, BX.out.trans (HK.out.below (fun _ h => by rw [h]; exact HRR.out) BX.out.size)⟩
                · skip
                  by_cases a5 : ea < 0
                  · clear hok
                    have d0 := RX.out.cell 0
                    have d1 := RX.out.cell 1
                    have d2 := RX.out.cell 2
                    have f0 := RX.out.fz 0
                    have f1 := RX.out.fz 1
                    have f2 := RX.out.fz 2
                    have lr := RX.out.lt
                    have HS := Lib.hid (set3_bk (.slice none 0 0) (.slice none 0 0) (.slice none 0 0) RX.out)
                    have HK := Lib.hid (set3_keep (w := wr) (g := r) (.slice none 0 0) (.slice none 0 0) (.slice none 0 0))
                    go_wp2_with fail
                    generalize ((wr.setCell _ _).setCell _ _).setCell _ _ = w9 at HS HK ⊢
                    clear d0 d1 d2
                    have d0 := HS.out.cell 0
                    have d1 := HS.out.cell 1
                    have d2 := HS.out.cell 2
                    refine bodyPost_ret (v := .tuple #[.agg #[.slice none 0 0, .slice none 0 0, .slice none 0 0], .int .i64 1]) (by simp [results, Try.results24, go_sem, d0, d1, d2]) rfl ?_
                    exact ⟨_, _, _, by rw [HG.out.2], by rw [HG.out.1]; exact noG_O _ _, BX.out.trans (HK.out.below (fun _ h => by rw [h]; exact HRR.out) BX.out.size)⟩
                  · exact absurd (decide_eq_true (⟨⟨by simp only []; omega, by simp only []; omega⟩, ⟨by simp only []; omega, by simp only []; omega⟩, by simp only []; omega⟩ : (0 ≤ ((ef, ea, et) : Edg).1 ∧ ((ef, ea, et) : Edg).1 < (N : Int)) ∧ (0 ≤ ((ef, ea, et) : Edg).2.2 ∧ ((ef, ea, et) : Edg).2.2 < (N : Int)) ∧ 0 ≤ ((ef, ea, et) : Edg).2.1)) hok
      · obtain rfl : k = m := by omega
        have HTL : Hid (l.all (okE N) = true) := Lib.hid (by have h := HT.out; rw [HM.out, List.take_length] at h; exact h)
        have HQT : Hid (q = true) := Lib.hid (by rw [← HA.out, HM.out, List.drop_length]; rfl)
        have HG := Lib.hid (HC.out HQT.out)
        have HAO : Hid (AllOk N l) := Lib.hid (fun e he => List.all_eq_true.1 HTL.out e he)
        have HLN := Lib.hid (bld_lens N l HAO.out.fr)
        clear HA HT HTL hlt hf hk i5 HB HC HQT
        go_upto_region 9 with fail
        obtain ⟨m, rfl⟩ : ∃ x, x = k := ⟨_, rfl⟩
        obtain ⟨w1, rfl⟩ : ∃ x, x = wr := ⟨_, rfl⟩
        have HR0 : Hid (RB w (w1.alloc (.cells #[.slice none 0 0, .slice none 0 0, .slice none 0 0] 24)) (w1.heap.size + 1) r w1.heap.size (.slice none 0 0) (.slice none 0 0) (.slice none 0 0) [] [] []) := Lib.hid ⟨bk_alloc RX.out _, Bk.new _ _ _, ⟨rfl, .inl ⟨rfl, rfl⟩⟩, ⟨rfl, .inl ⟨rfl, rfl⟩⟩, ⟨rfl, .inl ⟨rfl, rfl⟩⟩, (fun g h => by cases h), (fun g h => by cases h), (fun g h => by cases h), by have := RX.out.lt; omega, by omega, Nat.ne_of_lt RX.out.lt, by rw [alloc_size]; exact Nat.le_refl _, BX.out.size, bal BX.out _⟩
        have HR1 : Hid (r < w1.heap.size ∧ w.heap.size ≤ w1.heap.size) := Lib.hid ⟨RX.out.lt, BX.out.size⟩
        obtain ⟨g7, hg7⟩ : ∃ x, x = w1.heap.size := ⟨_, rfl⟩
        obtain ⟨B, hB⟩ : ∃ x, x = w1.heap.size + 1 := ⟨_, rfl⟩
        rw [← hB] at HR0
        rw [← hg7] at HR0 ⊢
        generalize World.alloc w1 _ = w2 at HR0 ⊢
        clear hg7 hB
        have HD2 := Lib.hid (fun (W : World) (h : Below w.heap.size w W) => EdgsD.below HD.out h)
        have c0 := HR0.out.h7.cell 0
        have l7 := HR0.out.h7.lt
        have b3 := (Below.refl w2.heap.size w2).alloc (Nat.le_refl _) (.cells #[.int .i64 0] 3)
        have HR3 := Lib.hid (HR0.out.below b3)
        have KB3 := Lib.hid (Bk.new w2 3 #[.int .i64 0])
        go_wp2_with (refine list_app1 rfl (.tmp 66) (.tmp 67) 22 3 (.int .i64 0) 8 rfl Try.underlying22 info_int rfl (by decide) B _ ([] : List Int).length _ rfl HR3.out.os w2.heap.size (.int .i64 0) rfl KB3.out rfl (by decide) HR3.out.bw (ints ([] ++ [0])) rfl ?_)
        intro g' cp w4 O4 B4 G4 E4
        have HR4 := Lib.hid (HR3.out.putS (Below.refl _ _) O4.out B4.out G4.out (by rw [alloc_size]; exact E4.out))
        have K4 := HR3.out.at7 (Below.refl _ _) B4.out
        have d0 := K4.cell 0
        have f0 := K4.fz 0
        have l4 := K4.lt
        clear O4 B4 G4 E4 K4 c0 l7 b3 KB3 HR3 HR0
        go_wp2_with fail
        have HR5 : Hid (∃ vs va vt, RB w (w4.setCell ⟨g7, 0, none⟩ (.slice (some ⟨g', 0, none⟩) 1 cp)) B r g7 vs va vt (stL l 0) ((srt 0 l).map (·.2.1)) ((srt 0 l).map (·.2.2))) := Lib.hid ⟨_, _, _, HR4.out⟩
        clear HR4 d0 f0 l4
        generalize w4.setCell _ _ = w5 at HR5 ⊢
        go_loopg [8, 9] N (fun fuel s8 s9 wr => ∃ (i : Nat) (vs va vt : Value), s8 = .int .i64 i ∧ i ≤ N ∧ N - i ≤ fuel ∧ RB w wr B r g7 vs va vt (stL l i) ((srt i l).map (·.2.1)) ((srt i l).map (·.2.2)))
        case atStart => obtain ⟨vs, va, vt, h⟩ := HR5.out; exact ⟨0, vs, va, vt, rfl, Nat.zero_le _, Nat.le_refl _, h⟩
        case round =>
          clear HR5
          obtain ⟨i, vs, va, vt, rfl, hi, hf, hrb⟩ := hrel
          have HRB := Lib.hid hrb
          have i5 : IntKind.i64.wrap ((i : Int) + 1) = (i : Int) + 1 := IntWalk.i64_in _ (by have := HSZ.out; omega)
          clear hrb
          by_cases hlt : i < N
          · have HF := Lib.hid hf
            have HLT := Lib.hid hlt
            clear hi hf
            go_wp2_with fail
            obtain ⟨w6, rfl⟩ : ∃ x, x = wr := ⟨_, rfl⟩
            obtain ⟨g6, rfl⟩ : ∃ x, x = gk := ⟨_, rfl⟩
            go_loopg [9] m (fun fuel s9 wr => ∃ (k : Nat) (va vt : Value), s9 = .int .i64 k ∧ k ≤ m ∧ m - k ≤ fuel ∧ RB w wr B r g7 vs va vt (stL l i) ((srt i l ++ ofN (l.take k) i).map (·.2.1)) ((srt i l ++ ofN (l.take k) i).map (·.2.2)))
            case atStart => exact ⟨0, va, vt, rfl, Nat.zero_le _, Nat.le_refl _, by rw [List.take_zero, show ofN [] i = [] from rfl, List.append_nil]; exact HRB.out⟩
            case round =>
              clear HRB
              clear va vt
              obtain ⟨k, va, vt, rfl, hk, hf, hrb⟩ := hrel
              have HRB := Lib.hid hrb
              have i6 : IntKind.i64.wrap ((k : Int) + 1) = (k : Int) + 1 := IntWalk.i64_in _ (by have := HSZ.out; omega)
              clear hrb
              by_cases hlt2 : k < m
              · have hk1 : k < l.length := by rw [← HM.out]; exact hlt2
                have HSM := Lib.hid (srt_more l i k hk1)
                have HLEN : Hid ((srt i l ++ ofN (l.take k) i).length ≤ 1000) := Lib.hid (by
                  rw [List.length_append]
                  have h1 := lenS_le (i + 1) l
                  have h2 := lenS_succ l i
                  have h3 := ofN_pre l i k
                  have h4 := HSZ.out
                  have h5 := HM.out
                  unfold lenS at h1 h2
                  omega)
                obtain ⟨b, off, rfl, hbl, y0, y1, y2⟩ := EdgsD.at2 HD.out k hk1
                obtain ⟨⟨ef, ea, et⟩, hE⟩ : ∃ e, e = l[k] := ⟨_, rfl⟩
                rw [← hE] at y0 y1 y2 HSM
                have X2 := Lib.hid (fun (W : World) (h : Below w.heap.size w W) => (h.cell (p := ⟨b, _, none⟩) hbl).trans y2)
                have x0 := (HRB.out.b.cell (p := ⟨b, _, none⟩) hbl).trans y0
                have x1 := (HRB.out.b.cell (p := ⟨b, _, none⟩) hbl).trans y1
                clear y0 y1 y2
                have i1 : (0 : Int) ≤ (k : Int) := by omega
                have i2 : (k : Int) < (m : Int) := by omega
                have HF2 := Lib.hid hf
                have HLT2 := Lib.hid hlt2
                clear hk1 hE hk hf
                by_cases hq : ef = (i : Int)
                · have qq : (ef == (i : Int)) = true := by simpa using hq
                  rw [if_pos hq] at HSM
                  clear hq
                  have c1 := HRB.out.h7.cell 1
                  have l7 := HRB.out.h7.lt
                  obtain ⟨aa, ac, hva, _⟩ := own_shape' HRB.out.oa
                  subst hva
                  obtain ⟨A, hA⟩ : ∃ A, A = (srt i l ++ ofN (l.take k) i).map (·.2.1) := ⟨_, rfl⟩
                  have HA := Lib.hid hA
                  rw [← hA] at HRB c1
                  obtain ⟨nA, hnA⟩ : ∃ n, A.length = n := ⟨_, rfl⟩
                  have HNA : Hid (A.length = nA ∧ nA ≤ 1000) := Lib.hid ⟨hnA, by rw [← hnA, hA, List.length_map]; exact HLEN.out⟩
                  rw [hnA] at HRB c1
                  clear hA hnA
                  have HOA := Lib.hid (show wr.ownsRow B 3 1 (.slice aa nA ac) nA (ints A) from HNA.out.1 ▸ HRB.out.oa)
                  go_wp2_with fail
                  go_region_law
                    ((refine step_appI (by rfl) (.tmp 89) (.tmp 95) (by rfl) B _ nA A (by rfl) (own_below HOA.out (by repeat' (first | with_reducible exact Below.refl _ _ | with_reducible refine bdr ?_ | with_reducible refine bal ?_ _))) HNA.out.1 _ ea (by rfl) (by repeat' (first | with_reducible refine bk_drew ?_ | ((refine bk_at ?_); (simp only [alloc_size]; done)) | with_reducible refine bk_alloc ?_ _)) (by have := HNA.out.2; omega) (Nat.le_trans HRB.out.bw (Below.size (by repeat' (first | with_reducible exact Below.refl _ _ | with_reducible refine bdr ?_ | with_reducible refine bal ?_ _)))) ?_; intro g' cap w' O B' G' E'; have HRN := Lib.hid (HRB.out.putA (by repeat' (first | with_reducible exact Below.refl _ _ | with_reducible refine bdr ?_ | with_reducible refine bal ?_ _)) O B' G' E'); have K7 := HRB.out.at7 (by repeat' (first | with_reducible exact Below.refl _ _ | with_reducible refine bdr ?_ | with_reducible refine bal ?_ _)) B'; have d1 := K7.cell 1; have f1 := K7.fz 1; have l1 := K7.lt))
                  all_goals
                    generalize World.setCell _ _ _ = w7 at HRN ⊢
                    clear O B' G' E' K7 d1 f1 l1 c1 l7 x0 x1 HRB HOA
                    have c2 := HRN.out.h7.cell 2
                    have l7 := HRN.out.h7.lt
                    have x2 := X2.out _ HRN.out.b
                    obtain ⟨ta, tc, hvt, _⟩ := own_shape' HRN.out.ot
                    subst hvt
                    obtain ⟨T, hT⟩ : ∃ T, T = (srt i l ++ ofN (l.take k) i).map (·.2.2) := ⟨_, rfl⟩
                    have HT := Lib.hid hT
                    rw [← hT] at HRN c2
                    obtain ⟨nT, hnT⟩ : ∃ n, T.length = n := ⟨_, rfl⟩
                    have HNT : Hid (T.length = nT ∧ nT ≤ 1000) := Lib.hid ⟨hnT, by rw [← hnT, hT, List.length_map]; exact HLEN.out⟩
                    rw [hnT] at HRN c2
                    clear hT hnT
                    have HOT := Lib.hid (show w7.ownsRow B 3 1 (.slice ta nT tc) nT (ints T) from HNT.out.1 ▸ HRN.out.ot)
                    go_wp2_with fail
                    go_region_law
                      ((refine step_appI (by rfl) (.tmp 99) (.tmp 105) (by rfl) B _ nT T (by rfl) (own_below HOT.out (by repeat' (first | with_reducible exact Below.refl _ _ | with_reducible refine bdr ?_ | with_reducible refine bal ?_ _))) HNT.out.1 _ et (by rfl) (by repeat' (first | with_reducible refine bk_drew ?_ | ((refine bk_at ?_); (simp only [alloc_size]; done)) | with_reducible refine bk_alloc ?_ _)) (by have := HNT.out.2; omega) (Nat.le_trans HRN.out.bw (Below.size (by repeat' (first | with_reducible exact Below.refl _ _ | with_reducible refine bdr ?_ | with_reducible refine bal ?_ _)))) ?_; intro g2' cap2 w2' O2 B2' G2' E2'; have HRM := Lib.hid (HRN.out.putT (by repeat' (first | with_reducible exact Below.refl _ _ | with_reducible refine bdr ?_ | with_reducible refine bal ?_ _)) O2 B2' G2' E2'); have K7 := HRN.out.at7 (by repeat' (first | with_reducible exact Below.refl _ _ | with_reducible refine bdr ?_ | with_reducible refine bal ?_ _)) B2'; have d1 := K7.cell 2; have f1 := K7.fz 2; have l1 := K7.lt))
                    all_goals
                      generalize World.setCell _ _ _ = w8 at HRM ⊢
                      have HRZ : Hid (∃ va vt, RB w w8 B r g7 vs va vt (stL l i) ((srt i l ++ ofN (l.take (k + 1)) i).map (·.2.1)) ((srt i l ++ ofN (l.take (k + 1)) i).map (·.2.2))) := Lib.hid (by
                        rw [HSM.out, map_snoc, map_snoc, ← HA.out, ← HT.out]
                        exact ⟨_, _, HRM.out⟩)
                      clear O2 B2' G2' E2' K7 d1 f1 l1 c2 l7 x2 HRN HOT HRM
                      go_wp2_with fail
                      have hf := HF2.out
                      have hlt := HLT2.out
                      go_roundg (gk - 1)
                      case measure => omega
                      case rel => obtain ⟨va, vt, h⟩ := HRZ.out; exact ⟨k + 1, va, vt, by go_num, by omega, by omega, h⟩
                · have qq : (ef == (i : Int)) = false := by simpa using hq
                  rw [if_neg hq, List.append_nil] at HSM
                  clear hq
                  go_wp2_with fail
                  have hf := HF2.out
                  have hlt := HLT2.out
                  go_roundg (gk - 1)
                  case measure => omega
                  case rel => exact ⟨k + 1, va, vt, by go_num, by omega, by omega, by rw [HSM.out]; exact HRB.out⟩
              · obtain rfl : k = m := by omega
                have HEQ : Hid (srt i l ++ ofN (l.take k) i = srt (i + 1) l) := Lib.hid (by rw [HM.out, List.take_length, srt_succ])
                rw [HEQ.out] at HRB
                have c0 := HRB.out.h7.cell 0
                have c2 := HRB.out.h7.cell 2
                have l7 := HRB.out.h7.lt
                obtain ⟨sa, sc, hvs, _⟩ := own_shape' HRB.out.os
                subst hvs
                obtain ⟨ta, tc, hvt, _⟩ := own_shape' HRB.out.ot
                subst hvt
                have hsl : (stL l i).length = i + 1 := stL_len l i
                have htl : ((srt (i + 1) l).map (·.2.2)).length = lenS l (i + 1) := by rw [List.length_map]; rfl
                rw [hsl] at c0 HRB
                rw [htl] at c2 HRB
                obtain ⟨L, hL⟩ : ∃ L, L = lenS l (i + 1) := ⟨_, rfl⟩
                rw [← hL] at c2 HRB
                have b3 := (Below.refl wr.heap.size wr).alloc (Nat.le_refl _) (.cells #[.int .i64 L] 3)
                have HR3 := Lib.hid (HRB.out.below b3)
                have KB3 := Lib.hid (Bk.new wr 3 #[.int .i64 L])
                have HST : Hid (ints (stL l i) ++ [.int .i64 L] = ints (stL l (i + 1))) := Lib.hid (by rw [← stL_succ, ← hL]; simp [ints])
                have HS6 : Hid (i + 1 ≤ 1000000) := Lib.hid (by have := HSZ.out; have := HLT.out; omega)
                have HSO := Lib.hid (show (wr.alloc (.cells #[.int .i64 L] 3)).ownsRow B 3 1 (.slice sa (i + 1) sc) (i + 1) (ints (stL l i)) from hsl ▸ HR3.out.os)
                clear hL hsl htl hlt2 hk hf
                go_wp2_with (refine list_app1 rfl (.tmp 109) (.tmp 113) 22 3 (.int .i64 0) 8 rfl Try.underlying22 info_int rfl (by decide) B _ (i + 1) _ rfl HSO.out wr.heap.size (.int .i64 L) rfl KB3.out rfl HS6.out HR3.out.bw (ints (stL l (i + 1))) HST.out ?_)
                intro g' cp w4 O4 B4 G4 E4
                have HO4 : Hid (w4.ownsRow B 3 1 (.slice (some ⟨g', 0, none⟩) (i + 1 + 1) cp) (stL l i ++ [(L : Int)]).length (ints (stL l i ++ [(L : Int)]))) := Lib.hid (by
                  rw [show ints (stL l i ++ [(L : Int)]) = ints (stL l (i + 1)) by rw [← HST.out]; simp [ints], List.length_append, stL_len]
                  exact O4.out)
                have HR4 := Lib.hid (HR3.out.putS (Below.refl _ _) HO4.out B4.out G4.out (by rw [alloc_size]; exact E4.out))
                have K4 := HR3.out.at7 (Below.refl _ _) B4.out
                have d0 := K4.cell 0
                have f0 := K4.fz 0
                have l4 := K4.lt
                have HR5 : Hid (RB w (w4.setCell ⟨g7, 0, none⟩ (.slice (some ⟨g', 0, none⟩) (i + 1 + 1) cp)) B r g7 (.slice (some ⟨g', 0, none⟩) (i + 1 + 1) cp) va _ (stL l (i + 1)) ((srt (i + 1) l).map (·.2.1)) ((srt (i + 1) l).map (·.2.2))) := Lib.hid (by
                  have h := HR4.out
                  rw [show stL l i ++ [(L : Int)] = stL l (i + 1) from by
                    have h2 := HST.out
                    rw [show ints (stL l i) ++ [Value.int .i64 (L : Int)] = ints (stL l i ++ [(L : Int)]) by simp [ints]] at h2
                    exact ints_inj h2] at h
                  exact h)
                clear O4 B4 G4 E4 HO4 HR4 HR3 K4 KB3 HSO c0 c2 l7 b3
                go_wp2_with fail
                have hf := HF.out
                have hlt := HLT.out
                go_roundg (g6 - 1)
                case measure => omega
                case rel => exact ⟨i + 1, _, _, _, by go_num, by omega, by omega, HR5.out⟩
          · obtain rfl : i = N := by omega
            have HGX : Hid (stL l i = (bld i l).st ∧ (srt i l).map (·.2.1) = (bld i l).ag ∧ (srt i l).map (·.2.2) = (bld i l).to) := Lib.hid ⟨rfl, rfl, rfl⟩
            rw [HGX.out.1, HGX.out.2.1, HGX.out.2.2] at HRB
            obtain ⟨sa, sc, hvs, _⟩ := own_shape' HRB.out.os
            subst hvs
            obtain ⟨aa, ac, hva, _⟩ := own_shape' HRB.out.oa
            subst hva
            obtain ⟨ta, tc, hvt, _⟩ := own_shape' HRB.out.ot
            subst hvt
            generalize (bld i l).st.length = x1 at HRB
            generalize (bld i l).ag.length = x2 at HRB
            generalize (bld i l).to.length = x3 at HRB
            have c0 := HRB.out.h7.cell 0
            have c1 := HRB.out.h7.cell 1
            have c2 := HRB.out.h7.cell 2
            have d0 := HRB.out.h4.cell 0
            have d1 := HRB.out.h4.cell 1
            have d2 := HRB.out.h4.cell 2
            have f0 := HRB.out.h4.fz 0
            have f1 := HRB.out.h4.fz 1
            have f2 := HRB.out.h4.fz 2
            have l7 := HRB.out.h7.lt
            have l4 := HRB.out.h4.lt
            have HS := Lib.hid (set3_bk (.slice sa x1 sc) (.slice aa x2 ac) (.slice ta x3 tc) HRB.out.h4)
            have HK4 := Lib.hid (set3_keep (w := wr) (g := r) (.slice sa x1 sc) (.slice aa x2 ac) (.slice ta x3 tc))
            clear hlt hi hf i5
            go_wp2_with fail
            generalize ((wr.setCell _ _).setCell _ _).setCell _ _ = w9 at HS HK4 ⊢
            clear d0 d1 d2 c0 c1 c2
            have d0 := HS.out.cell 0
            have d1 := HS.out.cell 1
            have d2 := HS.out.cell 2
            refine bodyPost_ret (v := .tuple #[.agg #[.slice sa x1 sc, .slice aa x2 ac, .slice ta x3 tc], .int .i64 0]) (by simp [results, Try.results24, go_sem, d0, d1, d2]) rfl ?_
            have HNR : Hid (∀ (v : Value) (k : Nat) (xs : List Value), wr.ownsRow B 3 1 v k xs → w9.ownsRow B 3 1 v k xs) := Lib.hid (fun v k xs h => HK4.out.own h (fun g hg hx => by have h1 := (h.lt g hg).1; have h2 := HRB.out.l4; omega))
            refine ⟨_, _, _, by rw [HG.out.2], ?_, HRB.out.b.trans (HK4.out.below (fun _ h => by rw [h]; exact HRR.out) HRB.out.b.size)⟩
            rw [HG.out.1]
            have hB : w.heap.size ≤ B := by have := HRR.out; have := HRB.out.l4; omega
            exact ⟨own_base (HNR.out _ _ _ HRB.out.os) hB, own_base (HNR.out _ _ _ HRB.out.oa) hB, own_base (HNR.out _ _ _ HRB.out.ot) hB⟩
theorem rbuild_any (n : Int) (l : List Edg) (v : Value) (w : World) (hd : EdgsD w v l) (hn : n ≤ 1000) (hl : l.length ≤ 1000) :
    Calls Try.prog 24 #[.int .i64 n, v] w fun e w' => ∃ us ua ut, e = .returned (.tuple #[.agg #[us, ua, ut], .int .i64 (buildE n l)]) ∧ GrD w' us ua ut (buildG n l) ∧ Below w.heap.size w w' := by
  refine (rbuild_own n l v w hd hn hl).mono ?_
  rintro e w' ⟨us, ua, ut, h1, h2, h3⟩
  exact ⟨us, ua, ut, h1, h2.grD, h3⟩

end Go.Proofs.Ytkdpimifojjhaaa
