/- LegalMore: the walk. -/
import Derived.Test.YtlpgafgiljffhaaGreatDoorIp
import Derived.Deep.DeepCutAuto
namespace Go.Proofs.YtlpgafgiljffhaaGreatDoor
open Go.RowKit
set_option linter.unusedSimpArgs false
set_option linter.unusedVariables false
theorem any_take {α : Type} (p : α → Bool) (l : List α) (k : Nat) (h : k < l.length) : (l.take (k + 1)).any p = ((l.take k).any p || p l[k]) := by
  rw [List.take_succ_eq_append_getElem h, List.any_append]; simp
theorem nms_more (vs : List Vr) (F : Vr) : rowV vs ++ [.string F.nm, .int .i64 F.n, .int .i64 F.pl] = rowV (vs ++ [F]) := by rw [rowV_append]; rfl
theorem bk_bel {w w' : World} {B b T : Nat} {cs : Array Value} (h : Bk w b T cs) (hb : Below B w w') (hl : b < B) : Bk w' b T cs := by unfold Bk at *; rw [hb.block b hl]; exact h
section
variable {w : World}
set_option maxRecDepth 100000 in
set_option maxHeartbeats 8000000 in
theorem legalMore_walk (pv : Value) (m : Int) (vs : List Vr) (ts : List TI) (cs : List CI) (n : Int) (w : World) (hp : PgL w pv m vs ts cs) (hwn : (Lit.int .u8 n).wf = true) (hf : Flds w) :
    Calls Tryz.prog 7 #[pv, .int .u8 n] w fun e w' => e = .returned (.bool true) ∧ Below w.heap.size w w' := by
  have hn8 : 0 ≤ n ∧ n ≤ 255 := by
    have h2 : IntKind.u8.min ≤ n ∧ n ≤ IntKind.u8.max := by simpa [Lit.wf] using hwn
    exact h2
  obtain ⟨R, hR⟩ : ∃ R, lightP vs ts cs = R := ⟨_, rfl⟩
  have HL := Lib.hid (fun (W : World) (hb : Below w.heap.size w W) => light4_any pv m vs ts cs W (pgl_below hp hb) R hR)
  have HK := Lib.hid (fun (W : World) (hb : Below w.heap.size w W) => known_any W (flds_below hf hb))
  have HF := Lib.hid hf
  have HR := Lib.hid hR
  obtain ⟨v1, v2, v3, rfl, h1, h2, h3⟩ := hp.v
  obtain ⟨a1, c1, rfl⟩ := SlD.shape h1
  obtain ⟨a2, c2, rfl⟩ := SlD.shape h2
  obtain ⟨a3, c3, rfl⟩ := SlD.shape h3
  obtain ⟨n1, hn1⟩ : ∃ n, n = vs.length := ⟨_, rfl⟩
  obtain ⟨n2, hn2⟩ : ∃ n, n = ts.length := ⟨_, rfl⟩
  obtain ⟨n3, hn3⟩ : ∃ n, n = cs.length := ⟨_, rfl⟩
  rw [← hn1, ← hn2, ← hn3] at HL
  rw [← hn1] at h1
  rw [← hn2] at h2
  rw [← hn3] at h3
  rw [← hn1, ← hn2, ← hn3]
  have H1 := Lib.hid h1
  have H2 := Lib.hid h2
  have H3 := Lib.hid h3
  have HN1 := Lib.hid hn1
  have HN2 := Lib.hid hn2
  have HN3 := Lib.hid hn3
  have HAL := Lib.hid (bel_al w (.cells #[.int .i64 m, .slice a1 n1 c1, .slice a2 n2 c2, .slice a3 n3 c3] 26))
  have HB := Lib.hid (Bk.new w 26 #[.int .i64 m, .slice a1 n1 c1, .slice a2 n2 c2, .slice a3 n3 c3])
  clear hp hf h1 h2 h3 hn1 hn2 hn3 hR hwn
  go_enter Tryz.func7, Tryz.ntmps7
  go_upto_region 1 with fail
  generalize World.alloc _ _ = w1 at HAL HB ⊢
  have b0 : w1.cell? ⟨w.heap.size, 0, none⟩ = some (.int .i64 m) := HB.out.cell 0
  have b1 : w1.cell? ⟨w.heap.size, 1, none⟩ = some (.slice a1 n1 c1) := HB.out.cell 1
  have b2 : w1.cell? ⟨w.heap.size, 2, none⟩ = some (.slice a2 n2 c2) := HB.out.cell 2
  have b3 : w1.cell? ⟨w.heap.size, 3, none⟩ = some (.slice a3 n3 c3) := HB.out.cell 3
  have bl := HB.out.lt
  go_wp2_with fail
  refine (HL.out _ HAL.out).mono ?_
  rintro e w2 ⟨rfl, l2⟩
  have HB2 := Lib.hid (HB.out.below l2)
  have HW2 := Lib.hid (HAL.out.trans (l2.mono HAL.out.size))
  clear l2 b0 b1 b2 b3 bl HB HAL HL
  cases R
  · go_wp2_with fail
    refine (HK.out _ HW2.out).mono ?_
    rintro e w3 ⟨rfl, l3⟩
    go_wp2_with fail
    go_ret
    exact ⟨rfl, HW2.out.trans (l3.mono HW2.out.size)⟩
  · obtain ⟨hok, k1, k2, k3⟩ := light_ok (m := m) HR.out
    obtain ⟨g, hg⟩ : ∃ g, g = pgOf m vs ts cs := ⟨_, rfl⟩
    rw [← hg] at hok
    have HG := Lib.hid hg
    have hm : g.mod = m := by rw [hg]; rfl
    have hgl : g.locs = vs := by rw [hg]; rfl
    have hgt : g.ths = ts.map (·.1) := by rw [hg]; rfl
    have hgc : g.cls = cs.map (·.1) := by rw [hg]; rfl
    have HM := Lib.hid hm
    have HGL := Lib.hid hgl
    have HGT := Lib.hid hgt
    have HGC := Lib.hid hgc
    have HOK := Lib.hid hok
    have HK1 : Hid (n1 ≤ 20 ∧ n2 ≤ 8) := Lib.hid (by have := HN1.out; have := HN2.out; omega)
    have HD := Lib.hid (fun (W : World) (hb : Below w.heap.size w W) => (show PgD W (.slice a1 n1 c1) (.slice a2 n2 c2) (.slice a3 n3 c3) g from ⟨by rw [hgl]; exact VrsD.below H1.out hb, ⟨ts, hgt.symm, ThsD.below H2.out hb⟩, cs, hgc.symm, ClsD.below H3.out hb⟩))
    have HCH := Lib.hid (check_any g _ _ _ (HD.out w2 HW2.out) hok (flds_below HF.out HW2.out) right_bd)
    rw [hm] at HCH
    clear hok k1 k2 k3 hg hm hgl hgt hgc
    have b0 : w2.cell? ⟨w.heap.size, 0, none⟩ = some (.int .i64 m) := HB2.out.cell 0
    have b1 : w2.cell? ⟨w.heap.size, 1, none⟩ = some (.slice a1 n1 c1) := HB2.out.cell 1
    have b2 : w2.cell? ⟨w.heap.size, 2, none⟩ = some (.slice a2 n2 c2) := HB2.out.cell 2
    have b3 : w2.cell? ⟨w.heap.size, 3, none⟩ = some (.slice a3 n3 c3) := HB2.out.cell 3
    have bl := HB2.out.lt
    go_wp2_with fail
    refine HCH.out.mono ?_
    rintro e w3 ⟨rfl, l3⟩
    have HB3 := Lib.hid (HB2.out.below l3)
    have HW3 := Lib.hid (HW2.out.trans (l3.mono HW2.out.size))
    clear l3 b0 b1 b2 b3 bl HB2 HW2 HCH
    by_cases hz : (chkC g).1 = 0
    · have e1 : (((chkC g).1 : Int) != 0) = false := by simp; omega
      have HCK := Lib.hid (chk_ok hz)
      have e2 : (chkC g).1 = 0 := hz
      obtain ⟨q, hq⟩ : ∃ q, q = chkC g := ⟨_, rfl⟩
      rw [← hq] at e1 e2 ⊢
      clear hq hz
      have hm2 : 2 ≤ m ∧ m ≤ 16 := by have h1 := HCK.out.m1; have h2 := HCK.out.m2; rw [HM.out] at h1 h2; exact ⟨h1, h2⟩
      have b0 : w3.cell? ⟨w.heap.size, 0, none⟩ = some (.int .i64 m) := HB3.out.cell 0
      have b1 : w3.cell? ⟨w.heap.size, 1, none⟩ = some (.slice a1 n1 c1) := HB3.out.cell 1
      have b2 : w3.cell? ⟨w.heap.size, 2, none⟩ = some (.slice a2 n2 c2) := HB3.out.cell 2
      have b3 : w3.cell? ⟨w.heap.size, 3, none⟩ = some (.slice a3 n3 c3) := HB3.out.cell 3
      have bl := HB3.out.lt
      have HM2 := Lib.hid hm2
      have HW4 := Lib.hid (HW3.out.trans ((bel_al w3 (.cells #[.int .i64 m, .slice a1 n1 c1, .slice a2 n2 c2, .slice a3 n3 c3] 26)).mono HW3.out.size))
      have HB4 := Lib.hid (HB3.out.below (bel_al w3 (.cells #[.int .i64 m, .slice a1 n1 c1, .slice a2 n2 c2, .slice a3 n3 c3] 26)))
      have HQ4 := Lib.hid (Bk.new w3 26 #[.int .i64 m, .slice a1 n1 c1, .slice a2 n2 c2, .slice a3 n3 c3])
      go_upto_region 8 with fail
      clear b0 b1 b2 b3 bl
      generalize World.alloc _ _ = w4 at HW4 HB4 HQ4 ⊢
      have HLT : Hid (w3.heap.size < w4.heap.size ∧ w.heap.size < w3.heap.size) := Lib.hid ⟨HQ4.out.lt, HB3.out.lt⟩
      have b1 : w4.cell? ⟨w.heap.size, 1, none⟩ = some (.slice a1 n1 c1) := HB4.out.cell 1
      have bl := HB4.out.lt
      have HU := Lib.hid (VrsD.below H1.out HW4.out)
      have hv20 : vs.length ≤ 20 := by have := HK1.out; have := HN1.out; omega
      go_wp2_with (at_builtin; refine append_vrs rfl (.tmp 26) (.tmp 28) rfl w4.heap.size _ vs rfl rfl HU.out hv20 (Nat.le_refl _) ?_)
      intro v5 w5 ho5 hb5
      obtain ⟨ad5, cap5, rfl, _⟩ := own_shape ho5
      have HW5 := Lib.hid (HW4.out.trans (hb5.mono HW4.out.size))
      have HB5 := Lib.hid (HB4.out.below hb5)
      have HQ5 := Lib.hid (HQ4.out.below hb5)
      have HO5 := Lib.hid ho5
      have HL5 : Hid (w4.heap.size ≤ w5.heap.size) := Lib.hid hb5.size
      clear ho5 hb5 b1 bl HB4 HQ4 HW4
      have hr0 : 0 ≤ n % m ∧ n % m < m := ⟨Int.emod_nonneg _ (by omega), Int.emod_lt_of_pos _ (by omega)⟩
      have HRR := Lib.hid hr0
      clear hr0
      have b0 : w5.cell? ⟨w.heap.size, 0, none⟩ = some (.int .i64 m) := HB5.out.cell 0
      have bl := HB5.out.lt
      have hown := own_below HO5.out (bel_al w5 (.cells #[.string ⟨#[102, 114, 101, 115, 104, 95, 110, 97, 109, 101]⟩, .int .i64 (n % m), .int .i64 7] 40))
      have hsz := Nat.le_trans HL5.out (bel_al w5 (.cells #[.string ⟨#[102, 114, 101, 115, 104, 95, 110, 97, 109, 101]⟩, .int .i64 (n % m), .int .i64 7] 40)).size
      have hla : vs.length ≤ 1000000 := by omega
      have hm0 : (m == 0) = false := by rw [beq_eq_false_iff_ne]; omega
      have hm1 : ¬ m = 0 := by omega
      go_wp2_with (at_builtin; refine append_oneG 22 40 3 32 (.agg #[.string ⟨#[]⟩, .int .i64 0, .int .i64 0]) Tryz.underlying22 info_var rfl (by decide) (by decide) rfl (.tmp 30) (.tmp 37) rfl w4.heap.size vs.length _ _ [.string ⟨#[102, 114, 101, 115, 104, 95, 110, 97, 109, 101]⟩, .int .i64 (n % m), .int .i64 7] rfl w5.heap.size rfl hown rfl (fun j _ => by simp) (fun u hu => by simp only [List.mem_cons, List.not_mem_nil, or_false] at hu; rcases hu with rfl | rfl | rfl; (· rfl); (· rfl); (· rfl)) hla hsz ?_)
      intro v6 w6 ho6 hb6 hg6
      obtain ⟨ad6, cap6, rfl, _⟩ := own_shape ho6
      have HW6 := Lib.hid ((HW5.out.trans ((bel_al w5 (.cells #[.string ⟨#[102, 114, 101, 115, 104, 95, 110, 97, 109, 101]⟩, .int .i64 (n % m), .int .i64 7] 40)).mono HW5.out.size)).trans (hb6.mono (by have := HLT.out; omega)))
      have HB6 := Lib.hid (bk_bel (HB5.out.below (bel_al w5 (.cells #[.string ⟨#[102, 114, 101, 115, 104, 95, 110, 97, 109, 101]⟩, .int .i64 (n % m), .int .i64 7] 40))) hb6 (by have := HLT.out; omega))
      have HQ6 := Lib.hid (bk_bel (HQ5.out.below (bel_al w5 (.cells #[.string ⟨#[102, 114, 101, 115, 104, 95, 110, 97, 109, 101]⟩, .int .i64 (n % m), .int .i64 7] 40))) hb6 HLT.out.1)
      have HO6 := Lib.hid ho6
      have HS6 : Hid (w4.heap.size ≤ w6.heap.size) := Lib.hid (Nat.le_trans hsz hb6.size)
      clear ho6 hb6 hg6 b0 bl hown hsz hm0 hm1 HW5 HB5 HQ5 HO5 HL5
      have x1 := HQ6.out.cell 1
      have x2 := HQ6.out.fz 1
      have x3 := HQ6.out.lt
      have HW7 := Lib.hid (HW6.out.setCell (p := ⟨w3.heap.size, 1, none⟩) (show w.heap.size ≤ w3.heap.size by have := HLT.out; omega) (.slice ad6 (vs.length + 1) cap6))
      have HB7 := Lib.hid (HB6.out.other (g := w3.heap.size) (by have := HLT.out; omega) 1 (.slice ad6 (vs.length + 1) cap6))
      have HQ7 : Hid (Bk (w6.setCell ⟨w3.heap.size, 1, none⟩ (.slice ad6 (vs.length + 1) cap6)) w3.heap.size 26 #[.int .i64 m, .slice ad6 (vs.length + 1) cap6, .slice a2 n2 c2, .slice a3 n3 c3]) := Lib.hid (by simpa using HQ6.out.set 1 (.slice ad6 (vs.length + 1) cap6))
      have HO7 := Lib.hid (own_setBk (o := 1) (u := .slice ad6 (vs.length + 1) cap6) HO6.out HQ6.out (by decide))
      go_upto_region 11 with fail
      clear x1 x2 x3 HW6 HB6 HQ6 HO6 HS6
      generalize World.setCell _ _ _ = w7 at HW7 HB7 HQ7 HO7 ⊢
      have HV7 : Hid (VrsD w7 (.slice ad6 (vs.length + 1) cap6) (vs ++ [⟨frN, n % m, 7⟩])) := Lib.hid (vrsD_of_own (B := w4.heap.size) (by
        unfold VOwn
        rw [← nms_more, List.length_append, List.length_singleton]
        exact HO7.out))
      clear HO7
      have b0 : w7.cell? ⟨w.heap.size, 0, none⟩ = some (.int .i64 m) := HB7.out.cell 0
      have b1 : w7.cell? ⟨w.heap.size, 1, none⟩ = some (.slice a1 n1 c1) := HB7.out.cell 1
      have b2 : w7.cell? ⟨w.heap.size, 2, none⟩ = some (.slice a2 n2 c2) := HB7.out.cell 2
      have b3 : w7.cell? ⟨w.heap.size, 3, none⟩ = some (.slice a3 n3 c3) := HB7.out.cell 3
      have bl := HB7.out.lt
      go_wp2_with fail
      refine (locs_any vs m _ _ _ w7 (VrsD.below H1.out HW7.out) (by omega) ⟨_, _, _, rfl⟩ ⟨_, _, _, rfl⟩).mono ?_
      rintro e w8 ⟨u8, rfl, o8, l8⟩
      have HB8 := Lib.hid (HB7.out.below l8)
      have HQ8 := Lib.hid (HQ7.out.below l8)
      have HW8 := Lib.hid (HW7.out.trans (l8.mono HW7.out.size))
      have HV8 := Lib.hid (VrsD.below HV7.out l8)
      have HI := Lib.hid (lidx_any (nms vs) u8 frN w8 (strsD_of_own o8) (by unfold nms; rw [List.length_map]; omega))
      obtain ⟨ix, hix⟩ : ∃ i, i = idxF frN (nms vs) 0 := ⟨_, rfl⟩
      have hti := idx_in frN (nms vs) 0
      rw [← hix] at HI hti
      obtain ⟨t0, ht0⟩ : ∃ t, t = inB (nms vs) frN := ⟨_, rfl⟩
      rw [← ht0] at hti
      have HT0 := Lib.hid ht0
      clear l8 o8 b0 b1 b2 b3 bl HB7 HQ7 HW7 HV7 hix ht0
      go_wp2_with fail
      refine HI.out.mono ?_
      rintro e w9 ⟨rfl, rfl⟩
      clear HI
      go_wp2_with fail
      go_loopg [9, 10] n2 (fun fuel s9 i' wr => ∃ k : Nat, s9 = .bool (t0 || (ts.take k).any fun t => inB t.1.regs frN) ∧ i' = .int .i64 k ∧ k ≤ n2 ∧ n2 - k ≤ fuel ∧ wr = w8)
      case atStart => exact ⟨0, by simp, rfl, Nat.zero_le _, Nat.le_refl _, rfl⟩
      case round =>
        obtain ⟨k, rfl, rfl, hk, hfu, rfl⟩ := hrel
        clear hti
        have b2 : wr.cell? ⟨w.heap.size, 2, none⟩ = some (.slice a2 n2 c2) := HB8.out.cell 2
        have bl := HB8.out.lt
        by_cases hlt : k < n2
        · have hky : k < ts.length := by have := HN2.out; omega
          have hm3 : k + 1 ≤ n2 := hlt
          have hm4 : n2 - (k + 1) ≤ gk - 1 := by omega
          have hm5 : gk - 1 < gk := by omega
          have hk8 : n2 ≤ 8 := HK1.out.2
          have HTK := Lib.hid (any_take (fun t : TI => inB t.1.regs frN) ts k hky)
          obtain ⟨tt, htt⟩ : ∃ t, t = ts[k] := ⟨_, rfl⟩
          rw [← htt] at HTK
          obtain ⟨c, hc⟩ : ∃ c, c = (t0 || (ts.take k).any fun t => inB t.1.regs frN) := ⟨_, rfl⟩
          rw [← hc]
          have HCC : Hid ((t0 || (ts.take (k + 1)).any fun t => inB t.1.regs frN) = (c || inB tt.1.regs frN)) := Lib.hid (by rw [HTK.out, hc, Bool.or_assoc])
          clear hc
          cases c
          · obtain ⟨ad', cap', hve, _, _, hcc⟩ := ThsD.below H2.out HW8.out
            obtain ⟨bb, off, hba, hbl, ⟨x0, x1, x2, x3⟩, hrg, _⟩ := hcc k hky
            rw [← htt] at x1 hrg
            have he1 : a2 = ad' := by injection hve
            rw [← he1] at hba
            have hjd : StrsD wr tt.2.1 tt.1.regs := hrg
            have HJ := Lib.hid (lidx_any tt.1.regs tt.2.1 frN wr hjd (by
              have h1 := (HOK.out.t.2 tt.1 (by rw [HGT.out, htt]; exact List.mem_map_of_mem (List.getElem_mem hky))).2.1
              exact h1))
            have hji := idx_in frN tt.1.regs 0
            obtain ⟨jx, hjx⟩ : ∃ i, i = idxF frN tt.1.regs 0 := ⟨_, rfl⟩
            rw [← hjx] at HJ hji
            subst hba
            have HJI := Lib.hid hji
            clear hcc hve he1 htt hrg hjd hjx hji x0 x2 x3
            go_wp2_with fail
            refine HJ.out.mono ?_
            rintro e w9 ⟨rfl, rfl⟩
            go_wp2_with fail
            go_roundg (gk - 1)
            case measure => exact hm5
            case rel => exact ⟨k + 1, by rw [HCC.out, Bool.false_or, ← HJI.out], by go_num, hm3, hm4, rfl⟩
          · clear htt
            go_wp2_with fail
            go_roundg (gk - 1)
            case measure => exact hm5
            case rel => exact ⟨k + 1, by rw [HCC.out, Bool.true_or], by go_num, hm3, hm4, rfl⟩
        · obtain rfl : k = n2 := by omega
          have HTG : Hid ((t0 || (ts.take k).any fun t => inB t.1.regs frN) = tkB g) := Lib.hid (by
            rw [show ts.take k = ts by rw [HN2.out]; exact List.take_length, HT0.out]
            unfold tkB
            rw [HGL.out, HGT.out, List.any_map]
            rfl)
          rw [HTG.out]
          clear HTG
          have q0 : wr.cell? ⟨w3.heap.size, 0, none⟩ = some (.int .i64 m) := HQ8.out.cell 0
          have q1 : wr.cell? ⟨w3.heap.size, 1, none⟩ = some (.slice ad6 (vs.length + 1) cap6) := HQ8.out.cell 1
          have q2 : wr.cell? ⟨w3.heap.size, 2, none⟩ = some (.slice a2 k c2) := HQ8.out.cell 2
          have q3 : wr.cell? ⟨w3.heap.size, 3, none⟩ = some (.slice a3 n3 c3) := HQ8.out.cell 3
          have ql := HQ8.out.lt
          have HCM := chk_more HCK.out (n := n % m) HRR.out.1 (by rw [HM.out]; exact HRR.out.2)
          have HCH2 := Lib.hid (check_any (moreG g (n % m)) (.slice ad6 (vs.length + 1) cap6) (.slice a2 k c2) (.slice a3 n3 c3) (w := wr)
            ⟨by show VrsD _ _ (g.locs ++ _); rw [HGL.out]; exact HV8.out, (HD.out wr HW8.out).2.1, (HD.out wr HW8.out).2.2⟩ (pm_more HOK.out (by rw [HGL.out, ← HN1.out]; exact HK1.out.1)) (flds_below HF.out HW8.out) right_bd)
          rw [show (moreG g (n % m)).mod = m from HM.out] at HCH2
          obtain ⟨q9, hq9⟩ : ∃ q, q = chkC (moreG g (n % m)) := ⟨_, rfl⟩
          rw [← hq9] at HCH2 HCM
          have HCMM := Lib.hid HCM
          clear HCM hq9
          go_wp2_with fail
          refine HCH2.out.mono ?_
          rintro e w9 ⟨rfl, l9⟩
          have HB9 := Lib.hid (HB8.out.below l9)
          have HW9 := Lib.hid (HW8.out.trans (l9.mono HW8.out.size))
          have HKN := Lib.hid (HK.out w9 HW9.out)
          clear l9 q0 q1 q2 q3 ql b2 bl HCH2
          have b1 : w9.cell? ⟨w.heap.size, 1, none⟩ = some (.slice a1 n1 c1) := HB9.out.cell 1
          have bl := HB9.out.lt
          by_cases h6 : 6 ≤ n1
          · have e6 : (6 : Int) ≤ (n1 : Int) := by omega
            have hq := HCMM.out.1 (by rw [HGL.out, ← HN1.out]; exact h6)
            subst hq
            clear h6
            go_wp2_with fail
            refine HKN.out.mono ?_
            rintro e w10 ⟨rfl, l10⟩
            go_wp2_with fail
            go_ret
            exact ⟨rfl, HW9.out.trans (l10.mono HW9.out.size)⟩
          · have e6 : ¬ (6 : Int) ≤ (n1 : Int) := by omega
            have hq := HCMM.out.2 (by rw [HGL.out, ← HN1.out]; omega)
            obtain ⟨tk, htk⟩ : ∃ t, t = tkB g := ⟨_, rfl⟩
            rw [← htk] at hq ⊢
            have e7 : ((q9.1 : Int) == 0) = !tk := by
              cases tk with
              | false => have := hq.2 rfl; rw [this]; rfl
              | true => rw [beq_eq_false_iff_ne.2 (fun h => by have := hq.1 (by omega); cases this)]; rfl
            clear htk h6 hq
            cases tk
            · go_wp2_with fail
              refine HKN.out.mono ?_
              rintro e w10 ⟨rfl, l10⟩
              go_wp2_with fail
              go_ret
              exact ⟨rfl, HW9.out.trans (l10.mono HW9.out.size)⟩
            · go_wp2_with fail
              refine HKN.out.mono ?_
              rintro e w10 ⟨rfl, l10⟩
              go_wp2_with fail
              go_ret
              exact ⟨rfl, HW9.out.trans (l10.mono HW9.out.size)⟩
    · have e1 : (((chkC g).1 : Int) != 0) = true := by simp; omega
      obtain ⟨q, hq⟩ : ∃ q, q = chkC g := ⟨_, rfl⟩
      rw [← hq] at e1 ⊢
      clear hq hz
      go_wp2_with fail
      refine (HK.out _ HW3.out).mono ?_
      rintro e w4 ⟨rfl, l4⟩
      go_wp2_with fail
      go_ret
      exact ⟨rfl, HW3.out.trans (l4.mono HW3.out.size)⟩
end

end Go.Proofs.YtlpgafgiljffhaaGreatDoor
