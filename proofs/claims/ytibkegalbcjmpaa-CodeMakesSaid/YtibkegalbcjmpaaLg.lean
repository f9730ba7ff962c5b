/- Layer 6: the reference's Claim. -/
import Derived.Test.YtibkegalbcjmpaaLf
import Derived.Test.YtibkegalbcjmpaaOt
namespace Go.Proofs.Ytibkegalbcjmpaa
open Go.RowKit

set_option maxRecDepth 100000 in
set_option maxHeartbeats 16000000 in
theorem rclaim_right (e : Ex) (v : Value) (m : Int) (lv tv cv : Value) (vars : List (ByteArray × Int × Int)) (ts : List TN) (w : World) (hwf : e.wf) (hr1 : rightP e.flat) (hv : NdsC w v e.flat) (hz : NmOK e.flat) (hlv : VnsD w lv vars) (htv : TnsD w tv ts) (hcv : ∃ a n c, cv = .slice a n c) (n1 : vars.length ≤ 100000) (n2 : ts.length ≤ 100000) (n3 : ∀ x ∈ ts, x.regs.length ≤ 100000) :
    Calls Try.prog 14 #[v, .agg #[.int .i64 m, lv, tv, cv]] w (RefAns (if okE (rsvC (vars.map (·.1)) ts) e then codeE (rsvC (vars.map (·.1)) ts) e else []) (okE (rsvC (vars.map (·.1)) ts) e) w) := by
  obtain ⟨e', he1, he2, h200, hokn, _⟩ := id hr1
  obtain ⟨wb, hwb⟩ : ∃ wb, wb = w.alloc (.cells #[.int .i64 m, lv, tv, cv] 28) := ⟨_, rfl⟩
  have BB : Hid (Below w.heap.size w wb) := Lib.hid (by rw [hwb]; exact (Below.refl _ _).alloc (Nat.le_refl _) _)
  have KB : Hid (Bk wb w.heap.size 28 #[.int .i64 m, lv, tv, cv]) := Lib.hid (by rw [hwb]; exact Bk.new w _ _)
  obtain ⟨rsv, hrsv⟩ : ∃ rsv, rsv = rsvC (vars.map (·.1)) ts := ⟨_, rfl⟩
  rw [← hrsv]
  have HRV := Lib.hid hrsv
  have HRT := Lib.hid (rright_any e.flat v wb (hv.below BB.out).nds (by omega) hz true (right_yes _ hr1))
  have HM := Lib.hid (fun (W : World) (lv : Value) (h1 : NdsC W v e.flat) (h2 : OpsD W lv (e.flat.map (lfO rsv))) => made_any rsv e.flat v lv h200 hokn e.size e 0 [] W (Nat.le_refl _) hwf (by simp) h1 h2)
  have HOPS := Lib.hid (flat_ops e hwf)
  rw [okE_all _ _ hwf]
  generalize e.flat = l at *
  generalize hcc : codeE rsv e = cc at *
  obtain ⟨okb, hokb⟩ : ∃ b, (l.drop 0).all (lfok rsv) = b := ⟨_, rfl⟩
  have hokb' : l.all (lfok rsv) = okb := hokb
  rw [hokb']
  have HK0 := Lib.hid hokb
  obtain ⟨res, hres⟩ : ∃ r, (if okb = true then cc else []) = r := ⟨_, rfl⟩
  rw [hres]
  have HRES := Lib.hid hres
  clear hres
  have hvb := hv.below BB.out
  have HV := Lib.hid hvb
  have hls := hlv.shape
  have hts := htv.shape
  have HLO := Lib.hid (fun (W : World) (h : Below wb.heap.size wb W) => rlocs_any vars m lv tv cv W (VnsD.below hlv (BB.out.trans (h.mono BB.out.size))) n1 (by obtain ⟨a, c, h⟩ := hls; exact ⟨a, _, c, h⟩) (by obtain ⟨a, c, h⟩ := hts; exact ⟨a, _, c, h⟩) hcv)
  have HTH := Lib.hid (fun (W : World) (h : Below wb.heap.size wb W) => rthreads_any ts m lv tv cv W (TnsD.below htv (BB.out.trans (h.mono BB.out.size))) n2 (by obtain ⟨a, c, h⟩ := hls; exact ⟨a, _, c, h⟩) (by obtain ⟨a, c, h⟩ := hts; exact ⟨a, _, c, h⟩) hcv)
  have HIL := Lib.hid (fun (W : World) (nv : Value) (h : StrsD W nv (vars.map (·.1))) (s : ByteArray) (z : Int) (hz : ixL (vars.map (·.1)) s 0 = z) => rindex_any (vars.map (·.1)) nv s W h (by rw [List.length_map]; exact n1) z hz)
  have HIT := Lib.hid (fun (W : World) (nv : Value) (h : StrsD W nv (ts.map (·.nm))) (s : ByteArray) (z : Int) (hz : ixL (ts.map (·.nm)) s 0 = z) => rindex_any (ts.map (·.nm)) nv s W h (by rw [List.length_map]; exact n2) z hz)
  have HTV := Lib.hid (TnsD.below htv BB.out)
  have N3 := Lib.hid n3
  obtain ⟨ad, cap, rfl, hcap1, hcap2, hc⟩ := id hvb
  obtain ⟨ad1, cap1, rfl⟩ := hls
  obtain ⟨ad2, cap2, rfl⟩ := hts
  obtain ⟨ad3, nn3, cap3, rfl⟩ := hcv
  have HC := Lib.hid hc
  obtain ⟨n, hN⟩ : ∃ n, n = l.length := ⟨_, rfl⟩
  rw [← hN] at HRT HM h200 HV ⊢
  have HN := Lib.hid hN
  obtain ⟨nv, hnv⟩ : ∃ n, n = vars.length := ⟨_, rfl⟩
  obtain ⟨nt, hnt⟩ : ∃ n, n = ts.length := ⟨_, rfl⟩
  rw [← hnv] at KB HLO HTH n1 hwb ⊢
  rw [← hnt] at KB HLO HTH n2 HTV hwb ⊢
  have HNT := Lib.hid hnt
  have HWB := Lib.hid hwb
  clear hv hvb hlv htv hz hr1 hokn hc hN hokb hokb' hcc he1 he2 hwf hcap1 hcap2 n1 n3 hnv hnt hwb hrsv
  go_enter Try.func14, Try.ntmps14
  go_wp2_with fail
  rw [← HWB.out]
  refine HRT.out.mono ?_
  rintro e1 w1 ⟨rfl, b1⟩
  have B1 := Lib.hid b1
  clear b1
  go_wp2_with (refine make_ops rfl (.tmp 13) (.tmp 13) rfl n rfl rfl (by omega) ?_)
  intro w2 ho hb
  have HO2 := Lib.hid ho
  have HB2 := Lib.hid (B1.out.trans (hb.mono B1.out.size))
  clear ho hb
  go_wp2_with fail
  obtain ⟨g, hg⟩ : ∃ g, g = w1.heap.size := ⟨_, rfl⟩
  rw [← hg] at HO2 ⊢
  have HWG : Hid (wb.heap.size ≤ g) := Lib.hid (by rw [hg]; exact B1.out.size)
  clear hg
  go_loopg [7] n (fun fuel i' wr => ∃ k : Nat, i' = .int .i64 k ∧ k ≤ n ∧ n - k ≤ fuel ∧ wr.ownsRow wb.heap.size 53 3 (.slice (some ⟨g, 0, none⟩) n n) n (rowP (lvL rsv l k)) ∧ Below wb.heap.size wb wr ∧ (l.drop k).all (lfok rsv) = okb)
  case atStart => exact ⟨0, rfl, Nat.zero_le _, Nat.le_refl _, by rw [lvL_zero, ← HN.out]; exact own_mono HO2.out HWG.out, HB2.out, HK0.out⟩
  case round =>
    obtain ⟨k, rfl, hk, hf, ho, hb, hok⟩ := hrel
    have HO := Lib.hid ho
    have HB := Lib.hid hb
    have HOK := Lib.hid hok
    have hww := hb.size
    clear hb hok
    by_cases hlt : k < n
    · have hk' : k < l.length := by have := HN.out; omega
      obtain ⟨b, off, rfl, hbl, x0, x1, x2, x3, x4⟩ := HC.out k hk'
      have hop := HOPS.out _ (List.getElem_mem hk')
      have HD := Lib.hid (all_drop1 (lfok rsv) l k hk')
      have HS := Lib.hid (lvL_set rsv l k hk')
      have HSK := Lib.hid (lvL_skip rsv l k hk')
      have hlen := lvL_len rsv l k (by omega)
      have HKN := Lib.hid hlen
      obtain ⟨⟨u0, d0⟩, ⟨u1, d1⟩, ⟨u2, d2⟩, hf0, hf1, hf2, hgw⟩ := row_cells ho (by rw [hlen, ← HN.out]) hlt
      obtain ⟨⟨xo, xn, xm, xi, xp⟩, hx⟩ : ∃ x, x = l[k] := ⟨_, rfl⟩
      rw [← hx] at x0 x1 x2 x3 x4 hop HD HS HSK
      simp only [] at x0 x1 x2 x3 x4 hop
      have c0 : wr.cell? ⟨b, off + k * 5, none⟩ = some (.int .i64 xo) := (HB.out.cell (p := ⟨b, _, none⟩) hbl).trans x0
      have c1 : wr.cell? ⟨b, off + k * 5 + 1, none⟩ = some (.int .i64 xn) := (HB.out.cell (p := ⟨b, _, none⟩) hbl).trans x1
      have c2 : wr.cell? ⟨b, off + k * 5 + 2, none⟩ = some (.string xm) := (HB.out.cell (p := ⟨b, _, none⟩) hbl).trans x2
      have c3 : wr.cell? ⟨b, off + k * 5 + 3, none⟩ = some (.string xi) := (HB.out.cell (p := ⟨b, _, none⟩) hbl).trans x3
      have c4 : wr.cell? ⟨b, off + k * 5 + 4, none⟩ = some (.int .i64 xp) := (HB.out.cell (p := ⟨b, _, none⟩) hbl).trans x4
      have hbw : b < wr.heap.size := Nat.lt_of_lt_of_le hbl hww
      have p0 := (KB.out.below HB.out).cell 0
      have p1 := (KB.out.below HB.out).cell 1
      have p2 := (KB.out.below HB.out).cell 2
      have p3 := (KB.out.below HB.out).cell 3
      have pl := (KB.out.below HB.out).lt
      clear x0 x1 x2 x3 x4 ho hx hlen
      rcases (by omega : xo = 1 ∨ xo = 2 ∨ xo = 3 ∨ xo = 4 ∨ 5 ≤ xo) with rfl | rfl | rfl | rfl | h5
      · have hlf : lfO rsv ⟨1, xn, xm, xi, xp⟩ = ⟨1, xn, 0⟩ := rfl
        have HST := Lib.hid (row_store HO.out HS.out hlf (by rw [HKN.out]; exact hk'))
        have hko := HOK.out
        rw [HD.out, show lfok rsv ⟨1, xn, xm, xi, xp⟩ = true from rfl, Bool.true_and] at hko
        have HK2 := Lib.hid hko
        clear hko hlf
        go_wp2
        go_roundg (gk - 1)
        case measure => omega
        case rel => exact ⟨k + 1, by go_num, by omega, by omega, HST.out, ((HB.out.setCell HWG.out _).setCell HWG.out _).setCell HWG.out _, HK2.out⟩
      · have hko := HOK.out
        rw [HD.out, show lfok rsv ⟨2, xn, xm, xi, xp⟩ = false by rw [HRV.out]; rfl, Bool.false_and] at hko
        have HKO := Lib.hid hko
        clear hko
        go_wp2
        go_ret2
        have h1 := HKO.out
        subst h1
        have h2 := HRES.out
        rw [if_neg (by decide)] at h2
        subst h2
        exact ⟨_, rfl, SlD.nil, BB.out.trans (HB.out.mono BB.out.size)⟩
      · obtain ⟨z, hz⟩ : ∃ z, ixL (vars.map (·.1)) xm 0 = z := ⟨_, rfl⟩
        have hlf : lfO rsv ⟨3, xn, xm, xi, xp⟩ = ⟨3, z, 0⟩ := by rw [HRV.out, ← hz]; rfl
        have HIX := Lib.hid (fun (W : World) (nv : Value) (h : StrsD W nv (vars.map (·.1))) => HIL.out W nv h xm z hz)
        have hko := HOK.out
        rw [HD.out, show lfok rsv ⟨3, xn, xm, xi, xp⟩ = decide (0 ≤ z) by rw [HRV.out, ← hz]; rfl] at hko
        have HKA := Lib.hid hko
        have HLF := Lib.hid hlf
        have HL1 := Lib.hid (HLO.out wr HB.out)
        clear hlf hz hko
        go_wp2_with fail
        go_region_law (first
          | (go_simp; go_at_call 35; refine Calls.mono (HLO.out _ (by first | exact HB.out | exact HB.out.drew)) ?_; rintro e w3 ⟨u1, rfl, o1, b3⟩; have bw3 : Below wr.heap.size wr w3 := (by first | exact b3 | exact (Below.refl _ _).drew.trans b3); have o1' := strsD_of_own o1; obtain ⟨au, cu, rfl, _⟩ := own_shape' o1; rw [List.length_map] at o1'; have e2 := (bw3.cell (p := ⟨b, off + k * 5 + 2, none⟩) hbw).trans c2; have hbw3 : b < w3.heap.size := Nat.lt_of_lt_of_le hbw bw3.size; have HO3 := Lib.hid (own_below HO.out bw3); have BW3 := Lib.hid bw3; obtain ⟨⟨v0, g0⟩, ⟨v1, g1⟩, ⟨v2, g2⟩, hg0, hg1, hg2, hgl⟩ := row_cells HO3.out (by rw [HKN.out, ← HN.out]) hlt)
          | (go_simp; go_at_call 30; refine Calls.mono (HIX.out _ _ o1') ?_; rintro e w4 ⟨rfl, rfl⟩))
        all_goals
          have hst := row_store HO3.out HS.out HLF.out (by rw [HKN.out]; exact hk')
          have HST := Lib.hid hst
          have HB3 := Lib.hid ((((HB.out.trans (BW3.out.mono HB.out.size)).setCell (p := ⟨g, k * 3, none⟩) HWG.out (.int .i64 3)).setCell (p := ⟨g, k * 3 + 1, none⟩) HWG.out (.int .i64 z)).setCell (p := ⟨g, k * 3 + 2, none⟩) HWG.out (.int .i64 0))
          have hko := HKA.out
          clear hst o1 b3 bw3
          by_cases hz0 : z < 0
          · rw [decide_eq_false (by omega), Bool.false_and] at hko
            have HKO := Lib.hid hko
            clear hko
            go_wp2
            go_ret2
            have h1 := HKO.out
            subst h1
            have h2 := HRES.out
            rw [if_neg (by decide)] at h2
            subst h2
            exact ⟨_, rfl, SlD.nil, BB.out.trans (HB3.out.mono BB.out.size)⟩
          · rw [decide_eq_true (by omega), Bool.true_and] at hko
            have HK2 := Lib.hid hko
            clear hko
            go_wp2
            go_roundg (gk - 1)
            case measure => omega
            case rel => exact ⟨k + 1, by go_num, by omega, by omega, HST.out, HB3.out, HK2.out⟩
      · obtain ⟨u, hu⟩ : ∃ u, ixL (ts.map (·.nm)) xi 0 = u := ⟨_, rfl⟩
        have HIX := Lib.hid (fun (W : World) (nv : Value) (h : StrsD W nv (ts.map (·.nm))) => HIT.out W nv h xi u hu)
        have hko := HOK.out
        rw [HD.out] at hko
        have hrg := ixL_range (ts.map (·.nm)) xi 0
        rw [hu, List.length_map] at hrg
        by_cases hu0 : u < 0
        · rw [show lfok rsv ⟨4, xn, xm, xi, xp⟩ = false by
            rw [HRV.out]
            show (rsvC (vars.map (·.1)) ts ⟨4, xn, xm, xi, xp⟩).2 = false
            unfold rsvC
            rw [if_neg (show ¬ (4 : Int) = 3 by decide), if_neg (by rw [hu]; omega)], Bool.false_and] at hko
          have HKO := Lib.hid hko
          clear hko hu hrg
          go_wp2_with fail
          go_region_law (first
            | (go_simp; go_at_call 36; refine Calls.mono (HTH.out _ (by first | exact HB.out | exact HB.out.drew)) ?_; rintro e w3 ⟨u1, rfl, o1, b3⟩; have bw3 : Below wr.heap.size wr w3 := (by first | exact b3 | exact (Below.refl _ _).drew.trans b3); have o1' := strsD_of_own o1; obtain ⟨au, cu, rfl, _⟩ := own_shape' o1; rw [List.length_map] at o1'; have e3 := (bw3.cell (p := ⟨b, off + k * 5 + 3, none⟩) hbw).trans c3; have hbw3 : b < w3.heap.size := Nat.lt_of_lt_of_le hbw bw3.size; have BW3 := Lib.hid bw3)
            | (go_simp; go_at_call 30; refine Calls.mono (HIX.out _ _ o1') ?_; rintro e w4 ⟨rfl, rfl⟩))
          all_goals
            clear o1 b3 bw3
            go_wp2
            go_ret2
            have h1 := HKO.out
            subst h1
            have h2 := HRES.out
            rw [if_neg (by decide)] at h2
            subst h2
            exact ⟨_, rfl, SlD.nil, BB.out.trans ((HB.out.trans (BW3.out.mono HB.out.size)).mono BB.out.size)⟩
        · obtain ⟨t, rfl⟩ : ∃ t : Nat, u = t := ⟨u.toNat, by omega⟩
          have htl : t < ts.length := by omega
          obtain ⟨tad, tcap, htv, _, _, htc⟩ := HTV.out
          obtain ⟨rfl, hzz, rfl⟩ := Value.slice.inj htv
          clear hzz
          obtain ⟨tb, toff, rfl, htb, ⟨t0, t1, t2, t3⟩, hst⟩ := htc t htl
          have hrn := N3.out _ (List.getElem_mem htl)
          obtain ⟨z, hz⟩ : ∃ z, ixL (ts[t]).regs xm 0 = z := ⟨_, rfl⟩
          have hg4 : (ts.map (·.regs)).getD t [] = (ts[t]).regs := by rw [List.getD_eq_getElem?_getD, List.getElem?_map, List.getElem?_eq_getElem htl]; rfl
          have hrs : rsvC (vars.map (·.1)) ts ⟨4, xn, xm, xi, xp⟩ = (⟨4, z, t⟩, decide (0 ≤ z)) := by
            unfold rsvC
            rw [if_neg (show ¬ (4 : Int) = 3 by decide)]
            simp only [hu]
            rw [if_pos (by first | exact ⟨rfl, by omega⟩ | exact ⟨trivial, by omega⟩)]
            simp only [Int.toNat_natCast, hg4, hz]
          have hlf : lfO rsv ⟨4, xn, xm, xi, xp⟩ = ⟨4, z, t⟩ := by
            rw [HRV.out]
            show (rsvC (vars.map (·.1)) ts ⟨4, xn, xm, xi, xp⟩).1 = _
            rw [hrs]
          rw [show lfok rsv ⟨4, xn, xm, xi, xp⟩ = decide (0 ≤ z) by
            rw [HRV.out]
            show (rsvC (vars.map (·.1)) ts ⟨4, xn, xm, xi, xp⟩).2 = _
            rw [hrs]] at hko
          have HKA := Lib.hid hko
          have HLF := Lib.hid hlf
          have HIR := Lib.hid (fun (W : World) (h : Below wb.heap.size wb W) => rindex_any (ts[t]).regs (ts[t]).rv xm W (StrsD.below hst h) hrn z hz)
          obtain ⟨ra, rc, hrv⟩ := hst.shape
          rw [hrv] at t1 HIR
          generalize (ts[t]).nm = tn at t0
          generalize (ts[t]).regs.length = rn at t1 HIR
          generalize (ts[t]).ba = tba at t2
          generalize (ts[t]).bl = tbl at t2
          generalize (ts[t]).bc = tbc at t2
          generalize (ts[t]).pl = tpl at t3
          have htlN : t < nt := by have := HNT.out; omega
          clear hko hu hrg hu0 htv htc hst hrn hz hg4 hrs hlf hrv htl
          go_wp2_with fail
          go_cut [8] (fun s8 wx => s8 = .int .i64 t ∧ Below wr.heap.size wr wx)
          case first =>
            go_region_law (first
              | (go_simp; go_at_call 36; refine Calls.mono (HTH.out _ (by first | exact HB.out | exact HB.out.drew)) ?_; rintro e w3 ⟨u1, rfl, o1, b3⟩; have bw3 : Below wr.heap.size wr w3 := (by first | exact b3 | exact (Below.refl _ _).drew.trans b3); have o1' := strsD_of_own o1; obtain ⟨au, cu, rfl, _⟩ := own_shape' o1; rw [List.length_map] at o1'; have e3 := (bw3.cell (p := ⟨b, off + k * 5 + 3, none⟩) hbw).trans c3; have hbw3 : b < w3.heap.size := Nat.lt_of_lt_of_le hbw bw3.size)
              | (go_simp; go_at_call 30; refine Calls.mono (HIX.out _ _ o1') ?_; rintro e w4 ⟨rfl, rfl⟩))
            all_goals
              go_wp2_with fail
              go_meet
              exact ⟨rfl, bw3⟩
          case rest =>
            obtain ⟨rfl, bw3⟩ := hcut
            obtain ⟨w3, hw3⟩ : ∃ w3, w3 = wc := ⟨_, rfl⟩
            rw [← hw3] at bw3 ⊢
            clear hw3
            have HO3 := Lib.hid (own_below HO.out bw3)
            have BW3 := Lib.hid bw3
            have B03 := Lib.hid (HB.out.trans (bw3.mono HB.out.size))
            obtain ⟨⟨v0, g0⟩, ⟨v1, g1⟩, ⟨v2, g2⟩, hg0, hg1, hg2, hgl⟩ := row_cells HO3.out (by rw [HKN.out, ← HN.out]) hlt
            have e0 := (bw3.cell (p := ⟨b, off + k * 5, none⟩) hbw).trans c0
            have e2 := (bw3.cell (p := ⟨b, off + k * 5 + 2, none⟩) hbw).trans c2
            have hbw3 : b < w3.heap.size := Nat.lt_of_lt_of_le hbw bw3.size
            have f1 := (B03.out.cell (p := ⟨tb, toff + t * 4 + 1, none⟩) htb).trans t1
            have htb3 : tb < w3.heap.size := Nat.lt_of_lt_of_le htb B03.out.size
            have o0 := (KB.out.below B03.out).cell 0
            have o1 := (KB.out.below B03.out).cell 1
            have o2 := (KB.out.below B03.out).cell 2
            have o3 := (KB.out.below B03.out).cell 3
            have ol := (KB.out.below B03.out).lt
            have HIR3 := Lib.hid (HIR.out w3 B03.out)
            clear bw3 p0 p1 p2 p3 pl d0 d1 d2 hf0 hf1 hf2 hgw c0 c1 c2 c3 c4 t0 t1 t2 t3
            go_wp2_with fail
            go_region_law (go_simp; go_at_call 30; refine Calls.mono (HIR.out _ (by first | exact B03.out | exact B03.out.drew)) ?_; rintro e w4 ⟨rfl, rfl⟩)
            all_goals
              have hst := row_store HO3.out HS.out HLF.out (by rw [HKN.out]; exact hk')
              have HST := Lib.hid hst
              have HB3 := Lib.hid (((B03.out.setCell (p := ⟨g, k * 3, none⟩) HWG.out (.int .i64 4)).setCell (p := ⟨g, k * 3 + 1, none⟩) HWG.out (.int .i64 z)).setCell (p := ⟨g, k * 3 + 2, none⟩) HWG.out (.int .i64 t)).drew
              have hko := HKA.out
              clear hst
              by_cases hz0 : z < 0
              · rw [decide_eq_false (by omega), Bool.false_and] at hko
                have HKO := Lib.hid hko
                clear hko
                go_wp2
                go_ret2
                have h1 := HKO.out
                subst h1
                have h2 := HRES.out
                rw [if_neg (by decide)] at h2
                subst h2
                exact ⟨_, rfl, SlD.nil, BB.out.trans (HB3.out.mono BB.out.size)⟩
              · rw [decide_eq_true (by omega), Bool.true_and] at hko
                have HK2 := Lib.hid hko
                clear hko
                go_wp2
                go_roundg (gk - 1)
                case measure => omega
                case rel => exact ⟨k + 1, by go_num, by omega, by omega, HST.out, HB3.out, HK2.out⟩
      · have q1 : (xo == 1) = false := by simpa using (show ¬ xo = 1 by omega)
        have q2 : (xo == 2) = false := by simpa using (show ¬ xo = 2 by omega)
        have q3 : (xo == 3) = false := by simpa using (show ¬ xo = 3 by omega)
        have q4 : (xo == 4) = false := by simpa using (show ¬ xo = 4 by omega)
        have hlk := HSK.out (if_neg (show ¬ xo ≤ 4 by omega))
        have hko := HOK.out
        rw [HD.out, show lfok rsv ⟨xo, xn, xm, xi, xp⟩ = true from if_neg (show ¬ xo ≤ 4 by omega), Bool.true_and] at hko
        have HK2 := Lib.hid hko
        have HLK := Lib.hid hlk
        clear hko hlk
        go_wp2
        go_roundg (gk - 1)
        case measure => omega
        case rel => exact ⟨k + 1, by go_num, by omega, by omega, by rw [← HLK.out]; exact HO.out, HB.out, HK2.out⟩
    · have hkn : k = l.length := by have := HN.out; omega
      have hko := HOK.out
      rw [all_end1 _ _ _ (by omega)] at hko
      subst hko
      have hr := HRES.out
      rw [if_pos rfl] at hr
      have ho2 := HO.out
      rw [hkn, lvL_full] at ho2
      have HMM := Lib.hid (HM.out wr _ (HV.out.below HB.out) (ops_own_of (by rw [List.length_map]; exact HN.out) ho2))
      clear hkn ho2 ho
      subst hr
      go_wp2_with fail
      refine HMM.out.mono ?_
      rintro e5 w5 ⟨b5, off5, cap5, rfl, o5, bb5⟩
      have O5 := Lib.hid o5
      have B5 := Lib.hid (HB.out.trans (bb5.mono HB.out.size))
      clear o5 bb5
      go_wp2
      go_ret2
      exact ⟨_, rfl, O5.out, BB.out.trans (B5.out.mono BB.out.size)⟩

set_option maxRecDepth 100000 in
set_option maxHeartbeats 2000000 in
theorem rclaim_any (l : List Nd) (v : Value) (m : Int) (lv tv cv : Value) (vars : List (ByteArray × Int × Int)) (ts : List TN) (w : World) (hv : NdsC w v l) (hn : l.length ≤ 100000) (hz : NmOK l) (hlv : VnsD w lv vars) (htv : TnsD w tv ts) (hcv : ∃ a n c, cv = .slice a n c) (n1 : vars.length ≤ 100000) (n2 : ts.length ≤ 100000) (n3 : ∀ x ∈ ts, x.regs.length ≤ 100000) (cs : List Opn) (ok : Bool) (hc : CodIs (rsvC (vars.map (·.1)) ts) l cs ok) :
    Calls Try.prog 14 #[v, .agg #[.int .i64 m, lv, tv, cv]] w (RefAns cs ok w) := by
  rcases hc with ⟨e, hwf, hfl, hri, hok, hcs⟩ | ⟨hnr, rfl, rfl⟩
  · subst hfl
    subst hok
    subst hcs
    exact rclaim_right e v m lv tv cv vars ts w hwf hri hv hz hlv htv hcv n1 n2 n3
  · obtain ⟨wb, hwb⟩ : ∃ wb, wb = w.alloc (.cells #[.int .i64 m, lv, tv, cv] 28) := ⟨_, rfl⟩
    have BB : Hid (Below w.heap.size w wb) := Lib.hid (by rw [hwb]; exact (Below.refl _ _).alloc (Nat.le_refl _) _)
    have HRT := Lib.hid (rright_any l v wb (hv.below BB.out).nds hn hz false (right_no l hnr))
    obtain ⟨ad, cap, rfl, _⟩ := id hv
    obtain ⟨ad1, cap1, rfl⟩ := hlv.shape
    obtain ⟨ad2, cap2, rfl⟩ := htv.shape
    obtain ⟨ad3, nn3, cap3, rfl⟩ := hcv
    generalize l.length = n at HRT ⊢
    generalize vars.length = nv at hwb ⊢
    generalize ts.length = nt at hwb ⊢
    have HWB := Lib.hid hwb
    clear hv hnr hn hz hlv htv n1 n2 n3 hwb
    go_enter Try.func14, Try.ntmps14
    go_wp2_with fail
    rw [← HWB.out]
    refine HRT.out.mono ?_
    rintro e' w1 ⟨rfl, b1⟩
    go_wp2
    go_ret2
    exact ⟨_, rfl, SlD.nil, BB.out.trans (b1.mono BB.out.size)⟩

end Go.Proofs.Ytibkegalbcjmpaa
