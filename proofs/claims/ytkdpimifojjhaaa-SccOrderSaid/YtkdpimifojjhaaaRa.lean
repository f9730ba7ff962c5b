/- Layer 17's law: SccOrder's walk. -/
import Derived.Test.YtkdpimifojjhaaaQu
import Derived.Test.YtkdpimifojjhaaaPe
import Derived.Test.YtkdpimifojjhaaaPh
import Derived.Test.YtkdpimifojjhaaaNu
namespace Go.Proofs.Ytkdpimifojjhaaa
set_option linter.unusedSimpArgs false
set_option linter.unusedVariables false
open Go.RowKit

theorem light_sz17 {g : Gr} (h : lightG g = true) : g.st.length ≤ 80 ∧ g.to.length ≤ 400 ∧ g.ag.length ≤ 400 := by
  unfold lightG at h
  simp only [Bool.and_eq_true, decide_eq_true_eq] at h
  exact ⟨h.1, h.2.1, h.2.2⟩
/-- What can be reached from the end of an edge: its beginning just if both are in one part. -/
theorem order_bit {g : Gr} (hg : RG g) {e : Edg} (he : e ∈ allL g) (r : List Bool) (hr : IsR (allL g) [e.2.2] (numN g) r) : ∃ (v u : Nat) (b : Bool), e.1 = v ∧ e.2.2 = u ∧ v < numN g ∧ u < numN g ∧ r[v]? = some b ∧ (b = true ↔ pnG g v = pnG g u) := by
  obtain ⟨v, u, e1, e2, hv, hu, hA⟩ := hg.edge he
  obtain ⟨b, hb⟩ : ∃ b, r[v]? = some b := ⟨_, List.getElem?_eq_getElem (by rw [hr.1]; exact hv)⟩
  refine ⟨v, u, b, e1, e2, hv, hu, hb, ?_⟩
  have h1 := hr.2 v hv
  rw [hb, e2, hg.rch u hu] at h1
  have h2 : pnG g v = pnG g u ↔ Mut (egr g).A v u := pn_same v u
  rw [h2]
  constructor
  · intro h
    obtain ⟨j, hj, hrea⟩ := h1.1 (by rw [h])
    have : v = j := by omega
    subst this
    exact ⟨Rea.one hA, hrea⟩
  · intro h
    have := h1.2 ⟨v, rfl, h.2⟩
    injection this
set_option maxRecDepth 100000 in
set_option maxHeartbeats 8000000 in
theorem order_in (g : Gr) (vs va vt : Value) (w : World) (hd : GrD w vs va vt g) :
    Calls Try.prog 5 #[.agg #[vs, va, vt]] w fun e w' => e = .returned (.bool true) ∧ Below w.heap.size w w' := by
  obtain ⟨q, hq⟩ : ∃ q, lightG g = q := ⟨_, rfl⟩
  obtain ⟨q2, hq2⟩ : ∃ q, rightG g = q := ⟨_, rfl⟩
  have HLI := Lib.hid fun (W : World) (h : Below w.heap.size w W) => light14_any g vs va vt W (hd.below h) q hq
  have HSZ : Hid (q = true → g.st.length ≤ 80 ∧ g.to.length ≤ 400 ∧ g.ag.length ≤ 400) := Lib.hid (fun h => light_sz17 (hq.trans h))
  have HRI := Lib.hid fun (W : World) (h : Below w.heap.size w W) (hs : g.st.length ≤ 80 ∧ g.to.length ≤ 400 ∧ g.ag.length ≤ 400) => rright14_any g vs va vt W (hd.below h) ⟨by omega, by omega⟩ q2 hq2
  have HPA := Lib.hid fun (W : World) (h : Below w.heap.size w W) (hs : g.st.length ≤ 80 ∧ g.to.length ≤ 400 ∧ g.ag.length ≤ 400) => parts_any g vs va vt W (hd.below h) ⟨by omega, by omega, by omega⟩
  have HND := Lib.hid fun (W : World) (h : Below w.heap.size w W) (hs : g.st.length ≤ 80 ∧ g.to.length ≤ 400 ∧ g.ag.length ≤ 400) => rnodes_any g vs va vt W (hd.below h) ⟨by omega, by omega⟩
  have HAL := Lib.hid fun (W : World) (h : Below w.heap.size w W) (hs : g.st.length ≤ 80 ∧ g.to.length ≤ 400 ∧ g.ag.length ≤ 400) => rall_any g vs va vt W (hd.below h) ⟨by omega, by omega⟩
  have HGP := Lib.hid fun (W : World) (h : Below w.heap.size w W) (hs : g.st.length ≤ 80 ∧ g.to.length ≤ 400 ∧ g.ag.length ≤ 400) => groups_any g vs va vt W (hd.below h) ⟨by omega, by omega, by omega⟩
  have HRE := Lib.hid fun (W : World) (h : Below w.heap.size w W) (hs : g.st.length ≤ 80 ∧ g.to.length ≤ 400 ∧ g.ag.length ≤ 400) (u : Int) (gu : Nat) (hu : Bk W gu 3 #[.int .i64 u]) => rreach_any g [u] vs va vt (.slice (some ⟨gu, 0, none⟩) 1 1) W (hd.below h) (BkI.ints (l := [u]) hu rfl (by decide)) ⟨by omega, by omega⟩ (by simp)
  have HQ2 := Lib.hid hq2
  obtain ⟨z1, n1, y1, z2, n2, y2, z3, n3, y3, rfl, rfl, rfl⟩ := hd.sh17
  clear hd hq hq2
  have BX := Lib.hid (bal (Below.refl w.heap.size w) (.cells #[.slice z1 n1 y1, .slice z2 n2 y2, .slice z3 n3 y3] 24))
  have KX := Lib.hid (Bk.new w 24 #[.slice z1 n1 y1, .slice z2 n2 y2, .slice z3 n3 y3])
  go_enter Try.func5, Try.ntmps5
  go_wp2_with fail
  generalize World.alloc w _ = w0 at BX KX ⊢
  refine Calls.mono (HLI.out w0 BX.out) ?_
  rintro e w1 ⟨rfl, b1⟩
  replace BX := Lib.hid (BX.out.trans (b1.mono BX.out.size))
  replace KX := Lib.hid (KX.out.below b1)
  clear b1 HLI
  cases q with
  | false =>
    go_wp2_with fail
    refine Calls.mono (known17_any w1) ?_
    rintro e w2 ⟨rfl, b2⟩
    replace BX := Lib.hid (BX.out.trans (b2.mono BX.out.size))
    clear b2
    go_wp2_with fail
    go_ret
    exact ⟨rfl, BX.out⟩
  | true =>
    have HS := Lib.hid (HSZ.out rfl)
    clear HSZ
    have c0 := KX.out.cell 0
    have c1 := KX.out.cell 1
    have c2 := KX.out.cell 2
    have lk := KX.out.lt
    go_wp2_with fail
    refine Calls.mono (HRI.out w1 BX.out HS.out) ?_
    rintro e w2 ⟨rfl, b2⟩
    replace BX := Lib.hid (BX.out.trans (b2.mono BX.out.size))
    replace KX := Lib.hid (KX.out.below b2)
    clear b2 HRI c0 c1 c2 lk
    cases q2 with
    | false =>
      go_wp2_with fail
      refine Calls.mono (known17_any w2) ?_
      rintro e w3 ⟨rfl, b3⟩
      replace BX := Lib.hid (BX.out.trans (b3.mono BX.out.size))
      clear b3
      go_wp2_with fail
      go_ret
      exact ⟨rfl, BX.out⟩
    | true =>
      have HG := Lib.hid (right_RG g HQ2.out)
      obtain ⟨n, hN⟩ : ∃ n, n = numN g := ⟨_, rfl⟩
      have HN : Hid (n = numN g ∧ n ≤ 80) := Lib.hid ⟨hN, by rw [hN]; unfold numN; have := HS.out.1; omega⟩
      have HPR : Hid (parG g = tab n fun i => ((pnG g i : Nat) : Int)) := Lib.hid (by unfold parG; rw [if_pos HQ2.out, hN])
      have HGR : Hid ((grpG g).length = nx (pnG g) n) := Lib.hid (by unfold grpG; rw [if_pos HQ2.out, hN]; unfold grp; rw [tab_len])
      have HCA : Hid (Canon (pnG g) n) := Lib.hid (pn_canon (A := (egr g).A) n)
      clear hN
      have c0 := KX.out.cell 0
      have c1 := KX.out.cell 1
      have c2 := KX.out.cell 2
      have lk := KX.out.lt
      go_wp2_with fail
      refine Calls.mono (HPA.out w2 BX.out HS.out) ?_
      rintro e w3 ⟨vp, rfl, hp, b3⟩
      rw [HPR.out] at hp
      replace BX := Lib.hid (BX.out.trans (b3.mono BX.out.size))
      replace KX := Lib.hid (KX.out.below b3)
      have HP := Lib.hid hp
      obtain ⟨zp, yp, rfl⟩ := hp.shape0
      rw [tab_len] at HP ⊢
      clear b3 HPA c0 c1 c2 lk hp
      have c0 := KX.out.cell 0
      have c1 := KX.out.cell 1
      have c2 := KX.out.cell 2
      have lk := KX.out.lt
      go_wp2_with fail
      refine Calls.mono (HND.out w3 BX.out HS.out n (by rw [if_pos HQ2.out, HN.out.1])) ?_
      rintro e w4 ⟨rfl, b4⟩
      replace BX := Lib.hid (BX.out.trans (b4.mono BX.out.size))
      replace KX := Lib.hid (KX.out.below b4)
      replace HP := Lib.hid (IntsD.below HP.out b4)
      clear b4 HND c0 c1 c2 lk
      go_wp2_with fail
      go_loopg [5, 6] n (fun fuel s5 s6 wr => ∃ i : Nat, s5 = .int .i64 ((nx (pnG g) i : Nat) : Int) ∧ s6 = .int .i64 i ∧ i ≤ n ∧ n - i ≤ fuel ∧ wr = w4)
      case atStart => exact ⟨0, rfl, rfl, Nat.zero_le _, Nat.le_refl _, rfl⟩
      case round =>
        obtain ⟨i, rfl, rfl, hi, hf, rfl⟩ := hrel
        by_cases hlt : i < n
        · have hpi := HCA.out i hlt
          have hnl := nx_le (pnG g) i
          have hstep : nx (pnG g) (i + 1) = if pnG g i = nx (pnG g) i then nx (pnG g) i + 1 else nx (pnG g) i := rfl
          obtain ⟨b1, o1, eb, lb, xp⟩ := IntsD.at2 HP.out i (by rw [tab_len]; exact hlt)
          have hxp : (tab n fun i => ((pnG g i : Nat) : Int))[i]'(by rw [tab_len]; exact hlt) = ((pnG g i : Nat) : Int) := by
            have h := tab_at n (fun i => ((pnG g i : Nat) : Int)) i hlt
            rw [List.getElem?_eq_getElem (by rw [tab_len]; exact hlt)] at h
            injection h
          rw [hxp] at xp
          subst eb
          have HST := Lib.hid hstep
          clear hstep hxp
          generalize pnG g i = pk at xp hpi HST
          generalize nx (pnG g) i = ni at hpi HST hnl ⊢
          have i1 : (0 : Int) ≤ (i : Int) := by omega
          have i2 : (i : Int) < (n : Int) := by omega
          have i3 : ¬ ((pk : Int) < 0) := by omega
          have i4 : ¬ ((ni : Int) < (pk : Int)) := by omega
          have i5 : IntKind.i64.wrap ((i : Int) + 1) = (i : Int) + 1 := IntWalk.i64_in _ (by have := HN.out; omega)
          have i6 : IntKind.i64.wrap ((ni : Int) + 1) = (ni : Int) + 1 := IntWalk.i64_in _ (by have := HN.out; omega)
          by_cases hpe : pk = ni
          · have HST2 : Hid (nx (pnG g) (i + 1) = pk + 1) := Lib.hid (by rw [HST.out, if_pos hpe, hpe])
            clear HST
            subst hpe
            go_wp2_with fail
            go_roundg (gk - 1)
            case measure => omega
            case rel => exact ⟨i + 1, by rw [HST2.out]; go_num, by go_num, by omega, by omega, rfl⟩
          · have i7 : ¬ ((pk : Int) = (ni : Int)) := by omega
            go_wp2_with fail
            go_roundg (gk - 1)
            case measure => omega
            case rel => exact ⟨i + 1, by rw [HST.out, if_neg hpe], by go_num, by omega, by omega, rfl⟩
        · obtain rfl : i = n := by omega
          obtain ⟨N, hNN⟩ : ∃ N, N = nx (pnG g) i := ⟨_, rfl⟩
          rw [← hNN] at HGR ⊢
          clear hNN hlt hi hf HCA
          obtain ⟨w5, rfl⟩ : ∃ x, x = wr := ⟨_, rfl⟩
          obtain ⟨g2, rfl⟩ : ∃ x, x = gk := ⟨_, rfl⟩
          have c0 := KX.out.cell 0
          have c1 := KX.out.cell 1
          have c2 := KX.out.cell 2
          have lk := KX.out.lt
          go_wp2_with fail
          refine Calls.mono (HAL.out w5 BX.out HS.out) ?_
          rintro e w6 ⟨vl, rfl, ol, b6⟩
          rw [show allZ g = allL g from if_pos HQ2.out] at ol
          replace BX := Lib.hid (BX.out.trans (b6.mono BX.out.size))
          replace KX := Lib.hid (KX.out.below b6)
          replace HP := Lib.hid (IntsD.below HP.out b6)
          have HL := Lib.hid (edgsD_of_own ol)
          obtain ⟨zl, yl, rfl, hj⟩ := own_shape' ol
          obtain ⟨m, hm⟩ : ∃ m, m = (allL g).length := ⟨_, rfl⟩
          rw [← hm] at HL ⊢
          have HM : Hid (m = (allL g).length ∧ m ≤ 400) := Lib.hid ⟨hm, by rw [hm, HG.out.allLen]; exact HS.out.2.1⟩
          clear hj b6 HAL c0 c1 c2 lk ol hm
          go_wp2_with fail
          go_loopg [8, 9] m (fun fuel s8 s9 wr => ∃ k : Nat, s8 = .int .i64 k ∧ k ≤ m ∧ m - k ≤ fuel ∧ Bk wr w.heap.size 24 #[.slice z1 n1 y1, .slice z2 n2 y2, .slice z3 n3 y3] ∧ Below w6.heap.size w6 wr)
          case atStart => exact ⟨0, rfl, Nat.zero_le _, Nat.le_refl _, KX.out, Below.refl _ _⟩
          case round =>
            clear KX
            obtain ⟨k, rfl, hk, hf, hkx, hb⟩ := hrel
            have KX := Lib.hid hkx
            have HB := Lib.hid hb
            have BXW := Lib.hid (BX.out.trans (hb.mono BX.out.size))
            have c0 := KX.out.cell 0
            have c1 := KX.out.cell 1
            have c2 := KX.out.cell 2
            have lk := KX.out.lt
            by_cases hlt : k < m
            · have hkl : k < (allL g).length := by rw [← HM.out.1]; exact hlt
              obtain ⟨b1, o1, eb, lb, x0, x1, x2⟩ := EdgsD.at2 (EdgsD.below HL.out hb) k hkl
              subst eb
              obtain ⟨ed, hed⟩ : ∃ e, e = (allL g)[k] := ⟨_, rfl⟩
              have hmem : ed ∈ allL g := by rw [hed]; exact List.getElem_mem hkl
              rw [← hed] at x0 x1 x2
              obtain ⟨ev, ea, eu⟩ := ed
              have x0 : wr.cell? ⟨b1, o1 + k * 3, none⟩ = some (.int .i64 ev) := x0
              have x2 : wr.cell? ⟨b1, o1 + k * 3 + 2, none⟩ = some (.int .i64 eu) := x2
              have HOB := Lib.hid (fun (r : List Bool) (hr : IsR (allL g) [eu] (numN g) r) => order_bit HG.out hmem r hr)
              have HLB := Lib.hid lb
              have HX0 := Lib.hid x0
              have HX2 := Lib.hid x2
              clear x0 x1 hed hkl hmem
              have i1 : (0 : Int) ≤ (k : Int) := by omega
              have i2 : (k : Int) < (m : Int) := by omega
              have i5 : IntKind.i64.wrap ((k : Int) + 1) = (k : Int) + 1 := IntWalk.i64_in _ (by have := HM.out; omega)
              clear hkx hb
              go_upto_region 19 with fail
              go_cut [9] (fun s9 wx => ∃ r : List Bool, TrusD wx s9 r ∧ ReachZ g [eu] r ∧ Below wr.heap.size wr wx)
              case first =>
                go_region_law (go_simp; go_at_call 23; (refine Calls.mono (HRE.out _ (by first | exact bal BXW.out _ | exact bal (bdr BXW.out) _ | exact bdr (bal BXW.out _)) HS.out eu wr.heap.size (by first | exact Bk.new _ _ _ | exact bk_drew (Bk.new _ _ _))) ?_); rintro e w8 ⟨vr, r, rfl, hr, hrz, b8⟩)
                all_goals
                  have b9 : Below wr.heap.size wr w8 := Below.trans (by repeat' (first | with_reducible exact Below.refl _ _ | with_reducible refine bdr ?_ | with_reducible refine bal ?_ _)) (b8.mono (by simp only [alloc_size, World.drew]; omega))
                  go_wp2_with fail
                  go_meet
                  exact ⟨r, hr, hrz, b9⟩
              case rest =>
                obtain ⟨r, hr, hrz, b9⟩ := hcut
                obtain ⟨v, u, bb, e1, e2, hv, hu, hrb, hbb⟩ := HOB.out r (hrz.1 HQ2.out)
                subst e1
                subst e2
                have HRL : Hid (r.length = numN g) := Lib.hid (hrz.1 HQ2.out).1
                have hvr : v < r.length := by rw [HRL.out]; exact hv
                obtain ⟨zr, yr, hsr⟩ := hr.shape0
                subst hsr
                obtain ⟨b3, o3, eb3, lb3, xr⟩ := TrusD.at2 hr v hvr
                subst eb3
                have hrv : r[v] = bb := by rw [List.getElem?_eq_getElem hvr] at hrb; injection hrb
                rw [hrv] at xr
                have x0 : wc.cell? ⟨b1, o1 + k * 3, none⟩ = some (.int .i64 (v : Int)) := (b9.cell (p := ⟨b1, _, none⟩) HLB.out).trans HX0.out
                have x2 : wc.cell? ⟨b1, o1 + k * 3 + 2, none⟩ = some (.int .i64 (u : Int)) := (b9.cell (p := ⟨b1, _, none⟩) HLB.out).trans HX2.out
                have hpw := IntsD.below (IntsD.below HP.out HB.out) b9
                have hvi : v < i := by rw [HN.out.1]; exact hv
                have hui : u < i := by rw [HN.out.1]; exact hu
                obtain ⟨b4, o4, eb4, hj4, hj5⟩ := IntsD.at2 hpw v (by rw [tab_len]; exact hvi)
                clear hj4 hj5
                subst eb4
                have y0 := (cellAt hpw (tab_at i (fun j => ((pnG g j : Nat) : Int)) v hvi)).1
                have y2 := (cellAt hpw (tab_at i (fun j => ((pnG g j : Nat) : Int)) u hui)).1
                have k1 : (0 : Int) ≤ (v : Int) := by omega
                have k2 : (v : Int) < (i : Int) := by omega
                have k3 : (0 : Int) ≤ (u : Int) := by omega
                have k4 : (u : Int) < (i : Int) := by omega
                have k5 : (v : Int) < (r.length : Int) := by omega
                have HKX := Lib.hid (KX.out.below b9)
                have HBN := Lib.hid (HB.out.trans (b9.mono HB.out.size))
                generalize pnG g v = pv at y0 hbb
                generalize pnG g u = pu at y2 hbb
                generalize r.length = rl at k5 ⊢
                clear hpw hrv hrb hvr hr hrz HOB hv hu b9 HX0 HX2 c0 c1 c2 lk
                cases bb with
                | true =>
                  obtain rfl : pv = pu := hbb.1 rfl
                  clear hbb
                  go_wp2_with fail
                  go_quiet (fail)
                  go_wp2_with fail
                  go_roundg (gk - 1)
                  case measure => omega
                  case rel => exact ⟨k + 1, by go_num, by omega, by omega, HKX.out, below_drewN' HBN.out _⟩
                | false =>
                  have hne : ¬ pv = pu := fun h => by have := hbb.2 h; cases this
                  have q1 : ((pv : Int) == (pu : Int)) = false := by simpa using (by omega : ¬ (pv : Int) = (pu : Int))
                  have q2 : ¬ ((pv : Int) = (pu : Int)) := by omega
                  clear hbb
                  go_wp2_with fail
                  go_quiet (fail)
                  go_wp2_with fail
                  go_roundg (gk - 1)
                  case measure => omega
                  case rel => exact ⟨k + 1, by go_num, by omega, by omega, HKX.out, below_drewN' HBN.out _⟩
            · obtain rfl : k = m := by omega
              clear hlt hk hf hkx hb
              go_wp2_with fail
              refine Calls.mono (HGP.out wr BXW.out HS.out) ?_
              rintro e w8 ⟨vg, zs, rfl, hgg, hzs, b8⟩
              obtain ⟨zg, yg, rfl, hj⟩ := own_shape' hgg.o
              have hzl : zs.length = N := by rw [← HGR.out, ← hzs, List.length_map]
              rw [hzl]
              have BX8 := Lib.hid (BXW.out.trans (b8.mono BXW.out.size))
              clear hj b8 hgg hzs c0 c1 c2 lk
              go_wp2_with fail
              refine Calls.mono (known17_any w8) ?_
              rintro e w9 ⟨rfl, b9⟩
              go_wp2_with fail
              go_ret
              exact ⟨rfl, BX8.out.trans (b9.mono BX8.out.size)⟩

end Go.Proofs.Ytkdpimifojjhaaa
