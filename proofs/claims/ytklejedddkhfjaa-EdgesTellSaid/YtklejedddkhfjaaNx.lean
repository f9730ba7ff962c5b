/- Layer 14's law: EdgesBack's walk. -/
import Derived.Test.YtklejedddkhfjaaNv
namespace Go.Proofs.Ytklejedddkhfjaa
set_option linter.unusedSimpArgs false
set_option linter.unusedVariables false
open Go.RowKit

theorem back_sizes {g : Gr} (h : RG g) (hs : g.st.length ≤ 80 ∧ g.to.length ≤ 400 ∧ g.ag.length ≤ 400) : (backG g).st.length ≤ 80 ∧ (backG g).to.length ≤ 400 ∧ (backG g).ag.length ≤ 400 := by
  have h1 := h.backAll
  rw [h.back.allLen, h.allLen] at h1
  have h2 := h.back.alen
  have h3 : numN (backG g) = numN g := bld_num _ _
  unfold numN at h3
  have h4 := h.back.pos
  have h5 := h.pos
  omega
/-- Truths, the first k of them true. -/
def mixT (N k : Nat) : List Bool := (List.range N).map fun j => decide (j < k)
theorem mixT_zero (N : Nat) : mixT N 0 = List.replicate N false := by
  unfold mixT
  rw [← range_rep false N]
  exact List.map_congr_left fun j _ => by simp
theorem mixT_all (N : Nat) : mixT N N = List.replicate N true := by
  unfold mixT
  rw [← range_rep true N]
  exact List.map_congr_left fun j hj => by simpa using hj
theorem mixT_at (N k : Nat) (h : k < N) : (mixT N k)[k]? = some false := by simp [mixT, List.getElem?_range h]
theorem mixT_len (N k : Nat) : (mixT N k).length = N := by simp [mixT]
theorem mixT_set (N k : Nat) (h : k < N) : (mixT N k).set k true = mixT N (k + 1) := by
  apply List.ext_getElem
  · simp [mixT]
  · intro i h1 h2
    rw [List.getElem_set]
    simp only [mixT, List.getElem_map, List.getElem_range]
    by_cases he : k = i
    · subst he; simp
    · rw [if_neg he]
      by_cases hl : i < k
      · rw [decide_eq_true hl, decide_eq_true (by omega)]
      · rw [decide_eq_false hl, decide_eq_false (by omega)]
theorem okB_all {g : Gr} (h : RG g) : okB (numN g : Int) (allL g) = true := by
  unfold okB
  rw [decide_eq_true (by omega), Bool.true_and, List.all_eq_true]
  exact fun e he => h.mem he

set_option maxRecDepth 100000 in
set_option maxHeartbeats 8000000 in
theorem back_in (g : Gr) (vs va vt : Value) (w : World) (hd : GrD w vs va vt g) :
    Calls Try.prog 5 #[.agg #[vs, va, vt]] w fun e w' => e = .returned (.bool true) ∧ Below w.heap.size w w' := by
  obtain ⟨q, hq⟩ : ∃ q, lightG g = q := ⟨_, rfl⟩
  obtain ⟨q2, hq2⟩ : ∃ q, rightG g = q := ⟨_, rfl⟩
  have HLI := Lib.hid fun (W : World) (h : Below w.heap.size w W) => light14_any g vs va vt W (hd.below h) q hq
  have HSZ : Hid (q = true → g.st.length ≤ 80 ∧ g.to.length ≤ 400 ∧ g.ag.length ≤ 400) := Lib.hid (fun h => light_sz (hq.trans h))
  have HRI := Lib.hid fun (W : World) (h : Below w.heap.size w W) (hs : g.st.length ≤ 80 ∧ g.to.length ≤ 400 ∧ g.ag.length ≤ 400) => right14_any g vs va vt W (hd.below h) ⟨by omega, by omega, by omega⟩ q2 hq2
  have HQ2 := Lib.hid hq2
  have HAL := Lib.hid fun (W : World) (h : Below w.heap.size w W) (hs : g.st.length ≤ 80 ∧ g.to.length ≤ 400 ∧ g.ag.length ≤ 400) => all_any g vs va vt W (hd.below h) ⟨by omega, by omega, by omega⟩
  have HBK := Lib.hid fun (W : World) (h : Below w.heap.size w W) (hs : g.st.length ≤ 80 ∧ g.to.length ≤ 400 ∧ g.ag.length ≤ 400) => back_any g vs va vt W (hd.below h) ⟨by omega, by omega, by omega⟩
  have HND := Lib.hid fun (W : World) (h : Below w.heap.size w W) (hs : g.st.length ≤ 80 ∧ g.to.length ≤ 400 ∧ g.ag.length ≤ 400) => nodes_any g vs va vt W (hd.below h) ⟨by omega, by omega, by omega⟩
  have HOU := Lib.hid fun (W : World) (h : Below w.heap.size w W) (hs : g.st.length ≤ 80 ∧ g.to.length ≤ 400 ∧ g.ag.length ≤ 400) (i : Int) => out_any g vs va vt W (hd.below h) ⟨by omega, by omega, by omega⟩ i
  have HKE := Lib.hid fun (W : World) (h : Below w.heap.size w W) (hs : g.st.length ≤ 80 ∧ g.to.length ≤ 400 ∧ g.ag.length ≤ 400) (l : List Bool) (vl : Value) (hl : TrusD W vl l) (hn : l.length ≤ 1000) => keep_any g l vs va vt vl W (hd.below h) hl ⟨by omega, by omega, by omega⟩ hn
  have HGA := Lib.hid fun (W : World) (h : Below w.heap.size w W) (hs : g.st.length ≤ 80 ∧ g.to.length ≤ 400 ∧ g.ag.length ≤ 400) (us ua ut : Value) (hu : GrD W us ua ut g) => graphs_any g g vs va vt us ua ut W (hd.below h) hu ⟨by omega, by omega, by omega⟩ true (by unfold sameG; simp)
  have HGB := Lib.hid fun (W : World) (h : Below w.heap.size w W) (hs : g.st.length ≤ 80 ∧ g.to.length ≤ 400 ∧ g.ag.length ≤ 400) (us ua ut : Value) (hu : GrD W us ua ut g) => graphs_any g g us ua ut vs va vt W hu (hd.below h) ⟨by omega, by omega, by omega⟩ true (by unfold sameG; simp)
  obtain ⟨z1, n1, y1, z2, n2, y2, z3, n3, y3, rfl, rfl, rfl⟩ := hd.sh
  clear hd hq hq2
  have BX := Lib.hid (bal (Below.refl w.heap.size w) (.cells #[.slice z1 n1 y1, .slice z2 n2 y2, .slice z3 n3 y3] 26))
  have KX := Lib.hid (Bk.new w 26 #[.slice z1 n1 y1, .slice z2 n2 y2, .slice z3 n3 y3])
  go_enter Try.func5, Try.ntmps5
  go_wp2_with fail
  generalize World.alloc w _ = w0 at BX KX ⊢
  refine (HLI.out _ BX.out).mono ?_
  rintro e w1 ⟨rfl, b1⟩
  replace BX := Lib.hid (BX.out.trans (b1.mono BX.out.size))
  replace KX := Lib.hid (KX.out.below b1)
  clear b1 HLI
  cases q with
  | false =>
    go_wp2_with fail
    refine (known_any _).mono ?_
    rintro e w2 ⟨rfl, b2⟩
    replace BX := Lib.hid (BX.out.trans (b2.mono BX.out.size))
    clear b2
    go_wp2_with fail
    go_ret
    exact ⟨rfl, BX.out⟩
  | true =>
    have HS := Lib.hid (HSZ.out rfl)
    clear HSZ
    have c0 := KX.out.cell 0
    have c1 := KX.out.cell 1
    have c2 := KX.out.cell 2
    have lk := KX.out.lt
    go_wp2_with fail
    refine (HRI.out _ BX.out HS.out).mono ?_
    rintro e w2 ⟨rfl, b2⟩
    replace BX := Lib.hid (BX.out.trans (b2.mono BX.out.size))
    replace KX := Lib.hid (KX.out.below b2)
    clear b2 c0 c1 c2 lk HRI
    cases q2 with
    | false =>
      go_wp2_with fail
      refine (known_any _).mono ?_
      rintro e w3 ⟨rfl, b3⟩
      replace BX := Lib.hid (BX.out.trans (b3.mono BX.out.size))
      clear b3
      go_wp2_with fail
      go_ret
      exact ⟨rfl, BX.out⟩
    | true =>
      have HG := Lib.hid (right_RG g HQ2.out)
      obtain ⟨N, hN⟩ : ∃ N, N = numN g := ⟨_, rfl⟩
      have HN := Lib.hid hN
      have HNZ : Hid ((if rightG g = true then numN g else 0) = N) := Lib.hid (by rw [if_pos HQ2.out, hN])
      have HN80 : Hid (N ≤ 80) := Lib.hid (by rw [hN]; have := HS.out; unfold numN; omega)
      have c0 := KX.out.cell 0
      have c1 := KX.out.cell 1
      have c2 := KX.out.cell 2
      have lk := KX.out.lt
      clear hN
      go_wp2_with fail
      refine (HND.out _ BX.out HS.out _ HNZ.out).mono ?_
      rintro e w3 ⟨rfl, b3⟩
      replace BX := Lib.hid (BX.out.trans (b3.mono BX.out.size))
      replace KX := Lib.hid (KX.out.below b3)
      clear b3 c0 c1 c2 lk HND
      have c0 := KX.out.cell 0
      have c1 := KX.out.cell 1
      have c2 := KX.out.cell 2
      have lk := KX.out.lt
      go_wp2_with fail
      refine (HAL.out _ BX.out HS.out).mono ?_
      rintro e w4 ⟨v, rfl, va, b4⟩
      rw [show allZ g = allL g from if_pos HQ2.out] at va
      have HV := Lib.hid va
      replace BX := Lib.hid (BX.out.trans (b4.mono BX.out.size))
      replace KX := Lib.hid (KX.out.below b4)
      clear va b4 c0 c1 c2 lk HAL
      go_wp2_with fail
      refine (build_any N (allL g) v _ HV.out (by have := HN80.out; omega) (by rw [HG.out.allLen]; have := HS.out; omega)).mono ?_
      rintro e w5 ⟨us, ua, ut, rfl, gd, b5⟩
      have HOK := Lib.hid (okB_all HG.out)
      rw [show buildG N (allL g) = g by unfold buildG; rw [HN.out, if_pos HOK.out, Int.toNat_natCast, HG.out.build]] at gd
      rw [show buildE N (allL g) = 0 by unfold buildE; rw [HN.out, if_pos HOK.out]]
      obtain ⟨h1, hn1, hc1, h2, hn2, hc2, h3, hn3, hc3, rfl, rfl, rfl⟩ := gd.sh
      replace BX := Lib.hid (BX.out.trans (b5.mono BX.out.size))
      replace KX := Lib.hid (KX.out.below b5)
      have bb := (Below.refl w5.heap.size w5).alloc (Nat.le_refl _) (.cells #[.slice h1 hn1 hc1, .slice h2 hn2 hc2, .slice h3 hn3 hc3] 26)
      have DH := Lib.hid (gd.below bb)
      have KH := Lib.hid (Bk.new w5 26 #[.slice h1 hn1 hc1, .slice h2 hn2 hc2, .slice h3 hn3 hc3])
      replace BX := Lib.hid (BX.out.trans (bb.mono BX.out.size))
      replace KX := Lib.hid (KX.out.below bb)
      clear gd b5 bb HV HOK
      go_upto_region 5 with fail
      obtain ⟨gh, hgh⟩ : ∃ x, x = w5.heap.size := ⟨_, rfl⟩
      rw [← hgh] at KH ⊢
      generalize World.alloc w5 _ = w6 at DH BX KX KH ⊢
      clear hgh
      have c0 := KX.out.cell 0
      have c1 := KX.out.cell 1
      have c2 := KX.out.cell 2
      have lk := KX.out.lt
      go_wp2_with fail
      refine (HBK.out _ BX.out HS.out).mono ?_
      rintro e w7 ⟨us, ua, ut, rfl, gd, b7⟩
      rw [show backZ g = backG g from if_pos HQ2.out] at gd
      replace BX := Lib.hid (BX.out.trans (b7.mono BX.out.size))
      replace KX := Lib.hid (KX.out.below b7)
      replace KH := Lib.hid (KH.out.below b7)
      replace DH := Lib.hid (DH.out.below b7)
      have DB := Lib.hid gd
      have HBR : Hid (rightG (backG g) = true) := Lib.hid (RG_right _ HG.out.back)
      have HBS := Lib.hid (back_sizes HG.out HS.out)
      have HTS := Lib.hid (back_sizes HG.out.back HBS.out)
      have HTR : Hid (rightG (backG (backG g)) = true) := Lib.hid (RG_right _ HG.out.back.back)
      clear gd b7 c0 c1 c2 lk HBK
      go_wp2_with fail
      refine (back_any (backG g) _ _ _ _ DB.out (by have := HBS.out; omega)).mono ?_
      rintro e w8 ⟨us', ua', ut', rfl, gd, b8⟩
      rw [show backZ (backG g) = backG (backG g) from if_pos HBR.out] at gd
      obtain ⟨f1, fn1, fc1, f2, fn2, fc2, f3, fn3, fc3, rfl, rfl, rfl⟩ := gd.sh
      have bb := (Below.refl w8.heap.size w8).alloc (Nat.le_refl _) (.cells #[.slice f1 fn1 fc1, .slice f2 fn2 fc2, .slice f3 fn3 fc3] 26)
      replace DB := Lib.hid (gd.below bb)
      replace BX := Lib.hid (BX.out.trans ((b8.trans (bb.mono b8.size)).mono BX.out.size))
      replace KX := Lib.hid ((KX.out.below b8).below bb)
      replace KH := Lib.hid ((KH.out.below b8).below bb)
      replace DH := Lib.hid ((DH.out.below b8).below bb)
      have KB := Lib.hid (Bk.new w8 26 #[.slice f1 fn1 fc1, .slice f2 fn2 fc2, .slice f3 fn3 fc3])
      clear gd b8 bb
      go_upto_region 6 with fail
      obtain ⟨gb, hgb⟩ : ∃ x, x = w8.heap.size := ⟨_, rfl⟩
      rw [← hgb] at KB ⊢
      generalize World.alloc w8 _ = w9 at DB DH BX KX KH KB ⊢
      clear hgb
      have HTN : Hid (numN (backG (backG g)) = N) := Lib.hid (by rw [HN.out]; exact (bld_num _ _).trans (bld_num _ _))
      have HLO0 : Hid (∀ k : Nat, k < N → (outZ g (k : Int)).length = (outZ (backG (backG g)) (k : Int)).length) := Lib.hid (fun k hk => by
        have hk2 : k < numN g := by rw [← HN.out]; exact hk
        rw [outZ_of HQ2.out k hk2, outZ_of HTR.out k (by rw [HTN.out]; exact hk), HG.out.twice k hk2])
      generalize backG (backG g) = gt at DB HTS HTR HTN HLO0
      have hn6 : N ≤ 1000000 := by have := HN80.out; omega
      have HLO := HLO0
      clear HLO0
      go_wp2_with (refine make_one rfl (.tmp 30) (.tmp 30) 33 4 (.bool false) 1 Try.underlying33 info_bool rfl (by decide) rfl N rfl rfl hn6 ?_)
      intro w10 Z HZ hz b10
      have HM0 : Hid (BkT w10 w9.heap.size (mixT N 0)) := Lib.hid (by rw [mixT_zero]; exact bkT_new HZ.out hz.out)
      obtain ⟨gm, hgm⟩ : ∃ x, x = w9.heap.size := ⟨_, rfl⟩
      rw [← hgm] at HM0 ⊢
      have HGM : Hid (gm = w9.heap.size) := Lib.hid hgm
      have B10 := Lib.hid b10
      clear hz HZ b10 hgm hn6
      go_wp2_with fail
      go_loopg [8] N (fun fuel i' wr => ∃ (k : Nat), i' = .int .i64 k ∧ k ≤ N ∧ N - k ≤ fuel ∧ BkT wr gm (mixT N k) ∧ Below w9.heap.size w9 wr)
      case atStart => exact ⟨0, rfl, Nat.zero_le _, Nat.le_refl _, HM0.out, B10.out⟩
      case round =>
        clear HM0 B10
        obtain ⟨k, rfl, hk, hf, hm, hb⟩ := hrel
        have HT := Lib.hid hm
        have HB := Lib.hid hb
        have i5 : IntKind.i64.wrap ((k : Int) + 1) = (k : Int) + 1 := IntWalk.i64_in _ (by have := HN80.out; omega)
        clear hm hb
        by_cases hlt : k < N
        · have c0 := HT.out.at (mixT_at N k hlt)
          have f0 := HT.out.fz k
          have l0 := HT.out.lt
          have i1 : (0 : Int) ≤ (k : Int) := by omega
          have i2 : (k : Int) < (N : Int) := by omega
          have HTN2 := Lib.hid (HT.out.set k true)
          rw [mixT_set N k hlt] at HTN2
          have HB2 := Lib.hid (HB.out.setCell (p := ⟨gm, k, none⟩) (Nat.le_of_eq HGM.out.symm) (.bool true))
          have HLK := Lib.hid (HLO.out k hlt)
          have HLT := Lib.hid hlt
          have HF := Lib.hid hf
          clear hk hf hlt
          go_upto_region 11 with fail
          generalize World.setCell _ _ _ = w11 at HTN2 HB2 ⊢
          clear c0 f0 l0 i1 i2 HT HB
          have BX11 := Lib.hid (BX.out.trans (HB2.out.mono BX.out.size))
          have HSS := Lib.hid (fun (W : World) (h : Below w11.heap.size w11 W) => (⟨(KX.out.below (HB2.out.trans (h.mono HB2.out.size))).cell 0, (KX.out.below (HB2.out.trans (h.mono HB2.out.size))).cell 1, (KX.out.below (HB2.out.trans (h.mono HB2.out.size))).cell 2, (KB.out.below (HB2.out.trans (h.mono HB2.out.size))).cell 0, (KB.out.below (HB2.out.trans (h.mono HB2.out.size))).cell 1, (KB.out.below (HB2.out.trans (h.mono HB2.out.size))).cell 2, h⟩ : W.cell? ⟨w.heap.size, 0, none⟩ = some (.slice z1 n1 y1) ∧ W.cell? ⟨w.heap.size, 1, none⟩ = some (.slice z2 n2 y2) ∧ W.cell? ⟨w.heap.size, 2, none⟩ = some (.slice z3 n3 y3) ∧ W.cell? ⟨gb, 0, none⟩ = some (.slice f1 fn1 fc1) ∧ W.cell? ⟨gb, 1, none⟩ = some (.slice f2 fn2 fc2) ∧ W.cell? ⟨gb, 2, none⟩ = some (.slice f3 fn3 fc3) ∧ Below w11.heap.size w11 W))
          have H1 := Lib.hid (fun (W : World) (h : Below w11.heap.size w11 W) => HOU.out W (BX11.out.trans (h.mono BX11.out.size)) HS.out (k : Int))
          have H2 := Lib.hid (fun (W : World) (h : Below w11.heap.size w11 W) => out_any gt _ _ _ W (DB.out.below (HB2.out.trans (h.mono HB2.out.size))) (by have := HTS.out; omega) (k : Int))
          have bd := below_draws' w11
          go_region_held3 (fun W : World => W.cell? ⟨w.heap.size, 0, none⟩ = some (.slice z1 n1 y1) ∧ W.cell? ⟨w.heap.size, 1, none⟩ = some (.slice z2 n2 y2) ∧ W.cell? ⟨w.heap.size, 2, none⟩ = some (.slice z3 n3 y3) ∧ W.cell? ⟨gb, 0, none⟩ = some (.slice f1 fn1 fc1) ∧ W.cell? ⟨gb, 1, none⟩ = some (.slice f2 fn2 fc2) ∧ W.cell? ⟨gb, 2, none⟩ = some (.slice f3 fn3 fc3) ∧ Below w11.heap.size w11 W)
            (first | with_reducible exact HSS.out _ bd | with_reducible exact HSS.out _ bq2 | with_reducible exact HSS.out _ bq1 | with_reducible assumption)
            (first
              | (go_at_call 14; go_split_ands; (with_reducible refine Calls.mono (H1.out _ (by assumption)) ?_); rintro e wn ⟨v1, rfl, vd1, b1⟩; obtain ⟨o1, oc1, rfl⟩ := SlD.sh vd1; have bq1 := Below.trans (by assumption) (b1.mono (Below.size (by assumption))))
              | (go_at_call 14; go_split_ands; (with_reducible refine Calls.mono (H2.out _ (by assumption)) ?_); rintro e wn2 ⟨v2, rfl, vd2, b2⟩; obtain ⟨o2, oc2, rfl⟩ := SlD.sh vd2; have bq2 := Below.trans (by assumption) (b2.mono (Below.size (by assumption)))))
          go_split_ands
          have HBE := Lib.hid (show Below w11.heap.size w11 wn2 by first | assumption | exact bq2)
          have qL : (((outZ g (k : Int)).length : Int) != ((outZ gt (k : Int)).length : Int)) = false := by rw [HLK.out]; simp
          have HTE := Lib.hid (Bk.below HTN2.out HBE.out)
          have HBF := Lib.hid (HB2.out.trans (HBE.out.mono HB2.out.size))
          clear bd bq1 bq2 vd1 vd2 b1 b2 H1 H2 HSS
          go_wp2_with fail
          have hf := HF.out
          have hlt := HLT.out
          go_roundg (gk - 1)
          case measure => omega
          case rel => exact ⟨k + 1, by go_num, by omega, by omega, HTE.out, HBF.out⟩
        · obtain rfl : k = N := by omega
          have HTA : Hid (TrusD wr (.slice (some ⟨gm, 0, none⟩) k k) (List.replicate k true)) := Lib.hid (by have h := HT.out; rw [mixT_all] at h; exact BkT.trus h List.length_replicate (by have := HN80.out; omega))
          clear hlt hk hf i5 HOU HLO
          have BXR := Lib.hid (BX.out.trans (HB.out.mono BX.out.size))
          have KXR := Lib.hid (KX.out.below HB.out)
          have KHR := Lib.hid (KH.out.below HB.out)
          have KBR := Lib.hid (KB.out.below HB.out)
          have DHR := Lib.hid (DH.out.below HB.out)
          have DBR := Lib.hid (DB.out.below HB.out)
          have HSS := Lib.hid (fun (W : World) (h : Below wr.heap.size wr W) => (⟨(KXR.out.below h).cell 0, (KXR.out.below h).cell 1, (KXR.out.below h).cell 2, (KHR.out.below h).cell 0, (KHR.out.below h).cell 1, (KHR.out.below h).cell 2, (KBR.out.below h).cell 0, (KBR.out.below h).cell 1, (KBR.out.below h).cell 2, h⟩ : W.cell? ⟨w.heap.size, 0, none⟩ = some (.slice z1 n1 y1) ∧ W.cell? ⟨w.heap.size, 1, none⟩ = some (.slice z2 n2 y2) ∧ W.cell? ⟨w.heap.size, 2, none⟩ = some (.slice z3 n3 y3) ∧ W.cell? ⟨gh, 0, none⟩ = some (.slice h1 hn1 hc1) ∧ W.cell? ⟨gh, 1, none⟩ = some (.slice h2 hn2 hc2) ∧ W.cell? ⟨gh, 2, none⟩ = some (.slice h3 hn3 hc3) ∧ W.cell? ⟨gb, 0, none⟩ = some (.slice f1 fn1 fc1) ∧ W.cell? ⟨gb, 1, none⟩ = some (.slice f2 fn2 fc2) ∧ W.cell? ⟨gb, 2, none⟩ = some (.slice f3 fn3 fc3) ∧ Below wr.heap.size wr W))
          have A1 := Lib.hid (fun (W : World) (h : Below wr.heap.size wr W) => HGA.out W (BXR.out.trans (h.mono BXR.out.size)) HS.out _ _ _ (DHR.out.below h))
          have A2 := Lib.hid (fun (W : World) (h : Below wr.heap.size wr W) => right14_any gt _ _ _ W (DBR.out.below h) (by have := HTS.out; omega) true HTR.out)
          have A3 := Lib.hid (fun (W : World) (h : Below wr.heap.size wr W) => HKE.out W (BXR.out.trans (h.mono BXR.out.size)) HS.out (List.replicate k true) _ (TrusD.below HTA.out h) (by rw [List.length_replicate]; have := HN80.out; omega))
          rw [show keepZ g (List.replicate k true) = g by rw [show keepZ g (List.replicate k true) = keepG g (List.replicate k true) from if_pos HQ2.out]; exact HG.out.keepAll _ (by rw [HN.out])] at A3
          have A4 := Lib.hid (fun (W : World) (h : Below wr.heap.size wr W) (us ua ut : Value) (hu : GrD W us ua ut g) => HGB.out W (BXR.out.trans (h.mono BXR.out.size)) HS.out us ua ut hu)
          have A5 := Lib.hid (fun (W : World) (h : Below wr.heap.size wr W) => HKE.out W (BXR.out.trans (h.mono BXR.out.size)) HS.out [] _ SlD.nil (by decide))
          have HK0 : Hid (allZ (keepZ g []) = [] ∧ (keepZ g []).st.length ≤ 1001 ∧ (keepZ g []).to.length ≤ 1000 ∧ (keepZ g []).ag.length ≤ 1000) := Lib.hid (by
            rw [show keepZ g [] = keepG g [] from if_pos HQ2.out]
            have h1 := keep_none g
            have h2 := (HG.out.keep []).allLen
            have h3 := (HG.out.keep []).alen
            have h4 : numN (keepG g []) = numN g := bld_num _ _
            rw [h1] at h2
            have h5 := HN80.out
            have h6 := HN.out
            refine ⟨?_, ?_, ?_, ?_⟩
            · unfold allZ; rw [h1]; split <;> rfl
            · unfold numN at h4 h6; omega
            · rw [← h2]; decide
            · rw [h3, ← h2]; decide)
          have A6 := Lib.hid (fun (W : World) (us ua ut : Value) (hu : GrD W us ua ut (keepZ g [])) => all_any (keepZ g []) us ua ut W hu HK0.out.2)
          rw [HK0.out.1] at A6
          have bd := below_draws' wr
          clear HKE HGA HGB HTA
          have hlt : ¬ (k : Int) < (k : Int) := by omega
          go_wp2_with fail
          go_region_held3 (fun W : World => W.cell? ⟨w.heap.size, 0, none⟩ = some (.slice z1 n1 y1) ∧ W.cell? ⟨w.heap.size, 1, none⟩ = some (.slice z2 n2 y2) ∧ W.cell? ⟨w.heap.size, 2, none⟩ = some (.slice z3 n3 y3) ∧ W.cell? ⟨gh, 0, none⟩ = some (.slice h1 hn1 hc1) ∧ W.cell? ⟨gh, 1, none⟩ = some (.slice h2 hn2 hc2) ∧ W.cell? ⟨gh, 2, none⟩ = some (.slice h3 hn3 hc3) ∧ W.cell? ⟨gb, 0, none⟩ = some (.slice f1 fn1 fc1) ∧ W.cell? ⟨gb, 1, none⟩ = some (.slice f2 fn2 fc2) ∧ W.cell? ⟨gb, 2, none⟩ = some (.slice f3 fn3 fc3) ∧ Below wr.heap.size wr W)
            (first | with_reducible exact HSS.out _ bd | with_reducible exact HSS.out _ bq7 | with_reducible exact HSS.out _ bq6 | with_reducible exact HSS.out _ bq5 | with_reducible exact HSS.out _ bq4 | with_reducible exact HSS.out _ bq3 | with_reducible exact HSS.out _ bq2 | with_reducible exact HSS.out _ bq1 | with_reducible assumption)
            (first
              | (go_at_call 11; go_split_ands; (with_reducible refine Calls.mono (A1.out _ (by assumption)) ?_); rintro e wn1 ⟨rfl, b1⟩; have bq1 := Below.trans (by assumption) (b1.mono (Below.size (by assumption))))
              | (go_at_call 16; go_split_ands; (with_reducible refine Calls.mono (A2.out _ (by assumption)) ?_); rintro e wn2 ⟨rfl, b2⟩; have bq2 := Below.trans (by assumption) (b2.mono (Below.size (by assumption))))
              | (go_at_call 24; go_split_ands; (with_reducible refine Calls.mono (A3.out _ (by assumption)) ?_); rintro e wn3 ⟨ks, ka, kt, rfl, gdk, b3⟩; obtain ⟨k1, kn1, kc1, k2, kn2, kc2, k3, kn3, kc3, rfl, rfl, rfl⟩ := gdk.sh; have bq3 := Below.trans (by assumption) (b3.mono (Below.size (by assumption))))
              | (go_at_call 11; go_split_ands; (with_reducible refine Calls.mono (A4.out _ (by assumption) _ _ _ gdk) ?_); rintro e wn4 ⟨rfl, b4⟩; have bq4 := Below.trans (by assumption) (b4.mono (Below.size (by assumption))))
              | (go_at_call 24; go_split_ands; (with_reducible refine Calls.mono (A5.out _ (by assumption)) ?_); rintro e wn5 ⟨qs, qa, qt, rfl, gdq, b5⟩; obtain ⟨m1, mn1, mc1, m2, mn2, mc2, m3, mn3, mc3, rfl, rfl, rfl⟩ := gdq.sh; have bq5 := Below.trans (by assumption) (b5.mono (Below.size (by assumption))))
              | (go_at_call 20; go_split_ands; (with_reducible refine Calls.mono (A6.out _ _ _ _ gdq) ?_); rintro e wn6 ⟨v6, rfl, vd6, b6⟩; obtain ⟨o6, oc6, rfl⟩ := SlD.sh vd6; have bq6 := Below.trans (by assumption) (b6.mono (Below.size (by assumption))))
              | (go_at_call 8; go_split_ands; (with_reducible refine Calls.mono (known_any _) ?_); rintro e wn7 ⟨rfl, b7⟩; have bq7 := Below.trans (by assumption) (b7.mono (Below.size (by assumption)))))
          go_split_ands
          have HBE := Lib.hid bq7
          clear bd bq1 bq2 bq3 bq4 bq5 bq6 bq7 A1 A2 A3 A4 A5 A6 HSS
          go_wp2_with fail
          go_ret
          exact ⟨rfl, BXR.out.trans (HBE.out.mono BXR.out.size)⟩

end Go.Proofs.Ytklejedddkhfjaa
