/- Layer 14's law: EdgesTell's walk. -/
import Derived.Test.YtklejedddkhfjaaPg
import Derived.Test.YtklejedddkhfjaaPh
import Derived.Test.YtklejedddkhfjaaNx
namespace Go.Proofs.Ytklejedddkhfjaa
set_option linter.unusedSimpArgs false
set_option linter.unusedVariables false
open Go.RowKit

theorem rall_d (g : Gr) (vs va vt : Value) (w : World) (hd : GrD w vs va vt g) (hn : g.st.length ≤ 1001 ∧ g.to.length ≤ 1000) :
    Calls Try.prog 21 #[.agg #[vs, va, vt]] w fun e w' => ∃ v, e = .returned v ∧ EdgsD w' v (allZ g) ∧ Below w.heap.size w w' := by
  refine (rall_any g vs va vt w hd hn).mono ?_
  rintro e w' ⟨v, h1, h2, h3⟩
  exact ⟨v, h1, edgsD_of_own h2, h3⟩
theorem reachZ_sz {g : Gr} {F : List Int} {r : List Bool} (h : ReachZ g F r) (hs : g.st.length ≤ 100000) : r.length ≤ 100000 := by
  cases hq : rightG g with
  | true => rw [(h.1 hq).1]; unfold numN; omega
  | false => rw [h.2 hq]; exact Nat.zero_le _
theorem out_sz {g : Gr} (hs : g.to.length ≤ 400) (i : Int) : (outZ g i).length ≤ 400 := by
  unfold outZ
  split
  · rename_i h
    have hg := right_RG g h.1
    have h1 := hg.le (i.toNat + 1) (by omega)
    rw [outL_len]
    omega
  · exact Nat.zero_le _
theorem all_sz {g : Gr} (hs : g.to.length ≤ 400) : (allZ g).length ≤ 400 := by
  unfold allZ
  split
  · rename_i h
    rw [(right_RG g h).allLen]; exact hs
  · exact Nat.zero_le _
theorem backZ_sz {g : Gr} (hs : g.st.length ≤ 80 ∧ g.to.length ≤ 400 ∧ g.ag.length ≤ 400) : (backZ g).st.length ≤ 80 ∧ (backZ g).to.length ≤ 400 ∧ (backZ g).ag.length ≤ 400 := by
  unfold backZ
  split
  · rename_i h
    exact back_sizes (right_RG g h) hs
  · exact ⟨by decide, by decide, by decide⟩
theorem keepZ_sz {g : Gr} (l : List Bool) (hs : g.st.length ≤ 80 ∧ g.to.length ≤ 400 ∧ g.ag.length ≤ 400) : (keepZ g l).st.length ≤ 80 ∧ (keepZ g l).to.length ≤ 400 ∧ (keepZ g l).ag.length ≤ 400 := by
  unfold keepZ
  split
  · rename_i h
    have hg := right_RG g h
    have hb := bld_lens (numN g) (keepL g l) (AllOk.fr (hg.keepOk l))
    have h1 : (keepL g l).length ≤ (allL g).length := List.length_filter_le _ _
    rw [hg.allLen] at h1
    have h2 := hg.pos
    unfold keepG
    have h3 : numN g + 1 = g.st.length := by unfold numN; omega
    omega
  · exact ⟨by decide, by decide, by decide⟩

set_option maxRecDepth 100000 in
set_option maxHeartbeats 16000000 in
theorem tell_in (g : Gr) (lb : List Bool) (F : List Int) (vs va vt vb vf : Value) (w : World) (hd : GrD w vs va vt g) (hbd : TrusD w vb lb) (hfd : IntsD w vf F) :
    Calls Try.prog 4 #[.agg #[vs, va, vt], vb, vf] w fun e w' => e = .returned (.bool true) ∧ Below w.heap.size w w' := by
  obtain ⟨q, hq⟩ : ∃ q, lightG g = q := ⟨_, rfl⟩
  have HLI := Lib.hid fun (W : World) (h : Below w.heap.size w W) => light14_any g vs va vt W (hd.below h) q hq
  have HSZ : Hid (q = true → g.st.length ≤ 80 ∧ g.to.length ≤ 400 ∧ g.ag.length ≤ 400) := Lib.hid (fun h => light_sz (hq.trans h))
  have HD := Lib.hid hd
  have HBD := Lib.hid hbd
  have HFD := Lib.hid hfd
  obtain ⟨z1, n1, y1, z2, n2, y2, z3, n3, y3, rfl, rfl, rfl⟩ := hd.sh
  obtain ⟨fa, fc, rfl⟩ := hfd.shape0
  obtain ⟨ba, bc, rfl⟩ := hbd.shape0
  have HN1 : Hid (g.st.length = n1) := Lib.hid (len14 hd.s)
  obtain ⟨nf, hnf⟩ : ∃ x, x = F.length := ⟨_, rfl⟩
  obtain ⟨nb, hnb⟩ : ∃ x, x = lb.length := ⟨_, rfl⟩
  rw [← hnf] at HFD ⊢
  rw [← hnb] at HBD ⊢
  have HNF := Lib.hid hnf
  have HNB := Lib.hid hnb
  clear hd hq hbd hfd hnf hnb
  have BX := Lib.hid (bal (Below.refl w.heap.size w) (.cells #[.slice z1 n1 y1, .slice z2 n2 y2, .slice z3 n3 y3] 26))
  have KX := Lib.hid (Bk.new w 26 #[.slice z1 n1 y1, .slice z2 n2 y2, .slice z3 n3 y3])
  go_enter Try.func4, Try.ntmps4
  go_wp2_with fail
  generalize World.alloc w _ = w0 at BX KX ⊢
  refine (HLI.out _ BX.out).mono ?_
  rintro e w1 ⟨rfl, b1⟩
  replace BX := Lib.hid (BX.out.trans (b1.mono BX.out.size))
  replace KX := Lib.hid (KX.out.below b1)
  clear b1 HLI
  have HKN : Hid (∀ W : World, Calls Try.prog 8 #[] W fun e w' => e = .returned (.bool true) ∧ Below W.heap.size W w') := Lib.hid known_any
  cases q with
  | false =>
    go_wp2_with fail
    refine (HKN.out _).mono ?_
    rintro e w2 ⟨rfl, b2⟩
    replace BX := Lib.hid (BX.out.trans (b2.mono BX.out.size))
    clear b2
    go_wp2_with fail
    go_ret
    exact ⟨rfl, BX.out⟩
  | true =>
    have HS := Lib.hid (HSZ.out rfl)
    clear HSZ
    by_cases h1 : 200 < nb
    · have h1' : (200 : Int) < (nb : Int) := by omega
      go_wp2_with fail
      refine (HKN.out _).mono ?_
      rintro e w2 ⟨rfl, b2⟩
      replace BX := Lib.hid (BX.out.trans (b2.mono BX.out.size))
      clear b2
      go_wp2_with fail
      go_ret
      exact ⟨rfl, BX.out⟩
    · have h1' : ¬ (200 : Int) < (nb : Int) := by omega
      by_cases h2 : 200 < nf
      · have h2' : (200 : Int) < (nf : Int) := by omega
        go_wp2_with fail
        refine (HKN.out _).mono ?_
        rintro e w2 ⟨rfl, b2⟩
        replace BX := Lib.hid (BX.out.trans (b2.mono BX.out.size))
        clear b2
        go_wp2_with fail
        go_ret
        exact ⟨rfl, BX.out⟩
      · have h2' : ¬ (200 : Int) < (nf : Int) := by omega
        have HLE : Hid (lb.length ≤ 1000 ∧ F.length ≤ 1000) := Lib.hid (by have := HNF.out; have := HNB.out; omega)
        have HC3 : Hid (g.st.length ≤ 1001 ∧ g.to.length ≤ 1000 ∧ g.ag.length ≤ 1000) := Lib.hid (by have := HS.out; omega)
        have HC2 : Hid (g.st.length ≤ 1001 ∧ g.to.length ≤ 1000) := Lib.hid (by have := HS.out; omega)
        clear h1 h2
        go_wp2_with fail
        clear h1' h2'
        go_loopg [7] (n1 + 2) (fun fuel s7 wr => ∃ (i : Int), s7 = .int .i64 i ∧ -1 ≤ i ∧ i ≤ (n1 : Int) + 1 ∧ ((n1 : Int) + 1 - i) ≤ fuel ∧ Below w1.heap.size w1 wr)
        case atStart => exact ⟨-1, rfl, by omega, by omega, by omega, Below.refl _ _⟩
        case round =>
          obtain ⟨i, rfl, hi1, hi2, hf, hb⟩ := hrel
          have HB := Lib.hid hb
          have BW := Lib.hid (BX.out.trans (hb.mono BX.out.size))
          have KW := Lib.hid (KX.out.below hb)
          have c0 := KW.out.cell 0
          have c1 := KW.out.cell 1
          have c2 := KW.out.cell 2
          have lk := KW.out.lt
          have i5 : IntKind.i64.wrap (i + 1) = i + 1 := IntWalk.i64_in _ (by have := HN1.out; have := HS.out; omega)
          clear hb
          by_cases hlt : i ≤ (n1 : Int)
          · have HLT := Lib.hid hlt
            have HI1 := Lib.hid hi1
            have HF := Lib.hid hf
            clear hi1 hi2 hf
            have H1 := Lib.hid (fun (W : World) (h : Below wr.heap.size wr W) => out_any g _ _ _ W (HD.out.below (BW.out.trans (h.mono BW.out.size))) HC3.out i)
            have H2 := Lib.hid (fun (W : World) (h : Below wr.heap.size wr W) => rout_any g _ _ _ W (HD.out.below (BW.out.trans (h.mono BW.out.size))) HC2.out i)
            have H3 := Lib.hid (fun (W : World) (v1 v2 : Value) (h1 : EdgsD W v1 (outZ g i)) (h2 : EdgsD W v2 (outZ g i)) => edges_gen _ _ v1 v2 W h1 h2 (by have := out_sz HS.out.2.1 i; omega) true (by simp))
            have HSS := Lib.hid (fun (W : World) (h : Below wr.heap.size wr W) => (⟨(KW.out.below h).cell 0, (KW.out.below h).cell 1, (KW.out.below h).cell 2, h⟩ : W.cell? ⟨w.heap.size, 0, none⟩ = some (.slice z1 n1 y1) ∧ W.cell? ⟨w.heap.size, 1, none⟩ = some (.slice z2 n2 y2) ∧ W.cell? ⟨w.heap.size, 2, none⟩ = some (.slice z3 n3 y3) ∧ Below wr.heap.size wr W))
            have bd := below_draws' wr
            go_wp2_with fail
            go_region_held3 (fun W : World => W.cell? ⟨w.heap.size, 0, none⟩ = some (.slice z1 n1 y1) ∧ W.cell? ⟨w.heap.size, 1, none⟩ = some (.slice z2 n2 y2) ∧ W.cell? ⟨w.heap.size, 2, none⟩ = some (.slice z3 n3 y3) ∧ Below wr.heap.size wr W)
              (first | with_reducible exact HSS.out _ bd | with_reducible exact HSS.out _ bq3 | with_reducible exact HSS.out _ bq2 | with_reducible exact HSS.out _ bq1 | with_reducible assumption)
              (first
                | (go_at_call 14; go_split_ands; (with_reducible refine Calls.mono (H1.out _ (by assumption)) ?_); rintro e wn1 ⟨v1, rfl, vd1, b1⟩; obtain ⟨o1, oc1, rfl⟩ := SlD.sh vd1; (try replace vd2 := EdgsD.below vd2 b1); have bq1 := Below.trans (by assumption) (b1.mono (Below.size (by assumption))))
                | (go_at_call 15; go_split_ands; (with_reducible refine Calls.mono (H2.out _ (by assumption)) ?_); rintro e wn2 ⟨v2, rfl, vd2, b2⟩; obtain ⟨o2, oc2, rfl⟩ := SlD.sh vd2; (try replace vd1 := EdgsD.below vd1 b2); have bq2 := Below.trans (by assumption) (b2.mono (Below.size (by assumption))))
                | (go_at_call 12; go_split_ands; (with_reducible refine Calls.mono (H3.out _ _ _ vd1 vd2) ?_); rintro e wn3 ⟨rfl, b3⟩; have bq3 := Below.trans (by assumption) (b3.mono (Below.size (by assumption)))))
            go_split_ands
            have HBE := Lib.hid (show Below wr.heap.size wr wn3 by first | assumption | exact bq3)
            have HBF := Lib.hid (HB.out.trans (HBE.out.mono HB.out.size))
            clear bd bq1 bq2 bq3 b1 b2 b3 vd1 vd2 H1 H2 H3 HSS
            go_wp2_with fail
            have hf := HF.out
            have hlt := HLT.out
            have hi1 := HI1.out
            go_roundg (gk - 1)
            case measure => omega
            case rel => exact ⟨i + 1, by go_num, by omega, by omega, by omega, HBF.out⟩
          · have HBS := Lib.hid (backZ_sz HS.out)
            have HKS := Lib.hid (keepZ_sz lb HS.out)
            obtain ⟨q1, hq1⟩ : ∃ q, rightG g = q := ⟨_, rfl⟩
            obtain ⟨nn, hnn⟩ : ∃ b, (if rightG g = true then numN g else 0) = b := ⟨_, rfl⟩
            have A1 := Lib.hid (fun (W : World) (h : Below wr.heap.size wr W) => right14_any g _ _ _ W (HD.out.below (BW.out.trans (h.mono BW.out.size))) HC3.out q1 hq1)
            have A2 := Lib.hid (fun (W : World) (h : Below wr.heap.size wr W) => rright14_any g _ _ _ W (HD.out.below (BW.out.trans (h.mono BW.out.size))) HC2.out q1 hq1)
            have A3 := Lib.hid (fun (W : World) (h : Below wr.heap.size wr W) => nodes_any g _ _ _ W (HD.out.below (BW.out.trans (h.mono BW.out.size))) HC3.out nn hnn)
            have A4 := Lib.hid (fun (W : World) (h : Below wr.heap.size wr W) => rnodes_any g _ _ _ W (HD.out.below (BW.out.trans (h.mono BW.out.size))) HC2.out nn hnn)
            have A5 := Lib.hid (fun (W : World) (h : Below wr.heap.size wr W) => all_any g _ _ _ W (HD.out.below (BW.out.trans (h.mono BW.out.size))) HC3.out)
            have A6 := Lib.hid (fun (W : World) (h : Below wr.heap.size wr W) => rall_d g _ _ _ W (HD.out.below (BW.out.trans (h.mono BW.out.size))) HC2.out)
            have A7 := Lib.hid (fun (W : World) (v1 v2 : Value) (h1 : EdgsD W v1 (allZ g)) (h2 : EdgsD W v2 (allZ g)) => edges_gen _ _ v1 v2 W h1 h2 (by have := all_sz HS.out.2.1; omega) true (by simp))
            have A8 := Lib.hid (fun (W : World) (h : Below wr.heap.size wr W) => back_any g _ _ _ W (HD.out.below (BW.out.trans (h.mono BW.out.size))) HC3.out)
            have A9 := Lib.hid (fun (W : World) (h : Below wr.heap.size wr W) => rback_any g _ _ _ W (HD.out.below (BW.out.trans (h.mono BW.out.size))) HC2.out)
            have A10 := Lib.hid (fun (W : World) (a b c a' b' c' : Value) (h1 : GrD W a b c (backZ g)) (h2 : GrD W a' b' c' (backZ g)) => graphs_any _ _ _ _ _ _ _ _ W h1 h2 (by have := HBS.out; omega) true (by unfold sameG; simp))
            have A11 := Lib.hid (fun (W : World) (h : Below wr.heap.size wr W) => keep_any g lb _ _ _ _ W (HD.out.below (BW.out.trans (h.mono BW.out.size))) (TrusD.below HBD.out (BW.out.trans (h.mono BW.out.size))) HC3.out HLE.out.1)
            have A12 := Lib.hid (fun (W : World) (h : Below wr.heap.size wr W) => rkeep_any g lb _ _ _ _ W (HD.out.below (BW.out.trans (h.mono BW.out.size))) (TrusD.below HBD.out (BW.out.trans (h.mono BW.out.size))) HC2.out HLE.out.1)
            have A13 := Lib.hid (fun (W : World) (a b c a' b' c' : Value) (h1 : GrD W a b c (keepZ g lb)) (h2 : GrD W a' b' c' (keepZ g lb)) => graphs_any _ _ _ _ _ _ _ _ W h1 h2 (by have := HKS.out; omega) true (by unfold sameG; simp))
            have A14 := Lib.hid (fun (W : World) (h : Below wr.heap.size wr W) => reach_any g F _ _ _ _ W (HD.out.below (BW.out.trans (h.mono BW.out.size))) (IntsD.below HFD.out (BW.out.trans (h.mono BW.out.size))) HC3.out HLE.out.2)
            have A15 := Lib.hid (fun (W : World) (h : Below wr.heap.size wr W) => rreach_any g F _ _ _ _ W (HD.out.below (BW.out.trans (h.mono BW.out.size))) (IntsD.below HFD.out (BW.out.trans (h.mono BW.out.size))) HC2.out HLE.out.2)
            have A16 := Lib.hid (fun (W : World) (v1 v2 : Value) (r1 r2 : List Bool) (h1 : TrusD W v1 r1) (h2 : TrusD W v2 r2) (z1 : ReachZ g F r1) (z2 : ReachZ g F r2) => bools_gen r1 r2 v1 v2 W h1 h2 (reachZ_sz z1 (by have := HS.out; omega)) true (by rw [reachZ_one z1 z2]; simp))
            have HSS := Lib.hid (fun (W : World) (h : Below wr.heap.size wr W) => (⟨(KW.out.below h).cell 0, (KW.out.below h).cell 1, (KW.out.below h).cell 2, h⟩ : W.cell? ⟨w.heap.size, 0, none⟩ = some (.slice z1 n1 y1) ∧ W.cell? ⟨w.heap.size, 1, none⟩ = some (.slice z2 n2 y2) ∧ W.cell? ⟨w.heap.size, 2, none⟩ = some (.slice z3 n3 y3) ∧ Below wr.heap.size wr W))
            have bd := below_draws' wr
            have qq : (q1 == q1) = true := by cases q1 <;> rfl
            have qn : ((nn : Int) == (nn : Int)) = true := by simp
            have hlt' : ¬ i ≤ (n1 : Int) := hlt
            clear hi1 hi2 hf hq1 hnn i5 HN1 HBS HKS
            go_wp2_with fail
            go_region_held3 (fun W : World => W.cell? ⟨w.heap.size, 0, none⟩ = some (.slice z1 n1 y1) ∧ W.cell? ⟨w.heap.size, 1, none⟩ = some (.slice z2 n2 y2) ∧ W.cell? ⟨w.heap.size, 2, none⟩ = some (.slice z3 n3 y3) ∧ Below wr.heap.size wr W)
              (first | with_reducible exact HSS.out _ bd | with_reducible exact HSS.out _ bq17 | with_reducible exact HSS.out _ bq16 | with_reducible exact HSS.out _ bq15 | with_reducible exact HSS.out _ bq14 | with_reducible exact HSS.out _ bq13 | with_reducible exact HSS.out _ bq12 | with_reducible exact HSS.out _ bq11 | with_reducible exact HSS.out _ bq10 | with_reducible exact HSS.out _ bq9 | with_reducible exact HSS.out _ bq8 | with_reducible exact HSS.out _ bq7 | with_reducible exact HSS.out _ bq6 | with_reducible exact HSS.out _ bq5 | with_reducible exact HSS.out _ bq4 | with_reducible exact HSS.out _ bq3 | with_reducible exact HSS.out _ bq2 | with_reducible exact HSS.out _ bq1 | with_reducible assumption)
              (first
                | (go_at_call 16; go_split_ands; (with_reducible refine Calls.mono (A1.out _ (by assumption)) ?_); rintro e wn1 ⟨rfl, b1⟩; have bq1 := Below.trans (by assumption) (b1.mono (Below.size (by assumption))))
                | (go_at_call 17; go_split_ands; (with_reducible refine Calls.mono (A2.out _ (by assumption)) ?_); rintro e wn2 ⟨rfl, b2⟩; have bq2 := Below.trans (by assumption) (b2.mono (Below.size (by assumption))))
                | (go_at_call 18; go_split_ands; (with_reducible refine Calls.mono (A3.out _ (by assumption)) ?_); rintro e wn3 ⟨rfl, b3⟩; have bq3 := Below.trans (by assumption) (b3.mono (Below.size (by assumption))))
                | (go_at_call 19; go_split_ands; (with_reducible refine Calls.mono (A4.out _ (by assumption)) ?_); rintro e wn4 ⟨rfl, b4⟩; have bq4 := Below.trans (by assumption) (b4.mono (Below.size (by assumption))))
                | (go_at_call 20; go_split_ands; (with_reducible refine Calls.mono (A5.out _ (by assumption)) ?_); rintro e wn5 ⟨v5, rfl, d5, b5⟩; obtain ⟨o5, oc5, rfl⟩ := SlD.sh d5; (try replace d6 := EdgsD.below d6 b5); have bq5 := Below.trans (by assumption) (b5.mono (Below.size (by assumption))))
                | (go_at_call 21; go_split_ands; (with_reducible refine Calls.mono (A6.out _ (by assumption)) ?_); rintro e wn6 ⟨v6, rfl, d6, b6⟩; obtain ⟨o6, oc6, rfl⟩ := SlD.sh d6; (try replace d5 := EdgsD.below d5 b6); have bq6 := Below.trans (by assumption) (b6.mono (Below.size (by assumption))))
                | (go_at_call 12; go_split_ands; (with_reducible refine Calls.mono (A7.out _ _ _ d5 d6) ?_); rintro e wn7 ⟨rfl, b7⟩; have bq7 := Below.trans (by assumption) (b7.mono (Below.size (by assumption))))
                | (go_at_call 22; go_split_ands; (with_reducible refine Calls.mono (A8.out _ (by assumption)) ?_); rintro e wn8 ⟨us8, ua8, ut8, rfl, d8, b8⟩; obtain ⟨a81, m81, c81, a82, m82, c82, a83, m83, c83, rfl, rfl, rfl⟩ := d8.sh; (try replace d9 := d9.below b8); have bq8 := Below.trans (by assumption) (b8.mono (Below.size (by assumption))))
                | (go_at_call 23; go_split_ands; (with_reducible refine Calls.mono (A9.out _ (by assumption)) ?_); rintro e wn9 ⟨us9, ua9, ut9, rfl, d9, b9⟩; obtain ⟨a91, m91, c91, a92, m92, c92, a93, m93, c93, rfl, rfl, rfl⟩ := d9.sh; (try replace d8 := d8.below b9); have bq9 := Below.trans (by assumption) (b9.mono (Below.size (by assumption))))
                | (go_at_call 11; go_split_ands; (with_reducible refine Calls.mono (A10.out _ _ _ _ _ _ _ d8 d9) ?_); rintro e wn10 ⟨rfl, b10⟩; have bq10 := Below.trans (by assumption) (b10.mono (Below.size (by assumption))))
                | (go_at_call 24; go_split_ands; (with_reducible refine Calls.mono (A11.out _ (by assumption)) ?_); rintro e wn11 ⟨us11, ua11, ut11, rfl, d11, b11⟩; obtain ⟨a111, m111, c111, a112, m112, c112, a113, m113, c113, rfl, rfl, rfl⟩ := d11.sh; (try replace d12 := d12.below b11); have bq11 := Below.trans (by assumption) (b11.mono (Below.size (by assumption))))
                | (go_at_call 25; go_split_ands; (with_reducible refine Calls.mono (A12.out _ (by assumption)) ?_); rintro e wn12 ⟨us12, ua12, ut12, rfl, d12, b12⟩; obtain ⟨a121, m121, c121, a122, m122, c122, a123, m123, c123, rfl, rfl, rfl⟩ := d12.sh; (try replace d11 := d11.below b12); have bq12 := Below.trans (by assumption) (b12.mono (Below.size (by assumption))))
                | (go_at_call 11; go_split_ands; (with_reducible refine Calls.mono (A13.out _ _ _ _ _ _ _ d11 d12) ?_); rintro e wn13 ⟨rfl, b13⟩; have bq13 := Below.trans (by assumption) (b13.mono (Below.size (by assumption))))
                | (go_at_call 27; go_split_ands; (with_reducible refine Calls.mono (A14.out _ (by assumption)) ?_); rintro e wn14 ⟨v14, r14, rfl, d14, zd14, b14⟩; obtain ⟨o14, oc14, rfl⟩ := SlD.sh d14; (try replace d15 := TrusD.below d15 b14); have bq14 := Below.trans (by assumption) (b14.mono (Below.size (by assumption))))
                | (go_at_call 28; go_split_ands; (with_reducible refine Calls.mono (A15.out _ (by assumption)) ?_); rintro e wn15 ⟨v15, r15, rfl, d15, zd15, b15⟩; obtain ⟨o15, oc15, rfl⟩ := SlD.sh d15; (try replace d14 := TrusD.below d14 b15); have bq15 := Below.trans (by assumption) (b15.mono (Below.size (by assumption))))
                | (go_at_call 26; go_split_ands; (with_reducible refine Calls.mono (A16.out _ _ _ _ _ d14 d15 zd14 zd15) ?_); rintro e wn16 ⟨rfl, b16⟩; have bq16 := Below.trans (by assumption) (b16.mono (Below.size (by assumption))))
                | (go_at_call 8; go_split_ands; (with_reducible refine Calls.mono (HKN.out _) ?_); rintro e wn17 ⟨rfl, b17⟩; have bq17 := Below.trans (by assumption) (b17.mono (Below.size (by assumption)))))
            go_split_ands
            have HBE := Lib.hid bq17
            clear bd bq1 bq2 bq3 bq4 bq5 bq6 bq7 bq8 bq9 bq10 bq11 bq12 bq13 bq14 bq15 bq16 bq17 A1 A2 A3 A4 A5 A6 A7 A8 A9 A10 A11 A12 A13 A14 A15 A16 HSS
            go_wp2_with fail
            go_ret
            exact ⟨rfl, BW.out.trans (HBE.out.mono BW.out.size)⟩

end Go.Proofs.Ytklejedddkhfjaa
