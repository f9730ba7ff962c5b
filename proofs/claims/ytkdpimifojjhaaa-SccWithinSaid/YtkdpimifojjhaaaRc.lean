/- Layer 17's laws: the walks of SccParts and SccWithin. -/
import Derived.Test.YtkdpimifojjhaaaQu
import Derived.Test.YtkdpimifojjhaaaNu
import Derived.Test.YtkdpimifojjhaaaRi
namespace Go.Proofs.Ytkdpimifojjhaaa
set_option linter.unusedSimpArgs false
set_option linter.unusedVariables false
open Go.RowKit

theorem light_sz17c {g : Gr} (h : lightG g = true) : g.st.length ≤ 80 ∧ g.to.length ≤ 400 ∧ g.ag.length ≤ 400 := by
  unfold lightG at h
  simp only [Bool.and_eq_true, decide_eq_true_eq] at h
  exact ⟨h.1, h.2.1, h.2.2⟩
theorem grpG_rows (g : Gr) (l : List Int) (hl : l ∈ grpG g) : l.length ≤ numN g := by
  unfold grpG at hl
  by_cases h : rightG g = true
  · rw [if_pos h] at hl
    unfold grp tab at hl
    obtain ⟨v, hv, rfl⟩ := List.mem_map.1 hl
    rw [List.length_map]
    exact Nat.le_trans (List.length_filter_le _ _) (by rw [List.length_range]; exact Nat.le_refl _)
  · rw [if_neg h] at hl; cases hl
theorem wthG_lens (g : Gr) (li : List Bool) (hn : g.st.length ≤ 1001 ∧ g.to.length ≤ 1000 ∧ g.ag.length ≤ 1000) : (wthG g li).length ≤ 1000 ∧ ∀ l ∈ wthG g li, l.length ≤ 1000 := by
  have h1 := (keepZ_lens g li hn).1
  have h2 := grpG_len (keepZ g li)
  have h3 : numN (keepZ g li) ≤ 1000 := by unfold numN; omega
  unfold wthG
  refine ⟨Nat.le_trans (List.length_filter_le _ _) (by omega), fun l hl => ?_⟩
  have := grpG_rows (keepZ g li) l (List.mem_filter.1 hl).1
  omega
/-- Two lists of groups with the same rows are the same, to the reference. -/
theorem same17_of (L : List (List Int)) (z1 z2 : List (List Int × Value)) (v1 v2 : Value) (W : World) (h1 : AllD W v1 z1) (h2 : AllD W v2 z2) (e1 : fsts z1 = L) (e2 : fsts z2 = L) (hL : L.length ≤ 1000 ∧ ∀ l ∈ L, l.length ≤ 1000) :
    Calls Try.prog 13 #[v1, v2] W fun e w' => e = .returned (.bool true) ∧ Below W.heap.size W w' := by
  refine same17_any z1 z2 v1 v2 W h1 h2 (by rw [← fsts_len, e1]; exact hL.1) (fun a ha => ?_) (fun a ha => ?_) true (by rw [e1, e2]; simp)
  · exact hL.2 _ (by rw [← e1]; exact List.mem_map_of_mem ha)
  · exact hL.2 _ (by rw [← e2]; exact List.mem_map_of_mem ha)
set_option maxRecDepth 100000 in
set_option maxHeartbeats 8000000 in
theorem sparts_in (g : Gr) (vs va vt : Value) (w : World) (hd : GrD w vs va vt g) :
    Calls Try.prog 3 #[.agg #[vs, va, vt]] w fun e w' => e = .returned (.bool true) ∧ Below w.heap.size w w' := by
  obtain ⟨q, hq⟩ : ∃ q, lightG g = q := ⟨_, rfl⟩
  have HLI := Lib.hid fun (W : World) (h : Below w.heap.size w W) => light14_any g vs va vt W (hd.below h) q hq
  have HSZ : Hid (q = true → g.st.length ≤ 80 ∧ g.to.length ≤ 400 ∧ g.ag.length ≤ 400) := Lib.hid (fun h => light_sz17c (hq.trans h))
  have HD := Lib.hid hd
  obtain ⟨z1, n1, y1, z2, n2, y2, z3, n3, y3, rfl, rfl, rfl⟩ := hd.sh17
  clear hd hq
  have BX := Lib.hid (bal (Below.refl w.heap.size w) (.cells #[.slice z1 n1 y1, .slice z2 n2 y2, .slice z3 n3 y3] 24))
  have KX := Lib.hid (Bk.new w 24 #[.slice z1 n1 y1, .slice z2 n2 y2, .slice z3 n3 y3])
  go_enter Try.func3, Try.ntmps3
  go_wp2_with fail
  generalize World.alloc w _ = w0 at BX KX ⊢
  refine Calls.mono (HLI.out w0 BX.out) ?_
  rintro e w1 ⟨rfl, b1⟩
  replace BX := Lib.hid (BX.out.trans (b1.mono BX.out.size))
  replace KX := Lib.hid (KX.out.below b1)
  clear b1 HLI
  cases q with
  | false =>
    go_wp2_with fail
    refine Calls.mono (known17_any w1) ?_
    rintro e w2 ⟨rfl, b2⟩
    replace BX := Lib.hid (BX.out.trans (b2.mono BX.out.size))
    clear b2
    go_wp2_with fail
    go_ret
    exact ⟨rfl, BX.out⟩
  | true =>
    have HS := Lib.hid (HSZ.out rfl)
    clear HSZ
    have HGL : Hid ((grpG g).length ≤ 1000 ∧ ∀ l ∈ grpG g, l.length ≤ 1000) := Lib.hid (by
      have h2 := grpG_len g
      have h3 : numN g ≤ 1000 := by have := HS.out.1; unfold numN; omega
      exact ⟨by omega, fun l hl => by have := grpG_rows g l hl; omega⟩)
    have HPL : Hid ((parG g).length ≤ 1000) := Lib.hid (by have h3 : numN g ≤ 1000 := by (have := HS.out.1; unfold numN; omega)
                                                           exact Nat.le_trans (par_tab g).2.2 h3)
    have A1 := Lib.hid (fun (W : World) (h : Below w1.heap.size w1 W) => parts_any g _ _ _ W (HD.out.below (BX.out.trans (h.mono BX.out.size))) ⟨by have := HS.out; omega, by have := HS.out; omega, by have := HS.out; omega⟩)
    have A2 := Lib.hid (fun (W : World) (h : Below w1.heap.size w1 W) => rparts_any g _ _ _ W (HD.out.below (BX.out.trans (h.mono BX.out.size))) ⟨by have := HS.out; omega, by have := HS.out; omega⟩)
    have A3 := Lib.hid (fun (W : World) (v1 v2 : Value) (h1 : IntsD W v1 (parG g)) (h2 : IntsD W v2 (parG g)) => ints_gen _ _ v1 v2 W h1 h2 (by have := HPL.out; omega) true (by simp))
    have A4 := Lib.hid (fun (W : World) (h : Below w1.heap.size w1 W) => (Calls.mono (groups_any g _ _ _ W (HD.out.below (BX.out.trans (h.mono BX.out.size))) ⟨by have := HS.out; omega, by have := HS.out; omega, by have := HS.out; omega⟩) (fun e w' hh => (by obtain ⟨v, zs, e1, hg, e2, hb⟩ := hh; exact ⟨v, zs, e1, hg.data, e2, hb⟩ : ∃ v zs, e = .returned v ∧ AllD w' v zs ∧ fsts zs = grpG g ∧ Below W.heap.size W w'))))
    have A5 := Lib.hid (fun (W : World) (h : Below w1.heap.size w1 W) => rgrps_any g _ _ _ W (HD.out.below (BX.out.trans (h.mono BX.out.size))) ⟨by have := HS.out; omega, by have := HS.out; omega⟩)
    have A6 := Lib.hid (fun (W : World) (z1 z2 : List (List Int × Value)) (v1 v2 : Value) (h1 : AllD W v1 z1) (h2 : AllD W v2 z2) (e1 : fsts z1 = grpG g) (e2 : fsts' z2 = grpG g) => same17_of (grpG g) z1 z2 v1 v2 W h1 h2 e1 e2 HGL.out)
    have A7 := Lib.hid (fun (W : World) => known17_any W)
    have HSS := Lib.hid (fun (W : World) (h : Below w1.heap.size w1 W) => (⟨(KX.out.below h).cell 0, (KX.out.below h).cell 1, (KX.out.below h).cell 2, h⟩ : W.cell? ⟨w.heap.size, 0, none⟩ = some (.slice z1 n1 y1) ∧ W.cell? ⟨w.heap.size, 1, none⟩ = some (.slice z2 n2 y2) ∧ W.cell? ⟨w.heap.size, 2, none⟩ = some (.slice z3 n3 y3) ∧ Below w1.heap.size w1 W))
    have bd := below_draws' w1
    clear HGL HPL
    go_wp2_with fail
    go_region_held3 (fun W : World => W.cell? ⟨w.heap.size, 0, none⟩ = some (.slice z1 n1 y1) ∧ W.cell? ⟨w.heap.size, 1, none⟩ = some (.slice z2 n2 y2) ∧ W.cell? ⟨w.heap.size, 2, none⟩ = some (.slice z3 n3 y3) ∧ Below w1.heap.size w1 W)
      (first | with_reducible exact HSS.out _ bd | with_reducible exact HSS.out _ bq7 | with_reducible exact HSS.out _ bq6 | with_reducible exact HSS.out _ bq5 | with_reducible exact HSS.out _ bq4 | with_reducible exact HSS.out _ bq3 | with_reducible exact HSS.out _ bq2 | with_reducible exact HSS.out _ bq1 | with_reducible assumption)
      (first
        | (go_at_call 11; go_split_ands; (with_reducible refine Calls.mono (A1.out _ (by assumption)) ?_); rintro e wn1 ⟨v1, rfl, d1, b1⟩; obtain ⟨o1, oc1, rfl⟩ := SlD.sh d1; (try replace d2 := IntsD.below d2 b1); have bq1 := Below.trans (by assumption) (b1.mono (Below.size (by assumption))))
        | (go_at_call 12; go_split_ands; (with_reducible refine Calls.mono (A2.out _ (by assumption)) ?_); rintro e wn2 ⟨v2, rfl, d2, b2⟩; obtain ⟨o2, oc2, rfl⟩ := SlD.sh d2; (try replace d1 := IntsD.below d1 b2); have bq2 := Below.trans (by assumption) (b2.mono (Below.size (by assumption))))
        | (go_at_call 10; go_split_ands; (with_reducible refine Calls.mono (A3.out _ _ _ d1 d2) ?_); rintro e wn3 ⟨rfl, b3⟩; have bq3 := Below.trans (by assumption) (b3.mono (Below.size (by assumption))))
        | (go_at_call 14; go_split_ands; (with_reducible refine Calls.mono (A4.out _ (by assumption)) ?_); rintro e wn4 ⟨v4, x4, rfl, d4, e4, b4⟩; obtain ⟨o4, oc4, rfl⟩ := d4.shape0; (try replace d5 := d5.below b4); have bq4 := Below.trans (by assumption) (b4.mono (Below.size (by assumption))))
        | (go_at_call 15; go_split_ands; (with_reducible refine Calls.mono (A5.out _ (by assumption)) ?_); rintro e wn5 ⟨v5, x5, rfl, d5, e5, b5⟩; obtain ⟨o5, oc5, rfl⟩ := d5.shape0; (try replace d4 := d4.below b5); have bq5 := Below.trans (by assumption) (b5.mono (Below.size (by assumption))))
        | (go_at_call 13; go_split_ands; (with_reducible refine Calls.mono (A6.out _ _ _ _ _ d4 d5 e4 e5) ?_); rintro e wn6 ⟨rfl, b6⟩; have bq6 := Below.trans (by assumption) (b6.mono (Below.size (by assumption))))
        | (go_at_call 9; go_split_ands; (with_reducible refine Calls.mono (A7.out _) ?_); rintro e wn7 ⟨rfl, b7⟩; have bq7 := Below.trans (by assumption) (b7.mono (Below.size (by assumption)))))
    go_split_ands
    have HBE := Lib.hid bq7
    clear bd bq1 bq2 bq3 bq4 bq5 bq6 bq7 A1 A2 A3 A4 A5 A6 A7 HSS
    go_wp2_with fail
    go_ret
    exact ⟨rfl, BX.out.trans (HBE.out.mono BX.out.size)⟩

set_option maxRecDepth 100000 in
set_option maxHeartbeats 8000000 in
theorem swithin_in (g : Gr) (lb : List Bool) (l : List Int) (vs va vt v1 v2 : Value) (w : World) (hd : GrD w vs va vt g) (hb : TrusD w v1 lb) (hl : IntsD w v2 l) :
    Calls Try.prog 4 #[.agg #[vs, va, vt], v1, v2] w fun e w' => e = .returned (.bool true) ∧ Below w.heap.size w w' := by
  obtain ⟨q, hq⟩ : ∃ q, lightG g = q := ⟨_, rfl⟩
  have HLI := Lib.hid fun (W : World) (h : Below w.heap.size w W) => light14_any g vs va vt W (hd.below h) q hq
  have HSZ : Hid (q = true → g.st.length ≤ 80 ∧ g.to.length ≤ 400 ∧ g.ag.length ≤ 400) := Lib.hid (fun h => light_sz17c (hq.trans h))
  have HD := Lib.hid hd
  have HBD := Lib.hid hb
  have HFD := Lib.hid hl
  obtain ⟨z1, n1, y1, z2, n2, y2, z3, n3, y3, rfl, rfl, rfl⟩ := hd.sh17
  obtain ⟨ba, bc, rfl⟩ := hb.shape0
  obtain ⟨fa, fc, rfl⟩ := hl.shape0
  obtain ⟨nf, hnf⟩ : ∃ x, x = l.length := ⟨_, rfl⟩
  obtain ⟨nb, hnb⟩ : ∃ x, x = lb.length := ⟨_, rfl⟩
  rw [← hnf] at HFD ⊢
  rw [← hnb] at HBD ⊢
  have HNF := Lib.hid hnf
  have HNB := Lib.hid hnb
  clear hd hq hb hl hnf hnb
  have BX := Lib.hid (bal (Below.refl w.heap.size w) (.cells #[.slice z1 n1 y1, .slice z2 n2 y2, .slice z3 n3 y3] 24))
  have KX := Lib.hid (Bk.new w 24 #[.slice z1 n1 y1, .slice z2 n2 y2, .slice z3 n3 y3])
  go_enter Try.func4, Try.ntmps4
  go_wp2_with fail
  generalize World.alloc w _ = w0 at BX KX ⊢
  refine Calls.mono (HLI.out w0 BX.out) ?_
  rintro e w1 ⟨rfl, b1⟩
  replace BX := Lib.hid (BX.out.trans (b1.mono BX.out.size))
  replace KX := Lib.hid (KX.out.below b1)
  clear b1 HLI
  cases q with
  | false =>
    go_wp2_with fail
    refine Calls.mono (known17_any w1) ?_
    rintro e w2 ⟨rfl, b2⟩
    replace BX := Lib.hid (BX.out.trans (b2.mono BX.out.size))
    clear b2
    go_wp2_with fail
    go_ret
    exact ⟨rfl, BX.out⟩
  | true =>
    have HS := Lib.hid (HSZ.out rfl)
    clear HSZ
    by_cases h1 : 200 < nb
    · have h1' : (200 : Int) < (nb : Int) := by omega
      go_wp2_with fail
      refine Calls.mono (known17_any w1) ?_
      rintro e w2 ⟨rfl, b2⟩
      replace BX := Lib.hid (BX.out.trans (b2.mono BX.out.size))
      clear b2
      go_wp2_with fail
      go_ret
      exact ⟨rfl, BX.out⟩
    · have h1' : ¬ (200 : Int) < (nb : Int) := by omega
      by_cases h2 : 100 < nf
      · have h2' : (100 : Int) < (nf : Int) := by omega
        go_wp2_with fail
        refine Calls.mono (known17_any w1) ?_
        rintro e w2 ⟨rfl, b2⟩
        replace BX := Lib.hid (BX.out.trans (b2.mono BX.out.size))
        clear b2
        go_wp2_with fail
        go_ret
        exact ⟨rfl, BX.out⟩
      · have h2' : ¬ (100 : Int) < (nf : Int) := by omega
        have HLE : Hid (lb.length ≤ 1000 ∧ l.length ≤ 1000) := Lib.hid (by have := HNF.out; have := HNB.out; omega)
        have HC3 : Hid (g.st.length ≤ 1001 ∧ g.to.length ≤ 1000 ∧ g.ag.length ≤ 1000) := Lib.hid (by have := HS.out; omega)
        have HC2 : Hid (g.st.length ≤ 1001 ∧ g.to.length ≤ 1000) := Lib.hid (by have := HS.out; omega)
        have HWL := Lib.hid (wthG_lens g lb HC3.out)
        obtain ⟨qc, hqc⟩ : ∃ q, cycG g l = q := ⟨_, rfl⟩
        have A1 := Lib.hid (fun (W : World) (h : Below w1.heap.size w1 W) => within17_any g lb _ _ _ _ W (HD.out.below (BX.out.trans (h.mono BX.out.size))) (TrusD.below HBD.out (BX.out.trans (h.mono BX.out.size))) HC3.out HLE.out.1)
        have A2 := Lib.hid (fun (W : World) (h : Below w1.heap.size w1 W) => rwithin_any g lb _ _ _ _ W (HD.out.below (BX.out.trans (h.mono BX.out.size))) (TrusD.below HBD.out (BX.out.trans (h.mono BX.out.size))) HC3.out HLE.out.1)
        have A3 := Lib.hid (fun (W : World) (z1 z2 : List (List Int × Value)) (v1 v2 : Value) (h1 : AllD W v1 z1) (h2 : AllD W v2 z2) (e1 : z1.map (·.1) = wthG g lb) (e2 : fsts' z2 = wthG g lb) => same17_of (wthG g lb) z1 z2 v1 v2 W h1 h2 e1 e2 HWL.out)
        have A4 := Lib.hid (fun (W : World) (h : Below w1.heap.size w1 W) => cyclic_any g l _ _ _ _ W (HD.out.below (BX.out.trans (h.mono BX.out.size))) (IntsD.below HFD.out (BX.out.trans (h.mono BX.out.size))) HC3.out HLE.out.2 qc hqc)
        have A5 := Lib.hid (fun (W : World) (h : Below w1.heap.size w1 W) => rcyc_any g l _ _ _ _ W (HD.out.below (BX.out.trans (h.mono BX.out.size))) (IntsD.below HFD.out (BX.out.trans (h.mono BX.out.size))) HC2.out HLE.out.2 qc hqc)
        have A6 := Lib.hid (fun (W : World) => known17_any W)
        have HSS := Lib.hid (fun (W : World) (h : Below w1.heap.size w1 W) => (⟨(KX.out.below h).cell 0, (KX.out.below h).cell 1, (KX.out.below h).cell 2, h⟩ : W.cell? ⟨w.heap.size, 0, none⟩ = some (.slice z1 n1 y1) ∧ W.cell? ⟨w.heap.size, 1, none⟩ = some (.slice z2 n2 y2) ∧ W.cell? ⟨w.heap.size, 2, none⟩ = some (.slice z3 n3 y3) ∧ Below w1.heap.size w1 W))
        have bd := below_draws' w1
        have qq : (qc == qc) = true := by cases qc <;> rfl
        clear HWL h1 h2 hqc
        go_wp2_with fail
        clear h1' h2'
        go_region_held3 (fun W : World => W.cell? ⟨w.heap.size, 0, none⟩ = some (.slice z1 n1 y1) ∧ W.cell? ⟨w.heap.size, 1, none⟩ = some (.slice z2 n2 y2) ∧ W.cell? ⟨w.heap.size, 2, none⟩ = some (.slice z3 n3 y3) ∧ Below w1.heap.size w1 W)
          (first | with_reducible exact HSS.out _ bd | with_reducible exact HSS.out _ bq6 | with_reducible exact HSS.out _ bq5 | with_reducible exact HSS.out _ bq4 | with_reducible exact HSS.out _ bq3 | with_reducible exact HSS.out _ bq2 | with_reducible exact HSS.out _ bq1 | with_reducible assumption)
          (first
            | (go_at_call 16; go_split_ands; (with_reducible refine Calls.mono (A1.out _ (by assumption)) ?_); rintro e wn1 ⟨v1, x1, rfl, d1, e1, b1⟩; obtain ⟨o1, oc1, rfl⟩ := d1.shape0; (try replace d2 := d2.below b1); have bq1 := Below.trans (by assumption) (b1.mono (Below.size (by assumption))))
            | (go_at_call 17; go_split_ands; (with_reducible refine Calls.mono (A2.out _ (by assumption)) ?_); rintro e wn2 ⟨v2, x2, rfl, d2, e2, b2⟩; obtain ⟨o2, oc2, rfl⟩ := d2.shape0; (try replace d1 := d1.below b2); have bq2 := Below.trans (by assumption) (b2.mono (Below.size (by assumption))))
            | (go_at_call 13; go_split_ands; (with_reducible refine Calls.mono (A3.out _ _ _ _ _ d1 d2 e1 e2) ?_); rintro e wn3 ⟨rfl, b3⟩; have bq3 := Below.trans (by assumption) (b3.mono (Below.size (by assumption))))
            | (go_at_call 18; go_split_ands; (with_reducible refine Calls.mono (A4.out _ (by assumption)) ?_); rintro e wn4 ⟨rfl, b4⟩; have bq4 := Below.trans (by assumption) (b4.mono (Below.size (by assumption))))
            | (go_at_call 19; go_split_ands; (with_reducible refine Calls.mono (A5.out _ (by assumption)) ?_); rintro e wn5 ⟨rfl, b5⟩; have bq5 := Below.trans (by assumption) (b5.mono (Below.size (by assumption))))
            | (go_at_call 9; go_split_ands; (with_reducible refine Calls.mono (A6.out _) ?_); rintro e wn6 ⟨rfl, b6⟩; have bq6 := Below.trans (by assumption) (b6.mono (Below.size (by assumption)))))
        go_split_ands
        have HBE := Lib.hid bq6
        clear bd bq1 bq2 bq3 bq4 bq5 bq6 A1 A2 A3 A4 A5 A6 HSS
        go_wp2_with fail
        go_ret
        exact ⟨rfl, BX.out.trans (HBE.out.mono BX.out.size)⟩

end Go.Proofs.Ytkdpimifojjhaaa
