/- Layer 17, the code: Within. -/
import Derived.Test.YtkdpimifojjhaaaQo
namespace Go.Proofs.Ytkdpimifojjhaaa
set_option linter.unusedSimpArgs false
set_option linter.unusedVariables false
open Go.RowKit

noncomputable def wthG (g : Gr) (li : List Bool) : List (List Int) := (grpG (keepZ g li)).filter fun l => isIn li (l.headD 0)
theorem keepZ_lens (g : Gr) (li : List Bool) (hn : g.st.length ≤ 1001 ∧ g.to.length ≤ 1000 ∧ g.ag.length ≤ 1000) : (keepZ g li).st.length ≤ 1001 ∧ (keepZ g li).to.length ≤ 1000 ∧ (keepZ g li).ag.length ≤ 1000 := by
  unfold keepZ
  by_cases h : rightG g = true
  · rw [if_pos h]
    have hg := right_RG g h
    have hl : (keepL g li).length ≤ (allL g).length := List.length_filter_le _ _
    rw [hg.allLen] at hl
    obtain ⟨l1, l2, l3⟩ := bld_lens (numN g) (keepL g li) (fun e he => by
      have hm := (List.mem_filter.1 he).1
      exact (of_decide_eq_true (hg.mem hm)).1)
    show (bld (numN g) (keepL g li)).st.length ≤ 1001 ∧ (bld (numN g) (keepL g li)).to.length ≤ 1000 ∧ (bld (numN g) (keepL g li)).ag.length ≤ 1000
    rw [l1, l2, l3]
    unfold numN
    omega
  · rw [if_neg h]; exact ⟨Nat.zero_le _, Nat.zero_le _, Nat.zero_le _⟩
theorem grp_good (p : Nat → Nat) (n : Nat) (l : List Int) (hl : l ∈ grp p (nx p n) n) : 0 < l.length ∧ ∀ x ∈ l, 0 ≤ x := by
  unfold grp tab at hl
  obtain ⟨v, hv, rfl⟩ := List.mem_map.1 hl
  rw [List.mem_range] at hv
  obtain ⟨k, hk, e⟩ := nx_has p n v hv
  refine ⟨?_, fun x hx => ?_⟩
  · rw [List.length_map]
    exact List.length_pos_of_mem (List.mem_filter.2 ⟨List.mem_range.2 hk, by simpa using e⟩)
  · obtain ⟨j, _, rfl⟩ := List.mem_map.1 hx
    exact Int.natCast_nonneg j
theorem grpG_good (g : Gr) (l : List Int) (hl : l ∈ grpG g) : 0 < l.length ∧ ∀ x ∈ l, 0 ≤ x := by
  unfold grpG at hl
  by_cases h : rightG g = true
  · rw [if_pos h] at hl; exact grp_good _ _ l hl
  · rw [if_neg h] at hl; cases hl
theorem grpG_len (g : Gr) : (grpG g).length ≤ numN g := by
  unfold grpG
  by_cases h : rightG g = true
  · rw [if_pos h]; unfold grp; rw [tab_len]; exact nx_le _ _
  · rw [if_neg h]; exact Nat.zero_le _
theorem wth_eq (li : List Bool) : ∀ zs : List (List Int × Value), (zs.filter fun z => !outB li z).map (·.1) = (zs.map (·.1)).filter fun l => isIn li (l.headD 0)
  | [] => rfl
  | z :: r => by
    have e : (!outB li z) = isIn li (z.1.headD 0) := by unfold outB; rw [Bool.not_not]
    rw [List.map_cons, List.filter_cons, List.filter_cons, e]
    split
    · rw [List.map_cons, wth_eq li r]
    · exact wth_eq li r
set_option maxRecDepth 100000 in
set_option maxHeartbeats 8000000 in
theorem within17_any (g : Gr) (li : List Bool) (vs va vt vi : Value) (w : World) (hd : GrD w vs va vt g) (hi : TrusD w vi li) (hn : g.st.length ≤ 1001 ∧ g.to.length ≤ 1000 ∧ g.ag.length ≤ 1000) (hli : li.length ≤ 1000) :
    Calls Try.prog 16 #[.agg #[vs, va, vt], vi] w fun e w' => ∃ v zs, e = .returned v ∧ AllD w' v zs ∧ zs.map (·.1) = wthG g li ∧ Below w.heap.size w w' := by
  obtain ⟨a4, p4, rfl⟩ := hi.shape0
  obtain ⟨n4, hn4⟩ : ∃ x, x = li.length := ⟨_, rfl⟩
  rw [← hn4] at hi ⊢
  have L2 := two_new w 24 32 #[vs, va, vt] #[.slice a4 n4 p4]
  have HKP := Lib.hid fun (W : World) (h : Below w.heap.size w W) => keep_any g li vs va vt (.slice a4 n4 p4) W (hd.below h) (hi.below h) hn hli
  have HGP := Lib.hid fun (W : World) (us ua ut : Value) (h : GrD W us ua ut (keepZ g li)) => groups_any (keepZ g li) us ua ut W h (keepZ_lens g li hn)
  have HTI := Lib.hid fun (W : World) (h : Below w.heap.size w W) => hi.below h
  have HNL : Hid (numN (keepZ g li) ≤ 1000) := Lib.hid (by have := (keepZ_lens g li hn).1; unfold numN; omega)
  have HLI := Lib.hid hli
  have L1 := Lib.hid L2.1
  have K0 := Lib.hid L2.2.1
  have K1 := Lib.hid L2.2.2
  obtain ⟨gi, hgi⟩ : ∃ x, x = w.heap.size + 1 := ⟨_, rfl⟩
  rw [← hgi] at K1
  have HGI := Lib.hid hgi
  clear hd hi hn hli L2 hn4
  go_enter Try.func16, Try.ntmps16
  go_upto_region 1 with fail
  rw [← hgi]
  generalize World.alloc (World.alloc w _) _ = w0 at L1 K0 K1 ⊢
  clear hgi
  have c0 := K0.out.cell 0
  have c1 := K0.out.cell 1
  have c2 := K0.out.cell 2
  have d0 := K1.out.cell 0
  have l0 := K0.out.lt
  have l1 := K1.out.lt
  go_wp2_with (first
    | (go_at_call 32; refine Calls.mono (HKP.out w0 L1.out) ?_; rintro e w1 ⟨us, ua, ut, rfl, hg1, b1⟩; have HG1 := Lib.hid hg1; have B1 := Lib.hid (L1.out.trans (b1.mono L1.out.size)); have K2 := Lib.hid (K1.out.below b1); clear hg1 b1)
    | (go_at_call 14; refine Calls.mono (HGP.out w1 us ua ut HG1.out) ?_; rintro e w2 ⟨v2, zs, rfl, hgg, hzs, b2⟩; have HGG := Lib.hid hgg; have HZS := Lib.hid hzs; have B2 := Lib.hid b2; clear hgg hzs b2)
    | (go_at_call 31; refine Calls.mono (delete_any (outB li) gi zs v2 w2 w1.heap.size HGG.out (by have h := grpG_len (keepZ g li); rw [← HZS.out, List.length_map] at h; have := HNL.out; omega) B2.out.size K2.out.lt (fun W hW z hz hzd => isOut_any li (.slice a4 n4 p4) gi z W hzd (grpG_good (keepZ g li) z.1 (by rw [← HZS.out]; exact List.mem_map_of_mem hz)).1 (grpG_good (keepZ g li) z.1 (by rw [← HZS.out]; exact List.mem_map_of_mem hz)).2 (HTI.out W (B1.out.trans ((B2.out.trans hW).mono B1.out.size))) (by have := HLI.out; omega) (K2.out.below (B2.out.trans hW)) _ rfl)) ?_; rintro e w3 ⟨v3, rfl, ha3, b3⟩; have HA3 := Lib.hid ha3; have B3 := Lib.hid (B1.out.trans ((B2.out.trans b3).mono B1.out.size)); clear ha3 b3))
  go_ret
  exact ⟨v3, _, rfl, HA3.out, by rw [wth_eq, HZS.out]; rfl, B3.out⟩

end Go.Proofs.Ytkdpimifojjhaaa
