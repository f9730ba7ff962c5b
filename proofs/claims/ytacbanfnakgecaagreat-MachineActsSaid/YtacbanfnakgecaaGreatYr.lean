/- Layer 10, the code: a thread's turn: what it stores. -/
import Derived.Test.YtacbanfnakgecaaGreatYm
import Derived.StillTailTactics
namespace Go.Proofs.YtacbanfnakgecaaGreat
set_option linter.unusedSimpArgs false
set_option linter.unusedVariables false
open Go.RowKit
def stoC (c : Cf) (model : Int) (k j : Nat) (v : Int) (bv : Value) : Cf :=
  if model = 1 then c.setM j v else { c with buf := c.buf.set k (pushL (c.buf.getD k ([], undef)).1 model (j, v), bv) }
set_option maxRecDepth 100000 in
set_option maxHeartbeats 8000000 in
theorem tstore_any {B N : Nat} (u : Un) (c : Cf) (model room : Int) (xp xr xm xb f1 f2 : Value) (k : Nat) (x : II) (w : World) (hS : St B N w xp xr xm xb c) (hk : k < c.regs.length) (j : Nat) (hj : j < c.mem.length) (hy : x.x.loc = j) (hk2 : k < c.buf.length) (hl : OpsD w x.ev x.x.e) (hn : x.x.e.length ≤ 100000) (hr : ∀ r ∈ c.regs, r.1.length ≤ 100000) (hb : ∀ r ∈ c.buf, r.1.length ≤ 100000) (v1 : Int) (hv1 : valC u c k x.x.e = v1) (hm : model = 1 ∨ model = 2 ∨ model = 3) :
    Calls Tryz.prog 80 #[.agg (turnA u.mod model room xp xr xm xb k x f1 f2)] w fun e w' => e = .returned (.tuple #[]) ∧ (∃ bv, St B N w' xp xr xm xb (stoC c model k j v1 bv)) ∧ Fr B N w w' := by
  have KA := Lib.hid (Bk.new w 63 (turnA u.mod model room xp xr xm xb k x f1 f2))
  have L0 : Hid (Below w.heap.size w (w.alloc (.cells (turnA u.mod model room xp xr xm xb k x f1 f2) 63))) := (Below.refl _ _).alloc (Nat.le_refl _) _
  generalize hW : World.alloc w _ = W at L0 KA
  have HBN := Lib.hid (Nat.le_trans hS.bn hS.n)
  have HN := Lib.hid hS.n
  have F0 : Hid (Fr B N w W) := Lib.hid (Fr.below L0.out HBN.out)
  have HV := Lib.hid (fun (W : World) (h : Below w.heap.size w W) => tvalue_any u c k x.x.e model room xp xr xm xb x.ev f1 f2 x W (hS.data.below h) hk hr (OpsD.below hl h) hn v1 hv1)
  have HPM := Lib.hid (fun (W : World) (h : St B N W xp xr xm xb c) => putM h j hj v1)
  have hlen := hb _ (List.getElem_mem hk2)
  have hg : (c.buf.getD k ([], undef)).1 = (c.buf[k]).1 := by rw [List.getD_eq_getElem?_getD, List.getElem?_eq_getElem hk2]; rfl
  have HPU := Lib.hid (fun (W : World) (hm : model = 2 ∨ model = 3) (bv : Value) (hbv : EntsD W bv (c.buf[k]).1) => push_own (c.buf[k]).1 bv model j v1 W hbv hlen _ rfl hm)
  have HS := Lib.hid (fun (W : World) (h : Below w.heap.size w W) => hS.below h)
  have HG := Lib.hid hg
  have HTC := Lib.hid (fun W1 (hb : Below W.heap.size W W1) => turn_cells (KA.out.below hb))
  have HTS : (turnA u.mod model room xp xr xm xb k x f1 f2).size = 17 := rfl
  have HC := Lib.hid (fun W1 (hb : Below W.heap.size W W1) => (⟨KA.out.below hb, ⟨by rw [← hy]; exact (KA.out.below hb).cell 10, (KA.out.below hb).cell 11⟩, hb⟩ : Bk W1 w.heap.size 63 (turnA u.mod model room xp xr xm xb k x f1 f2) ∧ (W1.cell? ⟨w.heap.size, 10, none⟩ = some (.int .i64 j) ∧ W1.cell? ⟨w.heap.size, 11, none⟩ = some x.ev) ∧ Below W.heap.size W W1))
  generalize turnA u.mod model room xp xr xm xb k x f1 f2 = ta at hW KA HV HTS HC L0 ⊢
  clear hS hk hl hn hr hv1 hb hlen hg hy hj
  go_enter Tryz.func80, Tryz.ntmps80
  go_wp2_with fail
  first | rw [hW] | skip
  obtain ⟨pb, hpb⟩ : ∃ n, n = w.heap.size := ⟨_, rfl⟩
  rw [← hpb] at HC HTC ⊢
  have HPB := Lib.hid hpb
  clear hW KA hpb
  have bb : Below W.heap.size W W.drew := below_draws' W
  refine wp_region_held_drew (S := fun W1 => Bk W1 pb 63 ta ∧ (W1.cell? ⟨pb, 10, none⟩ = some (.int .i64 j) ∧ W1.cell? ⟨pb, 11, none⟩ = some x.ev) ∧ Below W.heap.size W W1) (by kernel_rfl) (HC.out _ bb) (fun hS => ?_)
  refine wpAnyH_take (i := 0) (v := .pointer (some ⟨pb, 8, none⟩)) rfl (by kernel_rfl) (by kernel_rfl) (by kernel_rfl) (fun _ _ _ h => h) (Or.inl ⟨by rfl, fun w hSw => by obtain ⟨_, ⟨hs2, hs3⟩, _⟩ := hSw; first | (go_simp; done) | (go_simp; with_reducible rfl)⟩) hS ?_
  simp only [Act.put, List.setIfInBounds_toArray, List.set_cons_zero, List.set_cons_succ]
  refine wpAnyH_take (i := 1) (v := .pointer (some ⟨pb, 10, none⟩)) rfl (by kernel_rfl) (by kernel_rfl) (by kernel_rfl) (fun _ _ _ h => h) (Or.inl ⟨by rfl, fun w hSw => by obtain ⟨_, ⟨hs2, hs3⟩, _⟩ := hSw; first | (go_simp; done) | (go_simp; with_reducible rfl)⟩) hS ?_
  simp only [Act.put, List.setIfInBounds_toArray, List.set_cons_zero, List.set_cons_succ]
  refine wpAnyH_take (i := 2) (v := .int .i64 j) rfl (by kernel_rfl) (by kernel_rfl) (by kernel_rfl) (fun _ _ _ h => h) (Or.inl ⟨by rfl, fun w hSw => by obtain ⟨_, ⟨hs2, hs3⟩, _⟩ := hSw; first | (go_simp; done) | (go_simp; with_reducible rfl)⟩) hS ?_
  simp only [Act.put, List.setIfInBounds_toArray, List.set_cons_zero, List.set_cons_succ]
  refine wpAnyH_take (i := 3) (v := .agg ta) rfl (by kernel_rfl) (by kernel_rfl) (by kernel_rfl) (fun _ _ _ h => h) (yl_row (by rfl) (.tmp 1) rfl pb rfl ta (fun w h => h.1) HTS) hS ?_
  simp only [Act.put, List.setIfInBounds_toArray, List.set_cons_zero, List.set_cons_succ]
  refine wpAnyH_take (i := 4) (v := .pointer (some ⟨pb, 8, none⟩)) rfl (by kernel_rfl) (by kernel_rfl) (by kernel_rfl) (fun _ _ _ h => h) (Or.inl ⟨by rfl, fun w hSw => by obtain ⟨_, ⟨hs2, hs3⟩, _⟩ := hSw; first | (go_simp; done) | (go_simp; with_reducible rfl)⟩) hS ?_
  simp only [Act.put, List.setIfInBounds_toArray, List.set_cons_zero, List.set_cons_succ]
  refine wpAnyH_take (i := 5) (v := .pointer (some ⟨pb, 11, none⟩)) rfl (by kernel_rfl) (by kernel_rfl) (by kernel_rfl) (fun _ _ _ h => h) (Or.inl ⟨by rfl, fun w hSw => by obtain ⟨_, ⟨hs2, hs3⟩, _⟩ := hSw; first | (go_simp; done) | (go_simp; with_reducible rfl)⟩) hS ?_
  simp only [Act.put, List.setIfInBounds_toArray, List.set_cons_zero, List.set_cons_succ]
  refine wpAnyH_take (i := 6) (v := x.ev) rfl (by kernel_rfl) (by kernel_rfl) (by kernel_rfl) (fun _ _ _ h => h) (Or.inl ⟨by rfl, fun w hSw => by obtain ⟨_, ⟨hs2, hs3⟩, _⟩ := hSw; first | (go_simp; done) | (go_simp; with_reducible rfl)⟩) hS ?_
  simp only [Act.put, List.setIfInBounds_toArray, List.set_cons_zero, List.set_cons_succ]
  refine wpAnyH_ready (rs := [7, 9]) (by kernel_rfl) (by simp) ?_
  refine AllReadyH.cons rfl (fun K hK => ?_) (AllReadyH.cons rfl (fun K hK => ?_) AllReadyH.nil)
  · go_simp
    go_wp2_with (fail)
    refine (HV.out _ (L0.out.trans (bb.mono L0.out.size))).mono ?_
    rintro e wv ⟨rfl, c2⟩
    have b_wv : Below W.heap.size W wv := Below.trans bb (c2.mono (Below.size bb))
    go_wp2_with (fail)
    refine hK.out _ _ (HC.out _ b_wv) (fun hS => ?_)
    clear hK K
    refine wpAnyH_take (i := 8) (v := .agg #[.int .i64 j, .int .i64 v1]) rfl (by kernel_rfl) (by kernel_rfl) (by kernel_rfl) (fun _ _ _ h => h) (Or.inl ⟨by rfl, fun w hSw => by obtain ⟨_, ⟨hs2, hs3⟩, _⟩ := hSw; first | (go_simp; done) | (go_simp; with_reducible rfl)⟩) hS ?_
    simp only [Act.put, List.setIfInBounds_toArray, List.set_cons_zero, List.set_cons_succ]
    refine wpAnyH_ready (rs := [9]) (by kernel_rfl) (by simp) ?_
    refine AllReadyH.cons rfl (fun K hK => ?_) AllReadyH.nil
    go_simp
    have KZ := Bk.new wv 70 #[.int .i64 0, .int .i64 0]
    have BZ : Below W.heap.size W (wv.alloc (.cells #[.int .i64 0, .int .i64 0] 70)) := bal b_wv _
    refine hK.out _ _ (HC.out _ BZ) (fun hS => ?_)
    clear hK K
    generalize hwz : wv.alloc (.cells #[.int .i64 0, .int .i64 0] 70) = wz at KZ BZ hS ⊢
    obtain ⟨eb, hebq⟩ : ∃ n, n = wv.heap.size := ⟨_, rfl⟩
    have heb : W.heap.size ≤ eb := by rw [hebq]; exact b_wv.size
    have HEQ := Lib.hid hebq
    rw [← hebq] at KZ ⊢
    clear hebq
    refine wpAnyH_ready (rs := [10]) (by kernel_rfl) (by simp) ?_
    refine AllReadyH.cons rfl (fun K hK => ?_) AllReadyH.nil
    have z0 : wz.cell? ⟨eb, 0, none⟩ = some (.int .i64 0) := KZ.cell 0
    have z1 : wz.cell? ⟨eb, 1, none⟩ = some (.int .i64 0) := KZ.cell 1
    have z2 := KZ.fz 0
    have z3 := KZ.fz 1
    have z4 := KZ.lt
    go_simp
    have KE := KZ.set2 (.int .i64 j) (.int .i64 v1)
    have BE : Below W.heap.size W ((wz.setCell ⟨eb, 0, none⟩ (.int .i64 j)).setCell ⟨eb, 1, none⟩ (.int .i64 v1)) := Below.setCell (p := ⟨eb, 1, none⟩) (Below.setCell (p := ⟨eb, 0, none⟩) BZ heb _) heb _
    refine hK.out _ _ (by first | exact HC.out _ BE | (rw [HEQ.out] at BE ⊢; exact HC.out _ BE)) (fun hS => ?_)
    clear hK K
    refine wpAnyH_done (by kernel_rfl) ?_ _
    generalize (wz.setCell _ _).setCell _ _ = Wf at KE BE ⊢
    have LF := Lib.hid (L0.out.trans (BE.mono L0.out.size))
    obtain ⟨c0, c1, c2, c3, c4, c5, c6, c7, c8, c9, c10, c11, c12, c13, c14, c15, c16, l0⟩ := HTC.out Wf BE
    have y0 : Wf.cell? ⟨eb, 0, none⟩ = some (.int .i64 j) := KE.cell 0
    have y1 : Wf.cell? ⟨eb, 1, none⟩ = some (.int .i64 v1) := KE.cell 1
    have yl := KE.lt
    clear hS
    by_cases h1 : model = 1
    · have H1 := Lib.hid h1
      have h1' : (model == 1) = true := by simpa using h1
      clear h1
      go_wp2_with fail
      refine (HPM.out _ (HS.out _ LF.out)).mono ?_
      rintro e w9 ⟨rfl, st9, fr9⟩
      go_wp2
      exact bodyPost_ret (v := .tuple #[]) (by simp [results, Tryz.results80, go_sem]) rfl ⟨rfl, ⟨undef, by unfold stoC; rw [if_pos H1.out]; exact st9⟩, (Fr.belowN LF.out (Nat.le_refl _) HBN.out).trans fr9⟩
    · have H1 := Lib.hid h1
      have h1' : (model == 1) = false := by simpa using h1
      have hm2 : model = 2 ∨ model = 3 := by omega
      have SF := Lib.hid (HS.out _ LF.out)
      clear h1 hm
      obtain ⟨g, cap, hxb, hg, hl, hc, hf, _⟩ := SF.out.bufAt k hk2
      have hdb := SF.out.data.b
      rw [hxb] at hdb c6
      obtain ⟨b2, o2, hbo, hb2, hx⟩ := SlD.at hdb k hk2
      have HP1 := Lib.hid (HPU.out Wf.drew hm2 _ (EntsD.below hx.r (below_draws' Wf)))
      have SN := Lib.hid (fun (W1 : World) (h : Below Wf.drew.heap.size Wf.drew W1) => (SF.out.below (below_draws' Wf)).below h)
      have HSZ : Hid (B ≤ Wf.drew.heap.size) := Lib.hid (Nat.le_trans HBN.out LF.out.size)
      have HXB := Lib.hid hxb
      obtain ⟨nb, hnb⟩ : ∃ n, n = c.buf.length := ⟨_, rfl⟩
      have HNB := Lib.hid hnb
      rw [← hnb] at c6
      have q1 : (0 : Int) ≤ (k : Int) := by omega
      have q2 : (k : Int) < (nb : Int) := by omega
      clear hxb hdb hx hnb hg hf hbo hb2
      have hNp : N ≤ pb := by rw [HPB.out]; exact HN.out
      have hNe : N ≤ eb := Nat.le_trans HN.out (Nat.le_trans L0.out.size heb)
      have HC2 := Lib.hid (fun (W1 : World) (h : Kp N Wf W1) => (⟨⟨by rw [World.cell?_of_block (a := ⟨pb, 6, none⟩) (h.2 pb hNp l0)]; exact c6, by rw [World.cell?_of_block (a := ⟨pb, 7, none⟩) (h.2 pb hNp l0)]; exact c7, by rw [World.cell?_of_block (a := ⟨pb, 1, none⟩) (h.2 pb hNp l0)]; exact c1, by rw [World.cell?_of_block (a := ⟨eb, 0, none⟩) (h.2 eb hNe yl)]; exact y0, by rw [World.cell?_of_block (a := ⟨eb, 1, none⟩) (h.2 eb hNe yl)]; exact y1⟩, Nat.lt_of_lt_of_le l0 h.1, Nat.lt_of_lt_of_le yl h.1⟩ : (fun W1 => (W1.cell? ⟨pb, 6, none⟩ = some (.slice (some ⟨g, 0, none⟩) nb cap) ∧ W1.cell? ⟨pb, 7, none⟩ = some (.int .i64 k) ∧ W1.cell? ⟨pb, 1, none⟩ = some (.int .i64 model) ∧ W1.cell? ⟨eb, 0, none⟩ = some (.int .i64 j) ∧ W1.cell? ⟨eb, 1, none⟩ = some (.int .i64 v1)) ∧ pb < W1.heap.size ∧ eb < W1.heap.size) W1))
      go_wp2_with fail
      refine wp_region_held_drew (S := fun W1 => (W1.cell? ⟨pb, 6, none⟩ = some (.slice (some ⟨g, 0, none⟩) nb cap) ∧ W1.cell? ⟨pb, 7, none⟩ = some (.int .i64 k) ∧ W1.cell? ⟨pb, 1, none⟩ = some (.int .i64 model) ∧ W1.cell? ⟨eb, 0, none⟩ = some (.int .i64 j) ∧ W1.cell? ⟨eb, 1, none⟩ = some (.int .i64 v1)) ∧ pb < W1.heap.size ∧ eb < W1.heap.size) (by kernel_rfl) (HC2.out _ ⟨Nat.le_refl _, fun _ _ _ => rfl⟩) (fun hS => ?_)
      refine wpAnyH_take (i := 0) (v := .pointer (some ⟨pb, 3, none⟩)) rfl (by kernel_rfl) (by kernel_rfl) (by kernel_rfl) (fun _ _ _ h => h) (Or.inl ⟨by rfl, fun w hSw => by obtain ⟨⟨s1, s2, s3, s4, s5⟩, s6, s7⟩ := hSw; first | (go_simp; done) | (go_simp; with_reducible rfl)⟩) hS ?_
      simp only [Act.put, List.setIfInBounds_toArray, List.set_cons_zero, List.set_cons_succ]
      refine wpAnyH_take (i := 1) (v := .pointer (some ⟨pb, 6, none⟩)) rfl (by kernel_rfl) (by kernel_rfl) (by kernel_rfl) (fun _ _ _ h => h) (Or.inl ⟨by rfl, fun w hSw => by obtain ⟨⟨s1, s2, s3, s4, s5⟩, s6, s7⟩ := hSw; first | (go_simp; done) | (go_simp; with_reducible rfl)⟩) hS ?_
      simp only [Act.put, List.setIfInBounds_toArray, List.set_cons_zero, List.set_cons_succ]
      refine wpAnyH_take (i := 2) (v := .slice (some ⟨g, 0, none⟩) nb cap) rfl (by kernel_rfl) (by kernel_rfl) (by kernel_rfl) (fun _ _ _ h => h) (Or.inl ⟨by rfl, fun w hSw => by obtain ⟨⟨s1, s2, s3, s4, s5⟩, s6, s7⟩ := hSw; first | (go_simp; done) | (go_simp; with_reducible rfl)⟩) hS ?_
      simp only [Act.put, List.setIfInBounds_toArray, List.set_cons_zero, List.set_cons_succ]
      refine wpAnyH_take (i := 3) (v := .pointer (some ⟨pb, 7, none⟩)) rfl (by kernel_rfl) (by kernel_rfl) (by kernel_rfl) (fun _ _ _ h => h) (Or.inl ⟨by rfl, fun w hSw => by obtain ⟨⟨s1, s2, s3, s4, s5⟩, s6, s7⟩ := hSw; first | (go_simp; done) | (go_simp; with_reducible rfl)⟩) hS ?_
      simp only [Act.put, List.setIfInBounds_toArray, List.set_cons_zero, List.set_cons_succ]
      refine wpAnyH_take (i := 4) (v := .int .i64 k) rfl (by kernel_rfl) (by kernel_rfl) (by kernel_rfl) (fun _ _ _ h => h) (Or.inl ⟨by rfl, fun w hSw => by obtain ⟨⟨s1, s2, s3, s4, s5⟩, s6, s7⟩ := hSw; first | (go_simp; done) | (go_simp; with_reducible rfl)⟩) hS ?_
      simp only [Act.put, List.setIfInBounds_toArray, List.set_cons_zero, List.set_cons_succ]
      refine wpAnyH_take (i := 5) (v := .pointer (some ⟨pb, 3, none⟩)) rfl (by kernel_rfl) (by kernel_rfl) (by kernel_rfl) (fun _ _ _ h => h) (Or.inl ⟨by rfl, fun w hSw => by obtain ⟨⟨s1, s2, s3, s4, s5⟩, s6, s7⟩ := hSw; first | (go_simp; done) | (go_simp; with_reducible rfl)⟩) hS ?_
      simp only [Act.put, List.setIfInBounds_toArray, List.set_cons_zero, List.set_cons_succ]
      refine wpAnyH_take (i := 6) (v := .pointer (some ⟨pb, 6, none⟩)) rfl (by kernel_rfl) (by kernel_rfl) (by kernel_rfl) (fun _ _ _ h => h) (Or.inl ⟨by rfl, fun w hSw => by obtain ⟨⟨s1, s2, s3, s4, s5⟩, s6, s7⟩ := hSw; first | (go_simp; done) | (go_simp; with_reducible rfl)⟩) hS ?_
      simp only [Act.put, List.setIfInBounds_toArray, List.set_cons_zero, List.set_cons_succ]
      refine wpAnyH_take (i := 7) (v := .slice (some ⟨g, 0, none⟩) nb cap) rfl (by kernel_rfl) (by kernel_rfl) (by kernel_rfl) (fun _ _ _ h => h) (Or.inl ⟨by rfl, fun w hSw => by obtain ⟨⟨s1, s2, s3, s4, s5⟩, s6, s7⟩ := hSw; first | (go_simp; done) | (go_simp; with_reducible rfl)⟩) hS ?_
      simp only [Act.put, List.setIfInBounds_toArray, List.set_cons_zero, List.set_cons_succ]
      refine wpAnyH_take (i := 8) (v := .pointer (some ⟨pb, 7, none⟩)) rfl (by kernel_rfl) (by kernel_rfl) (by kernel_rfl) (fun _ _ _ h => h) (Or.inl ⟨by rfl, fun w hSw => by obtain ⟨⟨s1, s2, s3, s4, s5⟩, s6, s7⟩ := hSw; first | (go_simp; done) | (go_simp; with_reducible rfl)⟩) hS ?_
      simp only [Act.put, List.setIfInBounds_toArray, List.set_cons_zero, List.set_cons_succ]
      refine wpAnyH_take (i := 9) (v := .int .i64 k) rfl (by kernel_rfl) (by kernel_rfl) (by kernel_rfl) (fun _ _ _ h => h) (Or.inl ⟨by rfl, fun w hSw => by obtain ⟨⟨s1, s2, s3, s4, s5⟩, s6, s7⟩ := hSw; first | (go_simp; done) | (go_simp; with_reducible rfl)⟩) hS ?_
      simp only [Act.put, List.setIfInBounds_toArray, List.set_cons_zero, List.set_cons_succ]
      refine wpAnyH_take (i := 10) (v := .pointer (some ⟨g, k, none⟩)) rfl (by kernel_rfl) (by kernel_rfl) (by kernel_rfl) (fun _ _ _ h => h) (Or.inl ⟨by rfl, fun w hSw => by obtain ⟨⟨s1, s2, s3, s4, s5⟩, s6, s7⟩ := hSw; first | (go_simp; done) | (go_simp; with_reducible rfl)⟩) hS ?_
      simp only [Act.put, List.setIfInBounds_toArray, List.set_cons_zero, List.set_cons_succ]
      refine wpAnyH_take (i := 12) (v := .pointer (some ⟨pb, 1, none⟩)) rfl (by kernel_rfl) (by kernel_rfl) (by kernel_rfl) (fun _ _ _ h => h) (Or.inl ⟨by rfl, fun w hSw => by obtain ⟨⟨s1, s2, s3, s4, s5⟩, s6, s7⟩ := hSw; first | (go_simp; done) | (go_simp; with_reducible rfl)⟩) hS ?_
      simp only [Act.put, List.setIfInBounds_toArray, List.set_cons_zero, List.set_cons_succ]
      refine wpAnyH_take (i := 13) (v := .int .i64 model) rfl (by kernel_rfl) (by kernel_rfl) (by kernel_rfl) (fun _ _ _ h => h) (Or.inl ⟨by rfl, fun w hSw => by obtain ⟨⟨s1, s2, s3, s4, s5⟩, s6, s7⟩ := hSw; first | (go_simp; done) | (go_simp; with_reducible rfl)⟩) hS ?_
      simp only [Act.put, List.setIfInBounds_toArray, List.set_cons_zero, List.set_cons_succ]
      refine wpAnyH_take (i := 14) (v := .agg #[.int .i64 j, .int .i64 v1]) rfl (by kernel_rfl) (by kernel_rfl) (by kernel_rfl) (fun _ _ _ h => h) (Or.inl ⟨by rfl, fun w hSw => by obtain ⟨⟨s1, s2, s3, s4, s5⟩, s6, s7⟩ := hSw; first | (go_simp; done) | (go_simp; with_reducible rfl)⟩) hS ?_
      simp only [Act.put, List.setIfInBounds_toArray, List.set_cons_zero, List.set_cons_succ]
      refine wpAnyH_ready (rs := [11]) (by kernel_rfl) (by simp) ?_
      refine AllReadyH.cons rfl (fun K hK => ?_) AllReadyH.nil
      have hc2 : Wf.drew.cell? ⟨g, k, none⟩ = some (c.buf[k]).2 := hc
      go_simp
      refine hK.out _ _ (HC2.out _ ⟨Nat.le_refl _, fun _ _ _ => rfl⟩) (fun hS => ?_)
      clear hK K
      refine wpAnyH_ready (rs := [15]) (by kernel_rfl) (by simp) ?_
      refine AllReadyH.cons rfl (fun K hK => ?_) AllReadyH.nil
      go_simp
      go_wp2_with (fail)
      refine HP1.out.mono ?_
      rintro e wn ⟨v', rfl, ow, bn⟩
      have SN1 := Lib.hid (SN.out wn bn)
      have LN := Lib.hid (LF.out.drew.trans (bn.mono LF.out.drew.size))
      have OW : Hid (OwnE wn B v' (pushL (c.buf[k]).1 model (j, v1))) := Lib.hid (own_base ow HSZ.out)
      obtain ⟨av, cv, rfl, _⟩ := own_shape' ow
      obtain ⟨g', cap', hxb', hg', hl', hc', hf', hst'⟩ := SN1.out.bufAt k hk2
      rw [HXB.out] at hxb'
      injection hxb' with ha _ _
      injection ha with ha
      injection ha with ha _
      subst ha
      have HST := Lib.hid (hst' _ _ OW.out)
      have KN1 : Kp N Wf wn := ⟨bn.size, fun g _ hl => bn.block g hl⟩
      go_wp2_with (fail)
      refine hK.out _ _ (HC2.out _ KN1) (fun hS => ?_)
      clear hK K
      refine wpAnyH_ready (rs := [16]) (by kernel_rfl) (by simp) ?_
      refine AllReadyH.cons rfl (fun K hK => ?_) AllReadyH.nil
      go_simp
      refine hK.out _ _ (HC2.out _ KN1) (fun hS => ?_)
      clear hK K
      refine wpAnyH_ready (rs := [17]) (by kernel_rfl) (by simp) ?_
      refine AllReadyH.cons rfl (fun K hK => ?_) AllReadyH.nil
      go_simp
      refine hK.out _ _ (HC2.out _ (KN1.trans HST.out.2.k)) (fun hS => ?_)
      clear hK K
      refine wpAnyH_done (by kernel_rfl) ?_ _
      go_wp2
      exact bodyPost_end (v := .tuple #[]) (by simp [results, Tryz.results80, go_sem]) rfl ⟨rfl, ⟨.slice av (pushL (c.buf[k]).1 model (j, v1)).length cv, by unfold stoC; rw [if_neg H1.out, HG.out]; exact HST.out.1⟩, (Fr.belowN LN.out (Nat.le_refl _) HBN.out).trans HST.out.2⟩
  · go_simp
    have KZ0 := Bk.new W 70 #[.int .i64 0, .int .i64 0]
    have BZ0 : Below W.heap.size W (World.alloc W (.cells #[.int .i64 0, .int .i64 0] 70)).drew := bdr (bal (Below.refl _ _) _)
    refine hK.out _ _ (HC.out _ BZ0) (fun hS => ?_)
    clear hK K
    refine wpAnyH_ready (rs := [7]) (by kernel_rfl) (by simp) ?_
    refine AllReadyH.cons rfl (fun K hK => ?_) AllReadyH.nil
    go_simp
    go_wp2_with (fail)
    refine (HV.out _ (L0.out.trans (BZ0.mono L0.out.size))).mono ?_
    rintro e wz ⟨rfl, c2⟩
    have b_wz : Below W.heap.size W wz := Below.trans BZ0 (c2.mono (Below.size BZ0))
    go_wp2_with (fail)
    have KZ : Bk wz W.heap.size 70 #[.int .i64 0, .int .i64 0] := Bk.below (show Bk (World.alloc W (.cells #[.int .i64 0, .int .i64 0] 70)).drew W.heap.size 70 #[.int .i64 0, .int .i64 0] from KZ0) c2
    have BZ := b_wz
    refine hK.out _ _ (HC.out _ BZ) (fun hS => ?_)
    clear hK K
    refine wpAnyH_take (i := 8) (v := .agg #[.int .i64 j, .int .i64 v1]) rfl (by kernel_rfl) (by kernel_rfl) (by kernel_rfl) (fun _ _ _ h => h) (Or.inl ⟨by rfl, fun w hSw => by obtain ⟨_, ⟨hs2, hs3⟩, _⟩ := hSw; first | (go_simp; done) | (go_simp; with_reducible rfl)⟩) hS ?_
    simp only [Act.put, List.setIfInBounds_toArray, List.set_cons_zero, List.set_cons_succ]
    obtain ⟨eb, hebq⟩ : ∃ n, n = W.heap.size := ⟨_, rfl⟩
    have heb : W.heap.size ≤ eb := by rw [hebq]; exact Nat.le_refl _
    have HEQ := Lib.hid hebq
    rw [← hebq] at KZ ⊢
    clear hebq
    refine wpAnyH_ready (rs := [10]) (by kernel_rfl) (by simp) ?_
    refine AllReadyH.cons rfl (fun K hK => ?_) AllReadyH.nil
    have z0 : wz.cell? ⟨eb, 0, none⟩ = some (.int .i64 0) := KZ.cell 0
    have z1 : wz.cell? ⟨eb, 1, none⟩ = some (.int .i64 0) := KZ.cell 1
    have z2 := KZ.fz 0
    have z3 := KZ.fz 1
    have z4 := KZ.lt
    go_simp
    have KE := KZ.set2 (.int .i64 j) (.int .i64 v1)
    have BE : Below W.heap.size W ((wz.setCell ⟨eb, 0, none⟩ (.int .i64 j)).setCell ⟨eb, 1, none⟩ (.int .i64 v1)) := Below.setCell (p := ⟨eb, 1, none⟩) (Below.setCell (p := ⟨eb, 0, none⟩) BZ heb _) heb _
    refine hK.out _ _ (by first | exact HC.out _ BE | (rw [HEQ.out] at BE ⊢; exact HC.out _ BE)) (fun hS => ?_)
    clear hK K
    refine wpAnyH_done (by kernel_rfl) ?_ _
    generalize (wz.setCell _ _).setCell _ _ = Wf at KE BE ⊢
    have LF := Lib.hid (L0.out.trans (BE.mono L0.out.size))
    obtain ⟨c0, c1, c2, c3, c4, c5, c6, c7, c8, c9, c10, c11, c12, c13, c14, c15, c16, l0⟩ := HTC.out Wf BE
    have y0 : Wf.cell? ⟨eb, 0, none⟩ = some (.int .i64 j) := KE.cell 0
    have y1 : Wf.cell? ⟨eb, 1, none⟩ = some (.int .i64 v1) := KE.cell 1
    have yl := KE.lt
    clear hS
    by_cases h1 : model = 1
    · have H1 := Lib.hid h1
      have h1' : (model == 1) = true := by simpa using h1
      clear h1
      go_wp2_with fail
      refine (HPM.out _ (HS.out _ LF.out)).mono ?_
      rintro e w9 ⟨rfl, st9, fr9⟩
      go_wp2
      exact bodyPost_ret (v := .tuple #[]) (by simp [results, Tryz.results80, go_sem]) rfl ⟨rfl, ⟨undef, by unfold stoC; rw [if_pos H1.out]; exact st9⟩, (Fr.belowN LF.out (Nat.le_refl _) HBN.out).trans fr9⟩
    · have H1 := Lib.hid h1
      have h1' : (model == 1) = false := by simpa using h1
      have hm2 : model = 2 ∨ model = 3 := by omega
      have SF := Lib.hid (HS.out _ LF.out)
      clear h1 hm
      obtain ⟨g, cap, hxb, hg, hl, hc, hf, _⟩ := SF.out.bufAt k hk2
      have hdb := SF.out.data.b
      rw [hxb] at hdb c6
      obtain ⟨b2, o2, hbo, hb2, hx⟩ := SlD.at hdb k hk2
      have HP1 := Lib.hid (HPU.out Wf.drew hm2 _ (EntsD.below hx.r (below_draws' Wf)))
      have SN := Lib.hid (fun (W1 : World) (h : Below Wf.drew.heap.size Wf.drew W1) => (SF.out.below (below_draws' Wf)).below h)
      have HSZ : Hid (B ≤ Wf.drew.heap.size) := Lib.hid (Nat.le_trans HBN.out LF.out.size)
      have HXB := Lib.hid hxb
      obtain ⟨nb, hnb⟩ : ∃ n, n = c.buf.length := ⟨_, rfl⟩
      have HNB := Lib.hid hnb
      rw [← hnb] at c6
      have q1 : (0 : Int) ≤ (k : Int) := by omega
      have q2 : (k : Int) < (nb : Int) := by omega
      clear hxb hdb hx hnb hg hf hbo hb2
      have hNp : N ≤ pb := by rw [HPB.out]; exact HN.out
      have hNe : N ≤ eb := Nat.le_trans HN.out (Nat.le_trans L0.out.size heb)
      have HC2 := Lib.hid (fun (W1 : World) (h : Kp N Wf W1) => (⟨⟨by rw [World.cell?_of_block (a := ⟨pb, 6, none⟩) (h.2 pb hNp l0)]; exact c6, by rw [World.cell?_of_block (a := ⟨pb, 7, none⟩) (h.2 pb hNp l0)]; exact c7, by rw [World.cell?_of_block (a := ⟨pb, 1, none⟩) (h.2 pb hNp l0)]; exact c1, by rw [World.cell?_of_block (a := ⟨eb, 0, none⟩) (h.2 eb hNe yl)]; exact y0, by rw [World.cell?_of_block (a := ⟨eb, 1, none⟩) (h.2 eb hNe yl)]; exact y1⟩, Nat.lt_of_lt_of_le l0 h.1, Nat.lt_of_lt_of_le yl h.1⟩ : (fun W1 => (W1.cell? ⟨pb, 6, none⟩ = some (.slice (some ⟨g, 0, none⟩) nb cap) ∧ W1.cell? ⟨pb, 7, none⟩ = some (.int .i64 k) ∧ W1.cell? ⟨pb, 1, none⟩ = some (.int .i64 model) ∧ W1.cell? ⟨eb, 0, none⟩ = some (.int .i64 j) ∧ W1.cell? ⟨eb, 1, none⟩ = some (.int .i64 v1)) ∧ pb < W1.heap.size ∧ eb < W1.heap.size) W1))
      go_wp2_with fail
      refine wp_region_held_drew (S := fun W1 => (W1.cell? ⟨pb, 6, none⟩ = some (.slice (some ⟨g, 0, none⟩) nb cap) ∧ W1.cell? ⟨pb, 7, none⟩ = some (.int .i64 k) ∧ W1.cell? ⟨pb, 1, none⟩ = some (.int .i64 model) ∧ W1.cell? ⟨eb, 0, none⟩ = some (.int .i64 j) ∧ W1.cell? ⟨eb, 1, none⟩ = some (.int .i64 v1)) ∧ pb < W1.heap.size ∧ eb < W1.heap.size) (by kernel_rfl) (HC2.out _ ⟨Nat.le_refl _, fun _ _ _ => rfl⟩) (fun hS => ?_)
      refine wpAnyH_take (i := 0) (v := .pointer (some ⟨pb, 3, none⟩)) rfl (by kernel_rfl) (by kernel_rfl) (by kernel_rfl) (fun _ _ _ h => h) (Or.inl ⟨by rfl, fun w hSw => by obtain ⟨⟨s1, s2, s3, s4, s5⟩, s6, s7⟩ := hSw; first | (go_simp; done) | (go_simp; with_reducible rfl)⟩) hS ?_
      simp only [Act.put, List.setIfInBounds_toArray, List.set_cons_zero, List.set_cons_succ]
      refine wpAnyH_take (i := 1) (v := .pointer (some ⟨pb, 6, none⟩)) rfl (by kernel_rfl) (by kernel_rfl) (by kernel_rfl) (fun _ _ _ h => h) (Or.inl ⟨by rfl, fun w hSw => by obtain ⟨⟨s1, s2, s3, s4, s5⟩, s6, s7⟩ := hSw; first | (go_simp; done) | (go_simp; with_reducible rfl)⟩) hS ?_
      simp only [Act.put, List.setIfInBounds_toArray, List.set_cons_zero, List.set_cons_succ]
      refine wpAnyH_take (i := 2) (v := .slice (some ⟨g, 0, none⟩) nb cap) rfl (by kernel_rfl) (by kernel_rfl) (by kernel_rfl) (fun _ _ _ h => h) (Or.inl ⟨by rfl, fun w hSw => by obtain ⟨⟨s1, s2, s3, s4, s5⟩, s6, s7⟩ := hSw; first | (go_simp; done) | (go_simp; with_reducible rfl)⟩) hS ?_
      simp only [Act.put, List.setIfInBounds_toArray, List.set_cons_zero, List.set_cons_succ]
      refine wpAnyH_take (i := 3) (v := .pointer (some ⟨pb, 7, none⟩)) rfl (by kernel_rfl) (by kernel_rfl) (by kernel_rfl) (fun _ _ _ h => h) (Or.inl ⟨by rfl, fun w hSw => by obtain ⟨⟨s1, s2, s3, s4, s5⟩, s6, s7⟩ := hSw; first | (go_simp; done) | (go_simp; with_reducible rfl)⟩) hS ?_
      simp only [Act.put, List.setIfInBounds_toArray, List.set_cons_zero, List.set_cons_succ]
      refine wpAnyH_take (i := 4) (v := .int .i64 k) rfl (by kernel_rfl) (by kernel_rfl) (by kernel_rfl) (fun _ _ _ h => h) (Or.inl ⟨by rfl, fun w hSw => by obtain ⟨⟨s1, s2, s3, s4, s5⟩, s6, s7⟩ := hSw; first | (go_simp; done) | (go_simp; with_reducible rfl)⟩) hS ?_
      simp only [Act.put, List.setIfInBounds_toArray, List.set_cons_zero, List.set_cons_succ]
      refine wpAnyH_take (i := 5) (v := .pointer (some ⟨pb, 3, none⟩)) rfl (by kernel_rfl) (by kernel_rfl) (by kernel_rfl) (fun _ _ _ h => h) (Or.inl ⟨by rfl, fun w hSw => by obtain ⟨⟨s1, s2, s3, s4, s5⟩, s6, s7⟩ := hSw; first | (go_simp; done) | (go_simp; with_reducible rfl)⟩) hS ?_
      simp only [Act.put, List.setIfInBounds_toArray, List.set_cons_zero, List.set_cons_succ]
      refine wpAnyH_take (i := 6) (v := .pointer (some ⟨pb, 6, none⟩)) rfl (by kernel_rfl) (by kernel_rfl) (by kernel_rfl) (fun _ _ _ h => h) (Or.inl ⟨by rfl, fun w hSw => by obtain ⟨⟨s1, s2, s3, s4, s5⟩, s6, s7⟩ := hSw; first | (go_simp; done) | (go_simp; with_reducible rfl)⟩) hS ?_
      simp only [Act.put, List.setIfInBounds_toArray, List.set_cons_zero, List.set_cons_succ]
      refine wpAnyH_take (i := 7) (v := .slice (some ⟨g, 0, none⟩) nb cap) rfl (by kernel_rfl) (by kernel_rfl) (by kernel_rfl) (fun _ _ _ h => h) (Or.inl ⟨by rfl, fun w hSw => by obtain ⟨⟨s1, s2, s3, s4, s5⟩, s6, s7⟩ := hSw; first | (go_simp; done) | (go_simp; with_reducible rfl)⟩) hS ?_
      simp only [Act.put, List.setIfInBounds_toArray, List.set_cons_zero, List.set_cons_succ]
      refine wpAnyH_take (i := 8) (v := .pointer (some ⟨pb, 7, none⟩)) rfl (by kernel_rfl) (by kernel_rfl) (by kernel_rfl) (fun _ _ _ h => h) (Or.inl ⟨by rfl, fun w hSw => by obtain ⟨⟨s1, s2, s3, s4, s5⟩, s6, s7⟩ := hSw; first | (go_simp; done) | (go_simp; with_reducible rfl)⟩) hS ?_
      simp only [Act.put, List.setIfInBounds_toArray, List.set_cons_zero, List.set_cons_succ]
      refine wpAnyH_take (i := 9) (v := .int .i64 k) rfl (by kernel_rfl) (by kernel_rfl) (by kernel_rfl) (fun _ _ _ h => h) (Or.inl ⟨by rfl, fun w hSw => by obtain ⟨⟨s1, s2, s3, s4, s5⟩, s6, s7⟩ := hSw; first | (go_simp; done) | (go_simp; with_reducible rfl)⟩) hS ?_
      simp only [Act.put, List.setIfInBounds_toArray, List.set_cons_zero, List.set_cons_succ]
      refine wpAnyH_take (i := 10) (v := .pointer (some ⟨g, k, none⟩)) rfl (by kernel_rfl) (by kernel_rfl) (by kernel_rfl) (fun _ _ _ h => h) (Or.inl ⟨by rfl, fun w hSw => by obtain ⟨⟨s1, s2, s3, s4, s5⟩, s6, s7⟩ := hSw; first | (go_simp; done) | (go_simp; with_reducible rfl)⟩) hS ?_
      simp only [Act.put, List.setIfInBounds_toArray, List.set_cons_zero, List.set_cons_succ]
      refine wpAnyH_take (i := 12) (v := .pointer (some ⟨pb, 1, none⟩)) rfl (by kernel_rfl) (by kernel_rfl) (by kernel_rfl) (fun _ _ _ h => h) (Or.inl ⟨by rfl, fun w hSw => by obtain ⟨⟨s1, s2, s3, s4, s5⟩, s6, s7⟩ := hSw; first | (go_simp; done) | (go_simp; with_reducible rfl)⟩) hS ?_
      simp only [Act.put, List.setIfInBounds_toArray, List.set_cons_zero, List.set_cons_succ]
      refine wpAnyH_take (i := 13) (v := .int .i64 model) rfl (by kernel_rfl) (by kernel_rfl) (by kernel_rfl) (fun _ _ _ h => h) (Or.inl ⟨by rfl, fun w hSw => by obtain ⟨⟨s1, s2, s3, s4, s5⟩, s6, s7⟩ := hSw; first | (go_simp; done) | (go_simp; with_reducible rfl)⟩) hS ?_
      simp only [Act.put, List.setIfInBounds_toArray, List.set_cons_zero, List.set_cons_succ]
      refine wpAnyH_take (i := 14) (v := .agg #[.int .i64 j, .int .i64 v1]) rfl (by kernel_rfl) (by kernel_rfl) (by kernel_rfl) (fun _ _ _ h => h) (Or.inl ⟨by rfl, fun w hSw => by obtain ⟨⟨s1, s2, s3, s4, s5⟩, s6, s7⟩ := hSw; first | (go_simp; done) | (go_simp; with_reducible rfl)⟩) hS ?_
      simp only [Act.put, List.setIfInBounds_toArray, List.set_cons_zero, List.set_cons_succ]
      refine wpAnyH_ready (rs := [11]) (by kernel_rfl) (by simp) ?_
      refine AllReadyH.cons rfl (fun K hK => ?_) AllReadyH.nil
      have hc2 : Wf.drew.cell? ⟨g, k, none⟩ = some (c.buf[k]).2 := hc
      go_simp
      refine hK.out _ _ (HC2.out _ ⟨Nat.le_refl _, fun _ _ _ => rfl⟩) (fun hS => ?_)
      clear hK K
      refine wpAnyH_ready (rs := [15]) (by kernel_rfl) (by simp) ?_
      refine AllReadyH.cons rfl (fun K hK => ?_) AllReadyH.nil
      go_simp
      go_wp2_with (fail)
      refine HP1.out.mono ?_
      rintro e wn ⟨v', rfl, ow, bn⟩
      have SN1 := Lib.hid (SN.out wn bn)
      have LN := Lib.hid (LF.out.drew.trans (bn.mono LF.out.drew.size))
      have OW : Hid (OwnE wn B v' (pushL (c.buf[k]).1 model (j, v1))) := Lib.hid (own_base ow HSZ.out)
      obtain ⟨av, cv, rfl, _⟩ := own_shape' ow
      obtain ⟨g', cap', hxb', hg', hl', hc', hf', hst'⟩ := SN1.out.bufAt k hk2
      rw [HXB.out] at hxb'
      injection hxb' with ha _ _
      injection ha with ha
      injection ha with ha _
      subst ha
      have HST := Lib.hid (hst' _ _ OW.out)
      have KN1 : Kp N Wf wn := ⟨bn.size, fun g _ hl => bn.block g hl⟩
      go_wp2_with (fail)
      refine hK.out _ _ (HC2.out _ KN1) (fun hS => ?_)
      clear hK K
      refine wpAnyH_ready (rs := [16]) (by kernel_rfl) (by simp) ?_
      refine AllReadyH.cons rfl (fun K hK => ?_) AllReadyH.nil
      go_simp
      refine hK.out _ _ (HC2.out _ KN1) (fun hS => ?_)
      clear hK K
      refine wpAnyH_ready (rs := [17]) (by kernel_rfl) (by simp) ?_
      refine AllReadyH.cons rfl (fun K hK => ?_) AllReadyH.nil
      go_simp
      refine hK.out _ _ (HC2.out _ (KN1.trans HST.out.2.k)) (fun hS => ?_)
      clear hK K
      refine wpAnyH_done (by kernel_rfl) ?_ _
      go_wp2
      exact bodyPost_end (v := .tuple #[]) (by simp [results, Tryz.results80, go_sem]) rfl ⟨rfl, ⟨.slice av (pushL (c.buf[k]).1 model (j, v1)).length cv, by unfold stoC; rw [if_neg H1.out, HG.out]; exact HST.out.1⟩, (Fr.belowN LN.out (Nat.le_refl _) HBN.out).trans HST.out.2⟩
end Go.Proofs.YtacbanfnakgecaaGreat
