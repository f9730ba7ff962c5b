/- The reference's parser of programs: name, number, fault. -/
import Derived.Test.YtlpgafgiljffhaaGreatDoorGk
namespace Go.Proofs.YtlpgafgiljffhaaGreatDoor
open Go.RowKit
set_option linter.unusedSimpArgs false
set_option linter.unusedVariables false
section
variable {w : World} {b : Nat} {l : List Tok} {v : Value} {q : Pq}
set_option maxRecDepth 100000 in
set_option maxHeartbeats 4000000 in
theorem sname_any (h : Rs w b l v q) :
    Calls Tryz.prog 55 #[.pointer (some ⟨b, 0, none⟩)] w fun e w' => e = .returned (.string (rnmP l q).1) ∧ Rs w' b l v (rnmP l q).2 ∧ Keep b w w' := by
  obtain ⟨ad, cap, rfl⟩ := h.shape
  obtain ⟨c0, c1, c2, c3⟩ := h.cells
  have lb := h.bk.lt
  have H := Lib.hid h
  have HW := Lib.hid fun (W : World) (hW : Rs W b l (.slice ad l.length cap) q) => swrong_any hW
  clear h
  by_cases hk : q.k = 0
  · have e1 : ((q.k : Int) == 0) = true := by rw [hk]; rfl
    obtain ⟨r, hr⟩ : ∃ r, nmAt l q.n = r := ⟨_, rfl⟩
    have HI := Lib.hid fun (W : World) (hW : Rs W b l (.slice ad l.length cap) q) => rnameAt_any l (.slice ad l.length cap) q.n W hW.cx r hr
    cases r
    · have HR : Hid (rnmP l q = (⟨#[]⟩, wrP l q)) := Lib.hid (by unfold rnmP; rw [if_neg (fun hh => by rw [hr] at hh; exact absurd hh.2 (by decide))])
      clear hk hr
      go_enter Tryz.func55, Tryz.ntmps55
      go_wp2_with fail
      go_region_law (go_simp; go_at_call 84; (refine Calls.mono (HI.out _ (H.out.below (below_drewN (Below.refl _ _) 1))) ?_); rintro e wn ⟨rfl, bn⟩; have HN := Lib.hid ((H.out.below (below_drewN (Below.refl _ _) 1)).below bn); have KN := Lib.hid (Below.keep (b := b) ((below_drewN (Below.refl w.heap.size w) 1).trans (bn.mono (Nat.le_refl _)))))
      all_goals
        go_wp2_with fail
        refine (HW.out _ HN.out).mono ?_
        rintro e w2 ⟨rfl, h2, k2⟩
        have H2 := Lib.hid h2
        have K2 := Lib.hid (KN.out.trans k2)
        clear h2 k2
        go_wp2_with fail
        go_ret
        rw [HR.out]
        exact ⟨rfl, H2.out, K2.out⟩
    · have HR : Hid (rnmP l q = (txt l q.n, ⟨q.n + 1, q.k, q.a⟩)) := Lib.hid (by unfold rnmP; rw [if_pos ⟨hk, hr⟩])
      have hlt := nmAt_lt hr
      have HLT := Lib.hid hlt
      have e4 : IntKind.i64.wrap ((q.n : Int) + 1) = (q.n : Int) + 1 := IntWalk.i64_in _ (by have := H.out.hn; omega)
      have E5 : Hid (wrap64 (q.n : Int) = (q.n : Int)) := Lib.hid (IntWalk.wrap64_in _ (by have := H.out.hn; omega))
      clear hk hr hlt
      go_enter Tryz.func55, Tryz.ntmps55
      go_wp2_with fail
      go_region_law (go_simp; go_at_call 84; (refine Calls.mono (HI.out _ (H.out.below (below_drewN (Below.refl _ _) 1))) ?_); rintro e wn ⟨rfl, bn⟩; have HN := Lib.hid ((H.out.below (below_drewN (Below.refl _ _) 1)).below bn); have KN := Lib.hid (Below.keep (b := b) ((below_drewN (Below.refl w.heap.size w) 1).trans (bn.mono (Nat.le_refl _)))))
      all_goals
        obtain ⟨d0, d1, d2, d3⟩ := HN.out.cells
        obtain ⟨f1, f2, f3⟩ := HN.out.fz
        have lb := HN.out.bk.lt
        have HE := Lib.hid (HN.out.setN (q.n + 1) ((q.n : Int) + 1) (by omega))
        have KE := Lib.hid (KN.out.setCell 1 (.int .i64 ((q.n : Int) + 1)))
        go_wp2_with fail
        generalize World.setCell _ _ _ = w5 at HE KE ⊢
        clear d0 d1 d2 d3 f1 f2 f3 c0 c1 c2 c3 e4
        obtain ⟨c0, c1, c2, c3⟩ := HE.out.cells
        obtain ⟨g, rfl, _, hg, k0, k1, _, _⟩ := HE.out.tok q.n HLT.out
        have hlt := HLT.out
        have e2 : (0 : Int) ≤ (q.n : Int) := by omega
        have e3 : (q.n : Int) < (l.length : Int) := by omega
        have e5 := E5.out
        have c1' : w5.cell? ⟨b, 1, none⟩ = some (.int .i64 ((q.n : Int) + 1)) := c1
        clear c1
        go_quiet (fail)
        go_wp2_with fail
        go_ret
        rw [HR.out]
        exact ⟨rfl, HE.out.below (below_drewN (Below.refl _ _) nq), KE.out.trans (Below.keep (below_drewN (Below.refl _ _) nq))⟩
  · have e1 : ((q.k : Int) == 0) = false := by rw [beq_eq_false_iff_ne]; omega
    have HR : Hid (rnmP l q = (⟨#[]⟩, wrP l q)) := Lib.hid (by unfold rnmP; rw [if_neg (fun hh => hk hh.1)])
    clear hk
    go_enter Tryz.func55, Tryz.ntmps55
    go_wp2_with fail
    go_quiet (fail)
    have HN := Lib.hid (H.out.below (below_drewN (Below.refl _ _) nq))
    have KN := Lib.hid (Below.keep (b := b) (below_drewN (Below.refl _ w) nq))
    generalize w.drewN nq = wd at HN KN ⊢
    go_wp2_with fail
    refine (HW.out wd HN.out).mono ?_
    rintro e w2 ⟨rfl, h2, k2⟩
    have H2 := Lib.hid h2
    have K2 := Lib.hid (KN.out.trans k2)
    clear h2 k2
    go_wp2_with fail
    go_ret
    rw [HR.out]
    exact ⟨rfl, H2.out, K2.out⟩

set_option maxRecDepth 100000 in
set_option maxHeartbeats 4000000 in
theorem snumber_any (h : Rs w b l v q) :
    Calls Tryz.prog 53 #[.pointer (some ⟨b, 0, none⟩)] w fun e w' => e = .returned (.int .i64 ((rnuP l q).1 : Nat)) ∧ Rs w' b l v (rnuP l q).2 ∧ Keep b w w' := by
  obtain ⟨ad, cap, rfl⟩ := h.shape
  obtain ⟨c0, c1, c2, c3⟩ := h.cells
  have lb := h.bk.lt
  have H := Lib.hid h
  have HW := Lib.hid fun (W : World) (hW : Rs W b l (.slice ad l.length cap) q) => swrong_any hW
  clear h
  by_cases hk : q.k = 0
  · have e1 : ((q.k : Int) == 0) = true := by rw [hk]; rfl
    by_cases hlt : q.n < l.length
    · obtain ⟨g, rfl, _, hg, k0, _, k2, _⟩ := H.out.tok q.n hlt
      have e2 : (0 : Int) ≤ (q.n : Int) := by omega
      have e3 : (q.n : Int) < (l.length : Int) := by omega
      by_cases h1 : (tokO l q.n).1 = 2
      · have HR : Hid (rnuP l q = ((tokO l q.n).2.2.1, ⟨q.n + 1, q.k, q.a⟩)) := Lib.hid (by unfold rnuP; rw [if_pos ⟨hk, h1⟩])
        have HLT := Lib.hid hlt
        have e4 : (((tokO l q.n).1 : Nat) == (2 : Int)) = true := by rw [h1]; rfl
        have e5 : IntKind.i64.wrap ((q.n : Int) + 1) = (q.n : Int) + 1 := IntWalk.i64_in _ (by have := H.out.hn; omega)
        have E5 : Hid (wrap64 (q.n : Int) = (q.n : Int)) := Lib.hid (IntWalk.wrap64_in _ (by have := H.out.hn; omega))
        generalize (tokO l q.n).1 = tk at k0 e4
        clear hk hlt h1 k2
        go_enter Tryz.func53, Tryz.ntmps53
        go_wp2_with fail
        go_quiet (fail)
        have HN := Lib.hid (H.out.below (below_drewN (Below.refl _ _) nq))
        have KN := Lib.hid (Below.keep (b := b) (below_drewN (Below.refl _ w) nq))
        generalize w.drewN nq = wd at HN KN ⊢
        clear c0 c1 c2 c3 k0 hg lb
        obtain ⟨d0, d1, d2, d3⟩ := HN.out.cells
        obtain ⟨f1, f2, f3⟩ := HN.out.fz
        have lb := HN.out.bk.lt
        have HE := Lib.hid (HN.out.setN (q.n + 1) ((q.n : Int) + 1) (by omega))
        have KE := Lib.hid (KN.out.setCell 1 (.int .i64 ((q.n : Int) + 1)))
        go_wp2_with fail
        generalize World.setCell _ _ _ = w5 at HE KE ⊢
        clear d0 d1 d2 d3 f1 f2 f3 e4 e5
        obtain ⟨c0, c1, c2, c3⟩ := HE.out.cells
        obtain ⟨g', hge, _, hg, _, _, k2, _⟩ := HE.out.tok q.n HLT.out
        injection hge with hge
        injection hge with hge _ _
        subst hge
        have hlt := HLT.out
        have e5 := E5.out
        have c1' : w5.cell? ⟨b, 1, none⟩ = some (.int .i64 ((q.n : Int) + 1)) := c1
        clear c1
        go_quiet (fail)
        go_wp2_with fail
        go_ret
        rw [HR.out]
        exact ⟨rfl, HE.out.below (below_drewN (Below.refl _ _) nq), KE.out.trans (Below.keep (below_drewN (Below.refl _ _) nq))⟩
      · have HR : Hid (rnuP l q = (0, wrP l q)) := Lib.hid (by unfold rnuP; rw [if_neg (fun hh => h1 hh.2)])
        have e4 : (((tokO l q.n).1 : Nat) == (2 : Int)) = false := by rw [beq_eq_false_iff_ne]; omega
        generalize (tokO l q.n).1 = tk at k0 e4
        clear hk hlt h1 k2
        go_enter Tryz.func53, Tryz.ntmps53
        go_wp2_with fail
        go_quiet (fail)
        have HN := Lib.hid (H.out.below (below_drewN (Below.refl _ _) nq))
        have KN := Lib.hid (Below.keep (b := b) (below_drewN (Below.refl _ w) nq))
        generalize w.drewN nq = wd at HN KN ⊢
        go_wp2_with fail
        refine (HW.out wd HN.out).mono ?_
        rintro e w2 ⟨rfl, h2, k2⟩
        have H2 := Lib.hid h2
        have K2 := Lib.hid (KN.out.trans k2)
        clear h2 k2
        go_wp2_with fail
        go_ret
        rw [HR.out]
        exact ⟨rfl, H2.out, K2.out⟩
    · have e3 : ¬ (q.n : Int) < (l.length : Int) := by omega
      have HR : Hid (rnuP l q = (0, wrP l q)) := Lib.hid (by
        have : (tokO l q.n).1 = 0 := by unfold tokO; rw [List.getElem?_eq_none (by omega)]; rfl
        unfold rnuP; rw [if_neg (fun hh => by rw [this] at hh; exact absurd hh.2 (by decide))])
      have e5 : decide (q.n < l.length) = false := decide_eq_false hlt
      clear hk
      go_enter Tryz.func53, Tryz.ntmps53
      go_wp2_with fail
      go_quiet (fail)
      have HN := Lib.hid (H.out.below (below_drewN (Below.refl _ _) nq))
      have KN := Lib.hid (Below.keep (b := b) (below_drewN (Below.refl _ w) nq))
      generalize w.drewN nq = wd at HN KN ⊢
      go_wp2_with fail
      refine (HW.out wd HN.out).mono ?_
      rintro e w2 ⟨rfl, h2, k2⟩
      have H2 := Lib.hid h2
      have K2 := Lib.hid (KN.out.trans k2)
      clear h2 k2
      go_wp2_with fail
      go_ret
      rw [HR.out]
      exact ⟨rfl, H2.out, K2.out⟩
  · have e1 : ((q.k : Int) == 0) = false := by rw [beq_eq_false_iff_ne]; omega
    have HR : Hid (rnuP l q = (0, wrP l q)) := Lib.hid (by unfold rnuP; rw [if_neg (fun hh => hk hh.1)])
    clear hk
    go_enter Tryz.func53, Tryz.ntmps53
    go_wp2_with fail
    go_quiet (fail)
    have HN := Lib.hid (H.out.below (below_drewN (Below.refl _ _) nq))
    have KN := Lib.hid (Below.keep (b := b) (below_drewN (Below.refl _ w) nq))
    generalize w.drewN nq = wd at HN KN ⊢
    go_wp2_with fail
    refine (HW.out wd HN.out).mono ?_
    rintro e w2 ⟨rfl, h2, k2⟩
    have H2 := Lib.hid h2
    have K2 := Lib.hid (KN.out.trans k2)
    clear h2 k2
    go_wp2_with fail
    go_ret
    rw [HR.out]
    exact ⟨rfl, H2.out, K2.out⟩

set_option maxRecDepth 100000 in
set_option maxHeartbeats 4000000 in
theorem sfault_any (k a : Nat) (h : Rs w b l v q) :
    Calls Tryz.prog 86 #[.pointer (some ⟨b, 0, none⟩), .int .i64 k, .int .i64 a] w fun e w' => e = .returned (.tuple #[]) ∧ Rs w' b l v (faP q k a) ∧ Keep b w w' := by
  obtain ⟨ad, cap, rfl⟩ := h.shape
  obtain ⟨c0, c1, c2, c3⟩ := h.cells
  obtain ⟨f1, f2, f3⟩ := h.fz
  have lb := h.bk.lt
  have H := Lib.hid h
  clear h
  by_cases hk : q.k = 0 ∧ k ≠ 0
  · have e1 : ((q.k : Int) == 0) = true := by rw [hk.1]; rfl
    have e2 : ((k : Int) != 0) = true := by rw [bne_iff_ne]; omega
    have HR : Hid (faP q k a = ⟨q.n, k, a⟩) := Lib.hid (by unfold faP; rw [if_pos hk])
    have HE := Lib.hid (H.out.setKA k a (k : Int) (a : Int) rfl rfl)
    have KE := Lib.hid (((Keep.refl b w).setCell 2 (.int .i64 (k : Int))).setCell 3 (.int .i64 (a : Int)))
    clear hk
    go_enter Tryz.func86, Tryz.ntmps86
    go_wp2_with fail
    exact bodyPost_end (v := .tuple #[]) (by simp [results, Tryz.results86, go_sem]) rfl ⟨rfl, by rw [HR.out]; exact HE.out, KE.out⟩
  · have HR : Hid (faP q k a = q) := Lib.hid (by unfold faP; rw [if_neg hk])
    by_cases h0 : q.k = 0
    · have e1 : ((q.k : Int) == 0) = true := by rw [h0]; rfl
      have e2 : ((k : Int) != 0) = false := by rw [bne_eq_false_iff_eq]; omega
      clear hk h0
      go_enter Tryz.func86, Tryz.ntmps86
      go_wp2_with fail
      exact bodyPost_end (v := .tuple #[]) (by simp [results, Tryz.results86, go_sem]) rfl ⟨rfl, by rw [HR.out]; exact H.out, Keep.refl _ _⟩
    · have e1 : ((q.k : Int) == 0) = false := by rw [beq_eq_false_iff_ne]; omega
      clear hk h0
      go_enter Tryz.func86, Tryz.ntmps86
      go_wp2_with fail
      exact bodyPost_end (v := .tuple #[]) (by simp [results, Tryz.results86, go_sem]) rfl ⟨rfl, by rw [HR.out]; exact H.out, Keep.refl _ _⟩

end

end Go.Proofs.YtlpgafgiljffhaaGreatDoor
