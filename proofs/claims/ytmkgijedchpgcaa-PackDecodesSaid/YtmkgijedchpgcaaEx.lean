/- Layer 12's law: known. -/
import Derived.Test.YtmkgijedchpgcaaEw
import Derived.Test.YtmkgijedchpgcaaEt
import Derived.Test.YtmkgijedchpgcaaEk
import Derived.Test.YtmkgijedchpgcaaVh
import Derived.Test.YtmkgijedchpgcaaWa
import Derived.Test.YtmkgijedchpgcaaUp
namespace Go.Proofs.Ytmkgijedchpgcaa
set_option linter.unusedSimpArgs false
set_option linter.unusedVariables false
open Go.RowKit

def unitK (v : Value) : Un := ⟨4, [1], [1], [(codeU, v)]⟩
def pfK0 : Pf := ⟨[0], [[3]], [1], [[]]⟩
theorem unitK_right (v : Value) : rightU (unitK v) = true := by rfl
theorem unitK_short (v : Value) : ShortU (unitK v) := by
  refine ⟨by simp [unitK], by simp [unitK], fun r hr => ?_⟩
  rw [show r = (codeU, v) from List.mem_singleton.1 hr]
  refine ⟨by simp [codeU], fun t ht => ?_⟩
  simp only [codeU, List.mem_cons, List.not_mem_nil, or_false] at ht
  rcases ht with rfl | rfl <;> exact ⟨by decide, by decide⟩
theorem unitK_start (v : Value) : startP (unitK v) = ⟨[0], [[0]], [1], [[]]⟩ := by rfl
theorem unitK_ok (v : Value) : rightZ (unitK v) pfK0 1 1 = true := by rfl
theorem unitK_nil (v : Value) : rightC (unitK v) nilC 1 1 = false := by rfl
theorem unitK_rp (v : Value) : RightP (unitK v) pfK0 1 1 := (rightZ_iff _ _ _ _).1 (unitK_ok v)
theorem encK : bytZ (encP pfK0) = ⟨#[0, 0, 3, 0, 1]⟩ := by rfl
theorem sizeK : sizeP pfK0 = 5 := by rfl
theorem decK (v : Value) : decZ (unitK v) ⟨#[0, 0, 3, 0, 1]⟩ 1 1 = some pfK0 := by
  rw [← encK]
  exact decZ_enc (unitK_rp v)
theorem decK_more (v : Value) : decZ (unitK v) ⟨#[0, 0, 3, 0, 1, 0]⟩ 1 1 = none :=
  decZ_more (unitK_rp v) _ [0] rfl (by simp)

theorem unitK_new (w : World) : Below w.heap.size w (((((w.alloc (.cells #[.int .i64 1] 3)).alloc (.cells #[.int .i64 1] 3)).alloc (.cells #[.int .i64 8, .int .i64 0, .int .i64 0, .slice none 0 0, .slice none 0 0, .bool false, .int .i64 0, .int .i64 22, .int .i64 0, .int .i64 0, .slice none 0 0, .slice none 0 0, .bool false, .int .i64 0] 53)).alloc (.cells #[.slice (some ⟨w.heap.size + 1 + 1, 0, none⟩) 2 2] 54)).alloc (.cells #[.int .i64 4, .slice (some ⟨w.heap.size, 0, none⟩) 1 1, .slice (some ⟨w.heap.size + 1, 0, none⟩) 1 1, .slice (some ⟨w.heap.size + 1 + 1 + 1, 0, none⟩) 1 1] 25)) ∧ Bk (((((w.alloc (.cells #[.int .i64 1] 3)).alloc (.cells #[.int .i64 1] 3)).alloc (.cells #[.int .i64 8, .int .i64 0, .int .i64 0, .slice none 0 0, .slice none 0 0, .bool false, .int .i64 0, .int .i64 22, .int .i64 0, .int .i64 0, .slice none 0 0, .slice none 0 0, .bool false, .int .i64 0] 53)).alloc (.cells #[.slice (some ⟨w.heap.size + 1 + 1, 0, none⟩) 2 2] 54)).alloc (.cells #[.int .i64 4, .slice (some ⟨w.heap.size, 0, none⟩) 1 1, .slice (some ⟨w.heap.size + 1, 0, none⟩) 1 1, .slice (some ⟨w.heap.size + 1 + 1 + 1, 0, none⟩) 1 1] 25)) (w.heap.size + 1 + 1 + 1 + 1) 25 #[.int .i64 4, .slice (some ⟨w.heap.size, 0, none⟩) 1 1, .slice (some ⟨w.heap.size + 1, 0, none⟩) 1 1, .slice (some ⟨w.heap.size + 1 + 1 + 1, 0, none⟩) 1 1] ∧
    UnD (((((w.alloc (.cells #[.int .i64 1] 3)).alloc (.cells #[.int .i64 1] 3)).alloc (.cells #[.int .i64 8, .int .i64 0, .int .i64 0, .slice none 0 0, .slice none 0 0, .bool false, .int .i64 0, .int .i64 22, .int .i64 0, .int .i64 0, .slice none 0 0, .slice none 0 0, .bool false, .int .i64 0] 53)).alloc (.cells #[.slice (some ⟨w.heap.size + 1 + 1, 0, none⟩) 2 2] 54)).alloc (.cells #[.int .i64 4, .slice (some ⟨w.heap.size, 0, none⟩) 1 1, .slice (some ⟨w.heap.size + 1, 0, none⟩) 1 1, .slice (some ⟨w.heap.size + 1 + 1 + 1, 0, none⟩) 1 1] 25)) (.slice (some ⟨w.heap.size, 0, none⟩) 1 1) (.slice (some ⟨w.heap.size + 1, 0, none⟩) 1 1) (.slice (some ⟨w.heap.size + 1 + 1 + 1, 0, none⟩) 1 1) (unitK (.slice (some ⟨w.heap.size + 1 + 1, 0, none⟩) 2 2)) := by
  have K0 := bk_up (bk_up (bk_up (bk_up (Bk.new w 3 #[.int .i64 1]) (.cells #[.int .i64 1] 3)) (.cells #[.int .i64 8, .int .i64 0, .int .i64 0, .slice none 0 0, .slice none 0 0, .bool false, .int .i64 0, .int .i64 22, .int .i64 0, .int .i64 0, .slice none 0 0, .slice none 0 0, .bool false, .int .i64 0] 53)) (.cells #[.slice (some ⟨w.heap.size + 1 + 1, 0, none⟩) 2 2] 54)) (.cells #[.int .i64 4, .slice (some ⟨w.heap.size, 0, none⟩) 1 1, .slice (some ⟨w.heap.size + 1, 0, none⟩) 1 1, .slice (some ⟨w.heap.size + 1 + 1 + 1, 0, none⟩) 1 1] 25)
  have K1 := bk_up (bk_up (bk_up (bk_here (w := (w.alloc (.cells #[.int .i64 1] 3))) (g := w.heap.size + 1) (T := 3) (cs := #[.int .i64 1]) (by simp only [alloc_size])) (.cells #[.int .i64 8, .int .i64 0, .int .i64 0, .slice none 0 0, .slice none 0 0, .bool false, .int .i64 0, .int .i64 22, .int .i64 0, .int .i64 0, .slice none 0 0, .slice none 0 0, .bool false, .int .i64 0] 53)) (.cells #[.slice (some ⟨w.heap.size + 1 + 1, 0, none⟩) 2 2] 54)) (.cells #[.int .i64 4, .slice (some ⟨w.heap.size, 0, none⟩) 1 1, .slice (some ⟨w.heap.size + 1, 0, none⟩) 1 1, .slice (some ⟨w.heap.size + 1 + 1 + 1, 0, none⟩) 1 1] 25)
  have K2 := bk_up (bk_up (bk_here (w := ((w.alloc (.cells #[.int .i64 1] 3)).alloc (.cells #[.int .i64 1] 3))) (g := w.heap.size + 1 + 1) (T := 53) (cs := #[.int .i64 8, .int .i64 0, .int .i64 0, .slice none 0 0, .slice none 0 0, .bool false, .int .i64 0, .int .i64 22, .int .i64 0, .int .i64 0, .slice none 0 0, .slice none 0 0, .bool false, .int .i64 0]) (by simp only [alloc_size])) (.cells #[.slice (some ⟨w.heap.size + 1 + 1, 0, none⟩) 2 2] 54)) (.cells #[.int .i64 4, .slice (some ⟨w.heap.size, 0, none⟩) 1 1, .slice (some ⟨w.heap.size + 1, 0, none⟩) 1 1, .slice (some ⟨w.heap.size + 1 + 1 + 1, 0, none⟩) 1 1] 25)
  have K3 := bk_up (bk_here (w := (((w.alloc (.cells #[.int .i64 1] 3)).alloc (.cells #[.int .i64 1] 3)).alloc (.cells #[.int .i64 8, .int .i64 0, .int .i64 0, .slice none 0 0, .slice none 0 0, .bool false, .int .i64 0, .int .i64 22, .int .i64 0, .int .i64 0, .slice none 0 0, .slice none 0 0, .bool false, .int .i64 0] 53))) (g := w.heap.size + 1 + 1 + 1) (T := 54) (cs := #[.slice (some ⟨w.heap.size + 1 + 1, 0, none⟩) 2 2]) (by simp only [alloc_size])) (.cells #[.int .i64 4, .slice (some ⟨w.heap.size, 0, none⟩) 1 1, .slice (some ⟨w.heap.size + 1, 0, none⟩) 1 1, .slice (some ⟨w.heap.size + 1 + 1 + 1, 0, none⟩) 1 1] 25)
  have K4 := bk_here (w := ((((w.alloc (.cells #[.int .i64 1] 3)).alloc (.cells #[.int .i64 1] 3)).alloc (.cells #[.int .i64 8, .int .i64 0, .int .i64 0, .slice none 0 0, .slice none 0 0, .bool false, .int .i64 0, .int .i64 22, .int .i64 0, .int .i64 0, .slice none 0 0, .slice none 0 0, .bool false, .int .i64 0] 53)).alloc (.cells #[.slice (some ⟨w.heap.size + 1 + 1, 0, none⟩) 2 2] 54))) (g := w.heap.size + 1 + 1 + 1 + 1) (T := 25) (cs := #[.int .i64 4, .slice (some ⟨w.heap.size, 0, none⟩) 1 1, .slice (some ⟨w.heap.size + 1, 0, none⟩) 1 1, .slice (some ⟨w.heap.size + 1 + 1 + 1, 0, none⟩) 1 1]) (by simp only [alloc_size])
  refine ⟨bel_up (bel_up (bel_up (bel_up (bel_up (Below.refl _ _) _) _) _) _) _, K4, ⟨?_, ?_, ?_⟩⟩
  · exact intsD_of_bk (xs := [1]) K0 rfl (by decide)
  · exact intsD_of_bk (xs := [1]) K1 rfl (by decide)
  · refine codD_of_bk (xs := [(codeU, .slice (some ⟨w.heap.size + 1 + 1, 0, none⟩) 2 2)]) K3 rfl (by simp) fun t ht => ?_
    rw [List.mem_singleton.1 ht]
    refine insD_of_bk (xs := codeU) K2 rfl (by decide) fun t ht => ?_
    simp only [codeU, List.mem_cons, List.not_mem_nil, or_false] at ht
    rcases ht with rfl | rfl <;> exact ⟨SlD.nil, SlD.nil⟩

attribute [local go_sem ↓] Go.wp_at_zero Go.wp_at_succ
set_option maxRecDepth 100000 in
set_option maxHeartbeats 16000000 in
theorem known12_any (w : World) :
    Calls Try.prog 9 #[] w fun e w' => e = .returned (.bool true) ∧ Below w.heap.size w w' := by
  go_enter Try.func9, Try.ntmps9
  go_wp2_with fail
  obtain ⟨L5, KU5, DU5⟩ := unitK_new w
  generalize ((((w.alloc _).alloc _).alloc _).alloc _).alloc _ = w5 at L5 KU5 DU5 ⊢
  obtain ⟨vi, hvi⟩ : ∃ v, v = Value.slice (some ⟨w.heap.size, 0, none⟩) 1 1 := ⟨_, rfl⟩
  obtain ⟨vr, hvr⟩ : ∃ v, v = Value.slice (some ⟨w.heap.size + 1, 0, none⟩) 1 1 := ⟨_, rfl⟩
  obtain ⟨vc, hvc⟩ : ∃ v, v = Value.slice (some ⟨w.heap.size + 1 + 1 + 1, 0, none⟩) 1 1 := ⟨_, rfl⟩
  obtain ⟨vk, hvk⟩ : ∃ v, v = Value.slice (some ⟨w.heap.size + 1 + 1, 0, none⟩) 2 2 := ⟨_, rfl⟩
  obtain ⟨gu, hgu⟩ : ∃ g, g = w.heap.size + 1 + 1 + 1 + 1 := ⟨_, rfl⟩
  rw [← hvk] at DU5
  rw [← hvi, ← hvr, ← hvc] at KU5 DU5 ⊢
  rw [← hgu] at KU5 ⊢
  have B := Lib.hid L5
  have L5S := Lib.hid L5.size
  have KUL : Hid (gu < w5.heap.size) := Lib.hid KU5.lt
  have KU := Lib.hid KU5
  have DU := Lib.hid DU5
  clear hvi hvr hvc hvk hgu L5 KU5 DU5
  refine (rstart_dj (unitK vk) vi vr vc w5 DU.out (unitK_short vk) (unitK_right vk)).mono ?_
  rintro e w6 ⟨c0, xp, xr, xm, xb, rfl, o6, p6, b6, d6⟩
  rw [unitK_start] at p6
  have B6 := Lib.hid (B.out.trans (b6.mono B.out.size))
  have DU6 := Lib.hid (DU.out.below b6)
  have KU6 := Lib.hid (KU.out.below b6)
  have S6 := Lib.hid (St.of o6 d6 b6.size)
  have BS6 := Lib.hid b6
  have P6 := Lib.hid p6
  obtain ⟨a0, n0, a1, n1, a2, n2, a3, n3, rfl, rfl, rfl, rfl⟩ := o6.shapes
  have hl : c0.pc.length = 1 ∧ c0.regs.length = 1 ∧ c0.mem.length = 1 ∧ c0.buf.length = 1 := by
    unfold Cf.pf at p6
    simp only [Pf.mk.injEq] at p6
    obtain ⟨h1, h2, h3, h4⟩ := p6
    have h2' := congrArg List.length h2
    have h4' := congrArg List.length h4
    rw [List.length_map] at h2' h4'
    exact ⟨by rw [h1]; rfl, h2', by rw [h3]; rfl, h4'⟩
  rw [hl.1, hl.2.1, hl.2.2.1, hl.2.2.2] at S6 ⊢
  have KU0 := Lib.hid KU.out
  have DU0 := Lib.hid DU.out
  clear o6 p6 b6 d6 hl B DU KU
  have hcr : 0 < c0.pf.regs.length := by rw [P6.out]; exact Nat.zero_lt_one
  have hcj : 0 < (c0.pf.regs.getD 0 []).length := by rw [P6.out]; exact Nat.zero_lt_one
  obtain ⟨g1, g, mr, cr, u, rfl, _, h1, h2, h3, h4, h5, h6, h7, h8, _, h9⟩ := S6.out.putReg 0 hcr 0 hcj
  obtain ⟨c1, h10, h11, h12⟩ := h9 3
  have P8 : Hid (c1.pf = pfK0) := Lib.hid (by rw [h10, P6.out]; rfl)
  have FR := Lib.hid h12
  have S8 := Lib.hid h11
  obtain ⟨uc0, uc1, uc2, uc3, ucl⟩ := bk4 KU6.out
  have hne1 : ¬ gu = g := by have := h4; have := KUL.out; omega
  have hne2 : ¬ g = gu := fun e => hne1 e.symm
  have B7 := Lib.hid (bal (B6.out.trans (h12.b.mono L5S.out)) (.cells #[.slice a0 1 n0, .slice (some ⟨g1, 0, none⟩) 1 n1, .slice a2 1 n2, .slice a3 1 n3] 29))
  have S9 := Lib.hid (h11.below (bal (Below.refl _ _) (.cells #[.slice a0 1 n0, .slice (some ⟨g1, 0, none⟩) 1 n1, .slice a2 1 n2, .slice a3 1 n3] 29)))
  have BF := Lib.hid ((BS6.out.trans h12.b).trans ((bal (Below.refl _ _) (.cells #[.slice a0 1 n0, .slice (some ⟨g1, 0, none⟩) 1 n1, .slice a2 1 n2, .slice a3 1 n3] 29)).mono (by rw [setCell_size]; exact S6.out.bn)))
  have KC : Hid (Bk ((w6.setCell ⟨g, 0, none⟩ (.int .i64 3)).alloc (.cells #[.slice a0 1 n0, .slice (some ⟨g1, 0, none⟩) 1 n1, .slice a2 1 n2, .slice a3 1 n3] 29)) w6.heap.size 29 #[.slice a0 1 n0, .slice (some ⟨g1, 0, none⟩) 1 n1, .slice a2 1 n2, .slice a3 1 n3]) := Lib.hid (by
    have h := Bk.new (w6.setCell ⟨g, 0, none⟩ (.int .i64 3)) 29 #[.slice a0 1 n0, .slice (some ⟨g1, 0, none⟩) 1 n1, .slice a2 1 n2, .slice a3 1 n3]
    rw [setCell_size] at h
    exact h)
  clear hcr hcj h9 h10 h11 h12 S6 P6 S8 FR
  have KU : Hid (Bk (World.alloc (w6.setCell ⟨g, 0, none⟩ (.int .i64 3)) (.cells #[.slice a0 1 n0, .slice (some ⟨g1, 0, none⟩) 1 n1, .slice a2 1 n2, .slice a3 1 n3] 29)) gu 25 #[.int .i64 4, vi, vr, vc]) := Lib.hid (KU0.out.below BF.out)
  have DU : Hid (UnD (World.alloc (w6.setCell ⟨g, 0, none⟩ (.int .i64 3)) (.cells #[.slice a0 1 n0, .slice (some ⟨g1, 0, none⟩) 1 n1, .slice a2 1 n2, .slice a3 1 n3] 29)) vi vr vc (unitK vk)) := Lib.hid (DU0.out.below BF.out)
  have DC : Hid (CfD (World.alloc (w6.setCell ⟨g, 0, none⟩ (.int .i64 3)) (.cells #[.slice a0 1 n0, .slice (some ⟨g1, 0, none⟩) 1 n1, .slice a2 1 n2, .slice a3 1 n3] 29)) (.slice a0 1 n0) (.slice (some ⟨g1, 0, none⟩) 1 n1) (.slice a2 1 n2) (.slice a3 1 n3) c1) := Lib.hid S9.out.data
  have BW := B7
  have HRP : Hid (RightP (unitK vk) c1.pf 1 1) := Lib.hid (by rw [P8.out]; exact unitK_rp vk)
  have HSH := Lib.hid (shortZ HRP.out)
  have HEC : Hid (bytZ (encP c1.pf) = ⟨#[0, 0, 3, 0, 1]⟩) := Lib.hid (by rw [P8.out]; exact encK)
  have HSU := Lib.hid (unitK_short vk)
  clear S9 BF B7 KU0 DU0 KU6 DU6 B6 BS6
  go_wp2_with fail
  clear h1 h2 h3 h4 h5 h6 h7 h8 uc0 uc1 uc2 uc3 ucl hne1 hne2
  generalize World.alloc (w6.setCell _ _) _ = w7 at KU KC DU DC BW ⊢
  obtain ⟨gc, hgc⟩ : ∃ gc, gc = w6.heap.size := ⟨_, rfl⟩
  rw [← hgc] at KC ⊢
  clear hgc
  refine (pencode_any (unitK vk) c1 1 1 _ _ _ _ _ _ _ w7 DU.out DC.out HSU.out HSH.out true ((rightC_iff _ _ _ _).2 HRP.out)).mono ?_
  rintro e w8 ⟨rfl, b⟩
  rw [if_pos rfl, if_pos rfl, HEC.out]
  replace KU := Lib.hid (KU.out.below b)
  replace KC := Lib.hid (KC.out.below b)
  replace DU := Lib.hid (DU.out.below b)
  replace DC := Lib.hid (DC.out.below b)
  replace BW := Lib.hid (BW.out.trans (b.mono BW.out.size))
  obtain ⟨uc0, uc1, uc2, uc3, ucl⟩ := bk4 KU.out
  obtain ⟨cc0, cc1, cc2, cc3, ccl⟩ := bk4 KC.out
  go_wp2_with fail
  clear uc0 uc1 uc2 uc3 ucl cc0 cc1 cc2 cc3 ccl
  refine (pdecode_some (unitK vk) _ 1 1 pfK0 _ _ _ w8 DU.out HSU.out (by decide) (decK vk)).mono ?_
  rintro e w9 ⟨dv, yp, yr, ym, yb, rfl, od, pd, b⟩
  replace KU := Lib.hid (KU.out.below b)
  replace KC := Lib.hid (KC.out.below b)
  replace DU := Lib.hid (DU.out.below b)
  replace DC := Lib.hid (DC.out.below b)
  replace BW := Lib.hid (BW.out.trans (b.mono BW.out.size))
  obtain ⟨z0, m0, z1, m1, z2, m2, z3, m3, rfl, rfl, rfl, rfl⟩ := od.shapes
  have DD := Lib.hid (od.data.below (bal (Below.refl _ _) (.cells #[.slice z0 dv.pc.length m0, .slice z1 dv.regs.length m1, .slice z2 dv.mem.length m2, .slice z3 dv.buf.length m3] 29)))
  have PD := Lib.hid pd
  have KD : Hid (Bk (w9.alloc (.cells #[.slice z0 dv.pc.length m0, .slice z1 dv.regs.length m1, .slice z2 dv.mem.length m2, .slice z3 dv.buf.length m3] 29)) w9.heap.size 29 #[.slice z0 dv.pc.length m0, .slice z1 dv.regs.length m1, .slice z2 dv.mem.length m2, .slice z3 dv.buf.length m3]) := Lib.hid (Bk.new _ _ _)
  have BA : Hid (Below w9.heap.size w9 (w9.alloc (.cells #[.slice z0 dv.pc.length m0, .slice z1 dv.regs.length m1, .slice z2 dv.mem.length m2, .slice z3 dv.buf.length m3] 29))) := Lib.hid (bal (Below.refl _ _) _)
  obtain ⟨uc0, uc1, uc2, uc3, ucl⟩ := bk4 KU.out
  obtain ⟨cc0, cc1, cc2, cc3, ccl⟩ := bk4 KC.out
  clear od pd b
  have hcat : (⟨#[0, 0, 3, 0, 1]⟩ : ByteArray) ++ ⟨#[0]⟩ = ⟨#[0, 0, 3, 0, 1, 0]⟩ := by decide
  go_wp2_with fail
  clear uc0 uc1 uc2 uc3 ucl cc0 cc1 cc2 cc3 ccl
  have b := BA.out
  replace KU := Lib.hid (KU.out.below b)
  replace KC := Lib.hid (KC.out.below b)
  replace DU := Lib.hid (DU.out.below b)
  replace DC := Lib.hid (DC.out.below b)
  replace BW := Lib.hid (BW.out.trans (b.mono BW.out.size))
  generalize World.alloc w9 _ = wa at KU KC DU DC BW DD KD ⊢
  obtain ⟨gd, hgd⟩ : ∃ gd, gd = w9.heap.size := ⟨_, rfl⟩
  rw [← hgd] at KD ⊢
  clear hgd BA b hcat
  refine (pdecode_none (unitK vk) _ 1 1 _ _ _ wa DU.out HSU.out (by decide) (decK_more vk)).mono ?_
  rintro e wb ⟨rfl, b⟩
  replace KU := Lib.hid (KU.out.below b)
  replace KC := Lib.hid (KC.out.below b)
  replace DU := Lib.hid (DU.out.below b)
  replace DC := Lib.hid (DC.out.below b)
  replace DD := Lib.hid (DD.out.below b)
  replace KD := Lib.hid (KD.out.below b)
  replace BW := Lib.hid (BW.out.trans (b.mono BW.out.size))
  have BA : Hid (Below wb.heap.size wb (wb.alloc (.cells #[.slice none 0 0, .slice none 0 0, .slice none 0 0, .slice none 0 0] 29))) := Lib.hid (bal (Below.refl _ _) _)
  obtain ⟨uc0, uc1, uc2, uc3, ucl⟩ := bk4 KU.out
  obtain ⟨cc0, cc1, cc2, cc3, ccl⟩ := bk4 KC.out
  clear b
  go_wp2_with fail
  clear uc0 uc1 uc2 uc3 ucl cc0 cc1 cc2 cc3 ccl
  have b := BA.out
  replace KU := Lib.hid (KU.out.below b)
  replace KC := Lib.hid (KC.out.below b)
  replace DU := Lib.hid (DU.out.below b)
  replace DC := Lib.hid (DC.out.below b)
  replace DD := Lib.hid (DD.out.below b)
  replace KD := Lib.hid (KD.out.below b)
  replace BW := Lib.hid (BW.out.trans (b.mono BW.out.size))
  generalize World.alloc wb _ = wc at KU KC DU DC BW DD KD ⊢
  clear BA b
  refine (pencode_any (unitK vk) nilC 1 1 _ _ _ _ _ _ _ wc DU.out (nilC_data wc) HSU.out nilC_short false (unitK_nil vk)).mono ?_
  rintro e wd ⟨rfl, b⟩
  replace KU := Lib.hid (KU.out.below b)
  replace KC := Lib.hid (KC.out.below b)
  replace DU := Lib.hid (DU.out.below b)
  replace DC := Lib.hid (DC.out.below b)
  replace DD := Lib.hid (DD.out.below b)
  replace KD := Lib.hid (KD.out.below b)
  replace BW := Lib.hid (BW.out.trans (b.mono BW.out.size))
  obtain ⟨uc0, uc1, uc2, uc3, ucl⟩ := bk4 KU.out
  obtain ⟨cc0, cc1, cc2, cc3, ccl⟩ := bk4 KC.out
  obtain ⟨dc0, dc1, dc2, dc3, dcl⟩ := bk4 KD.out
  clear b
  go_wp2_with fail
  clear uc0 uc1 uc2 uc3 ucl cc0 cc1 cc2 cc3 ccl
  clear dc0 dc1 dc2 dc3 dcl
  refine (csame_any c1 dv _ _ _ _ _ _ _ _ wd DC.out DD.out HSH.out true (by rw [sameC_pf, P8.out, PD.out]; exact decide_eq_true rfl)).mono ?_
  rintro e we ⟨rfl, b⟩
  replace KU := Lib.hid (KU.out.below b)
  replace KC := Lib.hid (KC.out.below b)
  replace DU := Lib.hid (DU.out.below b)
  replace DC := Lib.hid (DC.out.below b)
  replace DD := Lib.hid (DD.out.below b)
  replace KD := Lib.hid (KD.out.below b)
  replace BW := Lib.hid (BW.out.trans (b.mono BW.out.size))
  obtain ⟨uc0, uc1, uc2, uc3, ucl⟩ := bk4 KU.out
  obtain ⟨cc0, cc1, cc2, cc3, ccl⟩ := bk4 KC.out
  obtain ⟨dc0, dc1, dc2, dc3, dcl⟩ := bk4 KD.out
  clear b
  go_wp2_with fail
  clear uc0 uc1 uc2 uc3 ucl cc0 cc1 cc2 cc3 ccl
  clear dc0 dc1 dc2 dc3 dcl
  refine (psize_any c1 _ _ _ _ we DC.out HSH.out).mono ?_
  rintro e wf ⟨rfl, b⟩
  replace BW := Lib.hid (BW.out.trans (b.mono BW.out.size))
  rw [P8.out, sizeK]
  go_wp2_with fail
  go_ret
  exact ⟨rfl, BW.out⟩

end Go.Proofs.Ytmkgijedchpgcaa
