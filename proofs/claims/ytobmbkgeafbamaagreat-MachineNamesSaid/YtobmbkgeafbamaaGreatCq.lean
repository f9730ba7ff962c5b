/- Layer 11, the document's answer: Agents, digits. Layer 11, the document's answer: Name, Number. -/
import Derived.Test.YtobmbkgeafbamaaGreatCk
import Derived.Test.YtobmbkgeafbamaaGreatUl
namespace Go.Proofs.YtobmbkgeafbamaaGreat
set_option linter.unusedSimpArgs false
set_option linter.unusedVariables false
open Go.RowKit

theorem undB : Tryz.prog.underlying 60 = some (.slice 5) := by kernel_rfl
theorem undU : Tryz.prog.underlying 5 = some (.int .u8) := by kernel_rfl
theorem undS : Tryz.prog.underlying 9 = some .string := by kernel_rfl
theorem conv_dig (w : World) (c : UInt8) (d : Int) (hd : (c.toNat : Int) = d) :
    (convert 60 9 (.slice (some ⟨w.heap.size, 0, none⟩) 1 1)).run Tryz.prog (w.alloc (.cells #[.int .u8 d] 5)) = .ok (.string ⟨#[c]⟩) (w.alloc (.cells #[.int .u8 d] 5)) := by
  subst hd
  have := run_convert_bytes_back (P := Tryz.prog) (w.alloc (.cells #[.int .u8 (c.toNat : Int)] 5)) 60 9 5 ⟨w.heap.size, 0, none⟩ 1 [c] undB undU undS (fun j hj => by
    have : j = 0 := by simpa using hj
    subst this
    exact World.cell?_alloc_mark w _ _ _ 0)
  simpa using this
set_option maxRecDepth 100000 in
theorem digit_0 (w : World) : Calls Tryz.prog 63 #[.int .i64 0] w fun e w' => e = .returned (.string (dgS 0)) ∧ Below w.heap.size w w' := by
  have hc := conv_dig w 48 48 (by decide)
  go_enter Tryz.func63, Tryz.ntmps63
  go_wp2
  go_ret
  exact ⟨by kernel_rfl, (Below.refl _ _).alloc (Nat.le_refl _) _⟩
set_option maxRecDepth 100000 in
theorem digit_1 (w : World) : Calls Tryz.prog 63 #[.int .i64 1] w fun e w' => e = .returned (.string (dgS 1)) ∧ Below w.heap.size w w' := by
  have hc := conv_dig w 49 49 (by decide)
  go_enter Tryz.func63, Tryz.ntmps63
  go_wp2
  go_ret
  exact ⟨by kernel_rfl, (Below.refl _ _).alloc (Nat.le_refl _) _⟩
set_option maxRecDepth 100000 in
theorem digit_2 (w : World) : Calls Tryz.prog 63 #[.int .i64 2] w fun e w' => e = .returned (.string (dgS 2)) ∧ Below w.heap.size w w' := by
  have hc := conv_dig w 50 50 (by decide)
  go_enter Tryz.func63, Tryz.ntmps63
  go_wp2
  go_ret
  exact ⟨by kernel_rfl, (Below.refl _ _).alloc (Nat.le_refl _) _⟩
set_option maxRecDepth 100000 in
theorem digit_3 (w : World) : Calls Tryz.prog 63 #[.int .i64 3] w fun e w' => e = .returned (.string (dgS 3)) ∧ Below w.heap.size w w' := by
  have hc := conv_dig w 51 51 (by decide)
  go_enter Tryz.func63, Tryz.ntmps63
  go_wp2
  go_ret
  exact ⟨by kernel_rfl, (Below.refl _ _).alloc (Nat.le_refl _) _⟩
set_option maxRecDepth 100000 in
theorem digit_4 (w : World) : Calls Tryz.prog 63 #[.int .i64 4] w fun e w' => e = .returned (.string (dgS 4)) ∧ Below w.heap.size w w' := by
  have hc := conv_dig w 52 52 (by decide)
  go_enter Tryz.func63, Tryz.ntmps63
  go_wp2
  go_ret
  exact ⟨by kernel_rfl, (Below.refl _ _).alloc (Nat.le_refl _) _⟩
set_option maxRecDepth 100000 in
theorem digit_5 (w : World) : Calls Tryz.prog 63 #[.int .i64 5] w fun e w' => e = .returned (.string (dgS 5)) ∧ Below w.heap.size w w' := by
  have hc := conv_dig w 53 53 (by decide)
  go_enter Tryz.func63, Tryz.ntmps63
  go_wp2
  go_ret
  exact ⟨by kernel_rfl, (Below.refl _ _).alloc (Nat.le_refl _) _⟩
theorem digit_any (n : Int) (w : World) (h0 : 0 ≤ n) (h5 : n ≤ 5) : Calls Tryz.prog 63 #[.int .i64 n] w fun e w' => e = .returned (.string (dgS n)) ∧ Below w.heap.size w w' := by
  have h : n = 0 ∨ n = 1 ∨ n = 2 ∨ n = 3 ∨ n = 4 ∨ n = 5 := by omega
  rcases h with rfl | rfl | rfl | rfl | rfl | rfl
  · exact digit_0 w
  · exact digit_1 w
  · exact digit_2 w
  · exact digit_3 w
  · exact digit_4 w
  · exact digit_5 w

set_option maxRecDepth 100000 in
set_option maxHeartbeats 2000000 in
theorem ragents_any (u : Un) (model : Int) (vi vr vc : Value) (w : World) (hu : UnD w vi vr vc u) (hs : ShortU u) (n : Int) (hn : (agA u model : Int) = n) :
    Calls Tryz.prog 25 #[.agg #[.int .i64 u.mod, vi, vr, vc], .int .i64 model] w fun e w' => e = .returned (.int .i64 n) ∧ Below w.heap.size w w' := by
  have HR := Lib.hid (fun (W : World) (h : Below w.heap.size w W) => uright_any u vi vr vc W (hu.below h) hs _ rfl)
  have L0 : Hid (Below w.heap.size w (w.alloc (.cells #[.int .i64 u.mod, vi, vr, vc] 25))) := (Below.refl _ _).alloc (Nat.le_refl _) _
  obtain ⟨ai, ci, rfl⟩ := hu.i.shape0
  obtain ⟨ar, cr, rfl⟩ := hu.r.shape0
  have KU := Lib.hid (Bk.new w 25 #[.int .i64 u.mod, .slice ai u.init.length ci, .slice ar u.regs.length cr, vc])
  subst hn
  obtain ⟨q, hq⟩ : ∃ q, rightU u = q := ⟨_, rfl⟩
  rw [hq] at HR
  have HLC : Hid (q = true → u.regs.length = u.code.length ∧ u.regs.length ≤ 4 ∧ u.init.length ≤ 6) := Lib.hid (fun h => by have := rightU_lc (hq.trans h); omega)
  have HA : Hid (agA u model = if q = true then agN u.code.length u.init.length model else 0) := Lib.hid (by unfold agA; rw [hq])
  clear hu hq hs
  generalize agA u model = N at HA ⊢
  generalize u.init.length = ni at *
  generalize u.regs.length = nr at *
  generalize u.code.length = nc at *
  cases q with
  | false =>
    obtain rfl : N = 0 := HA.out
    go_enter Tryz.func25, Tryz.ntmps25
    go_wp2_with fail
    generalize World.alloc w _ = w1 at L0 KU ⊢
    refine (HR.out w1 L0.out).mono ?_
    rintro e w2 ⟨rfl, b⟩
    go_wp2_with fail
    go_ret
    exact ⟨rfl, L0.out.trans (b.mono L0.out.size)⟩
  | true =>
    obtain ⟨rfl, h4, h6⟩ := HLC.out rfl
    replace HA := Lib.hid (HA.out.trans (if_pos rfl))
    have hmul : nr * ni ≤ 4 * 6 := Nat.mul_le_mul h4 h6
    have h3 : ((nr * ni : Nat) : Int) = (nr : Int) * (ni : Int) := Int.natCast_mul nr ni
    have w1' : IntKind.i64.wrap (2 * (nr : Int)) = 2 * (nr : Int) := IntWalk.i64_in _ (by omega)
    have w2' : IntKind.i64.wrap ((nr : Int) * (ni : Int)) = (nr : Int) * (ni : Int) := IntWalk.i64_in _ (by omega)
    have w3' : IntKind.i64.wrap ((nr : Int) + (nr : Int) * (ni : Int)) = (nr : Int) + (nr : Int) * (ni : Int) := IntWalk.i64_in _ (by omega)
    by_cases m1 : model = 1
    · subst m1
      obtain rfl : N = nr := HA.out.trans (by unfold agN; rw [if_pos rfl])
      go_enter Tryz.func25, Tryz.ntmps25
      go_wp2_with fail
      generalize World.alloc w _ = w1 at L0 KU ⊢
      refine (HR.out w1 L0.out).mono ?_
      rintro e w2 ⟨rfl, b⟩
      have KU2 := Lib.hid (KU.out.below b)
      obtain ⟨u0, u1, u2, u3, ul⟩ : w2.cell? ⟨w.heap.size, 0, none⟩ = some (.int .i64 u.mod) ∧ w2.cell? ⟨w.heap.size, 1, none⟩ = some (.slice ai ni ci) ∧ w2.cell? ⟨w.heap.size, 2, none⟩ = some (.slice ar N cr) ∧ w2.cell? ⟨w.heap.size, 3, none⟩ = some vc ∧ w.heap.size < w2.heap.size := ⟨KU2.out.cell 0, KU2.out.cell 1, KU2.out.cell 2, KU2.out.cell 3, KU2.out.lt⟩
      go_wp2_with fail
      go_ret
      exact ⟨rfl, L0.out.trans (b.mono L0.out.size)⟩
    by_cases m2 : model = 2
    · subst m2
      obtain rfl : N = nr + nr := HA.out.trans (by unfold agN; simp)
      go_enter Tryz.func25, Tryz.ntmps25
      go_wp2_with fail
      generalize World.alloc w _ = w1 at L0 KU ⊢
      refine (HR.out w1 L0.out).mono ?_
      rintro e w2 ⟨rfl, b⟩
      have KU2 := Lib.hid (KU.out.below b)
      obtain ⟨u0, u1, u2, u3, ul⟩ : w2.cell? ⟨w.heap.size, 0, none⟩ = some (.int .i64 u.mod) ∧ w2.cell? ⟨w.heap.size, 1, none⟩ = some (.slice ai ni ci) ∧ w2.cell? ⟨w.heap.size, 2, none⟩ = some (.slice ar nr cr) ∧ w2.cell? ⟨w.heap.size, 3, none⟩ = some vc ∧ w.heap.size < w2.heap.size := ⟨KU2.out.cell 0, KU2.out.cell 1, KU2.out.cell 2, KU2.out.cell 3, KU2.out.lt⟩
      go_wp2_with fail
      go_ret
      exact ⟨ret_int (by omega), L0.out.trans (b.mono L0.out.size)⟩
    by_cases m3 : model = 3
    · subst m3
      obtain rfl : N = nr + nr * ni := HA.out.trans (by unfold agN; simp)
      go_enter Tryz.func25, Tryz.ntmps25
      go_wp2_with fail
      generalize World.alloc w _ = w1 at L0 KU ⊢
      refine (HR.out w1 L0.out).mono ?_
      rintro e w2 ⟨rfl, b⟩
      have KU2 := Lib.hid (KU.out.below b)
      obtain ⟨u0, u1, u2, u3, ul⟩ : w2.cell? ⟨w.heap.size, 0, none⟩ = some (.int .i64 u.mod) ∧ w2.cell? ⟨w.heap.size, 1, none⟩ = some (.slice ai ni ci) ∧ w2.cell? ⟨w.heap.size, 2, none⟩ = some (.slice ar nr cr) ∧ w2.cell? ⟨w.heap.size, 3, none⟩ = some vc ∧ w.heap.size < w2.heap.size := ⟨KU2.out.cell 0, KU2.out.cell 1, KU2.out.cell 2, KU2.out.cell 3, KU2.out.lt⟩
      go_wp2_with fail
      go_ret
      exact ⟨ret_int (by omega), L0.out.trans (b.mono L0.out.size)⟩
    · obtain rfl : N = 0 := HA.out.trans (by unfold agN; rw [if_neg m1, if_neg m2, if_neg m3])
      replace HA := m1
      have n1 : (model == 1) = false := by simpa using m1
      have n2 : (model == 2) = false := by simpa using m2
      have n3 : (model == 3) = false := by simpa using m3
      clear HA
      replace m1 := Lib.hid m1
      replace m2 := Lib.hid m2
      replace m3 := Lib.hid m3
      go_enter Tryz.func25, Tryz.ntmps25
      go_wp2_with fail
      generalize World.alloc w _ = w1 at L0 KU ⊢
      refine (HR.out w1 L0.out).mono ?_
      rintro e w2 ⟨rfl, b⟩
      have KU2 := Lib.hid (KU.out.below b)
      obtain ⟨u0, u1, u2, u3, ul⟩ : w2.cell? ⟨w.heap.size, 0, none⟩ = some (.int .i64 u.mod) ∧ w2.cell? ⟨w.heap.size, 1, none⟩ = some (.slice ai ni ci) ∧ w2.cell? ⟨w.heap.size, 2, none⟩ = some (.slice ar nr cr) ∧ w2.cell? ⟨w.heap.size, 3, none⟩ = some vc ∧ w.heap.size < w2.heap.size := ⟨KU2.out.cell 0, KU2.out.cell 1, KU2.out.cell 2, KU2.out.cell 3, KU2.out.lt⟩
      go_wp2_with fail
      go_ret
      exact ⟨rfl, L0.out.trans (b.mono L0.out.size)⟩

end Go.Proofs.YtobmbkgeafbamaaGreat

namespace Go.Proofs.YtobmbkgeafbamaaGreat
set_option linter.unusedSimpArgs false
set_option linter.unusedVariables false
open Go.RowKit

set_option maxRecDepth 100000 in
set_option maxHeartbeats 4000000 in
theorem rname_any (u : Un) (model a : Int) (vi vr vc : Value) (w : World) (hu : UnD w vi vr vc u) (hs : ShortU u) (s : ByteArray) (hn : nameA u model a = s) :
    Calls Tryz.prog 29 #[.agg #[.int .i64 u.mod, vi, vr, vc], .int .i64 model, .int .i64 a] w fun e w' => e = .returned (.string s) ∧ Below w.heap.size w w' := by
  have HA := Lib.hid (fun (W : World) (h : Below w.heap.size w W) => ragents_any u model vi vr vc W (hu.below h) hs _ rfl)
  obtain ⟨ai, ci, rfl⟩ := hu.i.shape0
  obtain ⟨ar, cr, rfl⟩ := hu.r.shape0
  subst hn
  obtain ⟨q, hq⟩ : ∃ q, rightU u = q := ⟨_, rfl⟩
  have HLC : Hid (q = true → u.regs.length = u.code.length ∧ u.regs.length ≤ 4 ∧ u.init.length ≤ 6 ∧ 1 ≤ u.regs.length) := Lib.hid (fun h => by have := rightU_lc (hq.trans h); omega)
  have HG : Hid (agA u model = if q = true then agN u.code.length u.init.length model else 0) := Lib.hid (by unfold agA; rw [hq])
  have HNM : Hid (nameA u model a = if q = true then nmG (agOf u.code.length u.init.length model a) else ⟨#[]⟩) := Lib.hid (by unfold nameA; rw [hq])
  have L0 : Hid (Below w.heap.size w (w.alloc (.cells #[.int .i64 u.mod, .slice ai u.init.length ci, .slice ar u.regs.length cr, vc] 25))) := (Below.refl _ _).alloc (Nat.le_refl _) _
  have KU := Lib.hid (Bk.new w 25 #[.int .i64 u.mod, .slice ai u.init.length ci, .slice ar u.regs.length cr, vc])
  clear hu hq hs
  generalize nameA u model a = s at HNM ⊢
  generalize agA u model = N at HA HG
  generalize u.init.length = ni at *
  generalize u.regs.length = nr at *
  generalize u.code.length = nc at *
  by_cases a0 : a < 0
  · obtain rfl : s = ⟨#[]⟩ := by rw [HNM.out]; unfold agOf; rw [if_neg (show ¬ (0 ≤ a ∧ a < (agN nc ni model : Int)) by omega)]; cases q <;> rfl
    go_enter Tryz.func29, Tryz.ntmps29
    go_wp2_with fail
    go_ret
    exact ⟨rfl, L0.out⟩
  have HX := Lib.hid (HA.out _ L0.out)
  by_cases aN : (N : Int) ≤ a
  · obtain rfl : s = ⟨#[]⟩ := by
      rw [HNM.out]
      cases q with
      | false => rfl
      | true =>
        have := HG.out
        rw [if_pos rfl] at this
        rw [if_pos rfl]
        unfold agOf
        rw [if_neg (by rw [← this]; omega)]
        rfl
    go_enter Tryz.func29, Tryz.ntmps29
    go_wp2_with fail
    generalize World.alloc w _ = w1 at L0 KU HX ⊢
    refine HX.out.mono ?_
    rintro e w2 ⟨rfl, b⟩
    have B2 := Lib.hid (L0.out.trans (b.mono L0.out.size))
    have KU2 := Lib.hid (KU.out.below b)
    clear b HX L0 KU
    obtain ⟨u0, u1, u2, u3, ul⟩ : w2.cell? ⟨w.heap.size, 0, none⟩ = some (.int .i64 u.mod) ∧ w2.cell? ⟨w.heap.size, 1, none⟩ = some (.slice ai ni ci) ∧ w2.cell? ⟨w.heap.size, 2, none⟩ = some (.slice ar nr cr) ∧ w2.cell? ⟨w.heap.size, 3, none⟩ = some vc ∧ w.heap.size < w2.heap.size := ⟨KU2.out.cell 0, KU2.out.cell 1, KU2.out.cell 2, KU2.out.cell 3, KU2.out.lt⟩
    go_wp2_with fail
    go_ret
    exact ⟨rfl, B2.out⟩
  cases q with
  | false => exfalso; have := HG.out; rw [if_neg (by simp)] at this; omega
  | true =>
  obtain ⟨rfl, h4, h6, h1⟩ := HLC.out rfl
  replace HG := Lib.hid (HG.out.trans (if_pos rfl))
  replace HNM := Lib.hid (HNM.out.trans (if_pos rfl))
  have hr : 0 ≤ a ∧ a < (agN nr ni model : Int) := by rw [← HG.out]; omega
  by_cases an : a < nr
  · obtain rfl : s = nmG (.thr a) := by rw [HNM.out]; unfold agOf; rw [if_pos hr, if_pos an]
    have HD := Lib.hid (fun W => digit_any a W (by omega) (by omega))
    have hd : (dgS a).size = 1 := dg_size a
    clear HNM HG HLC hr
    show Calls _ _ _ _ fun e w' => e = .returned (.string (byT ++ dgS a)) ∧ _
    generalize dgS a = D at HD hd ⊢
    go_enter Tryz.func29, Tryz.ntmps29
    go_wp2_with fail
    generalize World.alloc w _ = w1 at L0 KU HX ⊢
    refine HX.out.mono ?_
    rintro e w2 ⟨rfl, b⟩
    have B2 := Lib.hid (L0.out.trans (b.mono L0.out.size))
    have KU2 := Lib.hid (KU.out.below b)
    clear b HX L0 KU
    obtain ⟨u0, u1, u2, u3, ul⟩ : w2.cell? ⟨w.heap.size, 0, none⟩ = some (.int .i64 u.mod) ∧ w2.cell? ⟨w.heap.size, 1, none⟩ = some (.slice ai ni ci) ∧ w2.cell? ⟨w.heap.size, 2, none⟩ = some (.slice ar nr cr) ∧ w2.cell? ⟨w.heap.size, 3, none⟩ = some vc ∧ w.heap.size < w2.heap.size := ⟨KU2.out.cell 0, KU2.out.cell 1, KU2.out.cell 2, KU2.out.cell 3, KU2.out.lt⟩
    go_wp2_with fail
    refine (HD.out w2).mono ?_
    rintro e w3 ⟨rfl, b⟩
    go_wp2_with fail
    go_ret
    exact ⟨rfl, B2.out.trans (b.mono B2.out.size)⟩
  obtain ⟨d, hd⟩ : ∃ d : Nat, a - nr = (d : Int) := ⟨(a - nr).toNat, by omega⟩
  have hmul : nr * ni ≤ 4 * 6 := Nat.mul_le_mul h4 h6
  have hN28 : agN nr ni model ≤ 28 := by
    unfold agN
    split
    · omega
    · split
      · omega
      · split <;> omega
  have hw : IntKind.i64.wrap (a - (nr : Int)) = (d : Int) := by rw [IntWalk.i64_in _ (by omega), hd]
  by_cases m2 : model = 2
  · have hdb : d ≤ 3 := by have h5 := hr.2; subst m2; unfold agN at h5; rw [if_neg (by omega), if_pos rfl] at h5; omega
    obtain rfl : s = nmG (.fl (d : Int) (-1)) := by rw [HNM.out]; unfold agOf; rw [if_pos hr, if_neg an, if_pos m2, hd]
    subst m2
    have HD := Lib.hid (fun W => digit_any (d : Int) W (by omega) (by omega))
    have hds : (dgS (d : Int)).size = 1 := dg_size _
    clear HNM HG HLC hr hd hN28
    show Calls _ _ _ _ fun e w' => e = .returned (.string (byF ++ dgS (d : Int))) ∧ _
    generalize dgS (d : Int) = D at HD hds ⊢
    go_enter Tryz.func29, Tryz.ntmps29
    go_wp2_with fail
    generalize World.alloc w _ = w1 at L0 KU HX ⊢
    refine HX.out.mono ?_
    rintro e w2 ⟨rfl, b⟩
    have B2 := Lib.hid (L0.out.trans (b.mono L0.out.size))
    have KU2 := Lib.hid (KU.out.below b)
    clear b HX L0 KU
    obtain ⟨u0, u1, u2, u3, ul⟩ : w2.cell? ⟨w.heap.size, 0, none⟩ = some (.int .i64 u.mod) ∧ w2.cell? ⟨w.heap.size, 1, none⟩ = some (.slice ai ni ci) ∧ w2.cell? ⟨w.heap.size, 2, none⟩ = some (.slice ar nr cr) ∧ w2.cell? ⟨w.heap.size, 3, none⟩ = some vc ∧ w.heap.size < w2.heap.size := ⟨KU2.out.cell 0, KU2.out.cell 1, KU2.out.cell 2, KU2.out.cell 3, KU2.out.lt⟩
    go_wp2_with fail
    refine (HD.out w2).mono ?_
    rintro e w3 ⟨rfl, b⟩
    go_wp2_with fail
    go_ret
    exact ⟨rfl, B2.out.trans (b.mono B2.out.size)⟩
  have m3 : model = 3 := by
    have h5 := hr.2
    unfold agN at h5
    by_cases hm1 : model = 1
    · rw [if_pos hm1] at h5; omega
    rw [if_neg hm1, if_neg m2] at h5
    by_cases hm3 : model = 3
    · exact hm3
    · rw [if_neg hm3] at h5; omega
  have hdl : d < nr * ni := by have h5 := hr.2; subst m3; unfold agN at h5; rw [if_neg (by omega), if_neg (by omega), if_pos rfl] at h5; omega
  have hni : 0 < ni := by
    rcases Nat.eq_zero_or_pos ni with h0 | h0
    · rw [h0, Nat.mul_zero] at hdl; omega
    · exact h0
  have hqb : d / ni < nr := Nat.div_lt_of_lt_mul (by rw [Nat.mul_comm]; exact hdl)
  have hrb : d % ni < ni := Nat.mod_lt _ hni
  have hq : (d : Int).tdiv (ni : Int) = ((d / ni : Nat) : Int) := by rw [Int.tdiv_eq_ediv_of_nonneg (by omega), Int.natCast_ediv]
  have hrr : (d : Int).tmod (ni : Int) = ((d % ni : Nat) : Int) := by rw [Int.tmod_eq_emod_of_nonneg (by omega), Int.natCast_emod]
  obtain rfl : s = nmG (.fl ((d / ni : Nat) : Int) ((d % ni : Nat) : Int)) := by rw [HNM.out]; unfold agOf; rw [if_pos hr, if_neg an, if_neg m2, hd, Int.natCast_ediv, Int.natCast_emod]
  generalize d / ni = q at *
  generalize d % ni = r at *
  have hqw : IntKind.i64.wrap (q : Int) = (q : Int) := IntWalk.i64_in _ (by omega)
  have hrw : IntKind.i64.wrap (r : Int) = (r : Int) := IntWalk.i64_in _ (by omega)
  have hnz : ¬ (ni : Int) = 0 := by omega
  have HD := Lib.hid (fun W => digit_any (q : Int) W (by omega) (by omega))
  have HE := Lib.hid (fun W => digit_any (r : Int) W (by omega) (by omega))
  have hds : (dgS (q : Int)).size = 1 := dg_size _
  have hes : (dgS (r : Int)).size = 1 := dg_size _
  have hnn : ¬ ((r : Int) = -1) := by omega
  show Calls _ _ _ _ fun e w' => e = .returned (.string (if (r : Int) = -1 then byF ++ dgS (q : Int) else byF ++ dgS (q : Int) ++ byP ++ dgS (r : Int))) ∧ _
  rw [if_neg hnn]
  subst m3
  clear HNM HG HLC hr hd hN28 hnn
  generalize dgS (q : Int) = D at HD hds ⊢
  generalize dgS (r : Int) = E at HE hes ⊢
  · skip
    go_enter Tryz.func29, Tryz.ntmps29
    go_wp2_with fail
    generalize World.alloc w _ = w1 at L0 KU HX ⊢
    refine HX.out.mono ?_
    rintro e w2 ⟨rfl, b⟩
    have B2 := Lib.hid (L0.out.trans (b.mono L0.out.size))
    have KU2 := Lib.hid (KU.out.below b)
    clear b HX L0 KU
    obtain ⟨u0, u1, u2, u3, ul⟩ : w2.cell? ⟨w.heap.size, 0, none⟩ = some (.int .i64 u.mod) ∧ w2.cell? ⟨w.heap.size, 1, none⟩ = some (.slice ai ni ci) ∧ w2.cell? ⟨w.heap.size, 2, none⟩ = some (.slice ar nr cr) ∧ w2.cell? ⟨w.heap.size, 3, none⟩ = some vc ∧ w.heap.size < w2.heap.size := ⟨KU2.out.cell 0, KU2.out.cell 1, KU2.out.cell 2, KU2.out.cell 3, KU2.out.lt⟩
    go_wp2_with fail
    have HCC := Lib.hid (fun (w' : World) (h : Below w2.heap.size w2 w') => (⟨(h.cell (p := ⟨w.heap.size, _, none⟩) ul).trans u1, h⟩ : (fun w' => w'.cell? ⟨w.heap.size, 1, none⟩ = some (.slice ai ni ci) ∧ Below w2.heap.size w2 w') w'))
    have bb0 : Below w2.heap.size w2 w2 := Below.refl _ _
    have hnz2 : ¬ ni = 0 := by omega
    have hnz3 : ((ni : Int) == 0) = false := by simpa using hnz2
    have s1 : ¬ 9223372036854775807 < 1 + D.size := by omega
    have s2 : ¬ 9223372036854775807 < 1 + D.size + 1 := by omega
    have s3 : ¬ 9223372036854775807 < 1 + D.size + 1 + E.size := by omega
    clear u0 u1 u2 u3
    go_region_held3 (fun w' => w'.cell? ⟨w.heap.size, 1, none⟩ = some (.slice ai ni ci) ∧ Below w2.heap.size w2 w')
      (first | with_reducible exact HCC.out _ bb0 | with_reducible exact HCC.out _ bb0.drew | with_reducible assumption | (go_split_ands; with_reducible exact HCC.out _ (by with_reducible assumption)))
      ((first
        | (go_split_ands; (with_reducible refine Calls.mono (HD.out _) ?_); rintro e wn ⟨rfl, bn⟩; have bb : Below w2.heap.size w2 wn := Below.trans (by assumption) (bn.mono (Below.size (by assumption))))
        | (go_split_ands; (with_reducible refine Calls.mono (HE.out _) ?_); rintro e wn ⟨rfl, bn⟩; have bb : Below w2.heap.size w2 wn := Below.trans (by assumption) (bn.mono (Below.size (by assumption))))))
    all_goals
      go_split_ands
      go_wp2
      go_ret
      exact ⟨rfl, B2.out.trans (Below.mono (by assumption) B2.out.size)⟩

set_option maxRecDepth 100000 in
set_option maxHeartbeats 4000000 in
theorem rnumber_any (u : Un) (model : Int) (s : ByteArray) (vi vr vc : Value) (w : World) (hu : UnD w vi vr vc u) (hl : LtU u) (hs : ShortU u) (n : Int) (hn : numA u model s = n) :
    Calls Tryz.prog 27 #[.agg #[.int .i64 u.mod, vi, vr, vc], .int .i64 model, .string s] w fun e w' => e = .returned (.int .i64 n) ∧ Below w.heap.size w w' := by
  have HA := Lib.hid (fun (W : World) (h : Below w.heap.size w W) => ragents_any u model vi vr vc W (hu.below h) hs _ rfl)
  have HNM := Lib.hid (fun (a : Int) (W : World) (h : Below w.heap.size w W) => rname_any u model a vi vr vc W (hu.below h) hs _ rfl)
  have HN : Hid (numG (nameA u model) s (agA u model - 0) 0 = n) := Lib.hid hn
  have hN4 : agA u model ≤ 420 := by unfold agA; have := agN_400 hl model; split <;> omega
  have L0 : Hid (Below w.heap.size w (w.alloc (.cells #[.int .i64 u.mod, vi, vr, vc] 25))) := (Below.refl _ _).alloc (Nat.le_refl _) _
  have KU := Lib.hid (Bk.new w 25 #[.int .i64 u.mod, vi, vr, vc])
  clear hu hn
  generalize agA u model = N at HA HN hN4
  go_enter Tryz.func27, Tryz.ntmps27
  go_wp2_with fail
  generalize World.alloc w _ = w1 at L0 KU ⊢
  go_loopg [7] N (fun fuel i' wr => ∃ (k : Nat), i' = .int .i64 k ∧ k ≤ N ∧ N - k ≤ fuel ∧ Hid (numG (nameA u model) s (N - k) k = n) ∧ Below w1.heap.size w1 wr)
  case atStart => exact ⟨0, rfl, Nat.zero_le _, Nat.le_refl _, HN, Below.refl _ _⟩
  case round =>
    obtain ⟨k, rfl, hk, hf, HE0, hb⟩ := hrel
    have HE := HE0.out
    clear HE0
    have HB2 := Lib.hid (L0.out.trans (hb.mono L0.out.size))
    have KUR := Lib.hid (KU.out.below hb)
    have HW := Lib.hid hb
    clear hb
    obtain ⟨u0, u1, u2, u3, ul⟩ : wr.cell? ⟨w.heap.size, 0, none⟩ = some (.int .i64 u.mod) ∧ wr.cell? ⟨w.heap.size, 1, none⟩ = some vi ∧ wr.cell? ⟨w.heap.size, 2, none⟩ = some vr ∧ wr.cell? ⟨w.heap.size, 3, none⟩ = some vc ∧ w.heap.size < wr.heap.size := ⟨KUR.out.cell 0, KUR.out.cell 1, KUR.out.cell 2, KUR.out.cell 3, KUR.out.lt⟩
    go_wp2_with fail
    clear u0 u1 u2 u3 ul
    refine (HA.out wr HB2.out).mono ?_
    rintro e w2 ⟨rfl, b⟩
    replace HB2 := Lib.hid (HB2.out.trans (b.mono HB2.out.size))
    replace HW := Lib.hid (HW.out.trans (b.mono HW.out.size))
    replace KUR := Lib.hid (KUR.out.below b)
    clear b
    by_cases hlt : k < N
    · rw [numG_at _ _ _ _ hlt] at HE
      have HX := Lib.hid (HNM.out (k : Int) w2 HB2.out)
      generalize nameA u model (k : Int) = y at HE HX
      obtain ⟨u0, u1, u2, u3, ul⟩ : w2.cell? ⟨w.heap.size, 0, none⟩ = some (.int .i64 u.mod) ∧ w2.cell? ⟨w.heap.size, 1, none⟩ = some vi ∧ w2.cell? ⟨w.heap.size, 2, none⟩ = some vr ∧ w2.cell? ⟨w.heap.size, 3, none⟩ = some vc ∧ w.heap.size < w2.heap.size := ⟨KUR.out.cell 0, KUR.out.cell 1, KUR.out.cell 2, KUR.out.cell 3, KUR.out.lt⟩
      go_wp2_with fail
      clear u0 u1 u2 u3 ul
      refine HX.out.mono ?_
      rintro e w3 ⟨rfl, b⟩
      replace HB2 := Lib.hid (HB2.out.trans (b.mono HB2.out.size))
      replace HW := Lib.hid (HW.out.trans (b.mono HW.out.size))
      clear b HX KUR
      by_cases hys : y = s
      · subst hys
        have hyy : (y.toList == y.toList) = true := by simp
        rw [if_pos rfl] at HE
        go_wp2_with fail
        go_ret
        exact ⟨ret_int (by first | exact HE | rfl), HB2.out⟩
      · have hyy : (y.toList == s.toList) = false := toL_ne hys
        rw [if_neg hys] at HE
        replace hys := Lib.hid hys
        replace HE := Lib.hid HE
        go_wp2_with fail
        go_roundg (gk - 1)
        case measure => omega
        case rel => exact ⟨k + 1, by go_num, by omega, by omega, HE, HW.out⟩
    · obtain rfl : k = N := by omega
      rw [numG_over _ _ _ _ hlt] at HE
      subst HE
      go_wp2_with fail
      go_ret
      exact ⟨rfl, HB2.out⟩

end Go.Proofs.YtobmbkgeafbamaaGreat
