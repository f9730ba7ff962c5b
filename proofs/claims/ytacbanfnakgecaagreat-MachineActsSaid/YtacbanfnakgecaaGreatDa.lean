/- The reference's Enabled and Act of an agent, by what the steps do. The reference's Moves and Dead. -/
import Derived.Test.YtacbanfnakgecaaGreatCk
import Derived.Test.YtacbanfnakgecaaGreatCc
import Derived.Test.YtacbanfnakgecaaGreatWd
import Derived.Test.YtacbanfnakgecaaGreatWa
import Derived.Test.YtacbanfnakgecaaGreatXj
import Derived.Test.YtacbanfnakgecaaGreatUq
namespace Go.Proofs.YtacbanfnakgecaaGreat
set_option linter.unusedSimpArgs false
set_option linter.unusedVariables false
open Go.RowKit
theorem set4_else {w : World} {z g T : Nat} {cs : Array Value} (x0 x1 x2 x3 : Value) (h : ¬ g = z) (K : Bk w g T cs) : Bk ((((w.setCell ⟨z, 0, none⟩ x0).setCell ⟨z, 1, none⟩ x1).setCell ⟨z, 2, none⟩ x2).setCell ⟨z, 3, none⟩ x3) g T cs :=
  ((set4_keep x0 x1 x2 x3).1 g h).trans K
set_option maxRecDepth 100000 in
set_option maxHeartbeats 8000000 in
theorem ren_core (u : Un) (model room a : Int) (vi vr vc xp xr xm xb : Value) (w : World) (hu : UnD w vi vr vc u) (hs : ShortU u) (hR : rightU u = true) (b : Bool) (g : Ag) (hg : agOf u.code.length u.init.length model a = g)
    (H0 : g = .no → b = false)
    (H1 : ∀ t, g = .thr t → ∀ W, Below w.heap.size w W → Calls Tryz.prog 12 #[.agg #[.int .i64 u.mod, vi, vr, vc], .agg #[xp, xr, xm, xb], .int .i64 model, .int .i64 room, .int .i64 t] W fun e w' => e = .returned (.bool b) ∧ Below W.heap.size W w')
    (H2 : ∀ t loc, g = .fl t loc → ∀ W, Below w.heap.size w W → Calls Tryz.prog 64 #[.agg #[xp, xr, xm, xb], .int .i64 model, .int .i64 t, .int .i64 loc] W fun e w' => e = .returned (.bool b) ∧ Below W.heap.size W w') :
    Calls Tryz.prog 43 #[.agg #[.int .i64 u.mod, vi, vr, vc], .agg #[xp, xr, xm, xb], .int .i64 model, .int .i64 room, .int .i64 a] w fun e w' => e = .returned (.bool b) ∧ Below w.heap.size w w' := by
  have HA := Lib.hid (fun (W : World) (h : Below w.heap.size w W) => ragents_any u model vi vr vc W (hu.below h) hs _ rfl)
  obtain ⟨ai, ci, rfl⟩ := hu.i.shape0
  obtain ⟨ar, cr, rfl⟩ := hu.r.shape0
  have hlc := rightU_lc hR
  have HG : Hid (agA u model = agN u.code.length u.init.length model) := Lib.hid (by unfold agA; rw [if_pos hR])
  have L2 := two_new w 25 29 #[.int .i64 u.mod, .slice ai u.init.length ci, .slice ar u.regs.length cr, vc] #[xp, xr, xm, xb]
  have L0 := Lib.hid L2.1
  have KU := Lib.hid L2.2.1
  have KC := Lib.hid L2.2.2
  clear L2
  clear hu hs hR
  generalize agA u model = N at HA HG
  generalize hni : u.init.length = ni at *
  generalize hnr : u.regs.length = nr at *
  generalize hnc : u.code.length = nc at *
  clear hni hnr hnc
  obtain ⟨_, _, h6, h1, h4, h5⟩ := hlc
  have h5 := h5.symm
  subst h5
  by_cases a0 : a < 0
  · obtain rfl : b = false := H0 (by rw [← hg]; unfold agOf; rw [if_neg (show ¬ (0 ≤ a ∧ a < (agN nr ni model : Int)) by omega)])
    clear H0 H1 H2 hg
    have C0 := KU.out.cell 0
    have C1 := KU.out.cell 1
    have C2 := KU.out.cell 2
    have C3 := KU.out.cell 3
    have Cl := KU.out.lt
    go_enter Tryz.func43, Tryz.ntmps43
    go_wp2_with fail
    go_ret
    exact ⟨rfl, L0.out⟩
  have HX := Lib.hid (HA.out _ L0.out)
  by_cases aN : (N : Int) ≤ a
  · obtain rfl : b = false := H0 (by rw [← hg]; unfold agOf; rw [if_neg (show ¬ (0 ≤ a ∧ a < (agN nr ni model : Int)) by have := HG.out; omega)])
    clear H0 H1 H2 hg
    have C0 := KU.out.cell 0
    have C1 := KU.out.cell 1
    have C2 := KU.out.cell 2
    have C3 := KU.out.cell 3
    have Cl := KU.out.lt
    go_enter Tryz.func43, Tryz.ntmps43
    go_wp2_with fail
    clear C0 C1 C2 C3 Cl
    generalize World.alloc (World.alloc w _) _ = w1 at L0 KU KC HX ⊢
    refine HX.out.mono ?_
    rintro e w2 ⟨rfl, b2⟩
    have B2 := Lib.hid (L0.out.trans (b2.mono L0.out.size))
    have KU2 := Lib.hid (KU.out.below b2)
    have KC2 := Lib.hid (KC.out.below b2)
    clear b2 HX L0 KU KC
    obtain ⟨uc0, uc1, uc2, uc3, ucl, cc0, cc1, cc2, cc3, ccl⟩ : w2.cell? ⟨w.heap.size, 0, none⟩ = some (.int .i64 u.mod) ∧ w2.cell? ⟨w.heap.size, 1, none⟩ = some (.slice ai ni ci) ∧ w2.cell? ⟨w.heap.size, 2, none⟩ = some (.slice ar nr cr) ∧ w2.cell? ⟨w.heap.size, 3, none⟩ = some (vc) ∧ w.heap.size < w2.heap.size ∧ w2.cell? ⟨w.heap.size + 1, 0, none⟩ = some (xp) ∧ w2.cell? ⟨w.heap.size + 1, 1, none⟩ = some (xr) ∧ w2.cell? ⟨w.heap.size + 1, 2, none⟩ = some (xm) ∧ w2.cell? ⟨w.heap.size + 1, 3, none⟩ = some (xb) ∧ w.heap.size + 1 < w2.heap.size := ⟨KU2.out.cell 0, KU2.out.cell 1, KU2.out.cell 2, KU2.out.cell 3, KU2.out.lt, KC2.out.cell 0, KC2.out.cell 1, KC2.out.cell 2, KC2.out.cell 3, KC2.out.lt⟩
    go_wp2_with fail
    go_ret
    exact ⟨rfl, B2.out⟩
  have hr : 0 ≤ a ∧ a < (agN nr ni model : Int) := by have := HG.out; omega
  by_cases an : a < nr
  · have H := Lib.hid (H1 a (by rw [← hg]; unfold agOf; rw [if_pos hr, if_pos an]))
    clear H0 H1 H2 hg HG hr
    have C0 := KU.out.cell 0
    have C1 := KU.out.cell 1
    have C2 := KU.out.cell 2
    have C3 := KU.out.cell 3
    have Cl := KU.out.lt
    go_enter Tryz.func43, Tryz.ntmps43
    go_wp2_with fail
    clear C0 C1 C2 C3 Cl
    generalize World.alloc (World.alloc w _) _ = w1 at L0 KU KC HX ⊢
    refine HX.out.mono ?_
    rintro e w2 ⟨rfl, b2⟩
    have B2 := Lib.hid (L0.out.trans (b2.mono L0.out.size))
    have KU2 := Lib.hid (KU.out.below b2)
    have KC2 := Lib.hid (KC.out.below b2)
    clear b2 HX L0 KU KC
    obtain ⟨uc0, uc1, uc2, uc3, ucl, cc0, cc1, cc2, cc3, ccl⟩ : w2.cell? ⟨w.heap.size, 0, none⟩ = some (.int .i64 u.mod) ∧ w2.cell? ⟨w.heap.size, 1, none⟩ = some (.slice ai ni ci) ∧ w2.cell? ⟨w.heap.size, 2, none⟩ = some (.slice ar nr cr) ∧ w2.cell? ⟨w.heap.size, 3, none⟩ = some (vc) ∧ w.heap.size < w2.heap.size ∧ w2.cell? ⟨w.heap.size + 1, 0, none⟩ = some (xp) ∧ w2.cell? ⟨w.heap.size + 1, 1, none⟩ = some (xr) ∧ w2.cell? ⟨w.heap.size + 1, 2, none⟩ = some (xm) ∧ w2.cell? ⟨w.heap.size + 1, 3, none⟩ = some (xb) ∧ w.heap.size + 1 < w2.heap.size := ⟨KU2.out.cell 0, KU2.out.cell 1, KU2.out.cell 2, KU2.out.cell 3, KU2.out.lt, KC2.out.cell 0, KC2.out.cell 1, KC2.out.cell 2, KC2.out.cell 3, KC2.out.lt⟩
    go_wp2_with fail
    clear uc0 uc1 uc2 uc3 ucl cc0 cc1 cc2 cc3 ccl
    refine (H.out w2 B2.out).mono ?_
    rintro e w3 ⟨rfl, b3⟩
    go_wp2_with fail
    go_ret
    exact ⟨rfl, B2.out.trans (b3.mono B2.out.size)⟩
  obtain ⟨d, hd⟩ : ∃ d : Nat, a - nr = (d : Int) := ⟨(a - nr).toNat, by omega⟩
  have hmul : nr * ni ≤ 4 * 6 := Nat.mul_le_mul h4 h6
  have hN28 : agN nr ni model ≤ 28 := by
    unfold agN
    split
    · omega
    · split
      · omega
      · split <;> omega
  have hw : IntKind.i64.wrap (a - (nr : Int)) = (d : Int) := by rw [IntWalk.i64_in _ (by omega), hd]
  by_cases m2 : model = 2
  · have H := Lib.hid (H2 (d : Int) (-1) (by rw [← hg]; unfold agOf; rw [if_pos hr, if_neg an, if_pos m2, hd]))
    subst m2
    clear H0 H1 H2 hg HG hr hd hN28
    have C0 := KU.out.cell 0
    have C1 := KU.out.cell 1
    have C2 := KU.out.cell 2
    have C3 := KU.out.cell 3
    have Cl := KU.out.lt
    go_enter Tryz.func43, Tryz.ntmps43
    go_wp2_with fail
    clear C0 C1 C2 C3 Cl
    generalize World.alloc (World.alloc w _) _ = w1 at L0 KU KC HX ⊢
    refine HX.out.mono ?_
    rintro e w2 ⟨rfl, b2⟩
    have B2 := Lib.hid (L0.out.trans (b2.mono L0.out.size))
    have KU2 := Lib.hid (KU.out.below b2)
    have KC2 := Lib.hid (KC.out.below b2)
    clear b2 HX L0 KU KC
    obtain ⟨uc0, uc1, uc2, uc3, ucl, cc0, cc1, cc2, cc3, ccl⟩ : w2.cell? ⟨w.heap.size, 0, none⟩ = some (.int .i64 u.mod) ∧ w2.cell? ⟨w.heap.size, 1, none⟩ = some (.slice ai ni ci) ∧ w2.cell? ⟨w.heap.size, 2, none⟩ = some (.slice ar nr cr) ∧ w2.cell? ⟨w.heap.size, 3, none⟩ = some (vc) ∧ w.heap.size < w2.heap.size ∧ w2.cell? ⟨w.heap.size + 1, 0, none⟩ = some (xp) ∧ w2.cell? ⟨w.heap.size + 1, 1, none⟩ = some (xr) ∧ w2.cell? ⟨w.heap.size + 1, 2, none⟩ = some (xm) ∧ w2.cell? ⟨w.heap.size + 1, 3, none⟩ = some (xb) ∧ w.heap.size + 1 < w2.heap.size := ⟨KU2.out.cell 0, KU2.out.cell 1, KU2.out.cell 2, KU2.out.cell 3, KU2.out.lt, KC2.out.cell 0, KC2.out.cell 1, KC2.out.cell 2, KC2.out.cell 3, KC2.out.lt⟩
    go_wp2_with fail
    clear uc0 uc1 uc2 uc3 ucl cc0 cc1 cc2 cc3 ccl
    refine (H.out w2 B2.out).mono ?_
    rintro e w3 ⟨rfl, b3⟩
    go_wp2_with fail
    go_ret
    exact ⟨rfl, B2.out.trans (b3.mono B2.out.size)⟩
  have m3 : model = 3 := by
    have h5 := hr.2
    unfold agN at h5
    by_cases hm1 : model = 1
    · rw [if_pos hm1] at h5; omega
    rw [if_neg hm1, if_neg m2] at h5
    by_cases hm3 : model = 3
    · exact hm3
    · rw [if_neg hm3] at h5; omega
  have hdl : d < nr * ni := by have h5 := hr.2; subst m3; unfold agN at h5; rw [if_neg (by omega), if_neg (by omega), if_pos rfl] at h5; omega
  have hni : 0 < ni := by
    rcases Nat.eq_zero_or_pos ni with h0 | h0
    · rw [h0, Nat.mul_zero] at hdl; omega
    · exact h0
  have hqb : d / ni < nr := Nat.div_lt_of_lt_mul (by rw [Nat.mul_comm]; exact hdl)
  have hrb : d % ni < ni := Nat.mod_lt _ hni
  have hq : (d : Int).tdiv (ni : Int) = ((d / ni : Nat) : Int) := by rw [Int.tdiv_eq_ediv_of_nonneg (by omega), Int.natCast_ediv]
  have hrr : (d : Int).tmod (ni : Int) = ((d % ni : Nat) : Int) := by rw [Int.tmod_eq_emod_of_nonneg (by omega), Int.natCast_emod]
  have H := Lib.hid (H2 ((d / ni : Nat) : Int) ((d % ni : Nat) : Int) (by rw [← hg]; unfold agOf; rw [if_pos hr, if_neg an, if_neg m2, hd, Int.natCast_ediv, Int.natCast_emod]))
  clear H0 H1 H2 hg HG
  generalize d / ni = q at *
  generalize d % ni = r at *
  have hqw : IntKind.i64.wrap (q : Int) = (q : Int) := IntWalk.i64_in _ (by omega)
  have hrw : IntKind.i64.wrap (r : Int) = (r : Int) := IntWalk.i64_in _ (by omega)
  have hnz : ¬ (ni : Int) = 0 := by omega
  have hnz2 : ¬ ni = 0 := by omega
  have hnz3 : ((ni : Int) == 0) = false := by simpa using hnz2
  subst m3
  clear hr hd hN28 hmul hdl
  have C0 := KU.out.cell 0
  have C1 := KU.out.cell 1
  have C2 := KU.out.cell 2
  have C3 := KU.out.cell 3
  have Cl := KU.out.lt
  go_enter Tryz.func43, Tryz.ntmps43
  go_wp2_with fail
  clear C0 C1 C2 C3 Cl
  generalize World.alloc (World.alloc w _) _ = w1 at L0 KU KC HX ⊢
  refine HX.out.mono ?_
  rintro e w2 ⟨rfl, b2⟩
  have B2 := Lib.hid (L0.out.trans (b2.mono L0.out.size))
  have KU2 := Lib.hid (KU.out.below b2)
  have KC2 := Lib.hid (KC.out.below b2)
  clear b2 HX L0 KU KC
  obtain ⟨uc0, uc1, uc2, uc3, ucl, cc0, cc1, cc2, cc3, ccl⟩ : w2.cell? ⟨w.heap.size, 0, none⟩ = some (.int .i64 u.mod) ∧ w2.cell? ⟨w.heap.size, 1, none⟩ = some (.slice ai ni ci) ∧ w2.cell? ⟨w.heap.size, 2, none⟩ = some (.slice ar nr cr) ∧ w2.cell? ⟨w.heap.size, 3, none⟩ = some (vc) ∧ w.heap.size < w2.heap.size ∧ w2.cell? ⟨w.heap.size + 1, 0, none⟩ = some (xp) ∧ w2.cell? ⟨w.heap.size + 1, 1, none⟩ = some (xr) ∧ w2.cell? ⟨w.heap.size + 1, 2, none⟩ = some (xm) ∧ w2.cell? ⟨w.heap.size + 1, 3, none⟩ = some (xb) ∧ w.heap.size + 1 < w2.heap.size := ⟨KU2.out.cell 0, KU2.out.cell 1, KU2.out.cell 2, KU2.out.cell 3, KU2.out.lt, KC2.out.cell 0, KC2.out.cell 1, KC2.out.cell 2, KC2.out.cell 3, KC2.out.lt⟩
  have HCC := Lib.hid (fun (w' : World) (h : Below w2.heap.size w2 w') => (⟨(h.cell (p := ⟨w.heap.size, _, none⟩) ucl).trans uc1, (h.cell (p := ⟨w.heap.size + 1, _, none⟩) ccl).trans cc0, (h.cell (p := ⟨w.heap.size + 1, _, none⟩) ccl).trans cc1, (h.cell (p := ⟨w.heap.size + 1, _, none⟩) ccl).trans cc2, (h.cell (p := ⟨w.heap.size + 1, _, none⟩) ccl).trans cc3, h⟩ : (fun w' => w'.cell? ⟨w.heap.size, 1, none⟩ = some (.slice ai ni ci) ∧ w'.cell? ⟨w.heap.size + 1, 0, none⟩ = some xp ∧ w'.cell? ⟨w.heap.size + 1, 1, none⟩ = some xr ∧ w'.cell? ⟨w.heap.size + 1, 2, none⟩ = some xm ∧ w'.cell? ⟨w.heap.size + 1, 3, none⟩ = some xb ∧ Below w2.heap.size w2 w') w'))
  have bb0 : Below w2.heap.size w2 w2 := Below.refl _ _
  go_wp2_with fail
  clear uc0 uc1 uc2 uc3 ucl cc0 cc1 cc2 cc3 ccl
  go_region_held3 (fun w' => w'.cell? ⟨w.heap.size, 1, none⟩ = some (.slice ai ni ci) ∧ w'.cell? ⟨w.heap.size + 1, 0, none⟩ = some xp ∧ w'.cell? ⟨w.heap.size + 1, 1, none⟩ = some xr ∧ w'.cell? ⟨w.heap.size + 1, 2, none⟩ = some xm ∧ w'.cell? ⟨w.heap.size + 1, 3, none⟩ = some xb ∧ Below w2.heap.size w2 w')
    (first | with_reducible exact HCC.out _ bb0 | with_reducible exact HCC.out _ bb0.drew | with_reducible assumption | (go_split_ands; with_reducible exact HCC.out _ (by with_reducible assumption)))
    ((first
      | (go_split_ands; (with_reducible refine Calls.mono (H.out _ (B2.out.trans (Below.mono (by assumption) B2.out.size))) ?_); rintro e wn ⟨rfl, bn⟩; have bb : Below w2.heap.size w2 wn := Below.trans (by assumption) (bn.mono (Below.size (by assumption))))))
  all_goals
    go_split_ands
    go_wp2
    go_ret
    exact ⟨rfl, B2.out.trans (Below.mono (by assumption) B2.out.size)⟩
set_option maxRecDepth 100000 in
set_option maxHeartbeats 8000000 in
theorem rac_core (u : Un) (c : Cf) (model room a : Int) (vi vr vc xp xr xm xb : Value) (w : World) (hu : UnD w vi vr vc u) (hR : rightU u = true) (hc : CfD w xp xr xm xb c) (hsc : ShortC c) (b : Bool) (q0 : Pf) (g : Ag) (hg : agOf u.code.length u.init.length model a = g)
    (HE : ∀ W, Below w.heap.size w W → Calls Tryz.prog 43 #[.agg #[.int .i64 u.mod, vi, vr, vc], .agg #[xp, xr, xm, xb], .int .i64 model, .int .i64 room, .int .i64 a] W fun e w' => e = .returned (.bool b) ∧ Below W.heap.size W w')
    (H0 : g = .no → b = false) (H9 : b = false → c.pf = q0)
    (H1 : ∀ t, g = .thr t → ∀ W, Below w.heap.size w W → Calls Tryz.prog 9 #[.agg #[.int .i64 u.mod, vi, vr, vc], .agg #[xp, xr, xm, xb], .int .i64 model, .int .i64 room, .int .i64 t] W (StepIs b q0 W))
    (H2 : ∀ t loc, g = .fl t loc → ∀ W, Below w.heap.size w W → Calls Tryz.prog 44 #[.agg #[xp, xr, xm, xb], .int .i64 model, .int .i64 t, .int .i64 loc] W (StepIs b q0 W)) :
    Calls Tryz.prog 16 #[.agg #[.int .i64 u.mod, vi, vr, vc], .agg #[xp, xr, xm, xb], .int .i64 model, .int .i64 room, .int .i64 a] w (StepIs b q0 w) := by
  have HCP := Lib.hid (fun (W : World) (h : Below w.heap.size w W) => rcopy_any c xp xr xm xb W (hc.below h) hsc)
  clear hc hsc
  replace HE := Lib.hid HE
  obtain ⟨ai, ci, rfl⟩ := hu.i.shape0
  obtain ⟨ar, cr, rfl⟩ := hu.r.shape0
  have hlc := rightU_lc hR
  have L2 := two_new w 25 29 #[.int .i64 u.mod, .slice ai u.init.length ci, .slice ar u.regs.length cr, vc] #[xp, xr, xm, xb]
  have L0 := Lib.hid (bal L2.1 (.cells #[.slice none 0 0, .slice none 0 0, .slice none 0 0, .slice none 0 0] 29))
  have KU := Lib.hid (bk_alloc L2.2.1 (.cells #[.slice none 0 0, .slice none 0 0, .slice none 0 0, .slice none 0 0] 29))
  have KC := Lib.hid (bk_alloc L2.2.2 (.cells #[.slice none 0 0, .slice none 0 0, .slice none 0 0, .slice none 0 0] 29))
  have KZ := Lib.hid (bk_at3 w (.cells #[.int .i64 u.mod, .slice ai u.init.length ci, .slice ar u.regs.length cr, vc] 25) (.cells #[xp, xr, xm, xb] 29) 29 #[.slice none 0 0, .slice none 0 0, .slice none 0 0, .slice none 0 0])
  have SZ : Hid ((((w.alloc (.cells #[.int .i64 u.mod, .slice ai u.init.length ci, .slice ar u.regs.length cr, vc] 25)).alloc (.cells #[xp, xr, xm, xb] 29)).alloc (.cells #[.slice none 0 0, .slice none 0 0, .slice none 0 0, .slice none 0 0] 29)).heap.size = w.heap.size + 1 + 1 + 1) := Lib.hid (by simp only [alloc_size])
  clear L2
  clear hu hR
  generalize hni : u.init.length = ni at *
  generalize hnr : u.regs.length = nr at *
  generalize hnc : u.code.length = nc at *
  clear hni hnr hnc
  obtain ⟨_, _, h6, h1, h4, h5⟩ := hlc
  have h5 := h5.symm
  subst h5
  have HX := Lib.hid (HE.out _ L0.out)
  cases b with
  | false =>
    clear H0 H1 H2 hg
    have C0 := KU.out.cell 0
    have C1 := KU.out.cell 1
    have C2 := KU.out.cell 2
    have C3 := KU.out.cell 3
    have Cl := KU.out.lt
    go_enter Tryz.func16, Tryz.ntmps16
    go_wp2_with fail
    clear C0 C1 C2 C3 Cl
    generalize World.alloc (World.alloc (World.alloc w _) _) _ = w1 at L0 KU KC KZ SZ HX ⊢
    refine HX.out.mono ?_
    rintro e w2 ⟨rfl, b2⟩
    have SW : Hid (w1.heap.size ≤ w2.heap.size) := Lib.hid b2.size
    have B2 := Lib.hid (L0.out.trans (b2.mono L0.out.size))
    have KU2 := Lib.hid (KU.out.below b2)
    have KC2 := Lib.hid (KC.out.below b2)
    have KZ2 := Lib.hid (KZ.out.below b2)
    clear b2 HX L0 KU KC KZ
    obtain ⟨uc0, uc1, uc2, uc3, ucl, cc0, cc1, cc2, cc3, ccl⟩ : w2.cell? ⟨w.heap.size, 0, none⟩ = some (.int .i64 u.mod) ∧ w2.cell? ⟨w.heap.size, 1, none⟩ = some (.slice ai ni ci) ∧ w2.cell? ⟨w.heap.size, 2, none⟩ = some (.slice ar nr cr) ∧ w2.cell? ⟨w.heap.size, 3, none⟩ = some (vc) ∧ w.heap.size < w2.heap.size ∧ w2.cell? ⟨w.heap.size + 1, 0, none⟩ = some (xp) ∧ w2.cell? ⟨w.heap.size + 1, 1, none⟩ = some (xr) ∧ w2.cell? ⟨w.heap.size + 1, 2, none⟩ = some (xm) ∧ w2.cell? ⟨w.heap.size + 1, 3, none⟩ = some (xb) ∧ w.heap.size + 1 < w2.heap.size := ⟨KU2.out.cell 0, KU2.out.cell 1, KU2.out.cell 2, KU2.out.cell 3, KU2.out.lt, KC2.out.cell 0, KC2.out.cell 1, KC2.out.cell 2, KC2.out.cell 3, KC2.out.lt⟩
    go_wp2_with fail
    clear uc0 uc1 uc2 uc3 ucl cc0 cc1 cc2 cc3 ccl
    refine (HCP.out w2 B2.out).mono ?_
    rintro e w3 ⟨dd, yp, yr, ym, yb, rfl, od, hd', b3, _⟩
    obtain ⟨a0, n0, a1, n1, a2, n2, a3, n3, rfl, rfl, rfl, rfl⟩ := od.shapes
    have OD := Lib.hid od
    have HD := Lib.hid hd'
    have KZ3 := Lib.hid (KZ2.out.below b3)
    have B3 := Lib.hid (B2.out.trans (b3.mono B2.out.size))
    clear od hd' b3 KZ2 KC2 KU2
    obtain ⟨z0, z1, z2, z3, y0, y1, y2, y3, lz⟩ : w3.cell? ⟨w.heap.size + 1 + 1, 0, none⟩ = some (.slice none 0 0) ∧ w3.cell? ⟨w.heap.size + 1 + 1, 1, none⟩ = some (.slice none 0 0) ∧ w3.cell? ⟨w.heap.size + 1 + 1, 2, none⟩ = some (.slice none 0 0) ∧ w3.cell? ⟨w.heap.size + 1 + 1, 3, none⟩ = some (.slice none 0 0) ∧ w3.frozen? ⟨w.heap.size + 1 + 1, 0, none⟩ = false ∧ w3.frozen? ⟨w.heap.size + 1 + 1, 1, none⟩ = false ∧ w3.frozen? ⟨w.heap.size + 1 + 1, 2, none⟩ = false ∧ w3.frozen? ⟨w.heap.size + 1 + 1, 3, none⟩ = false ∧ w.heap.size + 1 + 1 < w3.heap.size := ⟨KZ3.out.cell 0, KZ3.out.cell 1, KZ3.out.cell 2, KZ3.out.cell 3, KZ3.out.fz 0, KZ3.out.fz 1, KZ3.out.fz 2, KZ3.out.fz 3, KZ3.out.lt⟩
    go_wp2_with fail
    have KF := Lib.hid (set4_bk (.slice a0 dd.pc.length n0) (.slice a1 dd.regs.length n1) (.slice a2 dd.mem.length n2) (.slice a3 dd.buf.length n3) KZ3.out)
    have kp := Lib.hid (set4_kp (w := w3) (B := w2.heap.size) (.slice a0 dd.pc.length n0) (.slice a1 dd.regs.length n1) (.slice a2 dd.mem.length n2) (.slice a3 dd.buf.length n3) (show w.heap.size + 1 + 1 < w2.heap.size by have := SZ.out; have := SW.out; omega))
    have BF := Lib.hid (set4_below (.slice a0 dd.pc.length n0) (.slice a1 dd.regs.length n1) (.slice a2 dd.mem.length n2) (.slice a3 dd.buf.length n3) B3.out (show w.heap.size ≤ w.heap.size + 1 + 1 by omega))
    generalize (((w3.setCell _ _).setCell _ _).setCell _ _).setCell _ _ = w9 at KF kp BF ⊢
    clear z0 z1 z2 z3 y0 y1 y2 y3 lz
    have d0 : w9.cell? ⟨w.heap.size + 1 + 1, 0, none⟩ = some _ := KF.out.cell 0
    have d1 : w9.cell? ⟨w.heap.size + 1 + 1, 1, none⟩ = some _ := KF.out.cell 1
    have d2 : w9.cell? ⟨w.heap.size + 1 + 1, 2, none⟩ = some _ := KF.out.cell 2
    have d3 : w9.cell? ⟨w.heap.size + 1 + 1, 3, none⟩ = some _ := KF.out.cell 3
    refine bodyPost_ret (v := .tuple #[.agg #[.slice a0 dd.pc.length n0, .slice a1 dd.regs.length n1, .slice a2 dd.mem.length n2, .slice a3 dd.buf.length n3], .bool false]) (by simp [results, Tryz.results16, go_sem, d0, d1, d2, d3]) rfl ?_
    exact ⟨dd, _, _, _, _, rfl, (OD.out.kp kp.out).base (by have := SZ.out; have := SW.out; omega), HD.out.trans (H9 (by trivial)), BF.out⟩
  | true =>
    clear H9 HCP
    have hr : 0 ≤ a ∧ a < (agN nr ni model : Int) := by
      by_cases hh : 0 ≤ a ∧ a < (agN nr ni model : Int)
      · exact hh
      · have h9 := H0 (by rw [← hg]; unfold agOf; rw [if_neg hh])
        cases h9
    by_cases an : a < nr
    · have H := Lib.hid (H1 a (by rw [← hg]; unfold agOf; rw [if_pos hr, if_pos an]))
      clear H0 H1 H2 hg hr
      have C0 := KU.out.cell 0
      have C1 := KU.out.cell 1
      have C2 := KU.out.cell 2
      have C3 := KU.out.cell 3
      have Cl := KU.out.lt
      go_enter Tryz.func16, Tryz.ntmps16
      go_wp2_with fail
      clear C0 C1 C2 C3 Cl
      generalize World.alloc (World.alloc (World.alloc w _) _) _ = w1 at L0 KU KC KZ SZ HX ⊢
      refine HX.out.mono ?_
      rintro e w2 ⟨rfl, b2⟩
      have SW : Hid (w1.heap.size ≤ w2.heap.size) := Lib.hid b2.size
      have B2 := Lib.hid (L0.out.trans (b2.mono L0.out.size))
      have KU2 := Lib.hid (KU.out.below b2)
      have KC2 := Lib.hid (KC.out.below b2)
      have KZ2 := Lib.hid (KZ.out.below b2)
      clear b2 HX L0 KU KC KZ
      obtain ⟨uc0, uc1, uc2, uc3, ucl, cc0, cc1, cc2, cc3, ccl⟩ : w2.cell? ⟨w.heap.size, 0, none⟩ = some (.int .i64 u.mod) ∧ w2.cell? ⟨w.heap.size, 1, none⟩ = some (.slice ai ni ci) ∧ w2.cell? ⟨w.heap.size, 2, none⟩ = some (.slice ar nr cr) ∧ w2.cell? ⟨w.heap.size, 3, none⟩ = some (vc) ∧ w.heap.size < w2.heap.size ∧ w2.cell? ⟨w.heap.size + 1, 0, none⟩ = some (xp) ∧ w2.cell? ⟨w.heap.size + 1, 1, none⟩ = some (xr) ∧ w2.cell? ⟨w.heap.size + 1, 2, none⟩ = some (xm) ∧ w2.cell? ⟨w.heap.size + 1, 3, none⟩ = some (xb) ∧ w.heap.size + 1 < w2.heap.size := ⟨KU2.out.cell 0, KU2.out.cell 1, KU2.out.cell 2, KU2.out.cell 3, KU2.out.lt, KC2.out.cell 0, KC2.out.cell 1, KC2.out.cell 2, KC2.out.cell 3, KC2.out.lt⟩
      go_wp2_with fail
      clear uc0 uc1 uc2 uc3 ucl cc0 cc1 cc2 cc3 ccl
      refine (H.out w2 B2.out).mono ?_
      rintro e w3 ⟨dd, yp, yr, ym, yb, rfl, od, hd', b3⟩
      obtain ⟨a0, n0, a1, n1, a2, n2, a3, n3, rfl, rfl, rfl, rfl⟩ := od.shapes
      have OD := Lib.hid od
      have HD := Lib.hid hd'
      have KZ3 := Lib.hid (KZ2.out.below b3)
      have B3 := Lib.hid (B2.out.trans (b3.mono B2.out.size))
      clear od hd' b3 KZ2 KC2 KU2
      obtain ⟨z0, z1, z2, z3, y0, y1, y2, y3, lz⟩ : w3.cell? ⟨w.heap.size + 1 + 1, 0, none⟩ = some (.slice none 0 0) ∧ w3.cell? ⟨w.heap.size + 1 + 1, 1, none⟩ = some (.slice none 0 0) ∧ w3.cell? ⟨w.heap.size + 1 + 1, 2, none⟩ = some (.slice none 0 0) ∧ w3.cell? ⟨w.heap.size + 1 + 1, 3, none⟩ = some (.slice none 0 0) ∧ w3.frozen? ⟨w.heap.size + 1 + 1, 0, none⟩ = false ∧ w3.frozen? ⟨w.heap.size + 1 + 1, 1, none⟩ = false ∧ w3.frozen? ⟨w.heap.size + 1 + 1, 2, none⟩ = false ∧ w3.frozen? ⟨w.heap.size + 1 + 1, 3, none⟩ = false ∧ w.heap.size + 1 + 1 < w3.heap.size := ⟨KZ3.out.cell 0, KZ3.out.cell 1, KZ3.out.cell 2, KZ3.out.cell 3, KZ3.out.fz 0, KZ3.out.fz 1, KZ3.out.fz 2, KZ3.out.fz 3, KZ3.out.lt⟩
      go_wp2_with fail
      have KF := Lib.hid (set4_bk (.slice a0 dd.pc.length n0) (.slice a1 dd.regs.length n1) (.slice a2 dd.mem.length n2) (.slice a3 dd.buf.length n3) KZ3.out)
      have kp := Lib.hid (set4_kp (w := w3) (B := w2.heap.size) (.slice a0 dd.pc.length n0) (.slice a1 dd.regs.length n1) (.slice a2 dd.mem.length n2) (.slice a3 dd.buf.length n3) (show w.heap.size + 1 + 1 < w2.heap.size by have := SZ.out; have := SW.out; omega))
      have BF := Lib.hid (set4_below (.slice a0 dd.pc.length n0) (.slice a1 dd.regs.length n1) (.slice a2 dd.mem.length n2) (.slice a3 dd.buf.length n3) B3.out (show w.heap.size ≤ w.heap.size + 1 + 1 by omega))
      generalize (((w3.setCell _ _).setCell _ _).setCell _ _).setCell _ _ = w9 at KF kp BF ⊢
      clear z0 z1 z2 z3 y0 y1 y2 y3 lz
      have d0 : w9.cell? ⟨w.heap.size + 1 + 1, 0, none⟩ = some _ := KF.out.cell 0
      have d1 : w9.cell? ⟨w.heap.size + 1 + 1, 1, none⟩ = some _ := KF.out.cell 1
      have d2 : w9.cell? ⟨w.heap.size + 1 + 1, 2, none⟩ = some _ := KF.out.cell 2
      have d3 : w9.cell? ⟨w.heap.size + 1 + 1, 3, none⟩ = some _ := KF.out.cell 3
      refine bodyPost_ret (v := .tuple #[.agg #[.slice a0 dd.pc.length n0, .slice a1 dd.regs.length n1, .slice a2 dd.mem.length n2, .slice a3 dd.buf.length n3], .bool true]) (by simp [results, Tryz.results16, go_sem, d0, d1, d2, d3]) rfl ?_
      exact ⟨dd, _, _, _, _, rfl, (OD.out.kp kp.out).base (by have := SZ.out; have := SW.out; omega), HD.out, BF.out⟩
    obtain ⟨d, hd⟩ : ∃ d : Nat, a - nr = (d : Int) := ⟨(a - nr).toNat, by omega⟩
    have hmul : nr * ni ≤ 4 * 6 := Nat.mul_le_mul h4 h6
    have hN28 : agN nr ni model ≤ 28 := by
      unfold agN
      split
      · omega
      · split
        · omega
        · split <;> omega
    have hw : IntKind.i64.wrap (a - (nr : Int)) = (d : Int) := by rw [IntWalk.i64_in _ (by omega), hd]
    by_cases m2 : model = 2
    · have H := Lib.hid (H2 (d : Int) (-1) (by rw [← hg]; unfold agOf; rw [if_pos hr, if_neg an, if_pos m2, hd]))
      subst m2
      clear H0 H1 H2 hg hr hd hN28
      have C0 := KU.out.cell 0
      have C1 := KU.out.cell 1
      have C2 := KU.out.cell 2
      have C3 := KU.out.cell 3
      have Cl := KU.out.lt
      go_enter Tryz.func16, Tryz.ntmps16
      go_wp2_with fail
      clear C0 C1 C2 C3 Cl
      generalize World.alloc (World.alloc (World.alloc w _) _) _ = w1 at L0 KU KC KZ SZ HX ⊢
      refine HX.out.mono ?_
      rintro e w2 ⟨rfl, b2⟩
      have SW : Hid (w1.heap.size ≤ w2.heap.size) := Lib.hid b2.size
      have B2 := Lib.hid (L0.out.trans (b2.mono L0.out.size))
      have KU2 := Lib.hid (KU.out.below b2)
      have KC2 := Lib.hid (KC.out.below b2)
      have KZ2 := Lib.hid (KZ.out.below b2)
      clear b2 HX L0 KU KC KZ
      obtain ⟨uc0, uc1, uc2, uc3, ucl, cc0, cc1, cc2, cc3, ccl⟩ : w2.cell? ⟨w.heap.size, 0, none⟩ = some (.int .i64 u.mod) ∧ w2.cell? ⟨w.heap.size, 1, none⟩ = some (.slice ai ni ci) ∧ w2.cell? ⟨w.heap.size, 2, none⟩ = some (.slice ar nr cr) ∧ w2.cell? ⟨w.heap.size, 3, none⟩ = some (vc) ∧ w.heap.size < w2.heap.size ∧ w2.cell? ⟨w.heap.size + 1, 0, none⟩ = some (xp) ∧ w2.cell? ⟨w.heap.size + 1, 1, none⟩ = some (xr) ∧ w2.cell? ⟨w.heap.size + 1, 2, none⟩ = some (xm) ∧ w2.cell? ⟨w.heap.size + 1, 3, none⟩ = some (xb) ∧ w.heap.size + 1 < w2.heap.size := ⟨KU2.out.cell 0, KU2.out.cell 1, KU2.out.cell 2, KU2.out.cell 3, KU2.out.lt, KC2.out.cell 0, KC2.out.cell 1, KC2.out.cell 2, KC2.out.cell 3, KC2.out.lt⟩
      go_wp2_with fail
      clear uc0 uc1 uc2 uc3 ucl cc0 cc1 cc2 cc3 ccl
      refine (H.out w2 B2.out).mono ?_
      rintro e w3 ⟨dd, yp, yr, ym, yb, rfl, od, hd', b3⟩
      obtain ⟨a0, n0, a1, n1, a2, n2, a3, n3, rfl, rfl, rfl, rfl⟩ := od.shapes
      have OD := Lib.hid od
      have HD := Lib.hid hd'
      have KZ3 := Lib.hid (KZ2.out.below b3)
      have B3 := Lib.hid (B2.out.trans (b3.mono B2.out.size))
      clear od hd' b3 KZ2 KC2 KU2
      obtain ⟨z0, z1, z2, z3, y0, y1, y2, y3, lz⟩ : w3.cell? ⟨w.heap.size + 1 + 1, 0, none⟩ = some (.slice none 0 0) ∧ w3.cell? ⟨w.heap.size + 1 + 1, 1, none⟩ = some (.slice none 0 0) ∧ w3.cell? ⟨w.heap.size + 1 + 1, 2, none⟩ = some (.slice none 0 0) ∧ w3.cell? ⟨w.heap.size + 1 + 1, 3, none⟩ = some (.slice none 0 0) ∧ w3.frozen? ⟨w.heap.size + 1 + 1, 0, none⟩ = false ∧ w3.frozen? ⟨w.heap.size + 1 + 1, 1, none⟩ = false ∧ w3.frozen? ⟨w.heap.size + 1 + 1, 2, none⟩ = false ∧ w3.frozen? ⟨w.heap.size + 1 + 1, 3, none⟩ = false ∧ w.heap.size + 1 + 1 < w3.heap.size := ⟨KZ3.out.cell 0, KZ3.out.cell 1, KZ3.out.cell 2, KZ3.out.cell 3, KZ3.out.fz 0, KZ3.out.fz 1, KZ3.out.fz 2, KZ3.out.fz 3, KZ3.out.lt⟩
      go_wp2_with fail
      have KF := Lib.hid (set4_bk (.slice a0 dd.pc.length n0) (.slice a1 dd.regs.length n1) (.slice a2 dd.mem.length n2) (.slice a3 dd.buf.length n3) KZ3.out)
      have kp := Lib.hid (set4_kp (w := w3) (B := w2.heap.size) (.slice a0 dd.pc.length n0) (.slice a1 dd.regs.length n1) (.slice a2 dd.mem.length n2) (.slice a3 dd.buf.length n3) (show w.heap.size + 1 + 1 < w2.heap.size by have := SZ.out; have := SW.out; omega))
      have BF := Lib.hid (set4_below (.slice a0 dd.pc.length n0) (.slice a1 dd.regs.length n1) (.slice a2 dd.mem.length n2) (.slice a3 dd.buf.length n3) B3.out (show w.heap.size ≤ w.heap.size + 1 + 1 by omega))
      generalize (((w3.setCell _ _).setCell _ _).setCell _ _).setCell _ _ = w9 at KF kp BF ⊢
      clear z0 z1 z2 z3 y0 y1 y2 y3 lz
      have d0 : w9.cell? ⟨w.heap.size + 1 + 1, 0, none⟩ = some _ := KF.out.cell 0
      have d1 : w9.cell? ⟨w.heap.size + 1 + 1, 1, none⟩ = some _ := KF.out.cell 1
      have d2 : w9.cell? ⟨w.heap.size + 1 + 1, 2, none⟩ = some _ := KF.out.cell 2
      have d3 : w9.cell? ⟨w.heap.size + 1 + 1, 3, none⟩ = some _ := KF.out.cell 3
      refine bodyPost_ret (v := .tuple #[.agg #[.slice a0 dd.pc.length n0, .slice a1 dd.regs.length n1, .slice a2 dd.mem.length n2, .slice a3 dd.buf.length n3], .bool true]) (by simp [results, Tryz.results16, go_sem, d0, d1, d2, d3]) rfl ?_
      exact ⟨dd, _, _, _, _, rfl, (OD.out.kp kp.out).base (by have := SZ.out; have := SW.out; omega), HD.out, BF.out⟩
    have m3 : model = 3 := by
      have h5 := hr.2
      unfold agN at h5
      by_cases hm1 : model = 1
      · rw [if_pos hm1] at h5; omega
      rw [if_neg hm1, if_neg m2] at h5
      by_cases hm3 : model = 3
      · exact hm3
      · rw [if_neg hm3] at h5; omega
    have hdl : d < nr * ni := by have h5 := hr.2; subst m3; unfold agN at h5; rw [if_neg (by omega), if_neg (by omega), if_pos rfl] at h5; omega
    have hni : 0 < ni := by
      rcases Nat.eq_zero_or_pos ni with h0 | h0
      · rw [h0, Nat.mul_zero] at hdl; omega
      · exact h0
    have hqb : d / ni < nr := Nat.div_lt_of_lt_mul (by rw [Nat.mul_comm]; exact hdl)
    have hrb : d % ni < ni := Nat.mod_lt _ hni
    have hq : (d : Int).tdiv (ni : Int) = ((d / ni : Nat) : Int) := by rw [Int.tdiv_eq_ediv_of_nonneg (by omega), Int.natCast_ediv]
    have hrr : (d : Int).tmod (ni : Int) = ((d % ni : Nat) : Int) := by rw [Int.tmod_eq_emod_of_nonneg (by omega), Int.natCast_emod]
    have H := Lib.hid (H2 ((d / ni : Nat) : Int) ((d % ni : Nat) : Int) (by rw [← hg]; unfold agOf; rw [if_pos hr, if_neg an, if_neg m2, hd, Int.natCast_ediv, Int.natCast_emod]))
    clear H0 H1 H2 hg
    generalize d / ni = q at *
    generalize d % ni = r at *
    have hqw : IntKind.i64.wrap (q : Int) = (q : Int) := IntWalk.i64_in _ (by omega)
    have hrw : IntKind.i64.wrap (r : Int) = (r : Int) := IntWalk.i64_in _ (by omega)
    have hnz : ¬ (ni : Int) = 0 := by omega
    have hnz2 : ¬ ni = 0 := by omega
    have hnz3 : ((ni : Int) == 0) = false := by simpa using hnz2
    subst m3
    clear hr hd hN28 hmul hdl
    have C0 := KU.out.cell 0
    have C1 := KU.out.cell 1
    have C2 := KU.out.cell 2
    have C3 := KU.out.cell 3
    have Cl := KU.out.lt
    go_enter Tryz.func16, Tryz.ntmps16
    go_wp2_with fail
    clear C0 C1 C2 C3 Cl
    generalize World.alloc (World.alloc (World.alloc w _) _) _ = w1 at L0 KU KC KZ SZ HX ⊢
    refine HX.out.mono ?_
    rintro e w2 ⟨rfl, b2⟩
    have SW : Hid (w1.heap.size ≤ w2.heap.size) := Lib.hid b2.size
    have B2 := Lib.hid (L0.out.trans (b2.mono L0.out.size))
    have KU2 := Lib.hid (KU.out.below b2)
    have KC2 := Lib.hid (KC.out.below b2)
    have KZ2 := Lib.hid (KZ.out.below b2)
    clear b2 HX L0 KU KC KZ
    obtain ⟨uc0, uc1, uc2, uc3, ucl, cc0, cc1, cc2, cc3, ccl⟩ : w2.cell? ⟨w.heap.size, 0, none⟩ = some (.int .i64 u.mod) ∧ w2.cell? ⟨w.heap.size, 1, none⟩ = some (.slice ai ni ci) ∧ w2.cell? ⟨w.heap.size, 2, none⟩ = some (.slice ar nr cr) ∧ w2.cell? ⟨w.heap.size, 3, none⟩ = some (vc) ∧ w.heap.size < w2.heap.size ∧ w2.cell? ⟨w.heap.size + 1, 0, none⟩ = some (xp) ∧ w2.cell? ⟨w.heap.size + 1, 1, none⟩ = some (xr) ∧ w2.cell? ⟨w.heap.size + 1, 2, none⟩ = some (xm) ∧ w2.cell? ⟨w.heap.size + 1, 3, none⟩ = some (xb) ∧ w.heap.size + 1 < w2.heap.size := ⟨KU2.out.cell 0, KU2.out.cell 1, KU2.out.cell 2, KU2.out.cell 3, KU2.out.lt, KC2.out.cell 0, KC2.out.cell 1, KC2.out.cell 2, KC2.out.cell 3, KC2.out.lt⟩
    go_wp2_with fail
    clear uc0 uc1 uc2 uc3 ucl cc0 cc1 cc2 cc3 ccl
    replace B2 := Lib.hid (B2.out.trans ((below_draws' w2).mono B2.out.size))
    replace KZ2 := Lib.hid (KZ2.out.below (below_draws' w2))
    replace KU2 := Lib.hid (KU2.out.below (below_draws' w2))
    replace KC2 := Lib.hid (KC2.out.below (below_draws' w2))
    refine wp_region_held_drew (S := fun W1 => W1.cell? ⟨w.heap.size, 1, none⟩ = some (.slice ai ni ci) ∧ W1.cell? ⟨w.heap.size + 1, 0, none⟩ = some xp ∧ W1.cell? ⟨w.heap.size + 1, 1, none⟩ = some xr ∧ W1.cell? ⟨w.heap.size + 1, 2, none⟩ = some xm ∧ W1.cell? ⟨w.heap.size + 1, 3, none⟩ = some xb ∧ True) (by kernel_rfl) ⟨KU2.out.cell 1, KC2.out.cell 0, KC2.out.cell 1, KC2.out.cell 2, KC2.out.cell 3, trivial⟩ (fun hS => ?_)
    refine wpAnyH_take (i := 0) (v := .agg #[xp, xr, xm, xb]) rfl (by kernel_rfl) (by kernel_rfl) (by kernel_rfl) (fun _ _ _ h => h) (Or.inl ⟨by rfl, fun w hSw => by obtain ⟨s0, s1, s2, s3, s4, _⟩ := hSw; first | (go_simp; done) | (go_simp; with_reducible rfl)⟩) hS ?_
    simp only [Act.put, List.setIfInBounds_toArray, List.set_cons_zero, List.set_cons_succ]
    refine wpAnyH_take (i := 1) (v := .int .i64 3) rfl (by kernel_rfl) (by kernel_rfl) (by kernel_rfl) (fun _ _ _ h => h) (Or.inl ⟨by rfl, fun w hSw => by obtain ⟨s0, s1, s2, s3, s4, _⟩ := hSw; first | (go_simp; done) | (go_simp; with_reducible rfl)⟩) hS ?_
    simp only [Act.put, List.setIfInBounds_toArray, List.set_cons_zero, List.set_cons_succ]
    refine wpAnyH_take (i := 2) (v := .int .i64 a) rfl (by kernel_rfl) (by kernel_rfl) (by kernel_rfl) (fun _ _ _ h => h) (Or.inl ⟨by rfl, fun w hSw => by obtain ⟨s0, s1, s2, s3, s4, _⟩ := hSw; first | (go_simp; done) | (go_simp; with_reducible rfl)⟩) hS ?_
    simp only [Act.put, List.setIfInBounds_toArray, List.set_cons_zero, List.set_cons_succ]
    refine wpAnyH_take (i := 3) (v := .int .i64 nr) rfl (by kernel_rfl) (by kernel_rfl) (by kernel_rfl) (fun _ _ _ h => h) (Or.inl ⟨by rfl, fun w hSw => by obtain ⟨s0, s1, s2, s3, s4, _⟩ := hSw; first | (go_simp; done) | (go_simp; with_reducible rfl)⟩) hS ?_
    simp only [Act.put, List.setIfInBounds_toArray, List.set_cons_zero, List.set_cons_succ]
    refine wpAnyH_take (i := 4) (v := .int .i64 d) rfl (by kernel_rfl) (by kernel_rfl) (by kernel_rfl) (fun _ _ _ h => h) (Or.inl ⟨by rfl, fun w hSw => by obtain ⟨s0, s1, s2, s3, s4, _⟩ := hSw; first | (go_simp; done) | (go_simp; with_reducible rfl)⟩) hS ?_
    simp only [Act.put, List.setIfInBounds_toArray, List.set_cons_zero, List.set_cons_succ]
    refine wpAnyH_take (i := 5) (v := .pointer (some ⟨w.heap.size, 1, none⟩)) rfl (by kernel_rfl) (by kernel_rfl) (by kernel_rfl) (fun _ _ _ h => h) (Or.inl ⟨by rfl, fun w hSw => by obtain ⟨s0, s1, s2, s3, s4, _⟩ := hSw; first | (go_simp; done) | (go_simp; with_reducible rfl)⟩) hS ?_
    simp only [Act.put, List.setIfInBounds_toArray, List.set_cons_zero, List.set_cons_succ]
    refine wpAnyH_take (i := 6) (v := .slice ai ni ci) rfl (by kernel_rfl) (by kernel_rfl) (by kernel_rfl) (fun _ _ _ h => h) (Or.inl ⟨by rfl, fun w hSw => by obtain ⟨s0, s1, s2, s3, s4, _⟩ := hSw; first | (go_simp; done) | (go_simp; with_reducible rfl)⟩) hS ?_
    simp only [Act.put, List.setIfInBounds_toArray, List.set_cons_zero, List.set_cons_succ]
    refine wpAnyH_take (i := 7) (v := .int .i64 ni) rfl (by kernel_rfl) (by kernel_rfl) (by kernel_rfl) (fun _ _ _ h => h) (Or.inl ⟨by rfl, fun w hSw => by obtain ⟨s0, s1, s2, s3, s4, _⟩ := hSw; first | (go_simp; done) | (go_simp; with_reducible rfl)⟩) hS ?_
    simp only [Act.put, List.setIfInBounds_toArray, List.set_cons_zero, List.set_cons_succ]
    refine wpAnyH_take (i := 8) (v := .int .i64 q) rfl (by kernel_rfl) (by kernel_rfl) (by kernel_rfl) (fun _ _ _ h => h) (Or.inl ⟨by rfl, fun w hSw => by obtain ⟨s0, s1, s2, s3, s4, _⟩ := hSw; first | (go_simp; done) | (go_simp; with_reducible rfl)⟩) hS ?_
    simp only [Act.put, List.setIfInBounds_toArray, List.set_cons_zero, List.set_cons_succ]
    refine wpAnyH_take (i := 9) (v := .int .i64 a) rfl (by kernel_rfl) (by kernel_rfl) (by kernel_rfl) (fun _ _ _ h => h) (Or.inl ⟨by rfl, fun w hSw => by obtain ⟨s0, s1, s2, s3, s4, _⟩ := hSw; first | (go_simp; done) | (go_simp; with_reducible rfl)⟩) hS ?_
    simp only [Act.put, List.setIfInBounds_toArray, List.set_cons_zero, List.set_cons_succ]
    refine wpAnyH_take (i := 10) (v := .int .i64 nr) rfl (by kernel_rfl) (by kernel_rfl) (by kernel_rfl) (fun _ _ _ h => h) (Or.inl ⟨by rfl, fun w hSw => by obtain ⟨s0, s1, s2, s3, s4, _⟩ := hSw; first | (go_simp; done) | (go_simp; with_reducible rfl)⟩) hS ?_
    simp only [Act.put, List.setIfInBounds_toArray, List.set_cons_zero, List.set_cons_succ]
    refine wpAnyH_take (i := 11) (v := .int .i64 d) rfl (by kernel_rfl) (by kernel_rfl) (by kernel_rfl) (fun _ _ _ h => h) (Or.inl ⟨by rfl, fun w hSw => by obtain ⟨s0, s1, s2, s3, s4, _⟩ := hSw; first | (go_simp; done) | (go_simp; with_reducible rfl)⟩) hS ?_
    simp only [Act.put, List.setIfInBounds_toArray, List.set_cons_zero, List.set_cons_succ]
    refine wpAnyH_take (i := 12) (v := .pointer (some ⟨w.heap.size, 1, none⟩)) rfl (by kernel_rfl) (by kernel_rfl) (by kernel_rfl) (fun _ _ _ h => h) (Or.inl ⟨by rfl, fun w hSw => by obtain ⟨s0, s1, s2, s3, s4, _⟩ := hSw; first | (go_simp; done) | (go_simp; with_reducible rfl)⟩) hS ?_
    simp only [Act.put, List.setIfInBounds_toArray, List.set_cons_zero, List.set_cons_succ]
    refine wpAnyH_take (i := 13) (v := .slice ai ni ci) rfl (by kernel_rfl) (by kernel_rfl) (by kernel_rfl) (fun _ _ _ h => h) (Or.inl ⟨by rfl, fun w hSw => by obtain ⟨s0, s1, s2, s3, s4, _⟩ := hSw; first | (go_simp; done) | (go_simp; with_reducible rfl)⟩) hS ?_
    simp only [Act.put, List.setIfInBounds_toArray, List.set_cons_zero, List.set_cons_succ]
    refine wpAnyH_take (i := 14) (v := .int .i64 ni) rfl (by kernel_rfl) (by kernel_rfl) (by kernel_rfl) (fun _ _ _ h => h) (Or.inl ⟨by rfl, fun w hSw => by obtain ⟨s0, s1, s2, s3, s4, _⟩ := hSw; first | (go_simp; done) | (go_simp; with_reducible rfl)⟩) hS ?_
    simp only [Act.put, List.setIfInBounds_toArray, List.set_cons_zero, List.set_cons_succ]
    refine wpAnyH_take (i := 15) (v := .int .i64 r) rfl (by kernel_rfl) (by kernel_rfl) (by kernel_rfl) (fun _ _ _ h => h) (Or.inl ⟨by rfl, fun w hSw => by obtain ⟨s0, s1, s2, s3, s4, _⟩ := hSw; first | (go_simp; done) | (go_simp; with_reducible rfl)⟩) hS ?_
    simp only [Act.put, List.setIfInBounds_toArray, List.set_cons_zero, List.set_cons_succ]
    refine wpAnyH_ready (rs := [16]) (by kernel_rfl) (by simp) ?_
    refine AllReadyH.cons rfl (fun K hK => ?_) AllReadyH.nil
    go_simp
    go_wp2_with (fail)
    refine (H.out w2.drew B2.out).mono ?_
    rintro e w3 ⟨dd, yp, yr, ym, yb, rfl, od, hd', b3⟩
    obtain ⟨a0, n0, a1, n1, a2, n2, a3, n3, rfl, rfl, rfl, rfl⟩ := od.shapes
    have OD := Lib.hid od
    have HD := Lib.hid hd'
    replace KZ2 := Lib.hid (KZ2.out.below b3)
    replace KU2 := Lib.hid (KU2.out.below b3)
    replace KC2 := Lib.hid (KC2.out.below b3)
    have B3 := Lib.hid (B2.out.trans (b3.mono B2.out.size))
    clear od hd' b3
    go_wp2_with (fail)
    refine hK.out _ _ ⟨KU2.out.cell 1, KC2.out.cell 0, KC2.out.cell 1, KC2.out.cell 2, KC2.out.cell 3, trivial⟩ (fun hS => ?_)
    clear hK K
    refine wpAnyH_take (i := 17) (v := .agg #[.slice a0 dd.pc.length n0, .slice a1 dd.regs.length n1, .slice a2 dd.mem.length n2, .slice a3 dd.buf.length n3]) rfl (by kernel_rfl) (by kernel_rfl) (by kernel_rfl) (fun _ _ _ h => h) (Or.inl ⟨by rfl, fun w hSw => by obtain ⟨s0, s1, s2, s3, s4, _⟩ := hSw; first | (go_simp; done) | (go_simp; with_reducible rfl)⟩) hS ?_
    simp only [Act.put, List.setIfInBounds_toArray, List.set_cons_zero, List.set_cons_succ]
    refine wpAnyH_take (i := 18) (v := .bool true) rfl (by kernel_rfl) (by kernel_rfl) (by kernel_rfl) (fun _ _ _ h => h) (Or.inl ⟨by rfl, fun w hSw => by obtain ⟨s0, s1, s2, s3, s4, _⟩ := hSw; first | (go_simp; done) | (go_simp; with_reducible rfl)⟩) hS ?_
    simp only [Act.put, List.setIfInBounds_toArray, List.set_cons_zero, List.set_cons_succ]
    obtain ⟨z0, z1, z2, z3, y0, y1, y2, y3, lz⟩ : w3.cell? ⟨w.heap.size + 1 + 1, 0, none⟩ = some (.slice none 0 0) ∧ w3.cell? ⟨w.heap.size + 1 + 1, 1, none⟩ = some (.slice none 0 0) ∧ w3.cell? ⟨w.heap.size + 1 + 1, 2, none⟩ = some (.slice none 0 0) ∧ w3.cell? ⟨w.heap.size + 1 + 1, 3, none⟩ = some (.slice none 0 0) ∧ w3.frozen? ⟨w.heap.size + 1 + 1, 0, none⟩ = false ∧ w3.frozen? ⟨w.heap.size + 1 + 1, 1, none⟩ = false ∧ w3.frozen? ⟨w.heap.size + 1 + 1, 2, none⟩ = false ∧ w3.frozen? ⟨w.heap.size + 1 + 1, 3, none⟩ = false ∧ w.heap.size + 1 + 1 < w3.heap.size := ⟨KZ2.out.cell 0, KZ2.out.cell 1, KZ2.out.cell 2, KZ2.out.cell 3, KZ2.out.fz 0, KZ2.out.fz 1, KZ2.out.fz 2, KZ2.out.fz 3, KZ2.out.lt⟩
    refine wpAnyH_ready (rs := [19]) (by kernel_rfl) (by simp) ?_
    refine AllReadyH.cons rfl (fun K hK => ?_) AllReadyH.nil
    go_simp
    go_wp2_with (fail)
    have KF := Lib.hid (set4_bk (.slice a0 dd.pc.length n0) (.slice a1 dd.regs.length n1) (.slice a2 dd.mem.length n2) (.slice a3 dd.buf.length n3) KZ2.out)
    have kp := Lib.hid (set4_kp (w := w3) (B := w2.heap.size) (.slice a0 dd.pc.length n0) (.slice a1 dd.regs.length n1) (.slice a2 dd.mem.length n2) (.slice a3 dd.buf.length n3) (show w.heap.size + 1 + 1 < w2.heap.size by have := SZ.out; have := SW.out; omega))
    have BF := Lib.hid (set4_below (.slice a0 dd.pc.length n0) (.slice a1 dd.regs.length n1) (.slice a2 dd.mem.length n2) (.slice a3 dd.buf.length n3) B3.out (show w.heap.size ≤ w.heap.size + 1 + 1 by omega))
    replace KU2 := Lib.hid (set4_else (.slice a0 dd.pc.length n0) (.slice a1 dd.regs.length n1) (.slice a2 dd.mem.length n2) (.slice a3 dd.buf.length n3) (show ¬ w.heap.size = w.heap.size + 1 + 1 by omega) KU2.out)
    replace KC2 := Lib.hid (set4_else (.slice a0 dd.pc.length n0) (.slice a1 dd.regs.length n1) (.slice a2 dd.mem.length n2) (.slice a3 dd.buf.length n3) (show ¬ w.heap.size + 1 = w.heap.size + 1 + 1 by omega) KC2.out)
    generalize (((w3.setCell _ _).setCell _ _).setCell _ _).setCell _ _ = w9 at KF kp BF KU2 KC2 ⊢
    clear z0 z1 z2 z3 y0 y1 y2 y3 lz
    refine hK.out _ _ ⟨KU2.out.cell 1, KC2.out.cell 0, KC2.out.cell 1, KC2.out.cell 2, KC2.out.cell 3, trivial⟩ (fun hS => ?_)
    clear hK K
    refine wpAnyH_ready (rs := [20]) (by kernel_rfl) (by simp) ?_
    refine AllReadyH.cons rfl (fun K hK => ?_) AllReadyH.nil
    go_simp
    go_wp2_with (fail)
    refine hK.out _ _ ⟨KU2.out.cell 1, KC2.out.cell 0, KC2.out.cell 1, KC2.out.cell 2, KC2.out.cell 3, trivial⟩ (fun hS => ?_)
    clear hK K hS
    refine wpAnyH_done (by kernel_rfl) ?_ _
    have d0 : w9.cell? ⟨w.heap.size + 1 + 1, 0, none⟩ = some _ := KF.out.cell 0
    have d1 : w9.cell? ⟨w.heap.size + 1 + 1, 1, none⟩ = some _ := KF.out.cell 1
    have d2 : w9.cell? ⟨w.heap.size + 1 + 1, 2, none⟩ = some _ := KF.out.cell 2
    have d3 : w9.cell? ⟨w.heap.size + 1 + 1, 3, none⟩ = some _ := KF.out.cell 3
    go_wp2_with (fail)
    refine bodyPost_ret (v := .tuple #[.agg #[.slice a0 dd.pc.length n0, .slice a1 dd.regs.length n1, .slice a2 dd.mem.length n2, .slice a3 dd.buf.length n3], .bool true]) (by simp [results, Tryz.results16, go_sem, d0, d1, d2, d3]) rfl ?_
    exact ⟨dd, _, _, _, _, rfl, (OD.out.kp kp.out).base (show w.heap.size ≤ w2.heap.size by have := SZ.out; have := SW.out; omega), HD.out, BF.out⟩
end Go.Proofs.YtacbanfnakgecaaGreat

namespace Go.Proofs.YtacbanfnakgecaaGreat
set_option linter.unusedSimpArgs false
set_option linter.unusedVariables false
open Go.RowKit
set_option maxRecDepth 100000 in
set_option maxHeartbeats 4000000 in
theorem rmoves_core (u : Un) (model room : Int) (vi vr vc xp xr xm xb : Value) (w : World) (hu : UnD w vi vr vc u) (hl : LtU u) (hs : ShortU u) (hR : rightU u = true) (en : Int → Bool)
    (H : ∀ (a : Int) W, Below w.heap.size w W → Calls Tryz.prog 43 #[.agg #[.int .i64 u.mod, vi, vr, vc], .agg #[xp, xr, xm, xb], .int .i64 model, .int .i64 room, .int .i64 a] W fun e w' => e = .returned (.bool (en a)) ∧ Below W.heap.size W w') :
    Calls Tryz.prog 20 #[.agg #[.int .i64 u.mod, vi, vr, vc], .agg #[xp, xr, xm, xb], .int .i64 model, .int .i64 room] w fun e w' => ∃ v, e = .returned v ∧ OwnI w' w.heap.size v (mvG en (agN u.code.length u.init.length model)) ∧ Below w.heap.size w w' := by
  have HA := Lib.hid (fun (W : World) (h : Below w.heap.size w W) => ragents_any u model vi vr vc W (hu.below h) hs _ rfl)
  have hN4 := agN_400 hl model
  have hag : agA u model = agN u.code.length u.init.length model := by unfold agA; rw [if_pos hR]
  rw [hag] at HA
  have HH := Lib.hid H
  clear H hu hag hR hl hs
  generalize agN u.code.length u.init.length model = N at *
  have L0 := Lib.hid (two_new w 25 29 #[.int .i64 u.mod, vi, vr, vc] #[xp, xr, xm, xb]).1
  have KU := Lib.hid (two_new w 25 29 #[.int .i64 u.mod, vi, vr, vc] #[xp, xr, xm, xb]).2.1
  have KC := Lib.hid (two_new w 25 29 #[.int .i64 u.mod, vi, vr, vc] #[xp, xr, xm, xb]).2.2
  go_enter Tryz.func20, Tryz.ntmps20
  go_wp2_with fail
  generalize World.alloc (World.alloc w _) _ = w2 at L0 KU KC ⊢
  go_loopg [9, 10] N (fun fuel mv i' wr => ∃ (k : Nat), i' = .int .i64 k ∧ k ≤ N ∧ N - k ≤ fuel ∧ OwnI wr w2.heap.size mv (mvG en k) ∧ Below w2.heap.size w2 wr)
  case atStart => exact ⟨0, rfl, Nat.zero_le _, Nat.le_refl _, World.ownsRow_nil _ _ _ _, Below.refl _ _⟩
  case round =>
    obtain ⟨k, rfl, hk, hf, ho, hb⟩ := hrel
    have HB := Lib.hid hb
    have HO := Lib.hid ho
    have KUR := Lib.hid (KU.out.below hb)
    have KCR := Lib.hid (KC.out.below hb)
    clear ho hb
    have HX0 := Lib.hid (HA.out wr (L0.out.trans (HB.out.mono L0.out.size)))
    obtain ⟨u0, u1, u2, u3, ul, c0, c1, c2, c3, cl⟩ : wr.cell? ⟨w.heap.size, 0, none⟩ = some (.int .i64 u.mod) ∧ wr.cell? ⟨w.heap.size, 1, none⟩ = some vi ∧ wr.cell? ⟨w.heap.size, 2, none⟩ = some vr ∧ wr.cell? ⟨w.heap.size, 3, none⟩ = some vc ∧ w.heap.size < wr.heap.size ∧ wr.cell? ⟨w.heap.size + 1, 0, none⟩ = some xp ∧ wr.cell? ⟨w.heap.size + 1, 1, none⟩ = some xr ∧ wr.cell? ⟨w.heap.size + 1, 2, none⟩ = some xm ∧ wr.cell? ⟨w.heap.size + 1, 3, none⟩ = some xb ∧ w.heap.size + 1 < wr.heap.size := ⟨KUR.out.cell 0, KUR.out.cell 1, KUR.out.cell 2, KUR.out.cell 3, KUR.out.lt, KCR.out.cell 0, KCR.out.cell 1, KCR.out.cell 2, KCR.out.cell 3, KCR.out.lt⟩
    go_wp2_with fail
    clear u0 u1 u2 u3 ul c0 c1 c2 c3 cl
    refine HX0.out.mono ?_
    rintro e w4 ⟨rfl, b⟩
    replace HB := Lib.hid (HB.out.trans (b.mono HB.out.size))
    replace HO := Lib.hid (own_below HO.out b)
    replace KUR := Lib.hid (KUR.out.below b)
    replace KCR := Lib.hid (KCR.out.below b)
    clear b HX0
    obtain ⟨u0, u1, u2, u3, ul, c0, c1, c2, c3, cl⟩ : w4.cell? ⟨w.heap.size, 0, none⟩ = some (.int .i64 u.mod) ∧ w4.cell? ⟨w.heap.size, 1, none⟩ = some vi ∧ w4.cell? ⟨w.heap.size, 2, none⟩ = some vr ∧ w4.cell? ⟨w.heap.size, 3, none⟩ = some vc ∧ w.heap.size < w4.heap.size ∧ w4.cell? ⟨w.heap.size + 1, 0, none⟩ = some xp ∧ w4.cell? ⟨w.heap.size + 1, 1, none⟩ = some xr ∧ w4.cell? ⟨w.heap.size + 1, 2, none⟩ = some xm ∧ w4.cell? ⟨w.heap.size + 1, 3, none⟩ = some xb ∧ w.heap.size + 1 < w4.heap.size := ⟨KUR.out.cell 0, KUR.out.cell 1, KUR.out.cell 2, KUR.out.cell 3, KUR.out.lt, KCR.out.cell 0, KCR.out.cell 1, KCR.out.cell 2, KCR.out.cell 3, KCR.out.lt⟩
    by_cases hlt : k < N
    · have HX := Lib.hid (HH.out (k : Int) w4 (L0.out.trans (HB.out.mono L0.out.size)))
      have HS : mvG en (k + 1) = if en (k : Int) = true then mvG en k ++ [(k : Int)] else mvG en k := rfl
      obtain ⟨q, hq⟩ : ∃ q, en (k : Int) = q := ⟨_, rfl⟩
      rw [hq] at HX HS
      replace HS := Lib.hid HS
      clear hq
      have HL := Lib.hid (mvG_len en k)
      go_wp2_with fail
      clear u0 u1 u2 u3 ul c0 c1 c2 c3 cl
      refine HX.out.mono ?_
      rintro e w3 ⟨rfl, b⟩
      replace HB := Lib.hid (HB.out.trans (b.mono HB.out.size))
      replace HO := Lib.hid (own_below HO.out b)
      clear b HX KUR KCR
      cases q with
      | false =>
        go_wp2_with fail
        go_roundg (gk - 1)
        case measure => omega
        case rel => exact ⟨k + 1, by go_num, by omega, by omega, by rw [HS.out, if_neg (by simp)]; exact HO.out, HB.out⟩
      | true =>
        obtain ⟨ad2, cap2, rfl, _⟩ := own_shape' HO.out
        have L1 : Hid (Below w3.heap.size w3 (w3.alloc (.cells #[.int .i64 k] 3))) := (Below.refl _ _).alloc (Nat.le_refl _) _
        go_wp2_with (at_builtin; refine append_num rfl (.tmp 24) (.tmp 26) rfl w2.heap.size (mvG en k).length (.slice ad2 (mvG en k).length cap2) (rowI (mvG en k)) k rfl w3.heap.size rfl (own_below HO.out L1.out) (heap_alloc_new _ _) (by have := HL.out; omega) (by have := HB.out.size; have := L1.out.size; omega) ?_; intro g' cap' w4 ho4 hb4)
        have B4 := Lib.hid (HB.out.trans (L1.out.mono HB.out.size))
        go_roundg (gk - 1)
        case measure => omega
        case rel =>
          refine ⟨k + 1, by go_num, by omega, by omega, ?_, B4.out.trans hb4⟩
          rw [HS.out, if_pos trivial]
          have h1 : (mvG en k ++ [(k : Int)]).length = (mvG en k).length + 1 := by simp
          have h2 : rowI (mvG en k ++ [(k : Int)]) = rowI (mvG en k) ++ [.int .i64 k] := by rw [rowI_app]; rfl
          show World.ownsRow _ _ _ _ _ _ _
          rw [h1, h2]
          exact ho4
    · obtain rfl : k = N := by omega
      go_wp2_with fail
      go_ret
      exact ⟨_, rfl, own_base HO.out L0.out.size, L0.out.trans (HB.out.mono L0.out.size)⟩
set_option maxRecDepth 100000 in
set_option maxHeartbeats 4000000 in
theorem rdead_core (u : Un) (model room : Int) (vi vr vc xp xr xm xb : Value) (w : World) (l : List Int) (q b : Bool) (hb : (decide (l.length = 0) && !q) = b)
    (HM0 : ∀ W, Below w.heap.size w W → Calls Tryz.prog 20 #[.agg #[.int .i64 u.mod, vi, vr, vc], .agg #[xp, xr, xm, xb], .int .i64 model, .int .i64 room] W fun e w' => ∃ v, e = .returned v ∧ OwnI w' W.heap.size v l ∧ Below W.heap.size W w')
    (HF0 : ∀ W, Below w.heap.size w W → Calls Tryz.prog 48 #[.agg #[.int .i64 u.mod, vi, vr, vc], .agg #[xp, xr, xm, xb]] W fun e w' => e = .returned (.bool q) ∧ Below W.heap.size W w') :
    Calls Tryz.prog 22 #[.agg #[.int .i64 u.mod, vi, vr, vc], .agg #[xp, xr, xm, xb], .int .i64 model, .int .i64 room] w fun e w' => e = .returned (.bool b) ∧ Below w.heap.size w w' := by
  have HM := Lib.hid HM0
  have HF := Lib.hid HF0
  have HB := Lib.hid hb
  clear HM0 HF0 hb
  have KU := Lib.hid (two_new w 25 29 #[.int .i64 u.mod, vi, vr, vc] #[xp, xr, xm, xb]).2.1
  have KC := Lib.hid (two_new w 25 29 #[.int .i64 u.mod, vi, vr, vc] #[xp, xr, xm, xb]).2.2
  have L0 := Lib.hid (two_new w 25 29 #[.int .i64 u.mod, vi, vr, vc] #[xp, xr, xm, xb]).1
  go_enter Tryz.func22, Tryz.ntmps22
  go_wp2_with fail
  generalize World.alloc (World.alloc w _) _ = w1 at L0 KU KC ⊢
  refine (HM.out w1 L0.out).mono ?_
  rintro e w2 ⟨v, rfl, ov, b⟩
  obtain ⟨ad, cap, rfl, _⟩ := own_shape' ov
  have B2 := Lib.hid (L0.out.trans (b.mono L0.out.size))
  have KU2 := Lib.hid (KU.out.below b)
  have KC2 := Lib.hid (KC.out.below b)
  clear b L0 KU KC ov HM
  obtain ⟨u0, u1, u2, u3, ul, c0, c1, c2, c3, cl⟩ : w2.cell? ⟨w.heap.size, 0, none⟩ = some (.int .i64 u.mod) ∧ w2.cell? ⟨w.heap.size, 1, none⟩ = some vi ∧ w2.cell? ⟨w.heap.size, 2, none⟩ = some vr ∧ w2.cell? ⟨w.heap.size, 3, none⟩ = some vc ∧ w.heap.size < w2.heap.size ∧ w2.cell? ⟨w.heap.size + 1, 0, none⟩ = some xp ∧ w2.cell? ⟨w.heap.size + 1, 1, none⟩ = some xr ∧ w2.cell? ⟨w.heap.size + 1, 2, none⟩ = some xm ∧ w2.cell? ⟨w.heap.size + 1, 3, none⟩ = some xb ∧ w.heap.size + 1 < w2.heap.size := ⟨KU2.out.cell 0, KU2.out.cell 1, KU2.out.cell 2, KU2.out.cell 3, KU2.out.lt, KC2.out.cell 0, KC2.out.cell 1, KC2.out.cell 2, KC2.out.cell 3, KC2.out.lt⟩
  generalize l.length = n at HB ⊢
  by_cases hn : n = 0
  · subst hn
    go_wp2_with fail
    refine (HF.out w2 B2.out).mono ?_
    rintro e w3 ⟨rfl, b⟩
    go_wp2_with fail
    go_ret
    exact ⟨ret_bool (by rw [← HB.out]; simp), B2.out.trans (b.mono B2.out.size)⟩
  · have hn1 : decide (n = 0) = false := decide_eq_false hn
    have hn2 : ¬ (n : Int) = 0 := by omega
    replace hn := Lib.hid hn
    go_wp2_with fail
    go_ret
    exact ⟨ret_bool (by rw [← HB.out, hn1]; rfl), B2.out⟩
end Go.Proofs.YtacbanfnakgecaaGreat
