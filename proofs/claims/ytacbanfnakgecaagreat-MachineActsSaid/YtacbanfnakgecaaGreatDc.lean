/- The reference's agents: Enabled, Act, Moves, Dead. -/
import Derived.Test.YtacbanfnakgecaaGreatDa
import Derived.Test.YtacbanfnakgecaaGreatTh
import Derived.Test.YtacbanfnakgecaaGreatCf
namespace Go.Proofs.YtacbanfnakgecaaGreat
set_option linter.unusedSimpArgs false
set_option linter.unusedVariables false
open Go.RowKit
theorem rflush_is (u : Un) (c : Cf) (model room t loc : Int) (xp xr xm xb : Value) (w : World) (hc : CfD w xp xr xm xb c) (hR : RightP u c.pf model room) :
    Calls Tryz.prog 44 #[.agg #[xp, xr, xm, xb], .int .i64 model, .int .i64 t, .int .i64 loc] w (StepIs (flT c.pf model t loc) (flushT c.pf model t loc) w) := by
  obtain ⟨⟨z, ⟨x, y⟩, q⟩, hpop⟩ : ∃ r, popC c model t loc = r := ⟨_, rfl⟩
  have hq : flT c.pf model t loc = q := by rw [← flT_pop, hpop]
  have hP : popP c.pf model t loc = (z, (x, y), q) := by rw [← popC_pf]; exact hpop
  have hin : q = true → 0 ≤ t ∧ t < c.pf.buf.length ∧ 0 ≤ x ∧ x < c.pf.mem.length := by
    intro hh
    subst hh
    unfold popP at hP
    by_cases hb : 0 ≤ t ∧ t < (c.pf.buf.length : Int)
    · rw [if_pos hb] at hP
      obtain ⟨pc, i, T⟩ := hR.thr t.toNat (by rw [← hR.lb]; omega)
      have hm := pop_mem (c.pf.buf.getD t.toNat []) model loc (by rw [hP])
      rw [hP] at hm
      have h3 := (inB_iff _ _).1 (((rightL_iff _ _ _ _ _).1 T.bl).2.1 _ hm).1
      exact ⟨hb.1, hb.2, h3.1, by rw [hR.lm]; exact h3.2⟩
    · rw [if_neg hb] at hP
      cases hP
  refine (rflush_any c model t loc xp xr xm xb w hc (short_right hR) z x y q hpop (fun hh => by have h9 := hin hh; simpa [Cf.pf] using h9)).mono ?_
  rintro e w' ⟨d, yp, yr, ym, yb, he, ho, hd, hb⟩
  refine ⟨d, yp, yr, ym, yb, by rw [hq]; exact he, ho, ?_, hb⟩
  rw [hd]
  unfold flushT
  rw [hq]
  cases q with
  | false => simp
  | true =>
    rw [if_pos rfl, if_pos rfl]
    obtain ⟨hb1, hb2, _, _⟩ := hin rfl
    unfold popP at hP
    rw [if_pos ⟨hb1, hb2⟩] at hP
    unfold flushP
    rw [hP]
    rfl
theorem ragen_any (u : Un) (c : Cf) (model room a : Int) (vi vr vc xp xr xm xb : Value) (w : World) (hu : UnD w vi vr vc u) (hc : CfD w xp xr xm xb c) (hsu : ShortU u) (hus : ∀ k pc, (iiAt u k pc).x.e.length ≤ 100000 ∧ (iiAt u k pc).x.f.length ≤ 100000) (hR : RightP u c.pf model room) (b : Bool) (hb : enA u c.pf model room a = b) :
    Calls Tryz.prog 43 #[.agg #[.int .i64 u.mod, vi, vr, vc], .agg #[xp, xr, xm, xb], .int .i64 model, .int .i64 room, .int .i64 a] w fun e w' => e = .returned (.bool b) ∧ Below w.heap.size w w' := by
  obtain ⟨g, hg⟩ : ∃ g, agOf u.code.length u.init.length model a = g := ⟨_, rfl⟩
  unfold enA at hb
  rw [hg] at hb
  refine ren_core u model room a vi vr vc xp xr xm xb w hu hsu hR.ru b g hg ?_ ?_ ?_
  · rintro rfl; exact hb.symm
  · rintro t rfl W hW
    exact renabled_any u c model room t vi vr vc xp xr xm xb W (hu.below hW) (hc.below hW) (short_right hR) hus hR b hb
  · rintro t loc rfl W hW
    exact rflushes_any c model t loc xp xr xm xb W (hc.below hW) (short_right hR).bb b (by rw [flT_pop]; exact hb)
theorem ragact_any (u : Un) (c : Cf) (model room a : Int) (vi vr vc xp xr xm xb : Value) (w : World) (hu : UnD w vi vr vc u) (hc : CfD w xp xr xm xb c) (hsu : ShortU u) (hus : ∀ k pc, (iiAt u k pc).x.e.length ≤ 100000 ∧ (iiAt u k pc).x.f.length ≤ 100000) (hR : RightP u c.pf model room) :
    Calls Tryz.prog 16 #[.agg #[.int .i64 u.mod, vi, vr, vc], .agg #[xp, xr, xm, xb], .int .i64 model, .int .i64 room, .int .i64 a] w (StepIs (enA u c.pf model room a) (acA u c.pf model room a) w) := by
  obtain ⟨g, hg⟩ : ∃ g, agOf u.code.length u.init.length model a = g := ⟨_, rfl⟩
  have hE := fun (W : World) (hW : Below w.heap.size w W) => ragen_any u c model room a vi vr vc xp xr xm xb W (hu.below hW) (hc.below hW) hsu hus hR _ rfl
  have h9 : enA u c.pf model room a = false → c.pf = acA u c.pf model room a := fun h => (acG_no h).symm
  unfold enA acA at *
  rw [hg] at hE h9 ⊢
  refine rac_core u c model room a vi vr vc xp xr xm xb w hu hR.ru hc (short_right hR) _ _ g hg hE ?_ h9 ?_ ?_
  · rintro rfl; rfl
  · rintro t rfl W hW
    exact ract_any u c model room t vi vr vc xp xr xm xb W (hu.below hW) (hc.below hW) (short_right hR) hus hR
  · rintro t loc rfl W hW
    exact rflush_is u c model room t loc xp xr xm xb W (hc.below hW) hR
theorem rmoves_any (u : Un) (c : Cf) (model room : Int) (vi vr vc xp xr xm xb : Value) (w : World) (hu : UnD w vi vr vc u) (hc : CfD w xp xr xm xb c) (hsu : ShortU u) (hus : ∀ k pc, (iiAt u k pc).x.e.length ≤ 100000 ∧ (iiAt u k pc).x.f.length ≤ 100000) (hR : RightP u c.pf model room) :
    Calls Tryz.prog 20 #[.agg #[.int .i64 u.mod, vi, vr, vc], .agg #[xp, xr, xm, xb], .int .i64 model, .int .i64 room] w fun e w' => ∃ v, e = .returned v ∧ OwnI w' w.heap.size v (mvA u c.pf model room) ∧ Below w.heap.size w w' :=
  rmoves_core u model room vi vr vc xp xr xm xb w hu (ltU_right hR.ru) hsu hR.ru (enA u c.pf model room) fun a W hW => ragen_any u c model room a vi vr vc xp xr xm xb W (hu.below hW) (hc.below hW) hsu hus hR _ rfl
theorem rdead_any (u : Un) (c : Cf) (model room : Int) (vi vr vc xp xr xm xb : Value) (w : World) (hu : UnD w vi vr vc u) (hc : CfD w xp xr xm xb c) (hsu : ShortU u) (hus : ∀ k pc, (iiAt u k pc).x.e.length ≤ 100000 ∧ (iiAt u k pc).x.f.length ≤ 100000) (hR : RightP u c.pf model room) (b : Bool) (hb : deadA u c model room = b) :
    Calls Tryz.prog 22 #[.agg #[.int .i64 u.mod, vi, vr, vc], .agg #[xp, xr, xm, xb], .int .i64 model, .int .i64 room] w fun e w' => e = .returned (.bool b) ∧ Below w.heap.size w w' :=
  rdead_core u model room vi vr vc xp xr xm xb w (mvA u c.pf model room) (finalC u c) b hb
    (fun W hW => rmoves_any u c model room vi vr vc xp xr xm xb W (hu.below hW) (hc.below hW) hsu hus hR)
    (fun W hW => final_any u c vi vr vc xp xr xm xb W (hu.below hW) (hc.below hW) (by have := (ltU_right hR.ru).c; omega) (short_right hR).b _ rfl)
end Go.Proofs.YtacbanfnakgecaaGreat
