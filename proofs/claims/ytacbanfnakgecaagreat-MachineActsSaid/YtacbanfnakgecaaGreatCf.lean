/- Layer 11, the code: the agents of a right configuration. Layer 11's law: right, a case that came in. -/
import Derived.Test.YtacbanfnakgecaaGreatCe
import Derived.Test.YtacbanfnakgecaaGreatCz
import Derived.Test.YtacbanfnakgecaaGreatZd
import Derived.Test.YtacbanfnakgecaaGreatYn
import Derived.Test.YtacbanfnakgecaaGreatYy
import Derived.Test.YtacbanfnakgecaaGreatVb
namespace Go.Proofs.YtacbanfnakgecaaGreat
set_option linter.unusedSimpArgs false
set_option linter.unusedVariables false
open Go.RowKit
theorem len_cnt (n : Nat) : ∀ l : List Ent, (∀ e ∈ l, 0 ≤ e.1 ∧ e.1 < (n : Int)) → l.length ≤ ((List.range n).map fun k : Nat => cntL l (k : Int)).sum
  | [], _ => Nat.zero_le _
  | e :: r, h => by
    have ih := len_cnt n r fun x hx => h x (List.mem_cons_of_mem _ hx)
    obtain ⟨h1, h2⟩ := h e List.mem_cons_self
    obtain ⟨j, hj⟩ : ∃ j : Nat, e.1 = (j : Int) := ⟨e.1.toNat, by omega⟩
    have key : ∀ (L : List Nat), j ∈ L → 1 + (L.map fun k : Nat => cntL r (k : Int)).sum ≤ (L.map fun k : Nat => cntL (e :: r) (k : Int)).sum := by
      intro L
      have hge : ∀ M : List Nat, (M.map fun k : Nat => cntL r (k : Int)).sum ≤ (M.map fun k : Nat => cntL (e :: r) (k : Int)).sum := by
        intro M
        induction M with
        | nil => exact Nat.le_refl _
        | cons a M ihM =>
          simp only [List.map_cons, List.sum_cons]
          have : cntL r (a : Int) ≤ cntL (e :: r) (a : Int) := by show _ ≤ (if e.1 = (a : Int) then 1 else 0) + cntL r (a : Int); omega
          omega
      induction L with
      | nil => intro hm; cases hm
      | cons a L ihL =>
        intro hm
        simp only [List.map_cons, List.sum_cons]
        rcases List.mem_cons.1 hm with hm | hm
        · subst hm
          have h3 : cntL (e :: r) (j : Int) = 1 + cntL r (j : Int) := by show (if e.1 = (j : Int) then 1 else 0) + cntL r (j : Int) = _; rw [if_pos hj]
          have := hge L
          omega
        · have h4 := ihL hm
          have : cntL r (a : Int) ≤ cntL (e :: r) (a : Int) := by show _ ≤ (if e.1 = (a : Int) then 1 else 0) + cntL r (a : Int); omega
          omega
    have := key (List.range n) (List.mem_range.2 (by omega))
    rw [List.length_cons]
    omega
theorem rightL_short {l : List Ent} {model room mod : Int} {n : Nat} (h : rightL l model room mod n = true) (hn : n ≤ 6) : l.length ≤ 24 := by
  obtain ⟨h1, h2, h3⟩ := (rightL_iff _ _ _ _ _).1 h
  rcases h3 with h3 | h3 | h3
  · rw [h3.2]; exact Nat.zero_le _
  · omega
  · have h4 := len_cnt n l fun e he => (inB_iff _ _).1 (h2 e he).1
    have h5 : ∀ L : List Nat, (L.map fun k : Nat => cntL l (k : Int)).sum ≤ 4 * L.length := by
      intro L
      induction L with
      | nil => exact Nat.le_refl _
      | cons a L ih =>
        simp only [List.map_cons, List.sum_cons, List.length_cons]
        have := h3.2.2 (a : Int)
        omega
    have := h5 (List.range n)
    rw [List.length_range] at this
    omega
theorem short_right {u : Un} {c : Cf} {model room : Int} (h : RightP u c.pf model room) : ShortC c := by
  have hlc := rightU_lc h.ru
  have h1 : c.pc.length = u.regs.length := h.lp
  have h2 : c.regs.length = u.regs.length := by have := h.lr; simpa [Cf.pf] using this
  have h3 : c.buf.length = u.regs.length := by have := h.lb; simpa [Cf.pf] using this
  have h4 : c.mem.length = u.init.length := h.lm
  refine ⟨by omega, by omega, by omega, by omega, fun x hx => ?_, fun x hx => ?_⟩
  · exact shortP_regs h x hx
  · obtain ⟨k, hk, rfl⟩ := List.mem_iff_getElem.1 hx
    have ht := h.t k (by omega)
    unfold thB at ht
    rw [Bool.and_eq_true, Bool.and_eq_true] at ht
    have hg : c.pf.buf.getD k [] = (c.buf[k]).1 := by
      show (c.buf.map (·.1)).getD k [] = _
      rw [List.getD_eq_getElem?_getD, List.getElem?_map, List.getElem?_eq_getElem hk]; rfl
    rw [hg] at ht
    have := rightL_short ht.2.2 hlc.2.2.1
    omega
theorem ltU_right {u : Un} (h : rightU u = true) : LtU u := by
  have := rightU_lc h
  exact ⟨by omega, by omega⟩
theorem flT_pop {c : Cf} {model t loc : Int} : (popC c model t loc).2.2 = flT c.pf model t loc := by
  rw [popC_pf]
  unfold popP flT
  by_cases hb : 0 ≤ t ∧ t < (c.pf.buf.length : Int)
  · rw [if_pos hb, decide_eq_true hb, Bool.true_and]
  · rw [if_neg hb, decide_eq_false hb, Bool.false_and]
theorem flush_is (u : Un) (c : Cf) (model room t loc : Int) (xp xr xm xb : Value) (w : World) (hc : CfD w xp xr xm xb c) (hR : RightP u c.pf model room) :
    Calls Tryz.prog 28 #[.agg #[xp, xr, xm, xb], .int .i64 model, .int .i64 t, .int .i64 loc] w (StepIs (flT c.pf model t loc) (flushT c.pf model t loc) w) := by
  obtain ⟨⟨z, ⟨x, y⟩, q⟩, hpop⟩ : ∃ r, popC c model t loc = r := ⟨_, rfl⟩
  have hq : flT c.pf model t loc = q := by rw [← flT_pop, hpop]
  have hP : popP c.pf model t loc = (z, (x, y), q) := by rw [← popC_pf]; exact hpop
  have hin : q = true → 0 ≤ t ∧ t < c.pf.buf.length ∧ 0 ≤ x ∧ x < c.pf.mem.length := by
    intro hh
    subst hh
    unfold popP at hP
    by_cases hb : 0 ≤ t ∧ t < (c.pf.buf.length : Int)
    · rw [if_pos hb] at hP
      obtain ⟨pc, i, T⟩ := hR.thr t.toNat (by rw [← hR.lb]; omega)
      have hm := pop_mem (c.pf.buf.getD t.toNat []) model loc (by rw [hP])
      rw [hP] at hm
      have h3 := (inB_iff _ _).1 (((rightL_iff _ _ _ _ _).1 T.bl).2.1 _ hm).1
      exact ⟨hb.1, hb.2, h3.1, by rw [hR.lm]; exact h3.2⟩
    · rw [if_neg hb] at hP
      cases hP
  refine (flush_any c model t loc xp xr xm xb w hc (short_right hR) z x y q hpop (fun hh => by have h9 := hin hh; simpa [Cf.pf] using h9)).mono ?_
  rintro e w' ⟨d, yp, yr, ym, yb, he, ho, hd, hb⟩
  refine ⟨d, yp, yr, ym, yb, by rw [hq]; exact he, ho, ?_, hb⟩
  rw [hd]
  unfold flushT
  rw [hq]
  cases q with
  | false => simp
  | true =>
    rw [if_pos rfl, if_pos rfl]
    obtain ⟨hb1, hb2, _, _⟩ := hin rfl
    unfold popP at hP
    rw [if_pos ⟨hb1, hb2⟩] at hP
    unfold flushP
    rw [hP]
    rfl
theorem flushes_is (u : Un) (c : Cf) (model room t loc : Int) (xp xr xm xb : Value) (w : World) (hc : CfD w xp xr xm xb c) (hR : RightP u c.pf model room) (b : Bool) (hb : flT c.pf model t loc = b) :
    Calls Tryz.prog 30 #[.agg #[xp, xr, xm, xb], .int .i64 model, .int .i64 t, .int .i64 loc] w fun e w' => e = .returned (.bool b) ∧ Below w.heap.size w w' :=
  flushes_any c model t loc xp xr xm xb w hc (short_right hR).bb b (by rw [flT_pop]; exact hb)
theorem menabled_any (u : Un) (c : Cf) (model room a : Int) (vi vr vc xp xr xm xb : Value) (w : World) (hu : UnD w vi vr vc u) (hc : CfD w xp xr xm xb c) (hus : ∀ k pc, (iiAt u k pc).x.e.length ≤ 100000 ∧ (iiAt u k pc).x.f.length ≤ 100000) (hR : RightP u c.pf model room) (b : Bool) (hb : enA u c.pf model room a = b) :
    Calls Tryz.prog 17 #[.agg #[.int .i64 u.mod, vi, vr, vc], .agg #[xp, xr, xm, xb], .int .i64 model, .int .i64 room, .int .i64 a] w fun e w' => e = .returned (.bool b) ∧ Below w.heap.size w w' := by
  obtain ⟨g, hg⟩ : ∃ g, agOf u.code.length u.init.length model a = g := ⟨_, rfl⟩
  unfold enA at hb
  rw [hg] at hb
  refine men_core u model room a vi vr vc xp xr xm xb w hu (ltU_right hR.ru) b g hg ?_ ?_ ?_
  · rintro rfl; exact hb.symm
  · rintro t rfl W hW
    exact enabled_any u c model room t vi vr vc xp xr xm xb W (hu.below hW) (hc.below hW) (short_right hR) hus hR b hb
  · rintro t loc rfl W hW
    exact flushes_is u c model room t loc xp xr xm xb W (hc.below hW) hR b hb
theorem mact_any (u : Un) (c : Cf) (model room a : Int) (vi vr vc xp xr xm xb : Value) (w : World) (hu : UnD w vi vr vc u) (hc : CfD w xp xr xm xb c) (hus : ∀ k pc, (iiAt u k pc).x.e.length ≤ 100000 ∧ (iiAt u k pc).x.f.length ≤ 100000) (hR : RightP u c.pf model room) :
    Calls Tryz.prog 15 #[.agg #[.int .i64 u.mod, vi, vr, vc], .agg #[xp, xr, xm, xb], .int .i64 model, .int .i64 room, .int .i64 a] w (StepIs (enA u c.pf model room a) (acA u c.pf model room a) w) := by
  obtain ⟨g, hg⟩ : ∃ g, agOf u.code.length u.init.length model a = g := ⟨_, rfl⟩
  unfold enA acA
  rw [hg]
  refine mac_core u c model room a vi vr vc xp xr xm xb w hu (ltU_right hR.ru) hc (short_right hR) _ _ g hg ?_ ?_ ?_
  · rintro rfl; exact ⟨rfl, rfl⟩
  · rintro t rfl W hW
    exact act_any u c model room t vi vr vc xp xr xm xb W (hu.below hW) (hc.below hW) (short_right hR) hus hR
  · rintro t loc rfl W hW
    exact flush_is u c model room t loc xp xr xm xb W (hc.below hW) hR
theorem mmoves_any (u : Un) (c : Cf) (model room : Int) (vi vr vc xp xr xm xb : Value) (w : World) (hu : UnD w vi vr vc u) (hc : CfD w xp xr xm xb c) (hus : ∀ k pc, (iiAt u k pc).x.e.length ≤ 100000 ∧ (iiAt u k pc).x.f.length ≤ 100000) (hR : RightP u c.pf model room) :
    Calls Tryz.prog 19 #[.agg #[.int .i64 u.mod, vi, vr, vc], .agg #[xp, xr, xm, xb], .int .i64 model, .int .i64 room] w fun e w' => ∃ v, e = .returned v ∧ OwnI w' w.heap.size v (mvA u c.pf model room) ∧ Below w.heap.size w w' :=
  moves_core u model room vi vr vc xp xr xm xb w hu (ltU_right hR.ru) (enA u c.pf model room) fun a W hW => menabled_any u c model room a vi vr vc xp xr xm xb W (hu.below hW) (hc.below hW) hus hR _ rfl
def deadA (u : Un) (c : Cf) (model room : Int) : Bool := decide ((mvA u c.pf model room).length = 0) && !finalC u c
set_option maxRecDepth 100000 in
set_option maxHeartbeats 2000000 in
theorem mdead_any (u : Un) (c : Cf) (model room : Int) (vi vr vc xp xr xm xb : Value) (w : World) (hu : UnD w vi vr vc u) (hc : CfD w xp xr xm xb c) (hus : ∀ k pc, (iiAt u k pc).x.e.length ≤ 100000 ∧ (iiAt u k pc).x.f.length ≤ 100000) (hR : RightP u c.pf model room) (b : Bool) (hb : deadA u c model room = b) :
    Calls Tryz.prog 21 #[.agg #[.int .i64 u.mod, vi, vr, vc], .agg #[xp, xr, xm, xb], .int .i64 model, .int .i64 room] w fun e w' => e = .returned (.bool b) ∧ Below w.heap.size w w' := by
  have HM := Lib.hid (fun (W : World) (h : Below w.heap.size w W) => mmoves_any u c model room vi vr vc xp xr xm xb W (hu.below h) (hc.below h) hus hR)
  have HF := Lib.hid (fun (W : World) (h : Below w.heap.size w W) => nfinal_any u c vi vr vc xp xr xm xb W (hu.below h) (hc.below h) (by have := (ltU_right hR.ru).c; omega) (short_right hR).b _ rfl)
  unfold deadA at hb
  have HB := Lib.hid hb
  clear hu hc hb
  generalize finalC u c = q at HF HB
  have KU := Lib.hid (two_new w 25 29 #[.int .i64 u.mod, vi, vr, vc] #[xp, xr, xm, xb]).2.1
  have KC := Lib.hid (two_new w 25 29 #[.int .i64 u.mod, vi, vr, vc] #[xp, xr, xm, xb]).2.2
  have L0 := Lib.hid (two_new w 25 29 #[.int .i64 u.mod, vi, vr, vc] #[xp, xr, xm, xb]).1
  go_enter Tryz.func21, Tryz.ntmps21
  go_wp2_with fail
  generalize World.alloc (World.alloc w _) _ = w1 at L0 KU KC ⊢
  refine (HM.out w1 L0.out).mono ?_
  rintro e w2 ⟨v, rfl, ov, b⟩
  obtain ⟨ad, cap, rfl, _⟩ := own_shape' ov
  have B2 := Lib.hid (L0.out.trans (b.mono L0.out.size))
  have KU2 := Lib.hid (KU.out.below b)
  have KC2 := Lib.hid (KC.out.below b)
  clear b L0 KU KC ov HM
  obtain ⟨u0, u1, u2, u3, ul, c0, c1, c2, c3, cl⟩ : w2.cell? ⟨w.heap.size, 0, none⟩ = some (.int .i64 u.mod) ∧ w2.cell? ⟨w.heap.size, 1, none⟩ = some vi ∧ w2.cell? ⟨w.heap.size, 2, none⟩ = some vr ∧ w2.cell? ⟨w.heap.size, 3, none⟩ = some vc ∧ w.heap.size < w2.heap.size ∧ w2.cell? ⟨w.heap.size + 1, 0, none⟩ = some xp ∧ w2.cell? ⟨w.heap.size + 1, 1, none⟩ = some xr ∧ w2.cell? ⟨w.heap.size + 1, 2, none⟩ = some xm ∧ w2.cell? ⟨w.heap.size + 1, 3, none⟩ = some xb ∧ w.heap.size + 1 < w2.heap.size := ⟨KU2.out.cell 0, KU2.out.cell 1, KU2.out.cell 2, KU2.out.cell 3, KU2.out.lt, KC2.out.cell 0, KC2.out.cell 1, KC2.out.cell 2, KC2.out.cell 3, KC2.out.lt⟩
  generalize (mvA u c.pf model room).length = n at HB ⊢
  by_cases hn : n = 0
  · subst hn
    go_wp2_with fail
    refine (HF.out w2 B2.out).mono ?_
    rintro e w3 ⟨rfl, b⟩
    go_wp2_with fail
    go_ret
    exact ⟨ret_bool (by rw [← HB.out]; simp), B2.out.trans (b.mono B2.out.size)⟩
  · have hn1 : decide (n = 0) = false := decide_eq_false hn
    have hn2 : ¬ (n : Int) = 0 := by omega
    replace hn := Lib.hid hn
    go_wp2_with fail
    go_ret
    exact ⟨ret_bool (by rw [← HB.out, hn1]; rfl), B2.out⟩
end Go.Proofs.YtacbanfnakgecaaGreat

namespace Go.Proofs.YtacbanfnakgecaaGreat
set_option linter.unusedSimpArgs false
set_option linter.unusedVariables false
open Go.RowKit
set_option maxRecDepth 100000 in
set_option maxHeartbeats 4000000 in
theorem right11_any (u : Un) (c : Cf) (model room t : Int) (vi vr vc xp xr xm xb : Value) (w : World) (hu : UnD w vi vr vc u) (hc : CfD w xp xr xm xb c) (q : Bool) (hq : (lightU u && (lightC c && rightC u c model room)) = q) :
    Calls Tryz.prog 13 #[.agg #[.int .i64 u.mod, vi, vr, vc, xp, xr, xm, xb, .int .i64 model, .int .i64 room, .int .i64 t]] w fun e w' => e = .returned (.bool q) ∧ Below w.heap.size w w' := by
  have HU := Lib.hid hu
  have HC := Lib.hid hc
  obtain ⟨ai, ci, rfl⟩ := hu.i.shape0
  obtain ⟨ar, cr, rfl⟩ := hu.r.shape0
  obtain ⟨ac, cc, rfl⟩ := hu.c.shape0
  obtain ⟨ap, cp, rfl⟩ := hc.p.shape0
  obtain ⟨aq, cq, rfl⟩ := hc.r.shape0
  obtain ⟨am, cm, rfl⟩ := hc.m.shape0
  obtain ⟨ab, cb, rfl⟩ := hc.b.shape0
  have HL := Lib.hid (fun (W : World) (h : Below w.heap.size w W) => ulight_any u _ _ _ W (HU.out.below h) _ rfl)
  have HLC := Lib.hid (fun (W : World) (h : Below w.heap.size w W) => clight_any c _ _ _ _ W (HC.out.below h) _ rfl)
  have HR := Lib.hid (fun (hl : lightU u = true) (hk : lightC c = true) (W : World) (h : Below w.heap.size w W) => rcright_any u c model room _ _ _ _ _ _ _ W (HU.out.below h) (HC.out.below h) (lightU_short hl) (lightC_short hk) _ rfl)
  have HQL := Lib.hid (rfl : lightU u = lightU u)
  generalize u.init.length = ni at HL HR ⊢
  generalize u.regs.length = nr at HL HR ⊢
  generalize u.code.length = nc at HL HR ⊢
  generalize c.pc.length = np at HLC HR ⊢
  generalize c.regs.length = nq at HLC HR ⊢
  generalize c.mem.length = nm at HLC HR ⊢
  generalize c.buf.length = nb at HLC HR ⊢
  generalize u.mod = md at HL HR ⊢
  obtain ⟨q1, h1⟩ : ∃ q, lightU u = q := ⟨_, rfl⟩
  obtain ⟨q2, h2⟩ : ∃ q, lightC c = q := ⟨_, rfl⟩
  obtain ⟨q3, h3⟩ : ∃ q, rightC u c model room = q := ⟨_, rfl⟩
  rw [h1, h2, h3] at hq
  rw [h1] at HL
  rw [h2] at HLC
  rw [h3] at HR
  replace h1 := Lib.hid h1
  replace h2 := Lib.hid h2
  subst hq
  clear hu hc HU HC HQL h3
  have K := Lib.hid (Bk.new w 40 #[.int .i64 md, .slice ai ni ci, .slice ar nr cr, .slice ac nc cc, .slice ap np cp, .slice aq nq cq, .slice am nm cm, .slice ab nb cb, .int .i64 model, .int .i64 room, .int .i64 t])
  have B : Hid (Below w.heap.size w (World.alloc w (.cells #[.int .i64 md, .slice ai ni ci, .slice ar nr cr, .slice ac nc cc, .slice ap np cp, .slice aq nq cq, .slice am nm cm, .slice ab nb cb, .int .i64 model, .int .i64 room, .int .i64 t] 40))) := Lib.hid (bal (Below.refl _ _) _)
  go_enter Tryz.func13, Tryz.ntmps13
  go_wp2_with fail
  generalize World.alloc w (.cells #[.int .i64 md, .slice ai ni ci, .slice ar nr cr, .slice ac nc cc, .slice ap np cp, .slice aq nq cq, .slice am nm cm, .slice ab nb cb, .int .i64 model, .int .i64 room, .int .i64 t] 40) = w1 at K B ⊢
  obtain ⟨c0, c1, c2, c3, c4, c5, c6, c7, c8, c9, c10, cl⟩ : w1.cell? ⟨w.heap.size, 0, none⟩ = some (.int .i64 md) ∧ w1.cell? ⟨w.heap.size, 1, none⟩ = some (.slice ai ni ci) ∧ w1.cell? ⟨w.heap.size, 2, none⟩ = some (.slice ar nr cr) ∧ w1.cell? ⟨w.heap.size, 3, none⟩ = some (.slice ac nc cc) ∧ w1.cell? ⟨w.heap.size, 4, none⟩ = some (.slice ap np cp) ∧ w1.cell? ⟨w.heap.size, 5, none⟩ = some (.slice aq nq cq) ∧ w1.cell? ⟨w.heap.size, 6, none⟩ = some (.slice am nm cm) ∧ w1.cell? ⟨w.heap.size, 7, none⟩ = some (.slice ab nb cb) ∧ w1.cell? ⟨w.heap.size, 8, none⟩ = some (.int .i64 model) ∧ w1.cell? ⟨w.heap.size, 9, none⟩ = some (.int .i64 room) ∧ w1.cell? ⟨w.heap.size, 10, none⟩ = some (.int .i64 t) ∧ w.heap.size < w1.heap.size := ⟨K.out.cell 0, K.out.cell 1, K.out.cell 2, K.out.cell 3, K.out.cell 4, K.out.cell 5, K.out.cell 6, K.out.cell 7, K.out.cell 8, K.out.cell 9, K.out.cell 10, K.out.lt⟩
  go_wp2_with fail
  clear c0 c1 c2 c3 c4 c5 c6 c7 c8 c9 c10 cl
  refine (HL.out w1 B.out).mono ?_
  rintro e w2 ⟨rfl, b⟩
  replace K := Lib.hid (K.out.below b)
  replace B := Lib.hid (B.out.trans (b.mono B.out.size))
  clear b
  obtain ⟨c0, c1, c2, c3, c4, c5, c6, c7, c8, c9, c10, cl⟩ : w2.cell? ⟨w.heap.size, 0, none⟩ = some (.int .i64 md) ∧ w2.cell? ⟨w.heap.size, 1, none⟩ = some (.slice ai ni ci) ∧ w2.cell? ⟨w.heap.size, 2, none⟩ = some (.slice ar nr cr) ∧ w2.cell? ⟨w.heap.size, 3, none⟩ = some (.slice ac nc cc) ∧ w2.cell? ⟨w.heap.size, 4, none⟩ = some (.slice ap np cp) ∧ w2.cell? ⟨w.heap.size, 5, none⟩ = some (.slice aq nq cq) ∧ w2.cell? ⟨w.heap.size, 6, none⟩ = some (.slice am nm cm) ∧ w2.cell? ⟨w.heap.size, 7, none⟩ = some (.slice ab nb cb) ∧ w2.cell? ⟨w.heap.size, 8, none⟩ = some (.int .i64 model) ∧ w2.cell? ⟨w.heap.size, 9, none⟩ = some (.int .i64 room) ∧ w2.cell? ⟨w.heap.size, 10, none⟩ = some (.int .i64 t) ∧ w.heap.size < w2.heap.size := ⟨K.out.cell 0, K.out.cell 1, K.out.cell 2, K.out.cell 3, K.out.cell 4, K.out.cell 5, K.out.cell 6, K.out.cell 7, K.out.cell 8, K.out.cell 9, K.out.cell 10, K.out.lt⟩
  cases q1 with
  | false => go_wp2_with fail; refine bodyPost_ret (v := .bool _) (by simp [results, Tryz.results13, go_sem]) rfl ⟨rfl, B.out⟩
  | true =>
    go_wp2_with fail
    clear c0 c1 c2 c3 c4 c5 c6 c7 c8 c9 c10 cl
    refine (HLC.out w2 B.out).mono ?_
    rintro e w3 ⟨rfl, b⟩
    replace K := Lib.hid (K.out.below b)
    replace B := Lib.hid (B.out.trans (b.mono B.out.size))
    clear b
    obtain ⟨c0, c1, c2, c3, c4, c5, c6, c7, c8, c9, c10, cl⟩ : w3.cell? ⟨w.heap.size, 0, none⟩ = some (.int .i64 md) ∧ w3.cell? ⟨w.heap.size, 1, none⟩ = some (.slice ai ni ci) ∧ w3.cell? ⟨w.heap.size, 2, none⟩ = some (.slice ar nr cr) ∧ w3.cell? ⟨w.heap.size, 3, none⟩ = some (.slice ac nc cc) ∧ w3.cell? ⟨w.heap.size, 4, none⟩ = some (.slice ap np cp) ∧ w3.cell? ⟨w.heap.size, 5, none⟩ = some (.slice aq nq cq) ∧ w3.cell? ⟨w.heap.size, 6, none⟩ = some (.slice am nm cm) ∧ w3.cell? ⟨w.heap.size, 7, none⟩ = some (.slice ab nb cb) ∧ w3.cell? ⟨w.heap.size, 8, none⟩ = some (.int .i64 model) ∧ w3.cell? ⟨w.heap.size, 9, none⟩ = some (.int .i64 room) ∧ w3.cell? ⟨w.heap.size, 10, none⟩ = some (.int .i64 t) ∧ w.heap.size < w3.heap.size := ⟨K.out.cell 0, K.out.cell 1, K.out.cell 2, K.out.cell 3, K.out.cell 4, K.out.cell 5, K.out.cell 6, K.out.cell 7, K.out.cell 8, K.out.cell 9, K.out.cell 10, K.out.lt⟩
    cases q2 with
    | false => go_wp2_with fail; refine bodyPost_ret (v := .bool _) (by simp [results, Tryz.results13, go_sem]) rfl ⟨rfl, B.out⟩
    | true =>
      go_wp2_with fail
      clear c0 c1 c2 c3 c4 c5 c6 c7 c8 c9 c10 cl
      refine (HR.out h1.out h2.out w3 B.out).mono ?_
      rintro e w4 ⟨rfl, b⟩
      replace K := Lib.hid (K.out.below b)
      replace B := Lib.hid (B.out.trans (b.mono B.out.size))
      clear b
      go_wp2_with fail
      cases q3 <;> refine bodyPost_ret (v := .bool _) (by simp [results, Tryz.results13, go_sem]) rfl ⟨rfl, B.out⟩
open Go.ChangeShapes Go.WideShapes Go.ChangeAt Go.RowKit
set_option maxRecDepth 100000
theorem open_case11 {H : Type} {enc : TypeId × Value → H} {W : World} {base : Nat} {v : Value} {d : DataW H} {p : List MemPlace} (hv : Value.okWide Tryz.prog W .any base 40 v) (h : DataW.Trod enc Tryz.prog W 0 (fun _ => true) true 40 v d p) :
    ∃ (u : Un) (c : Cf) (vi vr vc xp xr xm xb : Value) (model room t : Int), v = .agg #[.int .i64 u.mod, vi, vr, vc, xp, xr, xm, xb, .int .i64 model, .int .i64 room, .int .i64 t] ∧ UnD W vi vr vc u ∧ CfD W xp xr xm xb c := by
  obtain ⟨cs, rfl, hsz⟩ := okWide_struct Tryz.underlying40 hv
  obtain ⟨fuel, hf⟩ := h
  have hs : Tryz.prog.cellsOf 40 = 11 := by kernel_rfl
  rw [hs] at hsz
  obtain ⟨l⟩ := cs
  have hl : l.length = 11 := hsz
  have hf : DataW.trod enc Tryz.prog W 0 (fun _ => true) true fuel 40 l = some (d, p) := hf
  obtain ⟨xs, m, _, _, _, hxl, hf⟩ := DataW.trod_struct Tryz.underlying40 hf
  match l, hl with
  | [c0, c1, c2, c3, c4, c5, c6, c7, c8, c9, c10], _ =>
    match xs, hxl with
    | [x0, x1, x2, x3, x4], _ =>
      have f0 : DataW.trod enc Tryz.prog W 0 (fun _ => true) true m 25 (([c0, c1, c2, c3, c4, c5, c6, c7, c8, c9, c10].drop 0).take (Tryz.prog.cellsOf 25)) = some x0 := hf 0 _ rfl
      rw [c_unit] at f0
      have f1 : DataW.trod enc Tryz.prog W 0 (fun _ => true) true m 29 (([c0, c1, c2, c3, c4, c5, c6, c7, c8, c9, c10].drop 4).take (Tryz.prog.cellsOf 29)) = some x1 := hf 1 _ rfl
      rw [c_conf] at f1
      have f2 : DataW.trod enc Tryz.prog W 0 (fun _ => true) true m 3 (([c0, c1, c2, c3, c4, c5, c6, c7, c8, c9, c10].drop 8).take (Tryz.prog.cellsOf 3)) = some x2 := hf 2 _ rfl
      rw [c_int] at f2
      have f3 : DataW.trod enc Tryz.prog W 0 (fun _ => true) true m 3 (([c0, c1, c2, c3, c4, c5, c6, c7, c8, c9, c10].drop 9).take (Tryz.prog.cellsOf 3)) = some x3 := hf 3 _ rfl
      rw [c_int] at f3
      have f4 : DataW.trod enc Tryz.prog W 0 (fun _ => true) true m 3 (([c0, c1, c2, c3, c4, c5, c6, c7, c8, c9, c10].drop 10).take (Tryz.prog.cellsOf 3)) = some x4 := hf 4 _ rfl
      rw [c_int] at f4
      have f0 : DataW.trod enc Tryz.prog W 0 (fun _ => true) true m 25 [c0, c1, c2, c3] = some x0 := f0
      have f1 : DataW.trod enc Tryz.prog W 0 (fun _ => true) true m 29 [c4, c5, c6, c7] = some x1 := f1
      obtain ⟨u, vi, vr, vc, hu, du⟩ := cell_unit f0 rfl
      obtain ⟨c, xp, xr, xm, xb, hc, dc⟩ := cell_conf f1 rfl
      obtain ⟨n2, e2, _⟩ := DataW.trod_int Tryz.underlying3 f2
      have e2' : c8 = _ := (List.cons.inj e2).1
      subst e2'
      obtain ⟨n3, e3, _⟩ := DataW.trod_int Tryz.underlying3 f3
      have e3' : c9 = _ := (List.cons.inj e3).1
      subst e3'
      obtain ⟨n4, e4, _⟩ := DataW.trod_int Tryz.underlying3 f4
      have e4' : c10 = _ := (List.cons.inj e4).1
      subst e4'
      injection hu with h1 hu
      injection hu with h2 hu
      injection hu with h3 hu
      injection hu with h4 hu
      injection hc with g1 hc
      injection hc with g2 hc
      injection hc with g3 hc
      injection hc with g4 hc
      subst h1 h2 h3 h4 g1 g2 g3 g4
      exact ⟨u, c, _, _, _, _, _, _, _, n2, n3, n4, rfl, du, dc⟩
end Go.Proofs.YtacbanfnakgecaaGreat
