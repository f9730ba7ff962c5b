/- A step, a flush, of a right configuration, in one form. StepKeeps: what a configuration holds at an index; what a step, and a flush, leave of others. -/
import Derived.Test.YtacbanfnakgecaaGreatZd
import Derived.Test.YtacbanfnakgecaaGreatYb
import Derived.Test.YtacbanfnakgecaaGreatYn
import Derived.Test.YtacbanfnakgecaaGreatYy
namespace Go.Proofs.YtacbanfnakgecaaGreat
set_option linter.unusedSimpArgs false
set_option linter.unusedVariables false
open Go.RowKit

/-- What a step gives: a configuration of its own. -/
def StepIs (b : Bool) (q : Pf) (w : World) (e : Ending) (w' : World) : Prop :=
  ∃ (d : Cf) (yp yr ym yb : Value), e = .returned (.tuple #[.agg #[yp, yr, ym, yb], .bool b]) ∧ OwnC w' w.heap.size yp yr ym yb d ∧ d.pf = q ∧ Below w.heap.size w w'

theorem len_cnt (n : Nat) : ∀ l : List Ent, (∀ e ∈ l, 0 ≤ e.1 ∧ e.1 < (n : Int)) → l.length ≤ ((List.range n).map fun k : Nat => cntL l (k : Int)).sum
  | [], _ => Nat.zero_le _
  | e :: r, h => by
    have ih := len_cnt n r fun x hx => h x (List.mem_cons_of_mem _ hx)
    obtain ⟨h1, h2⟩ := h e List.mem_cons_self
    obtain ⟨j, hj⟩ : ∃ j : Nat, e.1 = (j : Int) := ⟨e.1.toNat, by omega⟩
    have key : ∀ (L : List Nat), j ∈ L → 1 + (L.map fun k : Nat => cntL r (k : Int)).sum ≤ (L.map fun k : Nat => cntL (e :: r) (k : Int)).sum := by
      intro L
      have hge : ∀ M : List Nat, (M.map fun k : Nat => cntL r (k : Int)).sum ≤ (M.map fun k : Nat => cntL (e :: r) (k : Int)).sum := by
        intro M
        induction M with
        | nil => exact Nat.le_refl _
        | cons a M ihM =>
          simp only [List.map_cons, List.sum_cons]
          have : cntL r (a : Int) ≤ cntL (e :: r) (a : Int) := by show _ ≤ (if e.1 = (a : Int) then 1 else 0) + cntL r (a : Int); omega
          omega
      induction L with
      | nil => intro hm; cases hm
      | cons a L ihL =>
        intro hm
        simp only [List.map_cons, List.sum_cons]
        rcases List.mem_cons.1 hm with hm | hm
        · subst hm
          have h3 : cntL (e :: r) (j : Int) = 1 + cntL r (j : Int) := by show (if e.1 = (j : Int) then 1 else 0) + cntL r (j : Int) = _; rw [if_pos hj]
          have := hge L
          omega
        · have h4 := ihL hm
          have : cntL r (a : Int) ≤ cntL (e :: r) (a : Int) := by show _ ≤ (if e.1 = (a : Int) then 1 else 0) + cntL r (a : Int); omega
          omega
    have := key (List.range n) (List.mem_range.2 (by omega))
    rw [List.length_cons]
    omega
/-- What is right of a buffer is short. -/
theorem rightL_short {l : List Ent} {model room mod : Int} {n : Nat} (h : rightL l model room mod n = true) (hn : n ≤ 6) : l.length ≤ 24 := by
  obtain ⟨h1, h2, h3⟩ := (rightL_iff _ _ _ _ _).1 h
  rcases h3 with h3 | h3 | h3
  · rw [h3.2]; exact Nat.zero_le _
  · omega
  · have h4 := len_cnt n l fun e he => (inB_iff _ _).1 (h2 e he).1
    have h5 : ∀ L : List Nat, (L.map fun k : Nat => cntL l (k : Int)).sum ≤ 4 * L.length := by
      intro L
      induction L with
      | nil => exact Nat.le_refl _
      | cons a L ih =>
        simp only [List.map_cons, List.sum_cons, List.length_cons]
        have := h3.2.2 (a : Int)
        omega
    have := h5 (List.range n)
    rw [List.length_range] at this
    omega
theorem short_right {u : Un} {c : Cf} {model room : Int} (h : RightP u c.pf model room) : ShortC c := by
  have hlc := rightU_lc h.ru
  have h1 : c.pc.length = u.regs.length := h.lp
  have h2 : c.regs.length = u.regs.length := by have := h.lr; simpa [Cf.pf] using this
  have h3 : c.buf.length = u.regs.length := by have := h.lb; simpa [Cf.pf] using this
  have h4 : c.mem.length = u.init.length := h.lm
  refine ⟨by omega, by omega, by omega, by omega, fun x hx => ?_, fun x hx => ?_⟩
  · exact shortP_regs h x hx
  · obtain ⟨k, hk, rfl⟩ := List.mem_iff_getElem.1 hx
    have ht := h.t k (by omega)
    unfold thB at ht
    rw [Bool.and_eq_true, Bool.and_eq_true] at ht
    have hg : c.pf.buf.getD k [] = (c.buf[k]).1 := by
      show (c.buf.map (·.1)).getD k [] = _
      rw [List.getD_eq_getElem?_getD, List.getElem?_map, List.getElem?_eq_getElem hk]; rfl
    rw [hg] at ht
    have := rightL_short ht.2.2 hlc.2.2.1
    omega
theorem flT_pop {c : Cf} {model t loc : Int} : (popC c model t loc).2.2 = flT c.pf model t loc := by
  rw [popC_pf]
  unfold popP flT
  by_cases hb : 0 ≤ t ∧ t < (c.pf.buf.length : Int)
  · rw [if_pos hb, decide_eq_true hb, Bool.true_and]
  · rw [if_neg hb, decide_eq_false hb, Bool.false_and]

theorem flush_is (u : Un) (c : Cf) (model room t loc : Int) (xp xr xm xb : Value) (w : World) (hc : CfD w xp xr xm xb c) (hR : RightP u c.pf model room) :
    Calls Tryz.prog 28 #[.agg #[xp, xr, xm, xb], .int .i64 model, .int .i64 t, .int .i64 loc] w (StepIs (flT c.pf model t loc) (flushT c.pf model t loc) w) := by
  obtain ⟨⟨z, ⟨x, y⟩, q⟩, hpop⟩ : ∃ r, popC c model t loc = r := ⟨_, rfl⟩
  have hq : flT c.pf model t loc = q := by rw [← flT_pop, hpop]
  have hP : popP c.pf model t loc = (z, (x, y), q) := by rw [← popC_pf]; exact hpop
  have hin : q = true → 0 ≤ t ∧ t < c.pf.buf.length ∧ 0 ≤ x ∧ x < c.pf.mem.length := by
    intro hh
    subst hh
    unfold popP at hP
    by_cases hb : 0 ≤ t ∧ t < (c.pf.buf.length : Int)
    · rw [if_pos hb] at hP
      obtain ⟨pc, i, T⟩ := hR.thr t.toNat (by rw [← hR.lb]; omega)
      have hm := pop_mem (c.pf.buf.getD t.toNat []) model loc (by rw [hP])
      rw [hP] at hm
      have h3 := (inB_iff _ _).1 (((rightL_iff _ _ _ _ _).1 T.bl).2.1 _ hm).1
      exact ⟨hb.1, hb.2, h3.1, by rw [hR.lm]; exact h3.2⟩
    · rw [if_neg hb] at hP
      cases hP
  refine (flush_any c model t loc xp xr xm xb w hc (short_right hR) z x y q hpop (fun hh => by have h9 := hin hh; simpa [Cf.pf] using h9)).mono ?_
  rintro e w' ⟨d, yp, yr, ym, yb, he, ho, hd, hb⟩
  refine ⟨d, yp, yr, ym, yb, by rw [hq]; exact he, ho, ?_, hb⟩
  rw [hd]
  unfold flushT
  rw [hq]
  cases q with
  | false => simp
  | true =>
    rw [if_pos rfl, if_pos rfl]
    obtain ⟨hb1, hb2, _, _⟩ := hin rfl
    unfold popP at hP
    rw [if_pos ⟨hb1, hb2⟩] at hP
    unfold flushP
    rw [hP]
    rfl
theorem flushes_is (u : Un) (c : Cf) (model room t loc : Int) (xp xr xm xb : Value) (w : World) (hc : CfD w xp xr xm xb c) (hR : RightP u c.pf model room) (b : Bool) (hb : flT c.pf model t loc = b) :
    Calls Tryz.prog 30 #[.agg #[xp, xr, xm, xb], .int .i64 model, .int .i64 t, .int .i64 loc] w fun e w' => e = .returned (.bool b) ∧ Below w.heap.size w w' :=
  flushes_any c model t loc xp xr xm xb w hc (short_right hR).bb b (by rw [flT_pop]; exact hb)

theorem act_is (u : Un) (c : Cf) (model room t : Int) (vi vr vc xp xr xm xb : Value) (w : World) (hu : UnD w vi vr vc u) (hc : CfD w xp xr xm xb c) (hus : ∀ k pc, (iiAt u k pc).x.e.length ≤ 100000 ∧ (iiAt u k pc).x.f.length ≤ 100000) (hR : RightP u c.pf model room) :
    Calls Tryz.prog 8 #[.agg #[.int .i64 u.mod, vi, vr, vc], .agg #[xp, xr, xm, xb], .int .i64 model, .int .i64 room, .int .i64 t] w (StepIs (enT u c.pf model room t) (actT u c.pf model room t) w) :=
  act_any u c model room t vi vr vc xp xr xm xb w hu hc (short_right hR) hus hR

end Go.Proofs.YtacbanfnakgecaaGreat

namespace Go.Proofs.YtacbanfnakgecaaGreat
set_option linter.unusedSimpArgs false
set_option linter.unusedVariables false
open Go.RowKit

theorem conf_at {w : World} {c : Cf} {ap aq am ab : Option Addr} {np nq nm nb cp cq cm cb : Nat} (hc : CfD w (.slice ap np cp) (.slice aq nq cq) (.slice am nm cm) (.slice ab nb cb) c) (k : Nat) (h1 : k < c.pc.length) (h2 : k < c.regs.length) (h3 : k < c.buf.length) :
    ∃ bp op bq oq bb ob rq mq rb mb, ap = some ⟨bp, op, none⟩ ∧ aq = some ⟨bq, oq, none⟩ ∧ ab = some ⟨bb, ob, none⟩ ∧ bp < w.heap.size ∧ bq < w.heap.size ∧ bb < w.heap.size ∧
      w.cell? ⟨bp, op + k, none⟩ = some (.int .i64 (c.pf.pc.getD k 0)) ∧ w.cell? ⟨bq, oq + k, none⟩ = some (.slice rq (c.pf.regs.getD k []).length mq) ∧ w.cell? ⟨bb, ob + k, none⟩ = some (.slice rb (c.pf.buf.getD k []).length mb) ∧
      IntsD w (.slice rq (c.pf.regs.getD k []).length mq) (c.pf.regs.getD k []) ∧ EntsD w (.slice rb (c.pf.buf.getD k []).length mb) (c.pf.buf.getD k []) := by
  obtain ⟨bp, op, rfl, l1, y1⟩ := IntsD.at2 hc.p k h1
  obtain ⟨bq, oq, rq, mq, rfl, l2, y2, d2⟩ := AllD.at2 hc.r k h2
  obtain ⟨bb, ob, rfl, l3, y3⟩ := SlD.at hc.b k h3
  have e1 : c.pf.pc.getD k 0 = c.pc[k] := by show c.pc.getD k 0 = _; rw [List.getD_eq_getElem?_getD, List.getElem?_eq_getElem h1]; rfl
  have e2 : c.pf.regs.getD k [] = (c.regs[k]).1 := by show (c.regs.map (·.1)).getD k [] = _; rw [List.getD_eq_getElem?_getD, List.getElem?_map, List.getElem?_eq_getElem h2]; rfl
  have e3 : c.pf.buf.getD k [] = (c.buf[k]).1 := by show (c.buf.map (·.1)).getD k [] = _; rw [List.getD_eq_getElem?_getD, List.getElem?_map, List.getElem?_eq_getElem h3]; rfl
  obtain ⟨c3, d3⟩ := y3
  obtain ⟨rb, mb, hv⟩ := d3.shape0
  rw [hv] at c3 d3
  rw [Nat.mul_one] at c3
  rw [e1, e2, e3]
  exact ⟨bp, op, bq, oq, bb, ob, rq, mq, rb, mb, rfl, rfl, rfl, l1, l2, l3, y1, y2, c3, d2, d3⟩
theorem act_else {u : Un} {p : Pf} {model room t : Int} {k : Nat} (h : t ≠ (k : Int)) : (actT u p model room t).pc.getD k 0 = p.pc.getD k 0 ∧ (actT u p model room t).regs.getD k [] = p.regs.getD k [] ∧ (actT u p model room t).buf.getD k [] = p.buf.getD k [] := by
  unfold actT
  split
  · next he =>
    unfold enT at he
    rw [Bool.and_eq_true] at he
    have := of_decide_eq_true he.1
    exact actO_ne u p model t.toNat k _ (by omega)
  · exact ⟨rfl, rfl, rfl⟩
theorem act_none {u : Un} {p : Pf} {model room t : Int} (h : enT u p model room t = false) : actT u p model room t = p := by
  unfold actT; rw [if_neg (by rw [h]; simp)]
theorem flush_pc {p : Pf} {model t loc : Int} : (flushT p model t loc).pc = p.pc := by
  unfold flushT
  split <;> rfl
theorem case_rightK {u : Un} {c : Cf} {model room : Int} (h : (lightU u && (lightC c && rightC u c model room)) = true) : lightU u = true ∧ lightC c = true ∧ RightP u c.pf model room := by
  rw [Bool.and_eq_true, Bool.and_eq_true] at h
  exact ⟨h.1, h.2.1, (rightC_iff u c model room).1 h.2.2⟩
theorem right_lens {u : Un} {c : Cf} {model room : Int} (h : RightP u c.pf model room) : c.pc.length = u.regs.length ∧ c.regs.length = u.regs.length ∧ c.buf.length = u.regs.length ∧ c.mem.length = u.init.length := by
  refine ⟨h.lp, ?_, ?_, h.lm⟩
  · have := h.lr; simpa [Cf.pf] using this
  · have := h.lb; simpa [Cf.pf] using this

theorem short_row {c : Cf} (hs : ShortC c) (k : Nat) : (c.pf.regs.getD k []).length ≤ 100000 ∧ (c.pf.buf.getD k []).length ≤ 100000 := by
  constructor
  · show ((c.regs.map (·.1)).getD k []).length ≤ _
    rw [List.getD_eq_getElem?_getD, List.getElem?_map]
    cases hg : c.regs[k]? with
    | none => simp
    | some x => exact hs.rr x (List.mem_of_getElem? hg)
  · show ((c.buf.map (·.1)).getD k []).length ≤ _
    rw [List.getD_eq_getElem?_getD, List.getElem?_map]
    cases hg : c.buf[k]? with
    | none => simp
    | some x => exact hs.bb x (List.mem_of_getElem? hg)

end Go.Proofs.YtacbanfnakgecaaGreat
