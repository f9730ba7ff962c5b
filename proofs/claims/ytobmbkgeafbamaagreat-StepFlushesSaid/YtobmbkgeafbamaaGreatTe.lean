/- StepFlushes: its walk. -/
import Derived.Test.YtobmbkgeafbamaaGreatZd
import Derived.Test.YtobmbkgeafbamaaGreatZb
import Derived.Test.YtobmbkgeafbamaaGreatTa
import Derived.Test.YtobmbkgeafbamaaGreatXl
import Derived.Test.YtobmbkgeafbamaaGreatYc
import Derived.Test.YtobmbkgeafbamaaGreatUo
namespace Go.Proofs.YtobmbkgeafbamaaGreat
set_option linter.unusedSimpArgs false
set_option linter.unusedVariables false
open Go.RowKit

theorem case_rightT {u : Un} {c : Cf} {model room : Int} (h : (lightU u && (lightC c && rightC u c model room)) = true) : lightU u = true ∧ lightC c = true ∧ RightP u c.pf model room := by
  rw [Bool.and_eq_true, Bool.and_eq_true] at h
  exact ⟨h.1, h.2.1, (rightC_iff u c model room).1 h.2.2⟩
theorem flush_in {u : Un} {p : Pf} {model room t loc x y : Int} {z : List Ent} {q : Bool} (h : RightP u p model room) (hq : popP p model t loc = (z, (x, y), q)) (hh : q = true) : 0 ≤ t ∧ t < p.buf.length ∧ 0 ≤ x ∧ x < p.mem.length := by
  subst hh
  unfold popP at hq
  by_cases hb : 0 ≤ t ∧ t < (p.buf.length : Int)
  · rw [if_pos hb] at hq
    obtain ⟨pc, i, T⟩ := h.thr t.toNat (by rw [← h.lb]; omega)
    have hm := pop_mem (p.buf.getD t.toNat []) model loc (by rw [hq])
    rw [hq] at hm
    have h3 := (inB_iff _ _).1 (((rightL_iff _ _ _ _ _).1 T.bl).2.1 _ hm).1
    exact ⟨hb.1, hb.2, h3.1, by rw [h.lm]; exact h3.2⟩
  · rw [if_neg hb] at hq
    cases hq
theorem flush_short {o a : Cf} {z : List Ent} {i k : Nat} {y : Int} {q : Bool} (ho : ShortC o) (hz : z.length ≤ 100000) (ha : a.pf = (if q = true then ⟨o.pc, o.regs.map (·.1), o.mem.set i y, (o.buf.map (·.1)).set k z⟩ else o.pf)) : ShortC a := by
  cases q with
  | false => exact short_pf ha ho
  | true =>
    rw [if_pos rfl] at ha
    unfold Cf.pf at ha
    injection ha with h1 h2 h3 h4
    have l2 := congrArg List.length h2
    have l4 := congrArg List.length h4
    simp only [List.length_map, List.length_set] at l2 l4
    refine ⟨by rw [h1]; exact ho.p, by rw [l2]; exact ho.r, by rw [h3, List.length_set]; exact ho.m, by rw [l4]; exact ho.b, fun x hx => ?_, fun x hx => ?_⟩
    · have hm : x.1 ∈ a.regs.map (·.1) := List.mem_map_of_mem hx
      rw [h2] at hm
      obtain ⟨x', hx', e⟩ := List.mem_map.1 hm
      rw [← e]; exact ho.rr x' hx'
    · have hm : x.1 ∈ a.buf.map (·.1) := List.mem_map_of_mem hx
      rw [h4] at hm
      rcases List.mem_or_eq_of_mem_set hm with hm | hm
      · obtain ⟨x', hx', e⟩ := List.mem_map.1 hm
        rw [← e]; exact ho.bb x' hx'
      · rw [hm]; exact hz
theorem pop_short {c : Cf} {model t loc : Int} {z : List Ent} {r : Ent × Bool} (hs : ShortC c) (h : popP c.pf model t loc = (z, r)) : z.length ≤ 100000 := by
  unfold popP at h
  split at h
  · next hb =>
    have h1 := (pop_sub (c.pf.buf.getD t.toNat []) model loc).length_le
    rw [h] at h1
    have hk : t.toNat < c.pf.buf.length := by omega
    rw [List.getD_eq_getElem?_getD, List.getElem?_eq_getElem hk] at h1
    have hm : c.pf.buf[t.toNat] ∈ c.buf.map (·.1) := List.getElem_mem hk
    obtain ⟨x, hx, e⟩ := List.mem_map.1 hm
    have := hs.bb x hx
    rw [e] at this
    exact Nat.le_trans h1 this
  · injection h with h1 _
    rw [← h1]; exact Nat.zero_le _
/-- Flush's result, by what a configuration holds. -/
def flP (p : Pf) (x y t : Int) (z : List Ent) (q : Bool) : Pf := if q = true then ⟨p.pc, p.regs, p.mem.set x.toNat y, p.buf.set t.toNat z⟩ else p

attribute [local go_sem ↓] Go.wp_at_zero Go.wp_at_succ
set_option maxRecDepth 100000 in
set_option maxHeartbeats 16000000 in
theorem flushes_in (u : Un) (c : Cf) (model room t loc : Int) (vi vr vc xp xr xm xb : Value) (w : World) (hu : UnD w vi vr vc u) (hc : CfD w xp xr xm xb c) :
    Calls Tryz.prog 4 #[.agg #[.int .i64 u.mod, vi, vr, vc, xp, xr, xm, xb, .int .i64 model, .int .i64 room, .int .i64 t, .int .i64 loc]] w fun e w' => e = .returned (.bool true) ∧ Below w.heap.size w w' := by
  have HKN := Lib.hid known_any
  have HU := Lib.hid hu
  have HC := Lib.hid hc
  obtain ⟨ai, ci, rfl⟩ := hu.i.shape0
  obtain ⟨ar, cr, rfl⟩ := hu.r.shape0
  obtain ⟨ac, cc, rfl⟩ := hu.c.shape0
  obtain ⟨ap, cp, rfl⟩ := hc.p.shape0
  obtain ⟨aq, cq, rfl⟩ := hc.r.shape0
  obtain ⟨am, cm, rfl⟩ := hc.m.shape0
  obtain ⟨ab, cb, rfl⟩ := hc.b.shape0
  clear hu hc
  have HRT := Lib.hid (fun (W : World) (h : Below w.heap.size w W) => right10_any u c model room t loc _ _ _ _ _ _ _ W (HU.out.below h) (HC.out.below h) _ rfl)
  obtain ⟨⟨z, ⟨x, y⟩, q⟩, hpop⟩ : ∃ r, popP c.pf model t loc = r := ⟨_, rfl⟩
  have HCP := Lib.hid (fun (hr : (lightU u && (lightC c && rightC u c model room)) = true) (W : World) (h : Below w.heap.size w W) => rcopy_any c _ _ _ _ W (HC.out.below h) (lightC_short (case_rightT hr).2.1))
  have HFO := Lib.hid (fun (hr : (lightU u && (lightC c && rightC u c model room)) = true) (o : Cf) (ho : o.pf = c.pf) (yp yr ym yb : Value) (W : World) (hd : CfD W yp yr ym yb o) => flush_any o model t loc yp yr ym yb W hd (short_pf ho (lightC_short (case_rightT hr).2.1)) z x y q (by rw [popC_pf, ho]; exact hpop) (fun hh => by have h9 := flush_in (case_rightT hr).2.2 hpop hh; rw [← ho] at h9; simpa [Cf.pf] using h9))
  have HFR := Lib.hid (fun (hr : (lightU u && (lightC c && rightC u c model room)) = true) (W : World) (h : Below w.heap.size w W) => rflush_any c model t loc _ _ _ _ W (HC.out.below h) (lightC_short (case_rightT hr).2.1) z x y q (by rw [popC_pf]; exact hpop) (fun hh => by have h9 := flush_in (case_rightT hr).2.2 hpop hh; simpa [Cf.pf] using h9))
  have HSO := Lib.hid (fun (hr : (lightU u && (lightC c && rightC u c model room)) = true) (o : Cf) (ho : o.pf = c.pf) (yp yr ym yb : Value) (W : World) (h : Below w.heap.size w W) (hd : CfD W yp yr ym yb o) => csame_any o c yp yr ym yb _ _ _ _ W hd (HC.out.below h) (short_pf ho (lightC_short (case_rightT hr).2.1)) true (by rw [sameC_pf]; exact decide_eq_true ho))
  have HFL := Lib.hid (fun (hr : (lightU u && (lightC c && rightC u c model room)) = true) (W : World) (h : Below w.heap.size w W) => flushes_any c model t loc _ _ _ _ W (HC.out.below h) (lightC_short (case_rightT hr).2.1).bb q (by rw [popC_pf, hpop]))
  obtain ⟨n, hn⟩ : ∃ n, readsC c t loc = n := ⟨_, rfl⟩
  have HRD := Lib.hid (fun (hr : (lightU u && (lightC c && rightC u c model room)) = true) (W : World) (h : Below w.heap.size w W) => reads_any c t loc _ _ _ _ W (HC.out.below h) (lightC_short (case_rightT hr).2.1).bb n hn)
  have HRR := Lib.hid (fun (hr : (lightU u && (lightC c && rightC u c model room)) = true) (W : World) (h : Below w.heap.size w W) => rreads_any c t loc _ _ _ _ W (HC.out.below h) (lightC_short (case_rightT hr).2.1).bb n hn)
  have HSH := Lib.hid (fun (hr : (lightU u && (lightC c && rightC u c model room)) = true) => lightC_short (case_rightT hr).2.1)
  have HZ := Lib.hid (fun (hr : (lightU u && (lightC c && rightC u c model room)) = true) => pop_short (lightC_short (case_rightT hr).2.1) hpop)
  clear HU HC hpop hn
  generalize u.init.length = ni at HRT ⊢
  generalize u.regs.length = nr at HRT ⊢
  generalize u.code.length = nc at HRT ⊢
  generalize c.pc.length = np at HRT HCP HFR HSO HFL HRD HRR ⊢
  generalize c.regs.length = nq at HRT HCP HFR HSO HFL HRD HRR ⊢
  generalize c.mem.length = nm at HRT HCP HFR HSO HFL HRD HRR ⊢
  generalize c.buf.length = nb at HRT HCP HFR HSO HFL HRD HRR ⊢
  generalize u.mod = md at HRT ⊢
  obtain ⟨r, hr⟩ : ∃ q, (lightU u && (lightC c && rightC u c model room)) = q := ⟨_, rfl⟩
  rw [hr] at HRT HFO HSH HZ HCP HFR HSO HFL HRD HRR
  clear hr
  have K := Lib.hid (Bk.new w 31 #[.int .i64 md, .slice ai ni ci, .slice ar nr cr, .slice ac nc cc, .slice ap np cp, .slice aq nq cq, .slice am nm cm, .slice ab nb cb, .int .i64 model, .int .i64 room, .int .i64 t, .int .i64 loc])
  have B : Hid (Below w.heap.size w (World.alloc w (.cells #[.int .i64 md, .slice ai ni ci, .slice ar nr cr, .slice ac nc cc, .slice ap np cp, .slice aq nq cq, .slice am nm cm, .slice ab nb cb, .int .i64 model, .int .i64 room, .int .i64 t, .int .i64 loc] 31))) := Lib.hid (bal (Below.refl _ _) _)
  go_enter Tryz.func4, Tryz.ntmps4
  go_wp2_with fail
  generalize World.alloc w (.cells #[.int .i64 md, .slice ai ni ci, .slice ar nr cr, .slice ac nc cc, .slice ap np cp, .slice aq nq cq, .slice am nm cm, .slice ab nb cb, .int .i64 model, .int .i64 room, .int .i64 t, .int .i64 loc] 31) = w1 at K B ⊢
  refine (HRT.out w1 B.out).mono ?_
  rintro e w2 ⟨rfl, b⟩
  replace K := Lib.hid (K.out.below b)
  replace B := Lib.hid (B.out.trans (b.mono B.out.size))
  clear b
  cases r with
  | false =>
    go_wp2_with fail
    refine (HKN.out w2).mono ?_
    rintro e w3 ⟨rfl, b⟩
    replace K := Lib.hid (K.out.below b)
    replace B := Lib.hid (B.out.trans (b.mono B.out.size))
    clear b
    go_wp2
    go_ret
    exact ⟨ret_bool rfl, B.out⟩
  | true =>
    replace HFO := Lib.hid (HFO.out rfl)
    replace HSH := Lib.hid (HSH.out rfl)
    replace HZ := Lib.hid (HZ.out rfl)
    replace HCP := Lib.hid (HCP.out rfl)
    replace HFR := Lib.hid (HFR.out rfl)
    replace HSO := Lib.hid (HSO.out rfl)
    replace HFL := Lib.hid (HFL.out rfl)
    replace HRD := Lib.hid (HRD.out rfl)
    replace HRR := Lib.hid (HRR.out rfl)
    obtain ⟨c0, c1, c2, c3, c4, c5, c6, c7, c8, c9, c10, c11, cl⟩ : w2.cell? ⟨w.heap.size, 0, none⟩ = some (.int .i64 md) ∧ w2.cell? ⟨w.heap.size, 1, none⟩ = some (.slice ai ni ci) ∧ w2.cell? ⟨w.heap.size, 2, none⟩ = some (.slice ar nr cr) ∧ w2.cell? ⟨w.heap.size, 3, none⟩ = some (.slice ac nc cc) ∧ w2.cell? ⟨w.heap.size, 4, none⟩ = some (.slice ap np cp) ∧ w2.cell? ⟨w.heap.size, 5, none⟩ = some (.slice aq nq cq) ∧ w2.cell? ⟨w.heap.size, 6, none⟩ = some (.slice am nm cm) ∧ w2.cell? ⟨w.heap.size, 7, none⟩ = some (.slice ab nb cb) ∧ w2.cell? ⟨w.heap.size, 8, none⟩ = some (.int .i64 model) ∧ w2.cell? ⟨w.heap.size, 9, none⟩ = some (.int .i64 room) ∧ w2.cell? ⟨w.heap.size, 10, none⟩ = some (.int .i64 t) ∧ w2.cell? ⟨w.heap.size, 11, none⟩ = some (.int .i64 loc) ∧ w.heap.size < w2.heap.size := ⟨K.out.cell 0, K.out.cell 1, K.out.cell 2, K.out.cell 3, K.out.cell 4, K.out.cell 5, K.out.cell 6, K.out.cell 7, K.out.cell 8, K.out.cell 9, K.out.cell 10, K.out.cell 11, K.out.lt⟩
    go_wp2_with fail
    clear c0 c1 c2 c3 c4 c5 c6 c7 c8 c9 c10 c11 cl
    refine (HCP.out w2 B.out).mono ?_
    rintro e w3 ⟨ov, yp, yr, ym, yb, rfl, oc, po, b, _⟩
    have Po := Lib.hid po
    clear po
    obtain ⟨oa0, ok0, rfl, _⟩ := own_shape' oc.p
    obtain ⟨oa1, ok1, rfl, _⟩ := own_shape' oc.r.h
    obtain ⟨oa2, ok2, rfl, _⟩ := own_shape' oc.m
    obtain ⟨oa3, ok3, rfl, _⟩ := own_shape' oc.b.h
    have Do := Lib.hid oc.data
    clear oc
    replace K := Lib.hid (K.out.below b)
    replace B := Lib.hid (B.out.trans (b.mono B.out.size))
    clear b
    have Ko := Lib.hid (Bk.new w3 29 #[.slice oa0 ov.pc.length ok0, .slice oa1 ov.regs.length ok1, .slice oa2 ov.mem.length ok2, .slice oa3 ov.buf.length ok3])
    have BW : Hid (Below w3.heap.size w3 (World.alloc w3 (.cells #[.slice oa0 ov.pc.length ok0, .slice oa1 ov.regs.length ok1, .slice oa2 ov.mem.length ok2, .slice oa3 ov.buf.length ok3] 29))) := Lib.hid (bal (Below.refl _ _) _)
    obtain ⟨w4, hw4⟩ : ∃ z, World.alloc w3 (.cells #[.slice oa0 ov.pc.length ok0, .slice oa1 ov.regs.length ok1, .slice oa2 ov.mem.length ok2, .slice oa3 ov.buf.length ok3] 29) = z := ⟨_, rfl⟩
    rw [hw4] at Ko BW
    replace Do := Lib.hid (Do.out.below BW.out)
    replace K := Lib.hid (K.out.below BW.out)
    replace B := Lib.hid (B.out.trans (BW.out.mono B.out.size))
    clear BW
    obtain ⟨c0, c1, c2, c3, c4, c5, c6, c7, c8, c9, c10, c11, cl⟩ : w4.cell? ⟨w.heap.size, 0, none⟩ = some (.int .i64 md) ∧ w4.cell? ⟨w.heap.size, 1, none⟩ = some (.slice ai ni ci) ∧ w4.cell? ⟨w.heap.size, 2, none⟩ = some (.slice ar nr cr) ∧ w4.cell? ⟨w.heap.size, 3, none⟩ = some (.slice ac nc cc) ∧ w4.cell? ⟨w.heap.size, 4, none⟩ = some (.slice ap np cp) ∧ w4.cell? ⟨w.heap.size, 5, none⟩ = some (.slice aq nq cq) ∧ w4.cell? ⟨w.heap.size, 6, none⟩ = some (.slice am nm cm) ∧ w4.cell? ⟨w.heap.size, 7, none⟩ = some (.slice ab nb cb) ∧ w4.cell? ⟨w.heap.size, 8, none⟩ = some (.int .i64 model) ∧ w4.cell? ⟨w.heap.size, 9, none⟩ = some (.int .i64 room) ∧ w4.cell? ⟨w.heap.size, 10, none⟩ = some (.int .i64 t) ∧ w4.cell? ⟨w.heap.size, 11, none⟩ = some (.int .i64 loc) ∧ w.heap.size < w4.heap.size := ⟨K.out.cell 0, K.out.cell 1, K.out.cell 2, K.out.cell 3, K.out.cell 4, K.out.cell 5, K.out.cell 6, K.out.cell 7, K.out.cell 8, K.out.cell 9, K.out.cell 10, K.out.cell 11, K.out.lt⟩
    obtain ⟨o0, o1, o2, o3, ol⟩ : w4.cell? ⟨w3.heap.size, 0, none⟩ = some (.slice oa0 ov.pc.length ok0) ∧ w4.cell? ⟨w3.heap.size, 1, none⟩ = some (.slice oa1 ov.regs.length ok1) ∧ w4.cell? ⟨w3.heap.size, 2, none⟩ = some (.slice oa2 ov.mem.length ok2) ∧ w4.cell? ⟨w3.heap.size, 3, none⟩ = some (.slice oa3 ov.buf.length ok3) ∧ w3.heap.size < w4.heap.size := ⟨Ko.out.cell 0, Ko.out.cell 1, Ko.out.cell 2, Ko.out.cell 3, Ko.out.lt⟩
    go_wp2_with fail
    clear c0 c1 c2 c3 c4 c5 c6 c7 c8 c9 c10 c11 cl
    clear o0 o1 o2 o3 ol
    refine (HFO.out ov Po.out _ _ _ _ w4 Do.out).mono ?_
    rintro e w5 ⟨av, yp, yr, ym, yb, rfl, oc, pa, b⟩
    have Pa := Lib.hid pa
    clear pa
    obtain ⟨aa0, ak0, rfl, _⟩ := own_shape' oc.p
    obtain ⟨aa1, ak1, rfl, _⟩ := own_shape' oc.r.h
    obtain ⟨aa2, ak2, rfl, _⟩ := own_shape' oc.m
    obtain ⟨aa3, ak3, rfl, _⟩ := own_shape' oc.b.h
    have Da := Lib.hid oc.data
    clear oc
    replace K := Lib.hid (K.out.below b)
    replace B := Lib.hid (B.out.trans (b.mono B.out.size))
    replace Ko := Lib.hid (Ko.out.below b)
    replace Do := Lib.hid (Do.out.below b)
    clear b
    have Ka := Lib.hid (Bk.new w5 29 #[.slice aa0 av.pc.length ak0, .slice aa1 av.regs.length ak1, .slice aa2 av.mem.length ak2, .slice aa3 av.buf.length ak3])
    have BW : Hid (Below w5.heap.size w5 (World.alloc w5 (.cells #[.slice aa0 av.pc.length ak0, .slice aa1 av.regs.length ak1, .slice aa2 av.mem.length ak2, .slice aa3 av.buf.length ak3] 29))) := Lib.hid (bal (Below.refl _ _) _)
    obtain ⟨w6, hw6⟩ : ∃ z, World.alloc w5 (.cells #[.slice aa0 av.pc.length ak0, .slice aa1 av.regs.length ak1, .slice aa2 av.mem.length ak2, .slice aa3 av.buf.length ak3] 29) = z := ⟨_, rfl⟩
    rw [hw6] at Ka BW
    replace Da := Lib.hid (Da.out.below BW.out)
    replace K := Lib.hid (K.out.below BW.out)
    replace B := Lib.hid (B.out.trans (BW.out.mono B.out.size))
    replace Ko := Lib.hid (Ko.out.below BW.out)
    replace Do := Lib.hid (Do.out.below BW.out)
    clear BW
    obtain ⟨c0, c1, c2, c3, c4, c5, c6, c7, c8, c9, c10, c11, cl⟩ : w6.cell? ⟨w.heap.size, 0, none⟩ = some (.int .i64 md) ∧ w6.cell? ⟨w.heap.size, 1, none⟩ = some (.slice ai ni ci) ∧ w6.cell? ⟨w.heap.size, 2, none⟩ = some (.slice ar nr cr) ∧ w6.cell? ⟨w.heap.size, 3, none⟩ = some (.slice ac nc cc) ∧ w6.cell? ⟨w.heap.size, 4, none⟩ = some (.slice ap np cp) ∧ w6.cell? ⟨w.heap.size, 5, none⟩ = some (.slice aq nq cq) ∧ w6.cell? ⟨w.heap.size, 6, none⟩ = some (.slice am nm cm) ∧ w6.cell? ⟨w.heap.size, 7, none⟩ = some (.slice ab nb cb) ∧ w6.cell? ⟨w.heap.size, 8, none⟩ = some (.int .i64 model) ∧ w6.cell? ⟨w.heap.size, 9, none⟩ = some (.int .i64 room) ∧ w6.cell? ⟨w.heap.size, 10, none⟩ = some (.int .i64 t) ∧ w6.cell? ⟨w.heap.size, 11, none⟩ = some (.int .i64 loc) ∧ w.heap.size < w6.heap.size := ⟨K.out.cell 0, K.out.cell 1, K.out.cell 2, K.out.cell 3, K.out.cell 4, K.out.cell 5, K.out.cell 6, K.out.cell 7, K.out.cell 8, K.out.cell 9, K.out.cell 10, K.out.cell 11, K.out.lt⟩
    obtain ⟨o0, o1, o2, o3, ol⟩ : w6.cell? ⟨w3.heap.size, 0, none⟩ = some (.slice oa0 ov.pc.length ok0) ∧ w6.cell? ⟨w3.heap.size, 1, none⟩ = some (.slice oa1 ov.regs.length ok1) ∧ w6.cell? ⟨w3.heap.size, 2, none⟩ = some (.slice oa2 ov.mem.length ok2) ∧ w6.cell? ⟨w3.heap.size, 3, none⟩ = some (.slice oa3 ov.buf.length ok3) ∧ w3.heap.size < w6.heap.size := ⟨Ko.out.cell 0, Ko.out.cell 1, Ko.out.cell 2, Ko.out.cell 3, Ko.out.lt⟩
    obtain ⟨a0, a1, a2, a3, al⟩ : w6.cell? ⟨w5.heap.size, 0, none⟩ = some (.slice aa0 av.pc.length ak0) ∧ w6.cell? ⟨w5.heap.size, 1, none⟩ = some (.slice aa1 av.regs.length ak1) ∧ w6.cell? ⟨w5.heap.size, 2, none⟩ = some (.slice aa2 av.mem.length ak2) ∧ w6.cell? ⟨w5.heap.size, 3, none⟩ = some (.slice aa3 av.buf.length ak3) ∧ w5.heap.size < w6.heap.size := ⟨Ka.out.cell 0, Ka.out.cell 1, Ka.out.cell 2, Ka.out.cell 3, Ka.out.lt⟩
    go_wp2_with fail
    clear c0 c1 c2 c3 c4 c5 c6 c7 c8 c9 c10 c11 cl
    clear o0 o1 o2 o3 ol
    clear a0 a1 a2 a3 al
    refine (HFR.out w6 B.out).mono ?_
    rintro e w7 ⟨bv, yp, yr, ym, yb, rfl, oc, pb, b⟩
    have Pb := Lib.hid pb
    clear pb
    obtain ⟨ba0, bk0, rfl, _⟩ := own_shape' oc.p
    obtain ⟨ba1, bk1, rfl, _⟩ := own_shape' oc.r.h
    obtain ⟨ba2, bk2, rfl, _⟩ := own_shape' oc.m
    obtain ⟨ba3, bk3, rfl, _⟩ := own_shape' oc.b.h
    have Db := Lib.hid oc.data
    clear oc
    replace K := Lib.hid (K.out.below b)
    replace B := Lib.hid (B.out.trans (b.mono B.out.size))
    replace Ko := Lib.hid (Ko.out.below b)
    replace Do := Lib.hid (Do.out.below b)
    replace Ka := Lib.hid (Ka.out.below b)
    replace Da := Lib.hid (Da.out.below b)
    clear b
    have Kb := Lib.hid (Bk.new w7 29 #[.slice ba0 bv.pc.length bk0, .slice ba1 bv.regs.length bk1, .slice ba2 bv.mem.length bk2, .slice ba3 bv.buf.length bk3])
    have BW : Hid (Below w7.heap.size w7 (World.alloc w7 (.cells #[.slice ba0 bv.pc.length bk0, .slice ba1 bv.regs.length bk1, .slice ba2 bv.mem.length bk2, .slice ba3 bv.buf.length bk3] 29))) := Lib.hid (bal (Below.refl _ _) _)
    obtain ⟨w8, hw8⟩ : ∃ z, World.alloc w7 (.cells #[.slice ba0 bv.pc.length bk0, .slice ba1 bv.regs.length bk1, .slice ba2 bv.mem.length bk2, .slice ba3 bv.buf.length bk3] 29) = z := ⟨_, rfl⟩
    rw [hw8] at Kb BW
    replace Db := Lib.hid (Db.out.below BW.out)
    replace K := Lib.hid (K.out.below BW.out)
    replace B := Lib.hid (B.out.trans (BW.out.mono B.out.size))
    replace Ko := Lib.hid (Ko.out.below BW.out)
    replace Do := Lib.hid (Do.out.below BW.out)
    replace Ka := Lib.hid (Ka.out.below BW.out)
    replace Da := Lib.hid (Da.out.below BW.out)
    clear BW
    obtain ⟨c0, c1, c2, c3, c4, c5, c6, c7, c8, c9, c10, c11, cl⟩ : w8.cell? ⟨w.heap.size, 0, none⟩ = some (.int .i64 md) ∧ w8.cell? ⟨w.heap.size, 1, none⟩ = some (.slice ai ni ci) ∧ w8.cell? ⟨w.heap.size, 2, none⟩ = some (.slice ar nr cr) ∧ w8.cell? ⟨w.heap.size, 3, none⟩ = some (.slice ac nc cc) ∧ w8.cell? ⟨w.heap.size, 4, none⟩ = some (.slice ap np cp) ∧ w8.cell? ⟨w.heap.size, 5, none⟩ = some (.slice aq nq cq) ∧ w8.cell? ⟨w.heap.size, 6, none⟩ = some (.slice am nm cm) ∧ w8.cell? ⟨w.heap.size, 7, none⟩ = some (.slice ab nb cb) ∧ w8.cell? ⟨w.heap.size, 8, none⟩ = some (.int .i64 model) ∧ w8.cell? ⟨w.heap.size, 9, none⟩ = some (.int .i64 room) ∧ w8.cell? ⟨w.heap.size, 10, none⟩ = some (.int .i64 t) ∧ w8.cell? ⟨w.heap.size, 11, none⟩ = some (.int .i64 loc) ∧ w.heap.size < w8.heap.size := ⟨K.out.cell 0, K.out.cell 1, K.out.cell 2, K.out.cell 3, K.out.cell 4, K.out.cell 5, K.out.cell 6, K.out.cell 7, K.out.cell 8, K.out.cell 9, K.out.cell 10, K.out.cell 11, K.out.lt⟩
    obtain ⟨o0, o1, o2, o3, ol⟩ : w8.cell? ⟨w3.heap.size, 0, none⟩ = some (.slice oa0 ov.pc.length ok0) ∧ w8.cell? ⟨w3.heap.size, 1, none⟩ = some (.slice oa1 ov.regs.length ok1) ∧ w8.cell? ⟨w3.heap.size, 2, none⟩ = some (.slice oa2 ov.mem.length ok2) ∧ w8.cell? ⟨w3.heap.size, 3, none⟩ = some (.slice oa3 ov.buf.length ok3) ∧ w3.heap.size < w8.heap.size := ⟨Ko.out.cell 0, Ko.out.cell 1, Ko.out.cell 2, Ko.out.cell 3, Ko.out.lt⟩
    obtain ⟨a0, a1, a2, a3, al⟩ : w8.cell? ⟨w5.heap.size, 0, none⟩ = some (.slice aa0 av.pc.length ak0) ∧ w8.cell? ⟨w5.heap.size, 1, none⟩ = some (.slice aa1 av.regs.length ak1) ∧ w8.cell? ⟨w5.heap.size, 2, none⟩ = some (.slice aa2 av.mem.length ak2) ∧ w8.cell? ⟨w5.heap.size, 3, none⟩ = some (.slice aa3 av.buf.length ak3) ∧ w5.heap.size < w8.heap.size := ⟨Ka.out.cell 0, Ka.out.cell 1, Ka.out.cell 2, Ka.out.cell 3, Ka.out.lt⟩
    obtain ⟨b0, b1, b2, b3, bl⟩ : w8.cell? ⟨w7.heap.size, 0, none⟩ = some (.slice ba0 bv.pc.length bk0) ∧ w8.cell? ⟨w7.heap.size, 1, none⟩ = some (.slice ba1 bv.regs.length bk1) ∧ w8.cell? ⟨w7.heap.size, 2, none⟩ = some (.slice ba2 bv.mem.length bk2) ∧ w8.cell? ⟨w7.heap.size, 3, none⟩ = some (.slice ba3 bv.buf.length bk3) ∧ w7.heap.size < w8.heap.size := ⟨Kb.out.cell 0, Kb.out.cell 1, Kb.out.cell 2, Kb.out.cell 3, Kb.out.lt⟩
    have hab : av.pf = bv.pf := by have h0 := Po.out; unfold Cf.pf at h0; injection h0 with h1 h2 h3 h4; rw [Pa.out, Pb.out, h1, h2, h3, h4]; cases q <;> simp [Cf.pf, h1, h2, h3, h4]
    have hsa : ShortC av := flush_short (short_pf Po.out HSH.out) HZ.out Pa.out
    have HSM := Lib.hid (fun (W : World) (h : Below w8.heap.size w8 W) => csame_any av bv _ _ _ _ _ _ _ _ W (Da.out.below h) (Db.out.below h) hsa true (by rw [sameC_pf]; exact decide_eq_true hab))
    have HSO2 := Lib.hid (fun (W : World) (h : Below w8.heap.size w8 W) => HSO.out ov Po.out _ _ _ _ W (B.out.trans (h.mono B.out.size)) (Do.out.below h))
    have HFL2 := Lib.hid (fun (W : World) (h : Below w8.heap.size w8 W) => HFL.out W (B.out.trans (h.mono B.out.size)))
    have HRD2 := Lib.hid (fun (W : World) (h : Below w8.heap.size w8 W) => HRD.out W (B.out.trans (h.mono B.out.size)))
    have HRR2 := Lib.hid (fun (W : World) (h : Below w8.heap.size w8 W) => HRR.out W (B.out.trans (h.mono B.out.size)))
    clear c0 c1 c2 c3 c4 c5 c6 c7 c8 c9 c10 c11 cl
    clear o0 o1 o2 o3 ol
    clear a0 a1 a2 a3 al
    clear b0 b1 b2 b3 bl
    clear hab hsa HSO HFL HRD HRR HFR HFO HCP
    have HCC := Lib.hid (fun (w' : World) (h : Below w8.heap.size w8 w') => (⟨(h.cell (p := ⟨w.heap.size, _, none⟩) K.out.lt).trans (K.out.cell 0), (h.cell (p := ⟨w.heap.size, _, none⟩) K.out.lt).trans (K.out.cell 1), (h.cell (p := ⟨w.heap.size, _, none⟩) K.out.lt).trans (K.out.cell 2), (h.cell (p := ⟨w.heap.size, _, none⟩) K.out.lt).trans (K.out.cell 3), (h.cell (p := ⟨w.heap.size, _, none⟩) K.out.lt).trans (K.out.cell 4), (h.cell (p := ⟨w.heap.size, _, none⟩) K.out.lt).trans (K.out.cell 5), (h.cell (p := ⟨w.heap.size, _, none⟩) K.out.lt).trans (K.out.cell 6), (h.cell (p := ⟨w.heap.size, _, none⟩) K.out.lt).trans (K.out.cell 7), (h.cell (p := ⟨w.heap.size, _, none⟩) K.out.lt).trans (K.out.cell 8), (h.cell (p := ⟨w.heap.size, _, none⟩) K.out.lt).trans (K.out.cell 9), (h.cell (p := ⟨w.heap.size, _, none⟩) K.out.lt).trans (K.out.cell 10), (h.cell (p := ⟨w.heap.size, _, none⟩) K.out.lt).trans (K.out.cell 11), Nat.lt_of_lt_of_le K.out.lt h.size, (h.cell (p := ⟨w3.heap.size, _, none⟩) Ko.out.lt).trans (Ko.out.cell 0), (h.cell (p := ⟨w3.heap.size, _, none⟩) Ko.out.lt).trans (Ko.out.cell 1), (h.cell (p := ⟨w3.heap.size, _, none⟩) Ko.out.lt).trans (Ko.out.cell 2), (h.cell (p := ⟨w3.heap.size, _, none⟩) Ko.out.lt).trans (Ko.out.cell 3), Nat.lt_of_lt_of_le Ko.out.lt h.size, (h.cell (p := ⟨w5.heap.size, _, none⟩) Ka.out.lt).trans (Ka.out.cell 0), (h.cell (p := ⟨w5.heap.size, _, none⟩) Ka.out.lt).trans (Ka.out.cell 1), (h.cell (p := ⟨w5.heap.size, _, none⟩) Ka.out.lt).trans (Ka.out.cell 2), (h.cell (p := ⟨w5.heap.size, _, none⟩) Ka.out.lt).trans (Ka.out.cell 3), Nat.lt_of_lt_of_le Ka.out.lt h.size, (h.cell (p := ⟨w7.heap.size, _, none⟩) Kb.out.lt).trans (Kb.out.cell 0), (h.cell (p := ⟨w7.heap.size, _, none⟩) Kb.out.lt).trans (Kb.out.cell 1), (h.cell (p := ⟨w7.heap.size, _, none⟩) Kb.out.lt).trans (Kb.out.cell 2), (h.cell (p := ⟨w7.heap.size, _, none⟩) Kb.out.lt).trans (Kb.out.cell 3), Nat.lt_of_lt_of_le Kb.out.lt h.size, h⟩ : (fun w' => w'.cell? ⟨w.heap.size, 0, none⟩ = some (.int .i64 md) ∧ w'.cell? ⟨w.heap.size, 1, none⟩ = some (.slice ai ni ci) ∧ w'.cell? ⟨w.heap.size, 2, none⟩ = some (.slice ar nr cr) ∧ w'.cell? ⟨w.heap.size, 3, none⟩ = some (.slice ac nc cc) ∧ w'.cell? ⟨w.heap.size, 4, none⟩ = some (.slice ap np cp) ∧ w'.cell? ⟨w.heap.size, 5, none⟩ = some (.slice aq nq cq) ∧ w'.cell? ⟨w.heap.size, 6, none⟩ = some (.slice am nm cm) ∧ w'.cell? ⟨w.heap.size, 7, none⟩ = some (.slice ab nb cb) ∧ w'.cell? ⟨w.heap.size, 8, none⟩ = some (.int .i64 model) ∧ w'.cell? ⟨w.heap.size, 9, none⟩ = some (.int .i64 room) ∧ w'.cell? ⟨w.heap.size, 10, none⟩ = some (.int .i64 t) ∧ w'.cell? ⟨w.heap.size, 11, none⟩ = some (.int .i64 loc) ∧ w.heap.size < w'.heap.size ∧ w'.cell? ⟨w3.heap.size, 0, none⟩ = some (.slice oa0 ov.pc.length ok0) ∧ w'.cell? ⟨w3.heap.size, 1, none⟩ = some (.slice oa1 ov.regs.length ok1) ∧ w'.cell? ⟨w3.heap.size, 2, none⟩ = some (.slice oa2 ov.mem.length ok2) ∧ w'.cell? ⟨w3.heap.size, 3, none⟩ = some (.slice oa3 ov.buf.length ok3) ∧ w3.heap.size < w'.heap.size ∧ w'.cell? ⟨w5.heap.size, 0, none⟩ = some (.slice aa0 av.pc.length ak0) ∧ w'.cell? ⟨w5.heap.size, 1, none⟩ = some (.slice aa1 av.regs.length ak1) ∧ w'.cell? ⟨w5.heap.size, 2, none⟩ = some (.slice aa2 av.mem.length ak2) ∧ w'.cell? ⟨w5.heap.size, 3, none⟩ = some (.slice aa3 av.buf.length ak3) ∧ w5.heap.size < w'.heap.size ∧ w'.cell? ⟨w7.heap.size, 0, none⟩ = some (.slice ba0 bv.pc.length bk0) ∧ w'.cell? ⟨w7.heap.size, 1, none⟩ = some (.slice ba1 bv.regs.length bk1) ∧ w'.cell? ⟨w7.heap.size, 2, none⟩ = some (.slice ba2 bv.mem.length bk2) ∧ w'.cell? ⟨w7.heap.size, 3, none⟩ = some (.slice ba3 bv.buf.length bk3) ∧ w7.heap.size < w'.heap.size ∧ Below w8.heap.size w8 w') w'))
    have ge : (q == q) = true := by simp
    have gn : (n == n) = true := by simp
    have bb : Below w8.heap.size w8 w8 := Below.refl _ _
    go_wp2_with fail
    go_region_held3 (fun w' => w'.cell? ⟨w.heap.size, 0, none⟩ = some (.int .i64 md) ∧ w'.cell? ⟨w.heap.size, 1, none⟩ = some (.slice ai ni ci) ∧ w'.cell? ⟨w.heap.size, 2, none⟩ = some (.slice ar nr cr) ∧ w'.cell? ⟨w.heap.size, 3, none⟩ = some (.slice ac nc cc) ∧ w'.cell? ⟨w.heap.size, 4, none⟩ = some (.slice ap np cp) ∧ w'.cell? ⟨w.heap.size, 5, none⟩ = some (.slice aq nq cq) ∧ w'.cell? ⟨w.heap.size, 6, none⟩ = some (.slice am nm cm) ∧ w'.cell? ⟨w.heap.size, 7, none⟩ = some (.slice ab nb cb) ∧ w'.cell? ⟨w.heap.size, 8, none⟩ = some (.int .i64 model) ∧ w'.cell? ⟨w.heap.size, 9, none⟩ = some (.int .i64 room) ∧ w'.cell? ⟨w.heap.size, 10, none⟩ = some (.int .i64 t) ∧ w'.cell? ⟨w.heap.size, 11, none⟩ = some (.int .i64 loc) ∧ w.heap.size < w'.heap.size ∧ w'.cell? ⟨w3.heap.size, 0, none⟩ = some (.slice oa0 ov.pc.length ok0) ∧ w'.cell? ⟨w3.heap.size, 1, none⟩ = some (.slice oa1 ov.regs.length ok1) ∧ w'.cell? ⟨w3.heap.size, 2, none⟩ = some (.slice oa2 ov.mem.length ok2) ∧ w'.cell? ⟨w3.heap.size, 3, none⟩ = some (.slice oa3 ov.buf.length ok3) ∧ w3.heap.size < w'.heap.size ∧ w'.cell? ⟨w5.heap.size, 0, none⟩ = some (.slice aa0 av.pc.length ak0) ∧ w'.cell? ⟨w5.heap.size, 1, none⟩ = some (.slice aa1 av.regs.length ak1) ∧ w'.cell? ⟨w5.heap.size, 2, none⟩ = some (.slice aa2 av.mem.length ak2) ∧ w'.cell? ⟨w5.heap.size, 3, none⟩ = some (.slice aa3 av.buf.length ak3) ∧ w5.heap.size < w'.heap.size ∧ w'.cell? ⟨w7.heap.size, 0, none⟩ = some (.slice ba0 bv.pc.length bk0) ∧ w'.cell? ⟨w7.heap.size, 1, none⟩ = some (.slice ba1 bv.regs.length bk1) ∧ w'.cell? ⟨w7.heap.size, 2, none⟩ = some (.slice ba2 bv.mem.length bk2) ∧ w'.cell? ⟨w7.heap.size, 3, none⟩ = some (.slice ba3 bv.buf.length bk3) ∧ w7.heap.size < w'.heap.size ∧ Below w8.heap.size w8 w')
    (first | with_reducible exact HCC.out _ bb | with_reducible exact HCC.out _ bb.drew | with_reducible assumption | (go_split_ands; with_reducible exact HCC.out _ (by with_reducible assumption)))
    ((first | (go_split_ands; (with_reducible refine Calls.mono (HSM.out _ (by assumption)) ?_); rintro e wn ⟨rfl, bn⟩; have bb : Below w8.heap.size w8 wn := Below.trans (by assumption) (bn.mono (Below.size (by assumption)))) | (go_split_ands; (with_reducible refine Calls.mono (HSO2.out _ (by assumption)) ?_); rintro e wn ⟨rfl, bn⟩; have bb : Below w8.heap.size w8 wn := Below.trans (by assumption) (bn.mono (Below.size (by assumption)))) | (go_split_ands; (with_reducible refine Calls.mono (HFL2.out _ (by assumption)) ?_); rintro e wn ⟨rfl, bn⟩; have bb : Below w8.heap.size w8 wn := Below.trans (by assumption) (bn.mono (Below.size (by assumption)))) | (go_split_ands; (with_reducible refine Calls.mono (HRD2.out _ (by assumption)) ?_); rintro e wn ⟨rfl, bn⟩; have bb : Below w8.heap.size w8 wn := Below.trans (by assumption) (bn.mono (Below.size (by assumption)))) | (go_split_ands; (with_reducible refine Calls.mono (HRR2.out _ (by assumption)) ?_); rintro e wn ⟨rfl, bn⟩; have bb : Below w8.heap.size w8 wn := Below.trans (by assumption) (bn.mono (Below.size (by assumption)))) | (go_split_ands; (with_reducible refine Calls.mono (HKN.out _) ?_); rintro e wn ⟨rfl, bn⟩; have bb : Below w8.heap.size w8 wn := Below.trans (by assumption) (bn.mono (Below.size (by assumption))))))
    all_goals
    go_split_ands
    go_wp2
    go_ret
    exact ⟨rfl, B.out.trans (Below.mono (by assumption) B.out.size)⟩

end Go.Proofs.YtobmbkgeafbamaaGreat
