/- Layer 10's law: a case that came in. StepRoom: plain facts. -/
import Derived.Test.YtdnjojjbdieacaaZd
import Derived.Test.YtdnjojjbdieacaaVi
namespace Go.Proofs.Ytdnjojjbdieacaa
open Go.ChangeShapes Go.WideShapes Go.ChangeAt Go.RowKit
set_option maxRecDepth 100000
set_option linter.unusedSimpArgs false
set_option linter.unusedVariables false

theorem c_unit : Try.prog.cellsOf 25 = 4 := by kernel_rfl
theorem c_conf : Try.prog.cellsOf 29 = 4 := by kernel_rfl
theorem open_case {H : Type} {enc : TypeId × Value → H} {W : World} {base : Nat} {v : Value} {d : DataW H} {p : List MemPlace} (hv : Value.okWide Try.prog W .any base 31 v) (h : DataW.Trod enc Try.prog W 0 (fun _ => true) true 31 v d p) :
    ∃ (u : Un) (c : Cf) (vi vr vc xp xr xm xb : Value) (model room t loc : Int), v = .agg #[.int .i64 u.mod, vi, vr, vc, xp, xr, xm, xb, .int .i64 model, .int .i64 room, .int .i64 t, .int .i64 loc] ∧ UnD W vi vr vc u ∧ CfD W xp xr xm xb c := by
  obtain ⟨cs, rfl, hsz⟩ := okWide_struct Try.underlying31 hv
  obtain ⟨fuel, hf⟩ := h
  have hs : Try.prog.cellsOf 31 = 12 := by kernel_rfl
  rw [hs] at hsz
  obtain ⟨l⟩ := cs
  have hl : l.length = 12 := hsz
  have hf : DataW.trod enc Try.prog W 0 (fun _ => true) true fuel 31 l = some (d, p) := hf
  obtain ⟨xs, m, _, _, _, hxl, hf⟩ := DataW.trod_struct Try.underlying31 hf
  match l, hl with
  | [c0, c1, c2, c3, c4, c5, c6, c7, c8, c9, c10, c11], _ =>
    match xs, hxl with
    | [x0, x1, x2, x3, x4, x5], _ =>
      have f0 : DataW.trod enc Try.prog W 0 (fun _ => true) true m 25 (([c0, c1, c2, c3, c4, c5, c6, c7, c8, c9, c10, c11].drop 0).take (Try.prog.cellsOf 25)) = some x0 := hf 0 _ rfl
      rw [c_unit] at f0
      have f1 : DataW.trod enc Try.prog W 0 (fun _ => true) true m 29 (([c0, c1, c2, c3, c4, c5, c6, c7, c8, c9, c10, c11].drop 4).take (Try.prog.cellsOf 29)) = some x1 := hf 1 _ rfl
      rw [c_conf] at f1
      have f2 : DataW.trod enc Try.prog W 0 (fun _ => true) true m 3 (([c0, c1, c2, c3, c4, c5, c6, c7, c8, c9, c10, c11].drop 8).take (Try.prog.cellsOf 3)) = some x2 := hf 2 _ rfl
      rw [c_int] at f2
      have f3 : DataW.trod enc Try.prog W 0 (fun _ => true) true m 3 (([c0, c1, c2, c3, c4, c5, c6, c7, c8, c9, c10, c11].drop 9).take (Try.prog.cellsOf 3)) = some x3 := hf 3 _ rfl
      rw [c_int] at f3
      have f4 : DataW.trod enc Try.prog W 0 (fun _ => true) true m 3 (([c0, c1, c2, c3, c4, c5, c6, c7, c8, c9, c10, c11].drop 10).take (Try.prog.cellsOf 3)) = some x4 := hf 4 _ rfl
      rw [c_int] at f4
      have f5 : DataW.trod enc Try.prog W 0 (fun _ => true) true m 3 (([c0, c1, c2, c3, c4, c5, c6, c7, c8, c9, c10, c11].drop 11).take (Try.prog.cellsOf 3)) = some x5 := hf 5 _ rfl
      rw [c_int] at f5
      have f0 : DataW.trod enc Try.prog W 0 (fun _ => true) true m 25 [c0, c1, c2, c3] = some x0 := f0
      have f1 : DataW.trod enc Try.prog W 0 (fun _ => true) true m 29 [c4, c5, c6, c7] = some x1 := f1
      obtain ⟨u, vi, vr, vc, hu, du⟩ := cell_unit f0 rfl
      obtain ⟨c, xp, xr, xm, xb, hc, dc⟩ := cell_conf f1 rfl
      obtain ⟨n2, e2, _⟩ := DataW.trod_int Try.underlying3 f2
      have e2' : c8 = _ := (List.cons.inj e2).1
      subst e2'
      obtain ⟨n3, e3, _⟩ := DataW.trod_int Try.underlying3 f3
      have e3' : c9 = _ := (List.cons.inj e3).1
      subst e3'
      obtain ⟨n4, e4, _⟩ := DataW.trod_int Try.underlying3 f4
      have e4' : c10 = _ := (List.cons.inj e4).1
      subst e4'
      obtain ⟨n5, e5, _⟩ := DataW.trod_int Try.underlying3 f5
      have e5' : c11 = _ := (List.cons.inj e5).1
      subst e5'
      injection hu with h1 hu
      injection hu with h2 hu
      injection hu with h3 hu
      injection hu with h4 hu
      injection hc with g1 hc
      injection hc with g2 hc
      injection hc with g3 hc
      injection hc with g4 hc
      subst h1 h2 h3 h4 g1 g2 g3 g4
      exact ⟨u, c, _, _, _, _, _, _, _, n2, n3, n4, n5, rfl, du, dc⟩

end Go.Proofs.Ytdnjojjbdieacaa

namespace Go.Proofs.Ytdnjojjbdieacaa
set_option linter.unusedSimpArgs false
set_option linter.unusedVariables false
open Go.RowKit

theorem rightL_more {l : List Ent} {model room mod locs : Int} (h : rightL l model room mod locs = true) : rightL l model 4 mod locs = true := by
  rw [rightL_iff] at h ⊢
  obtain ⟨⟨h1, h2, h3, h4⟩, h5, h6⟩ := h
  refine ⟨⟨by omega, by omega, h3, h4⟩, h5, ?_⟩
  rcases h6 with h6 | h6 | ⟨h6, h7, h8⟩
  · exact .inl h6
  · exact .inr (.inl ⟨h6.1, by omega⟩)
  · exact .inr (.inr ⟨h6, h7, fun k => by have := h8 k; omega⟩)
theorem rightP_more {u : Un} {p : Pf} {model room : Int} (h : RightP u p model room) : RightP u p model 4 := by
  refine { h with t := fun k hk => ?_, e := rightL_more h.e }
  have := h.t k hk
  unfold thB at this ⊢
  rw [Bool.and_eq_true, Bool.and_eq_true] at this ⊢
  exact ⟨this.1, this.2.1, rightL_more this.2.2⟩
theorem en_more {u : Un} {p : Pf} {model room t : Int} (h : RightP u p model room) (he : enT u p model room t = true) : enT u p model 4 t = true := by
  have h4 : room ≤ 4 := ((rightL_iff _ _ _ _ _).1 h.e).1.2.1
  unfold enT at he ⊢
  rw [Bool.and_eq_true] at he ⊢
  refine ⟨he.1, ?_⟩
  have he := he.2
  unfold enP enO at he ⊢
  generalize insAt u t.toNat (p.pc.getD t.toNat 0) = x at he ⊢
  by_cases h0 : x.op = 22
  · rw [if_pos h0] at he; cases he
  · rw [if_neg h0] at he ⊢
    by_cases h1 : x.op = 4
    · rw [if_pos h1] at he ⊢
      rw [Bool.or_eq_true] at he ⊢
      refine he.imp id fun hr => ?_
      unfold roomL at hr ⊢
      split at hr
      · next hm => rw [if_pos hm]; simp only [decide_eq_true_eq] at hr ⊢; omega
      · next hm =>
        rw [if_neg hm]
        split at hr
        · next hm => rw [if_pos hm]; simp only [decide_eq_true_eq] at hr ⊢; omega
        · cases hr
    · rw [if_neg h1] at he ⊢; exact he
theorem sc_empty {u : Un} {p : Pf} {room : Int} (h : RightP u p 1 room) : ∀ r ∈ p.buf, r = [] := by
  intro r hr
  obtain ⟨k, hk, rfl⟩ := List.mem_iff_getElem.1 hr
  have ht := h.t k (by rw [← h.lb]; exact hk)
  unfold thB at ht
  rw [Bool.and_eq_true, Bool.and_eq_true, rightL_iff] at ht
  obtain ⟨_, _, _, _, h6⟩ := ht
  rw [List.getD_eq_getElem?_getD, List.getElem?_eq_getElem hk] at h6
  rcases h6 with h6 | h6 | h6
  · exact h6.2
  · omega
  · omega
theorem act_buf_sc (u : Un) (p : Pf) (room t : Int) : (actT u p 1 room t).buf = p.buf := by
  unfold actT
  split
  · unfold actP actO bufO
    simp
  · rfl
theorem pop_nil (model loc : Int) : (popL [] model loc).2.2 = false := by
  cases hq : (popL [] model loc).2.2 with
  | false => rfl
  | true => exact absurd (pop_mem _ _ _ hq) (by simp)
theorem popC_sc {c : Cf} (h : ∀ r ∈ c.pf.buf, r = []) (t loc : Int) : (popC c 1 t loc).2.2 = false := by
  rw [popC_pf]
  unfold popP
  split
  · next hb =>
    have hk : t.toNat < c.pf.buf.length := by omega
    rw [List.getD_eq_getElem?_getD, List.getElem?_eq_getElem hk, Option.getD_some, h _ (List.getElem_mem hk)]
    exact pop_nil 1 loc
  · rfl
theorem quiet_sc {c : Cf} (h : ∀ r ∈ c.pf.buf, r = []) : quietC c = true := by
  unfold quietC
  rw [List.all_eq_true]
  intro x hx
  have := h x.1 (by unfold Cf.pf; exact List.mem_map_of_mem hx)
  rw [this]; rfl

end Go.Proofs.Ytdnjojjbdieacaa
