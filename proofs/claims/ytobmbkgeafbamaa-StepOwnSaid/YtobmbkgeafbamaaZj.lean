/- StepOwn: plain facts: what a thread has stored it reads. -/
import Derived.Test.YtobmbkgeafbamaaYb
namespace Go.Proofs.Ytobmbkgeafbamaa
set_option linter.unusedSimpArgs false
set_option linter.unusedVariables false
open Go.RowKit

theorem lastL_cons (a : Ent) (r : List Ent) (k : Int) : lastL (a :: r) k = if (lastL r k).2 = true then lastL r k else if a.1 = k then (a.2, true) else (0, false) := by
  unfold lastL
  rw [List.reverse_cons, List.find?_append]
  cases hf : r.reverse.find? fun e => decide (e.1 = k) with
  | some e => simp
  | none =>
    simp only [Option.none_or, List.find?_cons, List.find?_nil]
    by_cases hk : a.1 = k
    · simp [hk]
    · simp [hk]
theorem last_add (l : List Ent) (e : Ent) : lastL (l ++ [e]) e.1 = (e.2, true) := by
  unfold lastL
  rw [List.reverse_append, List.reverse_singleton, List.singleton_append, List.find?_cons, show decide (e.1 = e.1) = true from decide_eq_true rfl]
theorem last_ins (e : Ent) (l : List Ent) (h : SrtE l) : lastL (insL e l) e.1 = (e.2, true) := by
  induction l with
  | nil => exact last_add [] e
  | cons a r ih =>
    obtain ⟨h1, h2⟩ := List.pairwise_cons.1 h
    show lastL (if e.1 < a.1 then e :: a :: r else a :: insL e r) e.1 = _
    split
    · next hlt =>
      rw [lastL_cons, if_neg, if_pos rfl]
      intro hq
      have hm := last_mem _ _ hq
      rcases List.mem_cons.1 hm with hm | hm
      · have h3 := congrArg Prod.fst hm
        have h3 : e.1 = a.1 := h3
        omega
      · have := h1 _ hm
        have : a.1 ≤ e.1 := this
        omega
    · rw [lastL_cons, ih h2, if_pos rfl]
theorem last_push {l : List Ent} {model room mod locs : Int} (h : rightL l model room mod locs = true) (hm : model ≠ 1) (e : Ent) : lastL (pushL l model e) e.1 = (e.2, true) := by
  obtain ⟨_, _, hc⟩ := (rightL_iff _ _ _ _ _).1 h
  rcases hc with ⟨hc, _⟩ | ⟨rfl, _⟩ | ⟨rfl, hs, _⟩
  · exact absurd hc hm
  · rw [pushL_two]; exact last_add l e
  · rw [pushL_ins]; exact last_ins e l hs

/-- What a thread reads, where the last of its stores to the location is known. -/
theorem reads_last {p : Pf} {k : Nat} {loc v : Int} (hb : k < p.buf.length) (hl : 0 ≤ loc ∧ loc < p.mem.length) (h : lastL (p.buf.getD k []) loc = (v, true)) : readsP p k loc = v := by
  unfold readsP
  rw [if_pos ⟨by omega, by omega, hl.1, hl.2⟩, show ((k : Int)).toNat = k by omega, h]
  rfl

/-- A thread that has stored reads that, whatever another one does then. -/
theorem own_reads {u : Un} {p : Pf} {model room : Int} (h : RightP u p model room) (hm : model ≠ 1) (k : Nat) (hk : k < u.regs.length) (he : enT u p model room k = true) (ho : (insAt u k (p.pc.getD k 0)).op = 4) :
    ∃ v, readsP (actT u p model room k) k (insAt u k (p.pc.getD k 0)).loc = v ∧ ∀ t, t ≠ (k : Int) → readsP (actT u (actT u p model room k) model room t) k (insAt u k (p.pc.getD k 0)).loc = v := by
  obtain ⟨pc, x, T⟩ := h.thr k hk
  have hx : insAt u k (p.pc.getD k 0) = x.x := by show (iiAt u k _).x = _; rw [T.at']
  rw [hx] at ho ⊢
  have hins := T.ins
  unfold insB at hins
  simp only [Bool.and_eq_true] at hins
  obtain ⟨_, hi1, hi2, _⟩ := hins
  have hloc : 0 ≤ x.x.loc ∧ x.x.loc < (u.init.length : Int) := (inB_iff _ _).1 (by rw [ho] at hi2; exact hi2)
  have ha : actT u p model room k = actO u p model k x.x := by
    unfold actT
    rw [if_pos he]
    unfold actP
    rw [show ((k : Int)).toNat = k by omega, hx]
  rw [ha]
  obtain ⟨l1, l2, l3, l4⟩ := actO_len u p model k x.x
  have hkb : k < p.buf.length := by rw [h.lb]; exact hk
  have hbuf : (actO u p model k x.x).buf.getD k [] = pushL (p.buf.getD k []) model (x.x.loc, valP u p k x.x.e) := by
    show (bufO u p model k x.x).getD k [] = _
    unfold bufO
    rw [if_pos ⟨ho, hm⟩]
    exact getD_set_eq hkb
  have hlast : lastL ((actO u p model k x.x).buf.getD k []) x.x.loc = (valP u p k x.x.e, true) := by
    rw [hbuf]; exact last_push T.bl hm (x.x.loc, valP u p k x.x.e)
  refine ⟨valP u p k x.x.e, reads_last (by rw [l4]; exact hkb) ⟨hloc.1, by rw [l3, h.lm]; exact hloc.2⟩ hlast, fun t ht => ?_⟩
  unfold actT
  split
  · next het =>
    unfold enT at het
    rw [Bool.and_eq_true] at het
    have hb := of_decide_eq_true het.1
    unfold actP
    obtain ⟨m1, m2, m3, m4⟩ := actO_len u (actO u p model k x.x) model t.toNat (insAt u t.toNat ((actO u p model k x.x).pc.getD t.toNat 0))
    refine reads_last (by rw [m4, l4]; exact hkb) ⟨hloc.1, by rw [m3, l3, h.lm]; exact hloc.2⟩ ?_
    rw [(actO_ne u (actO u p model k x.x) model t.toNat k _ (by omega)).2.2]
    exact hlast
  · exact reads_last (by rw [l4]; exact hkb) ⟨hloc.1, by rw [l3, h.lm]; exact hloc.2⟩ hlast

/-- Where no store waits all read what is in the memory. -/
theorem reads_mem {p : Pf} {k j : Nat} (hb : k < p.buf.length) (hj : j < p.mem.length) (h : (lastL (p.buf.getD k []) (j : Int)).2 = false) : readsP p k j = p.mem.getD j 0 := by
  unfold readsP
  rw [if_pos ⟨by omega, by omega, by omega, by omega⟩, show ((k : Int)).toNat = k by omega, h, show ((j : Int)).toNat = j by omega]
  rfl
theorem reads_out {p : Pf} (t loc : Int) (h : t < 0 ∨ loc < 0 ∨ (p.mem.length : Int) ≤ loc) : readsP p t loc = 0 := by
  unfold readsP
  rw [if_neg (by omega)]

end Go.Proofs.Ytobmbkgeafbamaa
