/- What a right unit begins with: plain facts. -/
import Derived.Test.YtdklcjgoomdhkaaVg
import Derived.Test.YtdklcjgoomdhkaaVe
import Derived.Test.YtdklcjgoomdhkaaVc
namespace Go.Proofs.Ytdklcjgoomdhkaa
set_option linter.unusedSimpArgs false
set_option linter.unusedVariables false
open Go.RowKit

theorem rightL_none (model room mod locs : Int) (h1 : 1 ≤ model ∧ model ≤ 3) (h2 : 1 ≤ room ∧ room ≤ 4) (h3 : 2 ≤ mod ∧ mod ≤ 16) : rightL [] model room mod locs = true := by
  unfold rightL
  rw [if_neg (by omega)]
  unfold rqL
  have : model = 1 ∨ model = 2 ∨ model = 3 := by omega
  rcases this with rfl | rfl | rfl <;> simp <;> rfl
theorem thF_start (m model room nl locs : Int) (hm : 2 ≤ m) (h0 : rightL [] model room m nl = true) : ∀ (ps : List Int) (rs : List (List Int × Value)) (bs : List (List Ent × Value)) (os : List Int) (cs : List (List II × Value)),
    ps = List.replicate cs.length 0 → rs.map (·.1) = os.map (fun n => List.replicate n.toNat 0) → bs.map (·.1) = List.replicate cs.length [] → os.length = cs.length → thrF locs os cs = true → thF m model room nl ps rs bs os cs = true
  | ps, rs, bs, os, [], hp, _, _, _, _ => by subst hp; rfl
  | ps, rs, bs, [], c :: cs, _, _, _, hl, _ => by simp at hl
  | ps, [], bs, o :: os, c :: cs, _, hr, _, _, _ => by simp at hr
  | ps, r :: rs, [], o :: os, c :: cs, _, _, hb, _, _ => by simp [List.replicate_succ] at hb
  | ps, r :: rs, b :: bs, o :: os, c :: cs, hp, hr, hb, hl, ht => by
    subst hp
    rw [List.length_cons, List.replicate_succ]
    simp only [List.map_cons, List.cons.injEq, List.length_cons, List.replicate_succ] at hr hb
    unfold thrF at ht
    rw [Bool.and_eq_true, Bool.and_eq_true] at ht
    have ho := of_decide_eq_true ht.1.1
    have hs := ht.1.2
    unfold seqB at hs
    rw [Bool.and_eq_true] at hs
    have hc := of_decide_eq_true hs.1
    unfold thF
    rw [Bool.and_eq_true]
    refine ⟨?_, thF_start m model room nl locs hm h0 _ rs bs os cs rfl hr.2 hb.2 (by simpa using hl) ht.2⟩
    unfold thB
    rw [hr.1, hb.1, h0, Bool.and_true, Bool.and_eq_true]
    refine ⟨decide_eq_true ⟨Int.le_refl _, by omega, by rw [List.length_replicate]; omega⟩, ?_⟩
    rw [List.all_eq_true]
    intro x hx
    rw [List.eq_of_mem_replicate hx]
    unfold inB
    exact decide_eq_true ⟨Int.le_refl _, by omega⟩

theorem start_right {u : Un} {c : Cf} {model room : Int} (hu : rightU u = true) (hc : c.pf = startP u) (h1 : 1 ≤ model ∧ model ≤ 3) (h2 : 1 ≤ room ∧ room ≤ 4) : rightC u c model room = true := by
  rw [rightC_eq]
  obtain ⟨pc, regs, mem, buf⟩ := c
  simp only [Cf.pf, startP, Pf.mk.injEq] at hc
  obtain ⟨e1, e2, e3, e4⟩ := hc
  subst e1 e3
  have h5 := hu
  unfold rightU at h5
  rw [Bool.and_eq_true, Bool.and_eq_true] at h5
  have h6 := of_decide_eq_true h5.1
  have l2 := congrArg List.length e2
  have l4 := congrArg List.length e4
  simp only [List.length_map, List.length_replicate] at l2 l4
  unfold codeC
  simp only []
  rw [hu, Bool.true_and, decide_eq_true (show (List.replicate u.code.length (0 : Int)).length = u.code.length ∧ regs.length = u.code.length ∧ buf.length = u.code.length from ⟨List.length_replicate, by omega, by omega⟩), Bool.true_and, Bool.and_eq_true]
  refine ⟨thF_start _ _ _ _ _ h6.1 (rightL_none _ _ _ _ h1 h2 ⟨h6.1, h6.2.1⟩) _ _ _ _ _ rfl e2 e4 h6.2.2.2.2.2.symm h5.2.2, ?_⟩
  unfold numB
  rw [decide_eq_true rfl, Bool.true_and]
  exact h5.2.1

theorem start_quiet {u : Un} {c : Cf} (hc : c.pf = startP u) : quietC c = true := by
  obtain ⟨pc, regs, mem, buf⟩ := c
  simp only [Cf.pf, startP, Pf.mk.injEq] at hc
  unfold quietC
  rw [List.all_eq_true]
  intro x hx
  have : x.1 ∈ buf.map (·.1) := List.mem_map_of_mem hx
  simp only [hc.2.2.2] at this
  rw [List.eq_of_mem_replicate this]
  rfl

/-- Has each thread one instruction? -/
def overU (l : List (List II × Value)) : Bool := l.all fun r => decide (r.1.length = 1)
theorem thrF_done (locs : Int) : ∀ (rs : List Int) (cs : List (List II × Value)), rs.length = cs.length → thrF locs rs cs = true → ∀ k, (h : k < cs.length) → ∃ t r, cs[k].1 = t :: r ∧ decide (t.x.op = 22) = decide (r = [])
  | [], [], _, _, k, h => by simp at h
  | [], c :: s, hl, _, _, _ => by simp at hl
  | o :: r, [], hl, _, _, _ => by simp at hl
  | o :: r, c :: s, hl, h, k, hk => by
    unfold thrF at h
    rw [Bool.and_eq_true, Bool.and_eq_true] at h
    cases k with
    | succ k => simpa using thrF_done locs r s (by simpa using hl) h.2 k (by simpa using hk)
    | zero =>
      have hs := h.1.2
      unfold seqB at hs
      rw [Bool.and_eq_true] at hs
      have hc := of_decide_eq_true hs.1
      obtain ⟨l, v⟩ := c
      match l, hc, hs with
      | t :: q, hc, hs =>
        refine ⟨t, q, rfl, ?_⟩
        have h2 := hs.2
        unfold seqF at h2
        rw [Bool.and_eq_true, Bool.and_eq_true] at h2
        have h3 := eq_of_beq h2.1.1
        rw [h3]
        cases q with
        | nil => simp
        | cons a q => simp; omega

theorem start_ended {u : Un} {c : Cf} (hu : rightU u = true) (hc : c.pf = startP u) (k : Nat) (hk : k < u.code.length) : endedC u c k = decide (u.code[k].1.length = 1) := by
  obtain ⟨pc, regs, mem, buf⟩ := c
  simp only [Cf.pf, startP, Pf.mk.injEq] at hc
  obtain ⟨e1, e2, e3, e4⟩ := hc
  subst e1
  have h5 := hu
  unfold rightU at h5
  rw [Bool.and_eq_true, Bool.and_eq_true] at h5
  have h6 := of_decide_eq_true h5.1
  obtain ⟨t, r, h1, h2⟩ := thrF_done _ _ _ h6.2.2.2.2.2.symm h5.2.2 k hk
  have hp : (List.replicate u.code.length (0 : Int)).getD k 0 = 0 := by
    rw [List.getD_eq_getElem?_getD, List.getElem?_replicate, if_pos hk]; rfl
  have hq : u.code.getD k ([], undef) = u.code[k] := by rw [List.getD_eq_getElem?_getD, List.getElem?_eq_getElem hk]; rfl
  unfold endedC
  simp only [Int.toNat_natCast]
  rw [if_pos ⟨by omega, by omega, by rw [List.length_replicate]; omega⟩]
  simp only [hp, hq, h1]
  rw [if_pos ⟨Int.le_refl _, by simp⟩]
  simp only [Int.toNat_zero, List.getElem?_cons_zero, Option.map_some, Option.some.injEq, List.length_cons]
  rw [h2]
  cases r <;> simp

theorem start_fin {u : Un} {c : Cf} (hu : rightU u = true) (hc : c.pf = startP u) : ∀ n k, k + n = u.code.length → finF u c n k = overU (u.code.drop k)
  | 0, k, h => by
    rw [List.drop_eq_nil_of_le (by omega)]; rfl
  | n + 1, k, h => by
    rw [List.drop_eq_getElem_cons (by omega)]
    unfold finF overU
    rw [List.all_cons, start_ended hu hc k (by omega), start_fin hu hc n (k + 1) (by omega)]
    rfl
theorem start_final {u : Un} {c : Cf} (hu : rightU u = true) (hc : c.pf = startP u) : finalC u c = overU u.code := by
  unfold finalC
  rw [start_quiet hc, Bool.and_true, start_fin hu hc _ 0 (by omega)]
  rfl
theorem overU_at (l : List (List II × Value)) (k : Nat) (hk : k < l.length) : overU (l.take (k + 1)) = (overU (l.take k) && decide (l[k].1.length = 1)) := by
  unfold overU
  rw [List.take_add_one, List.getElem?_eq_getElem hk, List.all_append]
  simp
theorem start_short {u : Un} {c : Cf} (hu : rightU u = true) (hc : c.pf = startP u) : ShortC c := by
  obtain ⟨pc, regs, mem, buf⟩ := c
  simp only [Cf.pf, startP, Pf.mk.injEq] at hc
  obtain ⟨e1, e2, e3, e4⟩ := hc
  have h5 := hu
  unfold rightU at h5
  rw [Bool.and_eq_true, Bool.and_eq_true] at h5
  have h6 := of_decide_eq_true h5.1
  have l2 := congrArg List.length e2
  have l4 := congrArg List.length e4
  simp only [List.length_map, List.length_replicate] at l2 l4
  subst e1 e3
  refine ⟨by simp only [List.length_replicate]; omega, by simp only []; omega, by simp only []; omega, by simp only []; omega, fun x hx => ?_, fun x hx => ?_⟩
  · have : x.1 ∈ regs.map (·.1) := List.mem_map_of_mem hx
    rw [e2] at this
    obtain ⟨n, hn, he⟩ := List.mem_map.1 this
    have := thrF_regs _ _ _ h6.2.2.2.2.2.symm h5.2.2 n hn
    rw [← he, List.length_replicate]
    omega
  · have : x.1 ∈ buf.map (·.1) := List.mem_map_of_mem hx
    rw [e4] at this
    rw [List.eq_of_mem_replicate this]
    simp

end Go.Proofs.Ytdklcjgoomdhkaa
