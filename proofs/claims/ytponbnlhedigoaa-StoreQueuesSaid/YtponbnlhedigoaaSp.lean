/- Layer 8: plain facts for StoreQueues: a buffer and the stores that wait in it, in the order in which they came. -/
import Derived.Test.YtponbnlhedigoaaSn
namespace Go.Proofs.Ytponbnlhedigoaa
open Go.RowKit

def flE (k : Int) (l : List Ent) : List Ent := l.filter fun e => decide (e.1 = k)
abbrev SrtE (l : List Ent) : Prop := l.Pairwise fun a b => a.1 ≤ b.1

theorem flE_app (k : Int) (a b : List Ent) : flE k (a ++ b) = flE k a ++ flE k b := List.filter_append ..
theorem flE_cons (k : Int) (a : Ent) (b : List Ent) : flE k (a :: b) = if a.1 = k then a :: flE k b else flE k b := by
  unfold flE; rw [List.filter_cons]; by_cases h : a.1 = k <;> simp [h]
theorem flE_none (k : Int) (l : List Ent) (h : ∀ y ∈ l, y.1 ≠ k) : flE k l = [] := by
  unfold flE; rw [List.filter_eq_nil_iff]; intro y hy; simpa using h y hy
theorem mem_insL (e x : Ent) (l : List Ent) : x ∈ insL e l ↔ x = e ∨ x ∈ l := by
  induction l with
  | nil => simp [insL]
  | cons a r ih =>
    unfold insL; split
    · simp
    · simp only [List.mem_cons, ih]; constructor
      · rintro (h | h | h) <;> simp [h]
      · rintro (h | h | h) <;> simp [h]
theorem srt_ins (e : Ent) (l : List Ent) (h : SrtE l) : SrtE (insL e l) := by
  induction l with
  | nil => simp [insL, SrtE]
  | cons a r ih =>
    obtain ⟨h1, h2⟩ := List.pairwise_cons.1 h
    unfold insL; split
    · rename_i hlt
      refine List.pairwise_cons.2 ⟨?_, h⟩
      intro y hy
      rcases List.mem_cons.1 hy with rfl | hy
      · exact Int.le_of_lt hlt
      · exact Int.le_trans (Int.le_of_lt hlt) (h1 y hy)
    · rename_i hlt
      refine List.pairwise_cons.2 ⟨?_, ih h2⟩
      intro y hy
      rcases (mem_insL ..).1 hy with rfl | hy
      · exact Int.not_lt.1 hlt
      · exact h1 y hy
theorem fl_ins (e : Ent) (l : List Ent) (h : SrtE l) (k : Int) : flE k (insL e l) = flE k l ++ flE k [e] := by
  induction l with
  | nil => simp [insL, flE]
  | cons a r ih =>
    obtain ⟨h1, h2⟩ := List.pairwise_cons.1 h
    unfold insL; split
    · rename_i hlt
      by_cases hk : e.1 = k
      · have h0 : flE k (a :: r) = [] := flE_none _ _ (by
          intro y hy
          rcases List.mem_cons.1 hy with rfl | hy
          · omega
          · have := h1 y hy; omega)
        rw [flE_cons, if_pos hk, h0, flE_cons, if_pos hk]; rfl
      · rw [flE_cons, if_neg hk, flE_cons k e [], if_neg hk]; simp [flE]
    · rw [flE_cons, flE_cons k a r, ih h2]
      split <;> rfl

theorem lastL_fl (l l' : List Ent) (e : Ent) (k : Int) (h : flE k l = l' ++ [e]) : lastL l k = (e.2, true) := by
  unfold lastL
  have : l.reverse.find? (fun e => decide (e.1 = k)) = some e := by
    rw [← List.head?_filter, List.filter_reverse]
    show (flE k l).reverse.head? = _
    rw [h]; simp
  rw [this]

theorem queF_last (l : List Ent) : ∀ p : Option Int, (p.toList ++ queF p l).getLast? = (p.toList ++ l.map (·.1)).getLast? := by
  induction l with
  | nil => intro p; rfl
  | cons e r ih =>
    intro p
    have h := ih (some e.1)
    have h' : (e.1 :: queF (some e.1) r).getLast? = (e.1 :: r.map (·.1)).getLast? := h
    have happ : ∀ (a : List Int) (x : Int) (y : List Int), (a ++ x :: y).getLast? = (x :: y).getLast? := by
      intro a x y
      rw [List.getLast?_append]
      rw [List.getLast?_cons]; rfl
    unfold queF
    split
    · rename_i hp
      rw [hp, List.map_cons, happ]
      exact h
    · rw [List.map_cons, happ, happ]; exact h'
theorem queF_lastN (l : List Ent) (x : Ent) : (queF none (l ++ [x])).getLast? = some x.1 := by
  have := queF_last (l ++ [x]) none
  simpa using this

theorem ordF_true (l : List Ent) (r : Nat) (h : ∀ k, k < l.length → badAt l r k = false) : ∀ f k, k + f ≤ l.length → ordF l r f k = true := by
  intro f
  induction f with
  | zero => intro k _; rfl
  | succ f ih =>
    intro k hk
    unfold ordF
    rw [if_neg (by rw [h k (by omega)]; decide)]
    exact ih (k + 1) (by omega)

theorem first_of (k : Int) (l : List Ent) (h : flE k l ≠ []) : ∃ l1 x l2, l = l1 ++ x :: l2 ∧ x.1 = k ∧ ∀ y ∈ l1, y.1 ≠ k := by
  induction l with
  | nil => exact absurd rfl h
  | cons a r ih =>
    by_cases hk : a.1 = k
    · exact ⟨[], a, r, rfl, hk, fun y hy => by cases hy⟩
    · rw [flE_cons, if_neg hk] at h
      obtain ⟨l1, x, l2, rfl, hx, hy⟩ := ih h
      refine ⟨a :: l1, x, l2, rfl, hx, ?_⟩
      intro y hy'
      rcases List.mem_cons.1 hy' with rfl | hy'
      · exact hk
      · exact hy y hy'
theorem fstL_first (k : Int) (l1 : List Ent) (x : Ent) (l2 : List Ent) (hx : x.1 = k) (h : ∀ y ∈ l1, y.1 ≠ k) : ∀ j : Nat, fstL (fun e => decide (e.1 = k)) (l1 ++ x :: l2) j = j + l1.length := by
  induction l1 with
  | nil => intro j; show (if _ then _ else _) = _; rw [if_pos (decide_eq_true hx)]; simp
  | cons a r ih =>
    intro j
    have ha : a.1 ≠ k := h a (List.mem_cons_self ..)
    show (if decide (a.1 = k) = true then _ else _) = _
    rw [if_neg (by simpa using ha)]; show fstL _ (r ++ x :: l2) (j + 1) = _; rw [ih (fun y hy => h y (List.mem_cons_of_mem _ hy)) (j + 1)]
    simp only [List.length_cons]; omega

/-- A buffer and what waits in it, in order. -/
structure QRel (m : Int) (b q : List Ent) : Prop where
  len : b.length = q.length
  few : q.length ≤ 4
  rng : ∀ e ∈ q, 0 ≤ e.1 ∧ e.1 < 4 ∧ 0 ≤ e.2 ∧ e.2 < 8
  two : m = 2 → b = q
  thr : m = 3 → SrtE b ∧ ∀ k, flE k b = flE k q
  one : m = 2 ∨ m = 3

theorem QRel.rngB {m : Int} {b q : List Ent} (h : QRel m b q) : ∀ e ∈ b, 0 ≤ e.1 ∧ e.1 < 4 ∧ 0 ≤ e.2 ∧ e.2 < 8 := by
  intro e he
  rcases h.one with hm | hm
  · rw [h.two hm] at he; exact h.rng e he
  · have h1 : e ∈ flE e.1 b := List.mem_filter.2 ⟨he, by simp⟩
    rw [(h.thr hm).2] at h1
    exact h.rng e (List.mem_filter.1 h1).1

theorem QRel.room {m : Int} {b q : List Ent} (h : QRel m b q) (hl : q.length < 4) (k : Int) : roomL b m 4 k = true := by
  have := cntL_le b k
  have := h.len
  unfold roomL
  rcases h.one with rfl | rfl
  · rw [if_pos rfl]; exact decide_eq_true (by omega)
  · rw [if_neg (by decide), if_pos rfl]; exact decide_eq_true (by omega)

theorem QRel.push {m : Int} {b q : List Ent} (h : QRel m b q) (hl : q.length < 4) (e : Ent) (he : 0 ≤ e.1 ∧ e.1 < 4 ∧ 0 ≤ e.2 ∧ e.2 < 8) : QRel m (pushL b m e) (q ++ [e]) := by
  have hle := h.len
  refine ⟨?_, ?_, ?_, ?_, ?_, h.one⟩
  · rcases h.one with rfl | rfl
    · rw [pushL_two]; simp [hle]
    · rw [pushL_ins, insL_len]; simp [hle]
  · simp only [List.length_append, List.length_cons, List.length_nil]; omega
  · intro x hx
    rcases List.mem_append.1 hx with hx | hx
    · exact h.rng x hx
    · rw [List.mem_singleton.1 hx]; exact he
  · rintro rfl; rw [pushL_two, h.two rfl]
  · rintro rfl
    rw [pushL_ins]
    refine ⟨srt_ins _ _ (h.thr rfl).1, fun k => ?_⟩
    rw [fl_ins _ _ (h.thr rfl).1, flE_app, (h.thr rfl).2]

theorem QRel.right {m : Int} {b q : List Ent} (h : QRel m b q) : rightL b m 4 8 4 = true := by
  have hle := h.len
  have hf := h.few
  unfold rightL
  rw [if_neg (by omega), Bool.and_eq_true]
  constructor
  · unfold rqL
    rcases h.one with rfl | rfl
    · rw [if_neg (by decide), if_pos rfl]; exact decide_eq_true (by show b.length ≤ 4; omega)
    · rw [if_neg (by decide), if_neg (by decide), if_pos rfl]
      refine ordF_true _ _ (fun k hk => ?_) _ _ (by omega)
      unfold badAt
      refine decide_eq_false ?_
      rintro (⟨h1, h2⟩ | ⟨h1, h2⟩)
      · rw [getD_at _ _ hk, getD_at _ _ (by omega)] at h2
        have := List.pairwise_iff_getElem.1 (h.thr rfl).1 (k - 1) k (by omega) hk (by omega)
        omega
      · have : (4 : Int).toNat = 4 := rfl
        omega
  · rw [List.all_eq_true]
    intro e he
    obtain ⟨h1, h2, h3, h4⟩ := h.rngB e he
    unfold oddL inB
    rw [decide_eq_true (by omega), decide_eq_true (by omega)]; rfl

theorem QRel.last {m : Int} {b q : List Ent} (h : QRel m b q) (e : Ent) : lastL (pushL b m e) e.1 = (e.2, true) := by
  rcases h.one with rfl | rfl
  · rw [pushL_two]
    refine lastL_fl _ (flE e.1 b) e _ ?_
    rw [flE_app, flE_cons, if_pos rfl]; rfl
  · rw [pushL_ins]
    refine lastL_fl _ (flE e.1 b) e _ ?_
    rw [fl_ins _ _ (h.thr rfl).1, flE_cons, if_pos rfl]; rfl

theorem flE_cut (k : Int) (l1 l2 : List Ent) (x : Ent) (hx : x.1 = k) (h : ∀ y ∈ l1, y.1 ≠ k) : flE k (l1 ++ x :: l2) = x :: flE k l2 ∧ flE k (l1 ++ l2) = flE k l2 ∧ ∀ j, j ≠ k → flE j (l1 ++ x :: l2) = flE j (l1 ++ l2) := by
  refine ⟨?_, ?_, ?_⟩
  · rw [flE_app, flE_none _ _ h, flE_cons, if_pos hx]; rfl
  · rw [flE_app, flE_none _ _ h]; rfl
  · intro j hj
    rw [flE_app, flE_app, flE_cons, if_neg (by rw [hx]; exact fun h => hj h.symm)]

theorem QRel.pop {m : Int} {b q : List Ent} (h : QRel m b q) (hne : 0 < q.length) : ∃ (hs : List Int) (k x1 x2 : Int) (c q1 q2 : List Ent),
    headsL b m = hs ∧ 0 < hs.length ∧ hs[hs.length - 1]? = some k ∧ (m = 2 → hs[0]? = some (q.getD 0 (0, 0)).1) ∧ q = q1 ++ (x1, x2) :: q2 ∧ x1 = k ∧ (∀ y ∈ q1, y.1 ≠ k) ∧
    popL b m k = (c, (x1, x2), true) ∧ c.length + 1 = b.length ∧ QRel m c (q1 ++ q2) := by
  have hle := h.len
  have hf := h.few
  rcases h.one with rfl | rfl
  · obtain rfl := h.two rfl
    cases b with
    | nil => exact absurd hne (Nat.lt_irrefl _)
    | cons e r =>
      refine ⟨[e.1], e.1, e.1, e.2, r, [], r, rfl, Nat.one_pos, rfl, fun _ => rfl, rfl, rfl, fun y hy => (by cases hy), ?_, rfl, ?_⟩
      · have : oldL (e :: r) 2 e.1 = 0 := by
          unfold oldL; rw [if_pos rfl]; simp
        unfold popL
        rw [this]; rfl
      · refine ⟨rfl, by simp only [List.length_cons] at hf; simp only [List.nil_append]; omega, fun x hx => h.rng x (List.mem_cons_of_mem _ hx), fun _ => rfl, fun h => absurd h (by decide), Or.inl rfl⟩
  · obtain ⟨hs, hfl⟩ := h.thr rfl
    have hbne : b ≠ [] := by rintro rfl; simp at hle; omega
    obtain ⟨b', z, rfl⟩ : ∃ b' z, b = b' ++ [z] := ⟨b.dropLast, b.getLast hbne, (List.dropLast_concat_getLast hbne).symm⟩
    obtain ⟨k, hk⟩ : ∃ k, z.1 = k := ⟨_, rfl⟩
    have hb0 : flE k (b' ++ [z]) ≠ [] := by
      rw [flE_app, flE_cons, if_pos hk]; simp
    have hq0 : flE k q ≠ [] := by rw [← hfl]; exact hb0
    obtain ⟨l1, x, l2, hl, hx, hy⟩ := first_of k _ hb0
    obtain ⟨q1, y, q2, hq, hx', hy'⟩ := first_of k _ hq0
    obtain ⟨e1, e2, e3⟩ := flE_cut k l1 l2 x hx hy
    obtain ⟨g1, g2, g3⟩ := flE_cut k q1 q2 y hx' hy'
    have hk1 := hfl k
    rw [hl, hq, e1, g1] at hk1
    injection hk1 with hxy htl
    subst hxy
    have hql := queF_lastN b' z
    rw [hk] at hql
    have hlen0 : 0 < (queF none (b' ++ [z])).length := by
      cases hc : queF none (b' ++ [z]) with
      | nil => rw [hc] at hql; cases hql
      | cons => exact Nat.succ_pos _
    refine ⟨queF none (b' ++ [z]), k, x.1, x.2, l1 ++ l2, q1, q2, rfl, hlen0, by rw [← List.getLast?_eq_getElem?]; exact hql, fun h => absurd h (by decide), hq, hx, hy', ?_, ?_, ?_⟩
    · have ho : oldL (b' ++ [z]) 3 k = (l1.length : Int) := by
        unfold oldL
        rw [if_neg (by decide), if_pos rfl, hl, fstL_first k l1 x l2 hx hy 0]; omega
      unfold popL
      rw [ho, if_neg (by omega), hl, Int.toNat_natCast, List.take_left, getD_at _ _ (by simp)]
      have hd : (l1 ++ x :: l2).drop (l1.length + 1) = l2 := by
        rw [List.drop_append]; simp
      rw [hd]
      simp
    · rw [hl]; simp; omega
    · refine ⟨?_, ?_, ?_, fun h => absurd h (by decide), fun _ => ⟨?_, ?_⟩, Or.inr rfl⟩
      · rw [hl, hq] at hle; simp at hle ⊢; omega
      · rw [hq] at hf; simp at hf ⊢; omega
      · intro e he
        refine h.rng e ?_
        rw [hq]
        rcases List.mem_append.1 he with he | he <;> simp [he]
      · rw [hl] at hs
        exact hs.sublist ((List.Sublist.refl l1).append (List.sublist_cons_self x l2))
      · intro j
        by_cases hj : j = k
        · subst hj; rw [e2, g2, htl]
        · rw [← e3 j hj, ← g3 j hj, ← hl, ← hq, hfl]

theorem QRel.start (m : Int) (h : m = 2 ∨ m = 3) : QRel m [] [] := ⟨rfl, Nat.zero_le _, fun e he => (by cases he), fun _ => rfl, fun _ => ⟨List.Pairwise.nil, fun _ => rfl⟩, h⟩
theorem QRel.stop {m : Int} {b : List Ent} (h : QRel m b []) : b = [] := List.eq_nil_of_length_eq_zero h.len

end Go.Proofs.Ytponbnlhedigoaa
