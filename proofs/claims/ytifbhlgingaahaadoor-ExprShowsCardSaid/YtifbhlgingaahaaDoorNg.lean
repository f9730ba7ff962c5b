/- Trees and their rows of nodes; what height does. -/
import Derived.Test.YtifbhlgingaahaaDoorNf
import Derived.Test.YtifbhlgingaahaaDoorRa
namespace Go.Proofs.YtifbhlgingaahaaDoor
open Go.RowKit

def Ex.wf : Ex → Prop
  | .leaf x => ar x.op = 0
  | .un x a => ar x.op = 1 ∧ a.wf
  | .bin x a b => ar x.op = 2 ∧ a.wf ∧ b.wf

theorem Ex.size_pos' (e : Ex) : 1 ≤ e.size := by cases e <;> simp [Ex.size]
theorem addr_add' (g j : Nat) : (⟨g, 0, none⟩ : Addr).add j = ⟨g, j, none⟩ := by unfold Addr.add; split <;> simp_all

theorem endF_flat (e : Ex) : e.wf → ∀ (r : List Nd) (m : Nat) (k : Nat), 1 ≤ m → endF (e.flat ++ r) m k = if m = 1 then some (k + e.size) else endF r ((m - 1 : Nat) : Int) (k + e.size) := by
  induction e with
  | leaf x =>
    intro h r m k hm
    have h' : ar x.op = 0 := h
    show endF (x :: r) m k = _
    rw [endF, h', if_neg (by omega)]
    by_cases h1 : m = 1
    · rw [if_pos (by omega), if_pos h1]; rfl
    · rw [if_neg (by omega), if_neg h1]
      show endF r _ (k + 1) = endF r _ (k + 1)
      congr 1; omega
  | un x a ih =>
    intro h r m k hm
    obtain ⟨h1, h2⟩ := h
    show endF (x :: (a.flat ++ r)) m k = _
    rw [endF, h1, if_neg (by omega), if_neg (by omega), show (m : Int) + (1 - 1) = (m : Int) by omega, ih h2 r m (k + 1) hm]
    show (if m = 1 then some (k + 1 + a.size) else endF r _ (k + 1 + a.size)) = if m = 1 then some (k + (a.size + 1)) else endF r _ (k + (a.size + 1))
    rw [show k + 1 + a.size = k + (a.size + 1) by omega]
  | bin x a b iha ihb =>
    intro h r m k hm
    obtain ⟨h1, h2, h3⟩ := h
    show endF (x :: ((a.flat ++ b.flat) ++ r)) m k = _
    rw [endF, h1, if_neg (by omega), if_neg (by omega), show (m : Int) + (2 - 1) = ((m + 1 : Nat) : Int) by omega, List.append_assoc, iha h2 _ (m + 1) (k + 1) (by omega), if_neg (by omega), show m + 1 - 1 = m by omega, ihb h3 r m _ hm]
    show (if m = 1 then some (k + 1 + a.size + b.size) else endF r _ (k + 1 + a.size + b.size)) = if m = 1 then some (k + (a.size + b.size + 1)) else endF r _ (k + (a.size + b.size + 1))
    rw [show k + 1 + a.size + b.size = k + (a.size + b.size + 1) by omega]

theorem endF_tree : ∀ (l : List Nd) (m k j : Nat), 1 ≤ m → endF l m k = some j → ∃ (es : List Ex) (r : List Nd), es.length = m ∧ (∀ e ∈ es, e.wf) ∧ l = es.flatMap Ex.flat ++ r ∧ j = k + (es.flatMap Ex.flat).length := by
  intro l
  induction l with
  | nil => intro m k j _ h; cases h
  | cons x l ih =>
    intro m k j hm h
    rw [endF] at h
    have hc := ar_cases x.op
    by_cases h1 : ar x.op < 0
    · rw [if_pos h1] at h; cases h
    · rw [if_neg h1] at h
      by_cases h2 : (m : Int) + (ar x.op - 1) = 0
      · rw [if_pos h2] at h
        cases h
        exact ⟨[.leaf x], l, by simp; omega, fun e he => by rw [List.mem_singleton.1 he]; show ar x.op = 0; omega, rfl, rfl⟩
      · rw [if_neg h2] at h
        obtain ⟨m', hm'⟩ : ∃ m' : Nat, (m : Int) + (ar x.op - 1) = m' := ⟨((m : Int) + (ar x.op - 1)).toNat, by omega⟩
        rw [hm'] at h
        obtain ⟨es, r, e1, e2, e3, e4⟩ := ih m' (k + 1) j (by omega) h
        rcases hc with h3 | h3 | h3 | h3
        · omega
        · refine ⟨.leaf x :: es, r, by simp; omega, fun e he => ?_, ?_, ?_⟩
          · rcases List.mem_cons.1 he with rfl | he
            · exact h3
            · exact e2 e he
          · rw [e3]; rfl
          · rw [e4]; simp [Ex.flat]; omega
        · match es, e1 with
          | e :: es, e1 =>
            refine ⟨.un x e :: es, r, by simp at e1 ⊢; omega, fun t ht => ?_, ?_, ?_⟩
            · rcases List.mem_cons.1 ht with rfl | ht
              · exact ⟨h3, e2 e (by simp)⟩
              · exact e2 t (List.mem_cons_of_mem _ ht)
            · rw [e3]; simp [Ex.flat]
            · rw [e4]; simp [Ex.flat]; omega
          | [], e1 => simp at e1; omega
        · match es, e1 with
          | e :: e' :: es, e1 =>
            refine ⟨.bin x e e' :: es, r, by simp at e1 ⊢; omega, fun t ht => ?_, ?_, ?_⟩
            · rcases List.mem_cons.1 ht with rfl | ht
              · exact ⟨h3, e2 e (by simp), e2 e' (by simp)⟩
              · exact e2 t (List.mem_cons_of_mem _ (List.mem_cons_of_mem _ ht))
            · rw [e3]; simp [Ex.flat]
            · rw [e4]; simp [Ex.flat]; omega
          | [], e1 => simp at e1; omega
          | [_], e1 => simp at e1; omega

/-- Nodes that end where they should are a tree's. -/
theorem tree_of_end (l : List Nd) (h : endL l 0 = l.length) (_h0 : l ≠ []) : ∃ e : Ex, e.wf ∧ e.flat = l := by
  have e0 : endL l 0 = endI (endF l 1 0) := by rw [show (0 : Int) = ((0 : Nat) : Int) from rfl, endL_nat]; rfl
  rw [e0] at h
  cases h1 : endF l 1 0 with
  | none => rw [h1] at h; simp only [endI] at h; omega
  | some j =>
    rw [h1] at h
    simp only [endI] at h
    obtain ⟨es, r, e1, e2, e3, e4⟩ := endF_tree l 1 0 j (Nat.le_refl _) h1
    match es, e1 with
    | [e], _ =>
      refine ⟨e, e2 e (by simp), ?_⟩
      have hl := congrArg List.length e3
      simp only [List.flatMap_cons, List.flatMap_nil, List.append_nil, List.length_append] at hl e3 e4
      have hr : r = [] := List.eq_nil_of_length_eq_zero (by omega)
      rw [e3, hr, List.append_nil]

theorem end_of_tree (e : Ex) (h : e.wf) : endL e.flat 0 = e.flat.length := by
  rw [show (0 : Int) = ((0 : Nat) : Int) from rfl, endL_nat]
  have := endF_flat e h [] 1 0 (Nat.le_refl _)
  rw [List.append_nil, if_pos rfl] at this
  rw [List.drop_zero, show (1 : Int) = ((1 : Nat) : Int) from rfl, this, e.flat_length]
  simp [endI]

theorem Ex.flat_pre (e : Ex) : ∀ (e' : Ex) (r r' : List Nd), e.wf → e'.wf → e.flat ++ r = e'.flat ++ r' → e = e' ∧ r = r' := by
  induction e with
  | leaf x =>
    intro e' r r' h h' he
    cases e' with
    | leaf y => have h0 := List.cons.inj he; exact ⟨by rw [h0.1], h0.2⟩
    | un y a => have h0 := (List.cons.inj he).1; subst h0; have := h'.1; have h2 : ar x.op = 0 := h; omega
    | bin y a b => have h0 := (List.cons.inj he).1; subst h0; have := h'.1; have h2 : ar x.op = 0 := h; omega
  | un x a ih =>
    intro e' r r' h h' he
    cases e' with
    | leaf y => have h0 := (List.cons.inj he).1; subst h0; have := h.1; have h2 : ar x.op = 0 := h'; omega
    | un y b =>
      have h0 := List.cons.inj he
      obtain ⟨h1, h2⟩ := ih b r r' h.2 h'.2 h0.2
      exact ⟨by rw [h0.1, h1], h2⟩
    | bin y a b => have h0 := (List.cons.inj he).1; subst h0; have := h.1; have := h'.1; omega
  | bin x a b iha ihb =>
    intro e' r r' h h' he
    cases e' with
    | leaf y => have h0 := (List.cons.inj he).1; subst h0; have := h.1; have h2 : ar x.op = 0 := h'; omega
    | un y b => have h0 := (List.cons.inj he).1; subst h0; have := h.1; have := h'.1; omega
    | bin y a' b' =>
      have h0 := List.cons.inj he
      have h1 : a.flat ++ (b.flat ++ r) = a'.flat ++ (b'.flat ++ r') := by simpa [List.append_assoc] using h0.2
      obtain ⟨g1, g2⟩ := iha a' _ _ h.2.1 h'.2.1 h1
      obtain ⟨g3, g4⟩ := ihb b' _ _ h.2.2 h'.2.2 g2
      exact ⟨by rw [h0.1, g1, g3], g4⟩
theorem Ex.flat_inj (e e' : Ex) (h : e.wf) (h' : e'.wf) (he : e.flat = e'.flat) : e = e' := (e.flat_pre e' [] [] h h' (by simpa using he)).1
theorem Ex.depth_le (e : Ex) : e.depth ≤ e.size := by
  induction e with
  | leaf x => simp [Ex.depth]
  | un x a ih => simp [Ex.depth, Ex.size]; omega
  | bin x a b iha ihb => simp [Ex.depth, Ex.size]; omega

/-- The depths that are still to come. -/
def dF : List (Nat × Ex) → Nat → Nat
  | [], g => g
  | p :: r, g => dF r (max g (p.1 + p.2.depth))

def intsV (l : List Nat) : List Value := l.map fun (n : Nat) => Value.int .i64 n

theorem own_pop {w : World} {B e n cap : Nat} {ad : Option Addr} {xs : List Value} {x : Value} (h : w.ownsRow B e 1 (.slice ad (n + 1) cap) (n + 1) (xs ++ [x])) : w.ownsRow B e 1 (.slice ad n cap) n xs := by
  obtain ⟨h1, h2⟩ := h
  have hl : xs.length = n := by simpa using h1
  refine ⟨by omega, ?_⟩
  rcases h2 with ⟨_, h2⟩ | ⟨g, cap', cur, hv, hg, hh, hc1, hc2, hc3, hc4⟩
  · omega
  · simp only [Value.slice.injEq] at hv
    obtain ⟨rfl, _, rfl⟩ := hv
    refine .inr ⟨g, cap, cur, rfl, hg, hh, by omega, hc2, hc3, ?_⟩
    have := congrArg (List.take n) hc4
    rw [List.take_take] at this
    rw [Nat.mul_one]
    rw [show min n ((n + 1) * 1) = n by omega] at this
    rw [this, List.take_append_of_le_length (by omega), List.take_of_length_le (by omega)]

theorem info3 : (Tryd.prog.info? 3).map (fun i => (i.zero, i.size, i.bytes)) = some (some (.int .i64 0), 1, 8) := by kernel_rfl

theorem append_int {w : World} {ops : Array Oper} {rest : List Oper} {o : Oper} {a : Act} {Q : Exit → Act → World → Prop} (hgd : o.guard = none) (s x : Operand)
    (ho : o.op = .call { callee := .builtin .append, args := #[s, x], argTypes := #[54, 54] }) (base n : Nat) (v : Value) (xs : List Value) (z : Int) (hs : a.eval s = v) (g : Nat) (hx : a.eval x = .slice (some ⟨g, 0, none⟩) 1 1)
    (hown : w.ownsRow base 3 1 v n xs) (hc : w.cell? ⟨g, 0, none⟩ = some (.int .i64 z)) (hn : n ≤ 1000000) (hbase : base ≤ w.heap.size)
    (h : ∀ v' w', w'.ownsRow base 3 1 v' (n + 1) (xs ++ [.int .i64 z]) → Below base w w' → wpList Tryd.prog ops Q rest (a.put o.dst v') w') : wpList Tryd.prog ops Q (o :: rest) a w := by
  obtain ⟨i0, hi, hz0, hz1, hz2⟩ := info_parts info3
  refine wpList_append_own _ hgd s x 54 ho base 3 i0 (.int .i64 0) 1 8 Tryd.underlying54 hi hz0 hz1 hz2 rfl (by decide) v n xs hs hown ⟨g, 0, none⟩ 1 1 [.int .i64 z] hx rfl ?_ (fun u hu => by simp at hu; subst hu; rfl) (by unfold maxLen; omega) (by omega) hbase ?_
  · intro j u hj
    match j, hj with
    | 0, hj => simp at hj; subst hj; rw [show (⟨g, 0, none⟩ : Addr).add 0 = ⟨g, 0, none⟩ from rfl]; exact hc
    | j + 1, hj => simp at hj
  · intro v' w' h1 h2 _
    exact h v' w' h1 ((Below.refl base w).grown h2 hbase (fun k hk => (hown.lt k hk).1))

end Go.Proofs.YtifbhlgingaahaaDoor
