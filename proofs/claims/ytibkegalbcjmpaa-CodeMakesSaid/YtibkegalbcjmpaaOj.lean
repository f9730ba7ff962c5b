/- Layer 6: what code is worth. -/
import Derived.Test.YtibkegalbcjmpaaOi
import Derived.Deep.RegionLaw
import Derived.Deep.AppendLies
namespace Go.Proofs.Ytibkegalbcjmpaa
open Go.RowKit

theorem stO_zero (s : Nbs) (o : Opn) (st : List Int) (h : ar o.op = 0) : stO s o st = rdO s o % s.mod :: st := by
  unfold stO
  split
  · rw [if_pos h]
  · rw [if_pos h]
  · rfl
theorem stO_one (s : Nbs) (o : Opn) (b : Int) (r : List Int) (h : ar o.op = 1) : stO s o (b :: r) = tru (decide (b = 0)) :: r := by
  unfold stO
  split
  · rename_i h2
    injection h2 with h3 h4; subst h3 h4
    rw [if_neg (by omega), if_pos h]
  · rename_i h2
    injection h2 with h3 h4; subst h3 h4
    rw [if_neg (by omega)]
  · rename_i h2; cases h2
theorem stO_two (s : Nbs) (o : Opn) (a b : Int) (r : List Int) (h : ar o.op = 2) : stO s o (b :: a :: r) = twoO o.op a b s.mod :: r := by
  show (if ar o.op = 0 then _ else if ar o.op = 1 then _ else _) = _
  rw [if_neg (by omega), if_neg (by omega)]

theorem tru_b (b : Bool) : 0 ≤ tru b ∧ tru b ≤ 1 := by cases b <;> decide

theorem raw_two (op a b m : Int) (h1 : 6 ≤ op) (h2 : op ≤ 14) (hm : 2 ≤ m ∧ m ≤ 16) (ha : 0 ≤ a ∧ a < m) (hb : 0 ≤ b ∧ b < m) :
    (rawO op a b + m) % m = twoO op a b m ∧ 0 ≤ twoO op a b m ∧ twoO op a b m < m ∧ -15 ≤ rawO op a b ∧ rawO op a b ≤ 225 ∧ 0 ≤ rawO op a b + m := by
  have key : ∀ z t : Int, rawO op a b = z → twoO op a b m = t → ((z + m) % m = t ∧ 0 ≤ t ∧ t < m ∧ -15 ≤ z ∧ z ≤ 225 ∧ 0 ≤ z + m) → (rawO op a b + m) % m = twoO op a b m ∧ 0 ≤ twoO op a b m ∧ twoO op a b m < m ∧ -15 ≤ rawO op a b ∧ rawO op a b ≤ 225 ∧ 0 ≤ rawO op a b + m := by
    intro z t h1 h2 h; rw [h1, h2]; exact h
  have hmod : ∀ z : Int, 0 ≤ z % m ∧ z % m < m := fun z => ⟨Int.emod_nonneg _ (by omega), Int.emod_lt_of_pos _ (by omega)⟩
  have htr : ∀ b : Bool, (tru b + m) % m = tru b ∧ 0 ≤ tru b ∧ tru b < m ∧ -15 ≤ tru b ∧ tru b ≤ 225 ∧ 0 ≤ tru b + m := by
    intro b
    have := tru_b b
    refine ⟨?_, by omega, by omega, by omega, by omega, by omega⟩
    rw [Int.add_emod_right]
    exact Int.emod_eq_of_lt (by omega) (by omega)
  rcases op_cases op h1 h2 with rfl | rfl | rfl | rfl | rfl | rfl | rfl | rfl | rfl
  · exact key (a + b) ((a + b) % m) rfl rfl ⟨by rw [Int.add_emod_right], (hmod _).1, (hmod _).2, by omega, by omega, by omega⟩
  · exact key (a - b) ((a - b + m) % m) rfl rfl ⟨rfl, (hmod _).1, (hmod _).2, by omega, by omega, by omega⟩
  · have hm1 : 0 ≤ a * b := Int.mul_nonneg ha.1 hb.1
    have hm2 : a * b ≤ 15 * 15 := Int.mul_le_mul (by omega) (by omega) hb.1 (by omega)
    exact key (a * b) (a * b % m) rfl rfl ⟨by rw [Int.add_emod_right], (hmod _).1, (hmod _).2, by omega, by omega, by omega⟩
  · exact key _ _ rfl rfl (htr _)
  · exact key _ _ rfl rfl (htr _)
  · exact key _ _ rfl rfl (htr _)
  · exact key _ _ rfl rfl (htr _)
  · exact key _ _ rfl rfl (htr _)
  · exact key _ _ rfl rfl (htr _)

theorem getD_all (l : List Int) (m : Int) (h : allB m l = true) (t : Nat) (ht : t < l.length) : 0 ≤ l.getD t 0 ∧ l.getD t 0 < m := by
  rw [List.getD_eq_getElem?_getD, List.getElem?_eq_getElem ht, Option.getD_some]
  exact of_decide_eq_true (List.all_eq_true.1 h _ (List.getElem_mem ht))

theorem rdO_bound (s : Nbs) (o : Opn) (hN : rightN s = true) (hok : okO (s.all.map fun x => (x.length : Int)) s.own.length s.mem.length o = true) (h : ar o.op = 0) : 0 ≤ rdO s o ∧ rdO s o ≤ 9999 := by
  unfold rightN at hN
  rw [Bool.and_eq_true, Bool.and_eq_true, Bool.and_eq_true] at hN
  obtain ⟨h1, h2, h3, h4⟩ := hN
  have h1 := of_decide_eq_true h1
  unfold rdO
  unfold okO at hok
  by_cases g1 : o.op = 1
  · rw [if_pos g1] at hok
    rw [if_neg (by omega), if_neg (by omega), if_neg (by omega)]
    have := of_decide_eq_true hok
    omega
  · rw [if_neg g1] at hok
    by_cases g2 : o.op = 2
    · rw [if_pos g2] at hok ⊢
      have := of_decide_eq_true hok
      have := getD_all _ _ h2 o.n.toNat (by omega)
      omega
    · rw [if_neg g2] at hok ⊢
      by_cases g3 : o.op = 3
      · rw [if_pos g3] at hok ⊢
        have := of_decide_eq_true hok
        have := getD_all _ _ h3 o.n.toNat (by omega)
        omega
      · rw [if_neg g3] at hok ⊢
        by_cases g4 : o.op = 4
        · rw [if_pos g4] at hok ⊢
          rw [Bool.and_eq_true] at hok
          obtain ⟨k1, k2⟩ := hok
          have k1 := of_decide_eq_true k1
          rw [List.length_map] at k1
          have hx : o.t.toNat < s.all.length := by omega
          have k2 := of_decide_eq_true k2
          rw [List.getD_eq_getElem?_getD, List.getElem?_map, List.getElem?_eq_getElem hx, Option.map_some, Option.getD_some] at k2
          have hd : s.all.getD o.t.toNat [] = s.all[o.t.toNat] := by rw [List.getD_eq_getElem?_getD, List.getElem?_eq_getElem hx, Option.getD_some]
          rw [hd]
          have := getD_all _ _ (List.all_eq_true.1 h4 _ (List.getElem_mem hx)) o.n.toNat (by omega)
          omega
        · have := ar_kind o.op
          omega

theorem runO_at (s : Nbs) (l : List Opn) (k : Nat) (h : k < l.length) (st : List Int) : runO s (l.drop k) st = runO s (l.drop (k + 1)) (stO s l[k] st) := by
  rw [List.drop_eq_getElem_cons h]; rfl
theorem runO_over (s : Nbs) (l : List Opn) (k : Nat) (h : ¬ k < l.length) (st : List Int) : runO s (l.drop k) st = st := by
  rw [List.drop_eq_nil_of_le (by omega)]; rfl

/-- What stands on the way: the rest leaves one number. -/
def Go1 (l : List Opn) (k n : Nat) : Prop := ∃ m, (htsL (l.drop k) m n).2 = 1
theorem Go1.step {l : List Opn} {k n : Nat} (h : Go1 l k n) (hk : k < l.length) : (0 ≤ ar l[k].op ∧ ar l[k].op ≤ n) ∧ ∀ q : Nat, (q : Int) = n + 1 - ar l[k].op → Go1 l (k + 1) q := by
  obtain ⟨m, h⟩ := h
  rw [htsL_at l k hk] at h
  split at h
  · cases h
  · rename_i h2
    refine ⟨by omega, fun q hq => ?_⟩
    rw [← hq] at h
    exact ⟨_, h⟩
theorem Go1.over {l : List Opn} {k n : Nat} (h : Go1 l k n) (hk : ¬ k < l.length) : n = 1 := by
  obtain ⟨m, h⟩ := h
  rw [htsL_over l k hk] at h
  have : (n : Int) = 1 := h
  omega

theorem opOf_leaf (op : Int) (h : ar op = 0) (w : World) : Calls Try.prog 59 #[.int .i64 op] w fun e w' => e = .returned (.agg #[.int .i64 0, .nilFunc]) ∧ Below w.heap.size w w' := by
  have hk := ar_kind op
  have h1 : fnO op = .nilFunc := by
    unfold fnO
    rw [if_neg (by omega), if_neg (by omega), if_neg (by omega), if_neg (by omega), if_neg (by omega), if_neg (by omega), if_neg (by omega), if_neg (by omega), if_neg (by omega), if_neg (by omega)]
  have := opOf_any op w
  rw [h, h1] at this
  exact this
theorem opOf_fn (op a : Int) (h : ar op = a) (h1 : 1 ≤ a) (F : Nat) (hF : fnF op = F) (w : World) : Calls Try.prog 59 #[.int .i64 op] w fun e w' => e = .returned (.agg #[.int .i64 a, .func (.func F) #[] #[]]) ∧ Below w.heap.size w w' := by
  have hk := ar_kind op
  have := opOf_any op w
  rw [h, fnO_of op (by omega) (by omega), hF] at this
  exact this

theorem intV_rev (x : Int) (st : List Int) : intV (x :: st).reverse = intV st.reverse ++ [.int .i64 x] := by simp [intV]

/-- append of one number to a row of one's own, at a step of a region that draws its order. -/
theorem step_append_int {w : World} {ops : Array Oper} {o : Oper} {a : Act} {K : Act → World → Prop} {Q : Exit → Act → World → Prop} {E : Prop} (hgd : o.guard = none) (s x : Operand)
    (ho : o.op = .call { callee := .builtin .append, args := #[s, x], argTypes := #[38, 38] }) (base n : Nat) (v : Value) (xs : List Value) (z : Int) (hs : a.eval s = v) (g : Nat) (hx : a.eval x = .slice (some ⟨g, 0, none⟩) 1 1)
    (hown : w.ownsRow base 3 1 v n xs) (hc : w.heap[g]? = some (.cells #[.int .i64 z] 3 (0, 0))) (hn : n ≤ 1000000) (hbase : base ≤ w.heap.size)
    (h : ∀ g' cap w', w'.ownsRow base 3 1 (.slice (some ⟨g', 0, none⟩) (n + 1) cap) (n + 1) (xs ++ [.int .i64 z]) → Below base w w' → K (a.put o.dst (.slice (some ⟨g', 0, none⟩) (n + 1) cap)) w') :
    if Region.wanted o (yielded ops a.tmps) = true then Oper.wp Try.prog o a w K Q else E := by
  obtain ⟨i0, hi, hz0, hz1, hz2⟩ := info_parts info3
  refine step_append_lies w hgd s x 38 ho base 3 i0 (.int .i64 0) 1 8 Try.underlying38 hi hz0 hz1 hz2 rfl (by decide) v n xs hs hown ⟨g, 0, none⟩ 1 1 [.int .i64 z] hx rfl (World.news_of_block hc) (fun u hu => by simp at hu; subst hu; rfl) (by decide) (by unfold maxLen; omega) (by omega) hbase _ rfl ?_
  intro g' cap w' h1 h2 _ _
  exact h g' cap w' h1 ((Below.refl base w).grown h2 hbase (fun k hk => (hown.lt k hk).1))

theorem own_cap {w : World} {B e size n cap : Nat} {ad : Option Addr} {xs : List Value} (h : w.ownsRow B e size (.slice ad n cap) n xs) : n ≤ cap := by
  rcases h.2 with ⟨h1, _⟩ | ⟨g, cap', cur, hv, _, _, h1, _⟩
  · injection h1 with _ h2 h3; omega
  · injection hv with _ _ h3; omega

/-- The top of a stack of one's own. -/
theorem own_top {w : World} {B n cap : Nat} {ad : Option Addr} {xs : List Value} {x : Value} (h : w.ownsRow B 3 1 (.slice ad n cap) n (xs ++ [x])) (q : Nat) (hq : n = q + 1) :
    ∃ g, ad = some ⟨g, 0, none⟩ ∧ B ≤ g ∧ g < w.heap.size ∧ w.cell? ⟨g, q, none⟩ = some x ∧ w.ownsRow B 3 1 (.slice (some ⟨g, 0, none⟩) q cap) q xs ∧ xs.length = q := by
  subst hq
  have hl : xs.length = q := by have := h.1; simp at this; omega
  rcases h.2 with ⟨h1, h2⟩ | ⟨g, cap', cur, hv, hg, hh, _⟩
  · omega
  · injection hv with h1 h2 h3
    subst h1 h3
    refine ⟨g, rfl, hg, (Array.getElem?_eq_some_iff.1 hh).1, ?_, own_pop h, hl⟩
    have := h.cells (g := g) rfl q x (by rw [← hl]; simp)
    rwa [addr_add'] at this

end Go.Proofs.Ytibkegalbcjmpaa
