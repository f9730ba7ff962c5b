/- Layer 6: the value of code in the reference: its parts. Layer 6: the value of code in the reference: the whole. Layer 10: the reference's value of an expression of a thread. -/
import Derived.Test.YtobmbkgeafbamaaXi
namespace Go.Proofs.Ytobmbkgeafbamaa
set_option linter.unusedSimpArgs false
set_option linter.unusedVariables false
open Go.RowKit

theorem tru_beq (a b : Int) : tru (a == b) = tru (decide (a = b)) := rfl
theorem tru_bne (a b : Int) : tru (a != b) = tru (decide (a ≠ b)) := by
  congr 1
  by_cases h : a = b <;> simp [h]

set_option maxRecDepth 100000 in
set_option maxHeartbeats 2000000 in
theorem rall_any (l : List Int) (v : Value) (m : Int) (w : World) (hv : IntsD w v l) (hn : l.length ≤ 100000) (b : Bool) (hb : allB m l = b) :
    Calls Try.prog 24 #[v, .int .i64 m] w fun e w' => e = .returned (.bool b) ∧ w = w' := by
  have HB0 : Hid ((l.drop 0).all (okI m) = b) := Lib.hid hb
  obtain ⟨ad, cap, rfl, _, _, hc⟩ := hv
  have HC := Lib.hid hc
  obtain ⟨n, hN⟩ : ∃ n, n = l.length := ⟨_, rfl⟩
  rw [← hN] at hn ⊢
  have HN := Lib.hid hN
  clear hN hc hb
  go_enter Try.func24, Try.ntmps24
  go_wp2_with fail
  go_loopg [5] n (fun fuel i' wr => ∃ k : Nat, i' = .int .i64 k ∧ k ≤ n ∧ n - k ≤ fuel ∧ ((l.drop k).all (okI m)) = b ∧ w = wr)
  case atStart => exact ⟨0, rfl, Nat.zero_le _, Nat.le_refl _, HB0.out, rfl⟩
  case round =>
    obtain ⟨k, rfl, hk, hf, ha, rfl⟩ := hrel
    have HA := Lib.hid ha
    clear ha
    by_cases hlt : k < n
    · have hk' : k < l.length := by have := HN.out; omega
      have HD := Lib.hid (List.drop_eq_getElem_cons hk')
      obtain ⟨g, off, rfl, hbl, x0⟩ := HC.out k hk'
      obtain ⟨x, hx⟩ : ∃ x, x = l[k] := ⟨_, rfl⟩
      rw [← hx] at x0 HD
      have c0 : w.cell? ⟨g, off + k, none⟩ = some (.int .i64 x) := by unfold IntAt at x0; rw [Nat.mul_one] at x0; exact x0
      clear x0 hx
      obtain ⟨q, hq⟩ : ∃ q, okI m x = q := ⟨_, rfl⟩
      have H := Lib.hid (rin_is x m q hq)
      have HQ := Lib.hid hq
      clear hq
      cases q with
      | true =>
        go_wp2_with (go_at_call 36; refine (H.out _).mono ?_; rintro e w2 ⟨rfl, rfl⟩)
        go_roundg (gk - 1)
        case measure => omega
        case rel =>
          refine ⟨k + 1, by go_num, by omega, by omega, ?_, rfl⟩
          have h2 := HA.out
          rw [HD.out, List.all_cons, HQ.out] at h2
          simpa using h2
      | false =>
        go_wp2_with (go_at_call 36; refine (H.out _).mono ?_; rintro e w2 ⟨rfl, rfl⟩)
        go_ret
        refine ⟨ret_bool ?_, rfl⟩
        rw [← HA.out, HD.out, List.all_cons, HQ.out]; rfl
    · have HE := Lib.hid (drop_over l k (by have := HN.out; omega))
      go_wp2
      go_ret
      exact ⟨ret_bool (by rw [← HA.out, HE.out]; rfl), rfl⟩

theorem rdO_lt (s : Nbs) (o : Opn) (hN : rightN s = true) (hok : okO (s.all.map fun x => (x.length : Int)) s.own.length s.mem.length o = true) (h : o.op = 2 ∨ o.op = 3 ∨ o.op = 4) : 0 ≤ rdO s o ∧ rdO s o < s.mod := by
  unfold rightN at hN
  rw [Bool.and_eq_true, Bool.and_eq_true, Bool.and_eq_true] at hN
  obtain ⟨h1, h2, h3, h4⟩ := hN
  unfold rdO
  unfold okO at hok
  rw [if_neg (by omega)] at hok
  by_cases g2 : o.op = 2
  · rw [if_pos g2] at hok ⊢
    have := of_decide_eq_true hok
    exact getD_all _ _ h2 o.n.toNat (by omega)
  · rw [if_neg g2] at hok ⊢
    by_cases g3 : o.op = 3
    · rw [if_pos g3] at hok ⊢
      have := of_decide_eq_true hok
      exact getD_all _ _ h3 o.n.toNat (by omega)
    · rw [if_neg g3] at hok ⊢
      have g4 : o.op = 4 := by omega
      rw [if_pos g4] at hok ⊢
      rw [Bool.and_eq_true] at hok
      obtain ⟨k1, k2⟩ := hok
      have k1 := of_decide_eq_true k1
      rw [List.length_map] at k1
      have hx : o.t.toNat < s.all.length := by omega
      have k2 := of_decide_eq_true k2
      rw [List.getD_eq_getElem?_getD, List.getElem?_map, List.getElem?_eq_getElem hx, Option.map_some, Option.getD_some] at k2
      have hd : s.all.getD o.t.toNat [] = s.all[o.t.toNat] := by rw [List.getD_eq_getElem?_getD, List.getElem?_eq_getElem hx, Option.getD_some]
      rw [hd]
      exact getD_all _ _ (List.all_eq_true.1 h4 _ (List.getElem_mem hx)) o.n.toNat (by omega)

theorem set_last (xs : List Value) (x u : Value) (q : Nat) (h : xs.length = q) : (xs ++ [x]).set q u = xs ++ [u] := by
  rw [List.set_append_right _ _ (by omega), h, Nat.sub_self]; rfl
theorem set_last2 (xs : List Value) (x y u : Value) (q : Nat) (h : xs.length = q) : (xs ++ [x] ++ [y]).set q u = xs ++ [u] ++ [y] := by
  rw [List.append_assoc, List.set_append_right _ _ (by omega), h, Nat.sub_self, List.append_assoc]; rfl

theorem lensV_succ (l : List (List Int × Value)) (k : Nat) (h : k < l.length) : intV (lenI (l.take (k + 1))) = intV (lenI (l.take k)) ++ [.int .i64 (l[k].1.length : Int)] := by
  rw [List.take_succ_eq_append_getElem h]
  simp only [intV, lenI, List.map_append, List.map_cons, List.map_nil]
def lensK (l : List (List Int × Value)) (k : Nat) : List Value := intV (lenI (l.take k))
theorem lensK_succ (l : List (List Int × Value)) (k : Nat) (h : k < l.length) : lensK l (k + 1) = lensK l k ++ [.int .i64 (l[k].1.length : Int)] := lensV_succ l k h
theorem lensK_full (l : List (List Int × Value)) (k : Nat) (h : l.length ≤ k) : lensK l k = intV (lenI l) := by unfold lensK; rw [List.take_of_length_le h]

end Go.Proofs.Ytobmbkgeafbamaa

namespace Go.Proofs.Ytobmbkgeafbamaa
set_option linter.unusedSimpArgs false
set_option linter.unusedVariables false
open Go.RowKit

/-- append of one number to a row of one's own. -/
theorem append_num {w : World} {ops : Array Oper} {rest : List Oper} {o : Oper} {a : Act} {Q : Exit → Act → World → Prop} (hgd : o.guard = none) (s x : Operand)
    (ho : o.op = .call { callee := .builtin .append, args := #[s, x], argTypes := #[22, 22] }) (base n : Nat) (v : Value) (xs : List Value) (z : Int) (hs : a.eval s = v) (g : Nat) (hx : a.eval x = .slice (some ⟨g, 0, none⟩) 1 1)
    (hown : w.ownsRow base 3 1 v n xs) (hc : w.heap[g]? = some (.cells #[.int .i64 z] 3 (0, 0))) (hn : n ≤ 1000000) (hbase : base ≤ w.heap.size)
    (h : ∀ g' cap w', w'.ownsRow base 3 1 (.slice (some ⟨g', 0, none⟩) (n + 1) cap) (n + 1) (xs ++ [.int .i64 z]) → Below base w w' → wpList Try.prog ops Q rest (a.put o.dst (.slice (some ⟨g', 0, none⟩) (n + 1) cap)) w') : wpList Try.prog ops Q (o :: rest) a w := by
  obtain ⟨i0, hi, hz0, hz1, hz2⟩ := info_parts info3
  refine wpList_append_own _ hgd s x 22 ho base 3 i0 (.int .i64 0) 1 8 Try.underlying22 hi hz0 hz1 hz2 rfl (by decide) v n xs hs hown ⟨g, 0, none⟩ 1 1 [.int .i64 z] hx rfl (World.news_of_block hc) (fun u hu => by simp at hu; subst hu; rfl) (by unfold maxLen; omega) (by omega) hbase ?_
  intro v' w' h1 h2 _
  rcases h1.2 with ⟨h3, h4⟩ | ⟨g', cap', cur, hv, hg, hh, _⟩
  · omega
  · subst hv
    exact h g' cap' w' h1 ((Below.refl base w).grown h2 hbase (fun k hk => (hown.lt k hk).1))

theorem heap_two (w : World) (o o2 : Obj) : ((w.alloc o).alloc o2).heap[w.heap.size + 1]? = some o2 := by
  have h := heap_alloc_new (w.alloc o) o2
  rwa [alloc_size] at h

theorem all_bad {m : Int} {rs : List (List Int × Value)} {s : Nbs} (he : rs.map (·.1) = s.all) (hm : m = s.mod) (q : Bool) (h : rs.all (fun x => allB m x.1) = q) : s.all.all (allB s.mod) = q := by
  subst hm
  rw [← he, List.all_map, ← h]; rfl

end Go.Proofs.Ytobmbkgeafbamaa

namespace Go.Proofs.Ytobmbkgeafbamaa
set_option linter.unusedSimpArgs false
set_option linter.unusedVariables false
open Go.RowKit

/-- What a thread's expression is worth. -/
def valC (u : Un) (c : Cf) (k : Nat) (l : List Opn) : Int := (valO l ⟨u.mod, (c.regs.getD k ([], undef)).1, [], []⟩).1

end Go.Proofs.Ytobmbkgeafbamaa
