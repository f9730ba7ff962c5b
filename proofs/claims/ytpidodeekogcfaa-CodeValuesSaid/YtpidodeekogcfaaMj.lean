/- Layer 6: the reference's value of code. -/
import Derived.Test.YtpidodeekogcfaaMi
namespace Go.Proofs.Ytpidodeekogcfaa
open Go.RowKit

theorem rdO_lt (s : Nbs) (o : Opn) (hN : rightN s = true) (hok : okO (s.all.map fun x => (x.length : Int)) s.own.length s.mem.length o = true) (h : o.op = 2 ∨ o.op = 3 ∨ o.op = 4) : 0 ≤ rdO s o ∧ rdO s o < s.mod := by
  unfold rightN at hN
  rw [Bool.and_eq_true, Bool.and_eq_true, Bool.and_eq_true] at hN
  obtain ⟨h1, h2, h3, h4⟩ := hN
  unfold rdO
  unfold okO at hok
  rw [if_neg (by omega)] at hok
  by_cases g2 : o.op = 2
  · rw [if_pos g2] at hok ⊢
    have := of_decide_eq_true hok
    exact getD_all _ _ h2 o.n.toNat (by omega)
  · rw [if_neg g2] at hok ⊢
    by_cases g3 : o.op = 3
    · rw [if_pos g3] at hok ⊢
      have := of_decide_eq_true hok
      exact getD_all _ _ h3 o.n.toNat (by omega)
    · rw [if_neg g3] at hok ⊢
      have g4 : o.op = 4 := by omega
      rw [if_pos g4] at hok ⊢
      rw [Bool.and_eq_true] at hok
      obtain ⟨k1, k2⟩ := hok
      have k1 := of_decide_eq_true k1
      rw [List.length_map] at k1
      have hx : o.t.toNat < s.all.length := by omega
      have k2 := of_decide_eq_true k2
      rw [List.getD_eq_getElem?_getD, List.getElem?_map, List.getElem?_eq_getElem hx, Option.map_some, Option.getD_some] at k2
      have hd : s.all.getD o.t.toNat [] = s.all[o.t.toNat] := by rw [List.getD_eq_getElem?_getD, List.getElem?_eq_getElem hx, Option.getD_some]
      rw [hd]
      exact getD_all _ _ (List.all_eq_true.1 h4 _ (List.getElem_mem hx)) o.n.toNat (by omega)

theorem set_last (xs : List Value) (x u : Value) (q : Nat) (h : xs.length = q) : (xs ++ [x]).set q u = xs ++ [u] := by
  rw [List.set_append_right _ _ (by omega), h, Nat.sub_self]; rfl
theorem set_last2 (xs : List Value) (x y u : Value) (q : Nat) (h : xs.length = q) : (xs ++ [x] ++ [y]).set q u = xs ++ [u] ++ [y] := by
  rw [List.append_assoc, List.set_append_right _ _ (by omega), h, Nat.sub_self, List.append_assoc]; rfl

theorem lensV_succ (l : List (List Int × Value)) (k : Nat) (h : k < l.length) : intV (lenI (l.take (k + 1))) = intV (lenI (l.take k)) ++ [.int .i64 (l[k].1.length : Int)] := by
  rw [List.take_succ_eq_append_getElem h]
  simp only [intV, lenI, List.map_append, List.map_cons, List.map_nil]
def lensK (l : List (List Int × Value)) (k : Nat) : List Value := intV (lenI (l.take k))
theorem lensK_succ (l : List (List Int × Value)) (k : Nat) (h : k < l.length) : lensK l (k + 1) = lensK l k ++ [.int .i64 (l[k].1.length : Int)] := lensV_succ l k h
theorem lensK_full (l : List (List Int × Value)) (k : Nat) (h : l.length ≤ k) : lensK l k = intV (lenI l) := by unfold lensK; rw [List.take_of_length_le h]

end Go.Proofs.Ytpidodeekogcfaa
