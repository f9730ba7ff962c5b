/- Layer 12: how an encoding grows, thread by thread. Layer 12, the document's answer: a byte's number, how many bytes. -/
import Derived.Test.YtmkgijedchpgcaaEc
import Derived.Test.YtmkgijedchpgcaaEl
namespace Go.Proofs.Ytmkgijedchpgcaa
set_option linter.unusedSimpArgs false
set_option linter.unusedVariables false
open Go.RowKit

/-- What the first k threads give. -/
def upP (p : Pf) (k : Nat) : List Int := thsE (p.pc.take k) (p.regs.take k) (p.buf.take k)
theorem ths_app : ∀ (ps : List Int) (rs : List (List Int)) (bs : List (List Ent)) (q : Int) (r : List Int) (b : List Ent), rs.length = ps.length → bs.length = ps.length → thsE (ps ++ [q]) (rs ++ [r]) (bs ++ [b]) = thsE ps rs bs ++ thrE q r b
  | [], [], [], q, r, b, _, _ => by simp [thsE]
  | p :: ps, x :: rs, y :: bs, q, r, b, h1, h2 => by
    have ih := ths_app ps rs bs q r b (by simpa using h1) (by simpa using h2)
    simp only [List.cons_append, thsE, ih, List.append_assoc]
theorem up_zero (p : Pf) : upP p 0 = [] := by simp [upP, thsE]
theorem up_all {p : Pf} (h1 : p.regs.length = p.pc.length) (h2 : p.buf.length = p.pc.length) : upP p p.pc.length = thsE p.pc p.regs p.buf := by
  unfold upP
  rw [List.take_length, ← h1, List.take_length, h1, ← h2, List.take_length]
theorem up_next {p : Pf} (h1 : p.regs.length = p.pc.length) (h2 : p.buf.length = p.pc.length) (k : Nat) (hk : k < p.pc.length) : upP p (k + 1) = upP p k ++ thrE (p.pc.getD k 0) (p.regs.getD k []) (p.buf.getD k []) := by
  unfold upP
  have t1 : p.pc.take (k + 1) = p.pc.take k ++ [p.pc.getD k 0] := by rw [List.take_add_one, List.getElem?_eq_getElem hk, List.getD_eq_getElem?_getD, List.getElem?_eq_getElem hk]; rfl
  have t2 : p.regs.take (k + 1) = p.regs.take k ++ [p.regs.getD k []] := by rw [List.take_add_one, List.getElem?_eq_getElem (by omega), List.getD_eq_getElem?_getD, List.getElem?_eq_getElem (by omega)]; rfl
  have t3 : p.buf.take (k + 1) = p.buf.take k ++ [p.buf.getD k []] := by rw [List.take_add_one, List.getElem?_eq_getElem (by omega), List.getD_eq_getElem?_getD, List.getElem?_eq_getElem (by omega)]; rfl
  rw [t1, t2, t3]
  exact ths_app _ _ _ _ _ _ (by simp only [List.length_take]; omega) (by simp only [List.length_take]; omega)
theorem take_next (r : List Int) (i : Nat) (h : i < r.length) : r.take (i + 1) = r.take i ++ [r.getD i 0] := by
  rw [List.take_add_one, List.getElem?_eq_getElem h, List.getD_eq_getElem?_getD, List.getElem?_eq_getElem h]; rfl
theorem ents_next (b : List Ent) (i : Nat) (h : i < b.length) : (b.take (i + 1)).flatMap entE = (b.take i).flatMap entE ++ [b[i].1, b[i].2] := by
  rw [List.take_add_one, List.getElem?_eq_getElem h, List.flatMap_append]; rfl
theorem up_len {p : Pf} (h : Small p) (k : Nat) (hk : k ≤ p.pc.length) : (upP p k).length ≤ (encP p).length := by
  have : ∃ post, thsE p.pc p.regs p.buf = upP p k ++ post := by
    induction hd : p.pc.length - k generalizing k with
    | zero =>
      refine ⟨[], ?_⟩
      rw [show k = p.pc.length by omega, up_all h.lr h.lb, List.append_nil]
    | succ n ih =>
      obtain ⟨post, e⟩ := ih (k + 1) (by omega) (by omega)
      rw [up_next h.lr h.lb k (by omega)] at e
      exact ⟨_, by rw [e, List.append_assoc]⟩
  obtain ⟨post, e⟩ := this
  unfold encP
  rw [e, List.length_append, List.length_append]
  omega

/-- The sum of the first lengths. -/
def sumF (f : Nat → Nat) : Nat → Nat
  | 0 => 0
  | k + 1 => sumF f k + f k
theorem sumF_map {α : Type} (g : α → Nat) (d : α) : ∀ l : List α, (l.map g).sum = sumF (fun k => g (l.getD k d)) l.length := by
  intro l
  suffices h : ∀ k, k ≤ l.length → ((l.take k).map g).sum = sumF (fun k => g (l.getD k d)) k by
    have := h l.length (Nat.le_refl _)
    rwa [List.take_length] at this
  intro k
  induction k with
  | zero => intro _; rfl
  | succ k ih =>
    intro hk
    rw [List.take_add_one, List.getElem?_eq_getElem hk, List.map_append, List.sum_append, ih (by omega)]
    show _ = _ + _
    congr 1
    simp [List.getD_eq_getElem?_getD, List.getElem?_eq_getElem hk]

end Go.Proofs.Ytmkgijedchpgcaa

namespace Go.Proofs.Ytmkgijedchpgcaa
set_option linter.unusedSimpArgs false
set_option linter.unusedVariables false
open Go.RowKit

theorem atZ_num (s : ByteArray) (i : Nat) (h : i < s.size) : atZ (numZ s) i = ((s[i]'h).toNat : Int) := by
  unfold atZ numZ
  rw [List.getD_eq_getElem?_getD, List.getElem?_map, List.getElem?_eq_getElem (show i < s.data.toList.length by rw [Array.length_toList]; exact h)]
  rfl
theorem atZ_out (s : ByteArray) (i : Nat) (h : s.size ≤ i) : atZ (numZ s) i = 0 := by
  unfold atZ
  rw [List.getD_eq_getElem?_getD, List.getElem?_eq_none (by rw [num_len]; exact h)]
  rfl

theorem rat_any (s : ByteArray) (i : Nat) (w : World) :
    Calls Try.prog 29 #[.string s, .int .i64 i] w fun e w' => e = .returned (.int .i64 (atZ (numZ s) i)) ∧ w = w' := by
  by_cases h : i < s.size
  · rw [atZ_num s i h]
    have h0 : (0 : Int) ≤ (i : Int) := by omega
    have h1 : (i : Int) < (s.size : Int) := by omega
    have h2 : ¬ (s.size : Int) ≤ (i : Int) := by omega
    have hw : wrap64 ((s[i]'h).toNat : Int) = ((s[i]'h).toNat : Int) := IntWalk.wrap64_in _ (by have h3 := (s[i]'h).toNat_lt; omega)
    go_enter Try.func29, Try.ntmps29
    go_wp2_with fail
    go_ret
    exact ⟨rfl, rfl⟩
  · rw [atZ_out s i (by omega)]
    have h2 : (s.size : Int) ≤ (i : Int) := by omega
    go_enter Try.func29, Try.ntmps29
    go_wp2_with fail
    go_ret
    exact ⟨rfl, rfl⟩

end Go.Proofs.Ytmkgijedchpgcaa
