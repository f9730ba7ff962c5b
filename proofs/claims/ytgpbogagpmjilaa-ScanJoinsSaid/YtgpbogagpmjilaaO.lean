/- What the law's known does: it returns true. -/
import Derived.Test.YtgpbogagpmjilaaK
import Derived.Test.YtgpbogagpmjilaaN
namespace Go.Proofs.Ytgpbogagpmjilaa
open Go.RowKit

/-- A token as it lies in memory. -/
def tv (t : Tok) : TokV := (t.1, ⟨t.2.1.toArray⟩, t.2.2.1, t.2.2.2)

theorem rowOf_length (l : List Tok) : (rowOf l).length = l.length * 4 := by
  unfold rowOf
  induction l with
  | nil => rfl
  | cons a l ih => simp only [List.flatMap_cons, List.length_append, ih, List.length_cons, cellsOf, List.length_nil]; omega

theorem rowOf_at (l : List Tok) : ∀ i, (h : i < l.length) → (rowOf l)[i * 4]? = some (.int .i64 (l[i]).1) ∧ (rowOf l)[i * 4 + 1]? = some (.string ⟨(l[i]).2.1.toArray⟩) ∧ (rowOf l)[i * 4 + 2]? = some (.int .i64 (l[i]).2.2.1) ∧ (rowOf l)[i * 4 + 3]? = some (.int .i64 (l[i]).2.2.2) := by
  induction l with
  | nil => intro i h; exact absurd h (Nat.not_lt_zero _)
  | cons a l ih =>
    intro i h
    cases i with
    | zero => exact ⟨rfl, rfl, rfl, rfl⟩
    | succ i =>
      have e : ∀ j, (rowOf (a :: l))[(i + 1) * 4 + j]? = (rowOf l)[i * 4 + j]? := by
        intro j
        show (cellsOf a ++ rowOf l)[(i + 1) * 4 + j]? = _
        rw [List.getElem?_append_right (by simp only [cellsOf, List.length_cons, List.length_nil]; omega)]
        congr 1
        simp only [cellsOf, List.length_cons, List.length_nil]; omega
      have := ih i (by simpa using h)
      refine ⟨(e 0).trans this.1, (e 1).trans this.2.1, (e 2).trans this.2.2.1, (e 3).trans this.2.2.2⟩

theorem addr_add (g j : Nat) : (⟨g, 0, none⟩ : Addr).add j = ⟨g, j, none⟩ := by unfold Addr.add; split <;> simp_all

theorem toks_own {w : World} {B : Nat} {v : Value} {l : List Tok} (h : w.ownsRow B 29 4 v l.length (rowOf l)) : Toks w v (l.map tv) := by
  have hl := h.lt
  have hc := @World.ownsRow.cells _ _ _ _ _ _ _ h
  rcases h.2 with ⟨rfl, h0⟩ | ⟨g, cap, cur, rfl, hb, hg, _⟩
  · obtain rfl := List.eq_nil_of_length_eq_zero h0
    exact .inl ⟨rfl, none, 0, rfl⟩
  · refine .inr ⟨g, 0, cap, by rw [List.length_map], (hl g rfl).2, fun i hi => ?_⟩
    have hi' : i < l.length := by simpa using hi
    obtain ⟨r0, r1, r2, r3⟩ := rowOf_at l i hi'
    have k0 := hc (g := g) rfl _ _ r0
    have k1 := hc (g := g) rfl _ _ r1
    have k2 := hc (g := g) rfl _ _ r2
    have k3 := hc (g := g) rfl _ _ r3
    rw [addr_add] at k0 k1 k2 k3
    rw [List.getElem_map, Nat.zero_add]
    exact ⟨k0, k1, k2, k3⟩

def T1 : List Tok := [(1, [97], 0, 0), (3, [61], 0, 1), (1, [98], 0, 2), (3, [61, 61], 0, 3), (2, [49], 1, 5)]
theorem k1 : scanL [97, 61, 98, 61, 61, 49, 32, 35, 32, 110, 111] = (T1, 0, 0) := by decide +kernel
theorem k2 : scanL [97, 32, 36] = ([], 3, 2) := by decide +kernel
theorem k3 : scanL [32, 49, 48, 48, 48, 48] = ([], 4, 1) := by decide +kernel

theorem scan_k1 (w : World) : Calls Try.prog 9 #[.string ⟨#[97, 61, 98, 61, 61, 49, 32, 35, 32, 110, 111]⟩] w fun e w' => ∃ g cap, e = .returned (.tuple #[.slice (some ⟨g, 0, none⟩) 5 cap, .int .i64 0, .int .i64 0]) ∧ w'.ownsRow w.heap.size 29 4 (.slice (some ⟨g, 0, none⟩) 5 cap) 5 (rowOf T1) ∧ Below w.heap.size w w' := by
  refine (scan_any ⟨#[97, 61, 98, 61, 61, 49, 32, 35, 32, 110, 111]⟩ w (by decide)).mono ?_
  rintro e w' ⟨v, he, ho, hb⟩
  rw [k1] at he ho
  rcases ho.2 with ⟨_, h0⟩ | ⟨g, cap, cur, rfl, _⟩
  · cases h0
  · exact ⟨g, cap, he, ho, hb⟩
theorem scan_k2 (w : World) : Calls Try.prog 9 #[.string ⟨#[97, 32, 36]⟩] w fun e w' => ∃ v, e = .returned (.tuple #[v, .int .i64 3, .int .i64 2]) ∧ Below w.heap.size w w' := by
  refine (scan_any ⟨#[97, 32, 36]⟩ w (by decide)).mono ?_
  rintro e w' ⟨v, he, _, hb⟩
  rw [k2] at he
  exact ⟨v, he, hb⟩
theorem scan_k3 (w : World) : Calls Try.prog 9 #[.string ⟨#[32, 49, 48, 48, 48, 48]⟩] w fun e w' => ∃ v, e = .returned (.tuple #[v, .int .i64 4, .int .i64 1]) ∧ Below w.heap.size w w' := by
  refine (scan_any ⟨#[32, 49, 48, 48, 48, 48]⟩ w (by decide)).mono ?_
  rintro e w' ⟨v, he, _, hb⟩
  rw [k3] at he
  exact ⟨v, he, hb⟩

theorem kw_fadd : kw ⟨#[102, 97, 100, 100]⟩ = true := by rw [kw_mem]; decide +kernel
theorem nm_fadd (w : World) : Calls Try.prog 14 #[.string ⟨#[102, 97, 100, 100]⟩] w fun e w' => e = .returned (.bool false) ∧ Below w.heap.size w w' := by
  have h := name_any ⟨#[102, 97, 100, 100]⟩ w (by decide)
  rw [nameB_kw _ kw_fadd] at h
  exact h
theorem nm_x1 (w : World) : Calls Try.prog 14 #[.string ⟨#[120, 95, 49]⟩] w fun e w' => e = .returned (.bool true) ∧ Below w.heap.size w w' := by
  have h := name_any ⟨#[120, 95, 49]⟩ w (by decide)
  have e : nameB ⟨#[120, 95, 49]⟩ = true := by unfold nameB; rw [kw_mem]; decide +kernel
  rw [e] at h
  exact h
theorem nm_1x (w : World) : Calls Try.prog 14 #[.string ⟨#[49, 120]⟩] w fun e w' => e = .returned (.bool false) ∧ Below w.heap.size w w' := by
  have h := name_any ⟨#[49, 120]⟩ w (by decide)
  have e : nameB ⟨#[49, 120]⟩ = false := by unfold nameB; rw [kw_mem]; decide +kernel
  rw [e] at h
  exact h
theorem show_k {w : World} {v : Value} (h : Toks w v (T1.map tv)) : Calls Try.prog 16 #[v] w fun e w' => e = .returned (.string ⟨#[97, 32, 61, 32, 98, 32, 61, 61, 32, 49]⟩) ∧ Below w.heap.size w w' := by
  have := show_any v (T1.map tv) w h (by decide) (by decide)
  exact this

set_option maxHeartbeats 2000000 in
theorem known_any (w : World) : Calls Try.prog 8 #[] w fun e w' => e = .returned (.bool true) ∧ Below w.heap.size w w' := by
  go_enter Try.func8, Try.ntmps8
  go_wp2_with fail
  refine (scan_k1 _).mono ?_
  rintro e w1 ⟨g, cap, rfl, ho, hb1⟩
  go_wp2_with fail
  refine (scan_k2 _).mono ?_
  rintro e w2 ⟨v2, rfl, hb2⟩
  have ho2 := own_below ho hb2
  have hbb2 := hb1.trans (hb2.mono hb1.size)
  clear ho hb1 hb2
  go_wp2_with fail
  refine (scan_k3 _).mono ?_
  rintro e w3 ⟨v3, rfl, hb3⟩
  have ho3 := own_below ho2 hb3
  have hbb3 := hbb2.trans (hb3.mono hbb2.size)
  clear ho2 hbb2 hb3
  have hc := ho3.cells (g := g) rfl
  have c5 : w3.cell? ⟨g, 5, none⟩ = some (.string ⟨#[61]⟩) := by rw [← addr_add]; exact hc 5 _ rfl
  have c13 : w3.cell? ⟨g, 13, none⟩ = some (.string ⟨#[61, 61]⟩) := by rw [← addr_add]; exact hc 13 _ rfl
  have c16 : w3.cell? ⟨g, 16, none⟩ = some (.int .i64 2) := by rw [← addr_add]; exact hc 16 _ rfl
  have c17 : w3.cell? ⟨g, 17, none⟩ = some (.string ⟨#[49]⟩) := by rw [← addr_add]; exact hc 17 _ rfl
  have c18 : w3.cell? ⟨g, 18, none⟩ = some (.int .i64 1) := by rw [← addr_add]; exact hc 18 _ rfl
  have c19 : w3.cell? ⟨g, 19, none⟩ = some (.int .i64 5) := by rw [← addr_add]; exact hc 19 _ rfl
  clear hc
  go_wp2_with (first
    | (go_at_call 12; refine (keyword_yes _ _ kw_fadd).mono ?_; rintro e w4 ⟨rfl, rfl⟩))
  refine (nm_fadd _).mono ?_
  rintro e w4 ⟨rfl, hb4⟩
  have ho4 := own_below ho3 hb4
  have hbb4 := hbb3.trans (hb4.mono hbb3.size)
  clear ho3 hbb3 hb4 c5 c13 c16 c17 c18 c19
  go_wp2_with fail
  refine (nm_x1 _).mono ?_
  rintro e w5 ⟨rfl, hb5⟩
  have ho5 := own_below ho4 hb5
  have hbb5 := hbb4.trans (hb5.mono hbb4.size)
  clear ho4 hbb4 hb5
  go_wp2_with fail
  refine (nm_1x _).mono ?_
  rintro e w6 ⟨rfl, hb6⟩
  have ho6 := own_below ho5 hb6
  have hbb6 := hbb5.trans (hb6.mono hbb5.size)
  clear ho5 hbb5 hb6
  go_wp2_with fail
  refine (show_k (toks_own ho6)).mono ?_
  rintro e w7 ⟨rfl, hb7⟩
  go_wp2
  go_ret
  exact ⟨rfl, hbb6.trans (hb7.mono hbb6.size)⟩

end Go.Proofs.Ytgpbogagpmjilaa
