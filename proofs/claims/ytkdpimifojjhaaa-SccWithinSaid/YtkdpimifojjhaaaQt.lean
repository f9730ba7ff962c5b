/- Layer 17: parts of a graph by a numbering and a rank; the fixed graph. -/
import Derived.Test.YtkdpimifojjhaaaQs
import Derived.Test.YtkdpimifojjhaaaNs
namespace Go.Proofs.Ytkdpimifojjhaaa
set_option linter.unusedSimpArgs false
set_option linter.unusedVariables false
open Go.RowKit

theorem pn_of {A : Nat → Nat → Prop} (n : Nat) (q f : Nat → Nat) (hc : Canon q n) (hA : ∀ u v, A u v → f v ≤ f u) (h1 : ∀ i j, i < n → j < n → f i = f j → q i = q j) (h2 : ∀ i j, i < n → j < n → q i = q j → Rea A i j) : (∀ i, i < n → pn (Mut A) i = q i) ∧ nx (pn (Mut A)) n = nx q n := by
  have hr : ∀ i j, Rea A i j → f j ≤ f i := by
    intro i j h
    induction h with
    | refl => exact Nat.le_refl _
    | tail _ e ih => exact Nat.le_trans (hA _ _ e) ih
  refine canon_one (pn_canon n) hc (fun i j hi hj => ?_) n (Nat.le_refl _)
  rw [pn_same]
  constructor
  · intro h
    exact h1 i j hi hj (Nat.le_antisymm (hr j i h.2) (hr i j h.1))
  · intro h
    exact ⟨h2 i j hi hj h, h2 j i hj hi h.symm⟩
theorem grp_congr {p q : Nat → Nat} (m n : Nat) (h : ∀ i, i < n → p i = q i) : grp p m n = grp q m n := by
  unfold grp
  refine tab_congr fun v _ => ?_
  congr 1
  refine List.filter_congr fun k hk => ?_
  rw [h k (List.mem_range.1 hk)]
theorem parG_of {g : Gr} (hr : rightG g = true) (n : Nat) (hn : numN g = n) (q f : Nat → Nat) (hc : Canon q n) (hA : ∀ u v, (egr g).A u v → f v ≤ f u) (h1 : ∀ i j, i < n → j < n → f i = f j → q i = q j) (h2 : ∀ i j, i < n → j < n → q i = q j → Rea (egr g).A i j) :
    parG g = tab n (fun i => (q i : Int)) ∧ grpG g = grp q (nx q n) n := by
  subst hn
  obtain ⟨e1, e2⟩ := pn_of (numN g) q f hc hA h1 h2
  constructor
  · unfold parG
    rw [if_pos hr]
    exact tab_congr fun i hi => by rw [show pnG g i = q i from e1 i hi]
  · unfold grpG
    rw [if_pos hr, show nx (pnG g) (numN g) = nx q (numN g) from e2]
    exact grp_congr _ _ e1
abbrev mL17 : List Edg := [(0, 0, 1), (1, 0, 0), (1, 0, 2), (3, 0, 3)]
abbrev mG17 : Gr := ⟨[0, 1, 3, 3, 4], [0, 0, 0, 0], [1, 0, 2, 3]⟩
abbrev mK17 : Gr := ⟨[0, 0, 0, 0, 0], [], []⟩
theorem kb1 : buildG 4 mL17 = mG17 ∧ buildE 4 mL17 = 0 := ⟨by kernel_rfl, by kernel_rfl⟩
theorem kb2 : keepZ mG17 [true, false, true] = mK17 := by kernel_rfl
theorem kb3 : rightG mG17 = true ∧ numN mG17 = 4 ∧ rightG mK17 = true ∧ numN mK17 = 4 ∧ rightG ⟨[], [], []⟩ = false := ⟨by kernel_rfl, by kernel_rfl, by kernel_rfl, by kernel_rfl, by kernel_rfl⟩
theorem kb4 : cycG mG17 [0, 1] = true ∧ cycG mG17 [2] = false ∧ cycG mG17 [3] = true := ⟨by kernel_rfl, by kernel_rfl, by kernel_rfl⟩
def lq (l : List Nat) (i : Nat) : Nat := l.getD i 0
theorem kp1 : parG mG17 = [0, 0, 1, 2] ∧ grpG mG17 = [[0, 1], [2], [3]] := by
  have hA : ∀ u v, (egr mG17).A u v → (u, v) = (0, 1) ∨ (u, v) = (1, 0) ∨ (u, v) = (1, 2) ∨ (u, v) = (3, 3) := by
    rintro u v ⟨hu, k, a1, a2, e⟩
    have hu : u < 4 := hu
    subst e
    match u, hu, a1, a2 with
    | 0, _, a1, a2 =>
      have a2 : k < 1 := a2
      obtain rfl : k = 0 := by omega
      exact .inl rfl
    | 1, _, a1, a2 =>
      have a1 : 1 ≤ k := a1
      have a2 : k < 3 := a2
      have h : k = 1 ∨ k = 2 := by omega
      rcases h with rfl | rfl
      · exact .inr (.inl rfl)
      · exact .inr (.inr (.inl rfl))
    | 2, _, a1, a2 =>
      have a1 : 3 ≤ k := a1
      have a2 : k < 3 := a2
      omega
    | 3, _, a1, a2 =>
      have a1 : 3 ≤ k := a1
      have a2 : k < 4 := a2
      obtain rfl : k = 3 := by omega
      exact .inr (.inr (.inr rfl))
  have e01 : (egr mG17).A 0 1 := ⟨by decide, 0, by decide, by decide, rfl⟩
  have e10 : (egr mG17).A 1 0 := ⟨by decide, 1, by decide, by decide, rfl⟩
  obtain ⟨h1, h2⟩ := parG_of kb3.1 4 kb3.2.1 (lq [0, 0, 1, 2]) (lq [1, 1, 0, 2]) (fun i hi => by
      match i, hi with
      | 0, _ => decide
      | 1, _ => decide
      | 2, _ => decide
      | 3, _ => decide) (fun u v h => by
      rcases hA u v h with e | e | e | e <;> (injection e with e1 e2; subst e1; subst e2; decide)) (fun i j hi hj h => by
      match i, hi, j, hj with
      | 0, _, 0, _ => rfl
      | 0, _, 1, _ => rfl
      | 0, _, 2, _ => exact absurd h (by decide)
      | 0, _, 3, _ => exact absurd h (by decide)
      | 1, _, 0, _ => rfl
      | 1, _, 1, _ => rfl
      | 1, _, 2, _ => exact absurd h (by decide)
      | 1, _, 3, _ => exact absurd h (by decide)
      | 2, _, 0, _ => exact absurd h (by decide)
      | 2, _, 1, _ => exact absurd h (by decide)
      | 2, _, 2, _ => rfl
      | 2, _, 3, _ => exact absurd h (by decide)
      | 3, _, 0, _ => exact absurd h (by decide)
      | 3, _, 1, _ => exact absurd h (by decide)
      | 3, _, 2, _ => exact absurd h (by decide)
      | 3, _, 3, _ => rfl) (fun i j hi hj h => by
      match i, hi, j, hj with
      | 0, _, 0, _ => exact Rea.refl _
      | 0, _, 1, _ => exact Rea.one e01
      | 0, _, 2, _ => exact absurd h (by decide)
      | 0, _, 3, _ => exact absurd h (by decide)
      | 1, _, 0, _ => exact Rea.one e10
      | 1, _, 1, _ => exact Rea.refl _
      | 1, _, 2, _ => exact absurd h (by decide)
      | 1, _, 3, _ => exact absurd h (by decide)
      | 2, _, 0, _ => exact absurd h (by decide)
      | 2, _, 1, _ => exact absurd h (by decide)
      | 2, _, 2, _ => exact Rea.refl _
      | 2, _, 3, _ => exact absurd h (by decide)
      | 3, _, 0, _ => exact absurd h (by decide)
      | 3, _, 1, _ => exact absurd h (by decide)
      | 3, _, 2, _ => exact absurd h (by decide)
      | 3, _, 3, _ => exact Rea.refl _)
  rw [h1, h2]
  exact ⟨by kernel_rfl, by kernel_rfl⟩
theorem kp2 : wthG mG17 [true, false, true] = [[0], [2]] := by
  unfold wthG
  rw [kb2]
  have hA : ∀ u v, ¬ (egr mK17).A u v := by
    rintro u v ⟨hu, k, a1, a2, e⟩
    have hu : u < 4 := hu
    match u, hu, a2 with
    | 0, _, a2 => exact absurd a2 (Nat.not_lt_zero k)
    | 1, _, a2 => exact absurd a2 (Nat.not_lt_zero k)
    | 2, _, a2 => exact absurd a2 (Nat.not_lt_zero k)
    | 3, _, a2 => exact absurd a2 (Nat.not_lt_zero k)
  obtain ⟨h1, h2⟩ := parG_of kb3.2.2.1 4 kb3.2.2.2.1 (fun i => i) (fun i => i) (fun i hi => by
      match i, hi with
      | 0, _ => decide
      | 1, _ => decide
      | 2, _ => decide
      | 3, _ => decide) (fun u v h => absurd h (hA u v)) (fun i j _ _ h => h) (fun i j _ _ h => by have h : i = j := h; subst h; exact Rea.refl _)
  rw [h2]
  show (grp (fun i => i) (nx (fun i => i) 4) 4).filter _ = _
  kernel_rfl
theorem kp3 : parG ⟨[], [], []⟩ = [] := by unfold parG; rw [if_neg (by rw [kb3.2.2.2.2]; decide)]

theorem GrD.sh17 {w : World} {vs va vt : Value} {g : Gr} (h : GrD w vs va vt g) : ∃ z1 n1 y1 z2 n2 y2 z3 n3 y3, vs = .slice z1 n1 y1 ∧ va = .slice z2 n2 y2 ∧ vt = .slice z3 n3 y3 := by
  obtain ⟨a1, p1, h1⟩ := h.s.shape0
  obtain ⟨a2, p2, h2⟩ := h.a.shape0
  obtain ⟨a3, p3, h3⟩ := h.t.shape0
  exact ⟨_, _, _, _, _, _, _, _, _, h1, h2, h3⟩
theorem allD_of_bk {w : World} {g : Nat} {cs : Array Value} {zs : List (List Int × Value)} (h : Bk w g 22 cs) (hcs : cs.toList = zs.map (·.2)) (hz : ∀ z ∈ zs, IntsD w z.2 z.1) (hl : zs.length ≤ 1000000) : AllD w (.slice (some ⟨g, 0, none⟩) zs.length zs.length) zs := by
  have e : zs.map (·.2) = zs.flatMap fun x => [x.2] := by
    clear hcs hz hl
    induction zs with
    | nil => rfl
    | cons a l ih => simp [List.flatMap_cons, ← List.map_eq_flatMap]
  exact slD_of_bk (fun x : List Int × Value => [x.2]) 1 (fun _ => rfl) h (hcs.trans e) hl fun i hi hk => ⟨hk 0 (by decide), hz _ (List.getElem_mem hi)⟩
theorem lit3 (W : World) : ∃ zs, fsts zs = [[0, 1], [2], [3]] ∧ zs.length = 3 ∧ AllD ((((W.alloc (.cells #[.int .i64 0, .int .i64 1] 3)).alloc (.cells #[.int .i64 2] 3)).alloc (.cells #[.int .i64 3] 3)).alloc (.cells #[.slice (some ⟨W.heap.size, 0, none⟩) 2 2, .slice (some ⟨W.heap.size + 1, 0, none⟩) 1 1, .slice (some ⟨W.heap.size + 1 + 1, 0, none⟩) 1 1] 22)) (.slice (some ⟨W.heap.size + 1 + 1 + 1, 0, none⟩) 3 3) zs := by
  refine ⟨[([0, 1], .slice (some ⟨W.heap.size, 0, none⟩) 2 2), ([2], .slice (some ⟨W.heap.size + 1, 0, none⟩) 1 1), ([3], .slice (some ⟨W.heap.size + 1 + 1, 0, none⟩) 1 1)], rfl, rfl, ?_⟩
  refine allD_of_bk (zs := [([0, 1], .slice (some ⟨W.heap.size, 0, none⟩) 2 2), ([2], .slice (some ⟨W.heap.size + 1, 0, none⟩) 1 1), ([3], .slice (some ⟨W.heap.size + 1 + 1, 0, none⟩) 1 1)]) (cs := #[.slice (some ⟨W.heap.size, 0, none⟩) 2 2, .slice (some ⟨W.heap.size + 1, 0, none⟩) 1 1, .slice (some ⟨W.heap.size + 1 + 1, 0, none⟩) 1 1]) (bk_at (by simp only [alloc_size])) rfl (fun z hz => ?_) (by simp)
  simp only [List.mem_cons, List.not_mem_nil, or_false] at hz
  rcases hz with rfl | rfl | rfl
  · exact BkI.ints (l := [0, 1]) (bk_alloc (bk_alloc (bk_alloc (Bk.new W _ _) _) _) _) rfl (by decide)
  · exact BkI.ints (l := [2]) (bk_alloc (bk_alloc (bk_at (by simp only [alloc_size])) _) _) rfl (by decide)
  · exact BkI.ints (l := [3]) (bk_alloc (bk_at (by simp only [alloc_size])) _) rfl (by decide)
theorem lit2 (W : World) : ∃ zs, fsts zs = [[0], [2]] ∧ zs.length = 2 ∧ AllD (((W.alloc (.cells #[.int .i64 0] 3)).alloc (.cells #[.int .i64 2] 3)).alloc (.cells #[.slice (some ⟨W.heap.size, 0, none⟩) 1 1, .slice (some ⟨W.heap.size + 1, 0, none⟩) 1 1] 22)) (.slice (some ⟨W.heap.size + 1 + 1, 0, none⟩) 2 2) zs := by
  refine ⟨[([0], .slice (some ⟨W.heap.size, 0, none⟩) 1 1), ([2], .slice (some ⟨W.heap.size + 1, 0, none⟩) 1 1)], rfl, rfl, ?_⟩
  refine allD_of_bk (zs := [([0], .slice (some ⟨W.heap.size, 0, none⟩) 1 1), ([2], .slice (some ⟨W.heap.size + 1, 0, none⟩) 1 1)]) (cs := #[.slice (some ⟨W.heap.size, 0, none⟩) 1 1, .slice (some ⟨W.heap.size + 1, 0, none⟩) 1 1]) (bk_at (by simp only [alloc_size])) rfl (fun z hz => ?_) (by simp)
  simp only [List.mem_cons, List.not_mem_nil, or_false] at hz
  rcases hz with rfl | rfl
  · exact BkI.ints (l := [0]) (bk_alloc (bk_alloc (Bk.new W _ _) _) _) rfl (by decide)
  · exact BkI.ints (l := [2]) (bk_alloc (bk_at (by simp only [alloc_size])) _) rfl (by decide)

end Go.Proofs.Ytkdpimifojjhaaa
