/- What flawed and the reference's node tell of a node. -/
import Derived.Test.YtifbhlgingaahaaDoorNb
import Derived.Laws.StructEq
namespace Go.Proofs.YtifbhlgingaahaaDoor
open Go.RowKit

/-- Whether a node has what its operator asks. -/
def okN (x : Nd) : Bool := decide (0 ≤ x.pl) &&
  if x.op = 1 then numB x.n && (decide (x.nm.size = 0) && decide (x.inn.size = 0))
  else if x.op = 2 ∨ x.op = 3 then decide (x.n = 0) && (nameB x.nm && decide (x.inn.size = 0))
  else if x.op = 4 then decide (x.n = 0) && (nameB x.nm && nameB x.inn)
  else decide (x.n = 0) && (decide (x.nm.size = 0) && decide (x.inn.size = 0))

theorem empty_of_size (s : ByteArray) (h : s.size = 0) : s = ⟨#[]⟩ := ByteArray.ext (Array.eq_empty_of_size_eq_zero h)
theorem empty_test (s : ByteArray) : (s.toList == (⟨#[]⟩ : ByteArray).toList) = decide (s.size = 0) := by
  rw [Lib.toList_data, Lib.toList_data, Lib.size_eq]
  cases s.data.toList <;> simp

def nodeV' (x : Nd) : Value := .agg #[.int .i64 x.op, .int .i64 x.n, .string x.nm, .string x.inn, .int .i64 x.pl]

theorem name_is2 (s : ByteArray) (w : World) (hs : s.size ≤ 100000) (b : Bool) (h : nameB s = b) : Calls Tryd.prog 34 #[.string s] w fun e w' => e = .returned (.bool b) ∧ Below w.heap.size w w' := by
  subst h; exact name_any s w (by unfold maxLen; omega)
theorem rname_is2 (s : ByteArray) (w : World) (hs : s.size ≤ 100000) (b : Bool) (h : nameB s = b) : Calls Tryd.prog 35 #[.string s] w fun e w' => e = .returned (.bool b) ∧ Below w.heap.size w w' := by
  subst h; exact rname_any s w (by unfold maxLen; omega)

theorem size_nil (s : ByteArray) : s.toList = [] ↔ s.size = 0 := by
  rw [Lib.toList_data, Lib.size_eq]
  constructor
  · intro h; rw [h]; rfl
  · intro h; exact List.eq_nil_of_length_eq_zero h
theorem empty_emp (s : ByteArray) : s.toList.isEmpty = decide (s.size = 0) := by
  rw [Lib.toList_data, Lib.size_eq]
  cases s.data.toList <;> simp
theorem below_two_new (w : World) (o1 o2 : Obj) : Below w.heap.size w ((w.alloc o1).alloc o2) := ((Below.refl _ _).alloc (Nat.le_refl _) _).alloc (by simp) _
theorem below_three {w w3 : World} {o1 o2 : Obj} (h : Below ((w.alloc o1).alloc o2).heap.size ((w.alloc o1).alloc o2) w3) : Below w.heap.size w w3 := (below_two_new w o1 o2).trans (h.mono (by simp; omega))

set_option maxHeartbeats 2000000 in
theorem flawed_not (x : Nd) (w : World) (ho : ((x.op == 1) = false) ∧ ((x.op == 2) = false) ∧ ((x.op == 3) = false) ∧ ((x.op == 4) = false)) (hz : x.nm.size ≤ 100000 ∧ x.inn.size ≤ 100000) :
    Calls Tryd.prog 22 #[nodeV' x] w fun e w' => e = .returned (.bool (!okN x)) ∧ Below w.heap.size w w' := by
  obtain ⟨xo, xn, xm, xi, xp⟩ := x
  unfold nodeV'
  simp only [] at *
  obtain ⟨o1, o2, o3, o4⟩ := ho
  go_enter Tryd.func22, Tryd.ntmps22
  go_wp2
  all_goals
    go_ret
    exact ⟨ret_bool (by simp_all [okN, size_nil]), below_two_new _ _ _⟩

set_option maxHeartbeats 2000000 in
theorem flawed_num (x : Nd) (w : World) (ho : x.op = 1) (hz : x.nm.size ≤ 100000 ∧ x.inn.size ≤ 100000) :
    Calls Tryd.prog 22 #[nodeV' x] w fun e w' => e = .returned (.bool (!okN x)) ∧ Below w.heap.size w w' := by
  obtain ⟨xo, xn, xm, xi, xp⟩ := x
  unfold nodeV'
  simp only [] at *
  subst ho
  have HN := fun w => number_any xn w
  obtain ⟨r, hr⟩ : ∃ r, numB xn = r := ⟨_, rfl⟩
  rw [hr] at HN
  have HR := Lib.hid hr
  clear hr
  by_cases hp : 0 ≤ xp
  all_goals cases r
  all_goals
    go_enter Tryd.func22, Tryd.ntmps22
    go_wp2_with (go_at_call 33; refine (HN _).mono ?_; rintro e w2 ⟨rfl, rfl⟩)
    all_goals
      go_ret
      exact ⟨ret_bool (by have := HR.out; simp_all [okN, size_nil]), below_two_new _ _ _⟩

/-- A node's block. -/
def BlkN (W : World) (b : Nat) (x : Nd) : Prop := W.heap[b]? = some (.cells #[.int .i64 x.op, .int .i64 x.n, .string x.nm, .string x.inn, .int .i64 x.pl] 32 (0, 0))
theorem BlkN.facts {W : World} {b : Nat} {x : Nd} (h : BlkN W b x) :
    (W.cell? ⟨b, 0, none⟩ = some (.int .i64 x.op) ∧ W.cell? ⟨b, 1, none⟩ = some (.int .i64 x.n) ∧ W.cell? ⟨b, 2, none⟩ = some (.string x.nm) ∧ W.cell? ⟨b, 3, none⟩ = some (.string x.inn) ∧ W.cell? ⟨b, 4, none⟩ = some (.int .i64 x.pl)) := by
  unfold BlkN at h
  simp [World.cell?, h]
theorem blk_first {w w3 : World} {o1 o2 : Obj} (h : Below ((w.alloc o1).alloc o2).heap.size ((w.alloc o1).alloc o2) w3) : w3.heap[w.heap.size]? = some o1 := by
  rw [h.block _ (by simp; omega), Below.heap_alloc _ _ _ (by simp)]
  exact heap_alloc_new w o1
theorem blk_second {w w3 : World} {o1 o2 : Obj} (h : Below ((w.alloc o1).alloc o2).heap.size ((w.alloc o1).alloc o2) w3) : w3.heap[w.heap.size + 1]? = some o2 := by
  rw [h.block _ (by simp)]
  have := heap_alloc_new (w.alloc o1) o2
  simpa using this

set_option maxHeartbeats 4000000 in
theorem flawed_name (x : Nd) (w : World) (ho : x.op = 2 ∨ x.op = 3) (hz : x.nm.size ≤ 100000 ∧ x.inn.size ≤ 100000) :
    Calls Tryd.prog 22 #[nodeV' x] w fun e w' => e = .returned (.bool (!okN x)) ∧ Below w.heap.size w w' := by
  obtain ⟨xo, xn, xm, xi, xp⟩ := x
  unfold nodeV'
  simp only [] at *
  obtain ⟨r, hr⟩ : ∃ r, nameB xm = r := ⟨_, rfl⟩
  have HN := fun w => name_is2 xm w hz.1 r hr
  have HR := Lib.hid hr
  clear hr
  by_cases hp : 0 ≤ xp
  · rcases ho with rfl | rfl
    all_goals
      go_enter Tryd.func22, Tryd.ntmps22
      go_wp2_with fail
      refine (HN _).mono ?_
      rintro e w3 ⟨rfl, hb3⟩
      have hA : BlkN w3 w.heap.size ⟨_, xn, xm, xi, xp⟩ := blk_first hb3
      have hB : BlkN w3 (w.heap.size + 1) ⟨_, 0, xm, ⟨#[]⟩, xp⟩ := blk_second hb3
      obtain ⟨a0, a1, a2, a3, a4⟩ := hA.facts
      obtain ⟨b0, b1, b2, b3, b4⟩ := hB.facts
      simp only [] at a0 a1 a2 a3 a4 b0 b1 b2 b3 b4
      clear hA hB
      cases r
      all_goals
        go_wp2
        all_goals
          go_ret
          exact ⟨ret_bool (by have := HR.out; simp_all [okN, size_nil]), below_three hb3⟩
  · rcases ho with rfl | rfl
    all_goals
      go_enter Tryd.func22, Tryd.ntmps22
      go_wp2
      all_goals
        go_ret
        exact ⟨ret_bool (by simp_all [okN]), below_two_new _ _ _⟩

set_option maxHeartbeats 4000000 in
theorem flawed_of (x : Nd) (w : World) (ho : x.op = 4) (hz : x.nm.size ≤ 100000 ∧ x.inn.size ≤ 100000) :
    Calls Tryd.prog 22 #[nodeV' x] w fun e w' => e = .returned (.bool (!okN x)) ∧ Below w.heap.size w w' := by
  obtain ⟨xo, xn, xm, xi, xp⟩ := x
  unfold nodeV'
  simp only [] at *
  subst ho
  obtain ⟨r, hr⟩ : ∃ r, nameB xm = r := ⟨_, rfl⟩
  have HN := fun w => name_is2 xm w hz.1 r hr
  obtain ⟨q, hq⟩ : ∃ q, nameB xi = q := ⟨_, rfl⟩
  have HM := fun w => name_is2 xi w hz.2 q hq
  have HR := Lib.hid hr
  have HQ := Lib.hid hq
  clear hr hq
  by_cases hp : 0 ≤ xp
  · go_enter Tryd.func22, Tryd.ntmps22
    go_wp2_with fail
    go_region
    go_wp2_with fail
    refine (HN _).mono ?_
    rintro e w3 ⟨rfl, hb3'⟩
    have hb3 := ((Below.refl _ ((w.alloc (.cells #[.int .i64 4, .int .i64 xn, .string xm, .string xi, .int .i64 xp] 32)).alloc (.cells #[.int .i64 4, .int .i64 0, .string xm, .string xi, .int .i64 xp] 32))).drew).trans hb3'
    clear hb3'
    cases r with
    | false =>
      go_wp2
      all_goals
        go_ret
        exact ⟨ret_bool (by have := HR.out; simp_all [okN]), below_three hb3⟩
    | true =>
      have hA : BlkN w3 w.heap.size ⟨4, xn, xm, xi, xp⟩ := blk_first hb3
      obtain ⟨a0, a1, a2, a3, a4⟩ := hA.facts
      simp only [] at a0 a1 a2 a3 a4
      clear hA
      go_wp2_with fail
      refine (HM _).mono ?_
      rintro e w4 ⟨rfl, hb4'⟩
      clear a0 a1 a2 a3 a4
      have hb4 := hb3.trans (hb4'.mono hb3.size)
      clear hb4' hb3
      have hA : BlkN w4 w.heap.size ⟨4, xn, xm, xi, xp⟩ := blk_first hb4
      have hB : BlkN w4 (w.heap.size + 1) ⟨4, 0, xm, xi, xp⟩ := blk_second hb4
      obtain ⟨a0, a1, a2, a3, a4⟩ := hA.facts
      obtain ⟨b0, b1, b2, b3, b4⟩ := hB.facts
      simp only [] at a0 a1 a2 a3 a4 b0 b1 b2 b3 b4
      clear hA hB
      cases q
      all_goals
        go_wp2
        all_goals
          go_ret
          exact ⟨ret_bool (by have := HR.out; have := HQ.out; simp_all [okN]), below_three hb4⟩
  · go_enter Tryd.func22, Tryd.ntmps22
    go_wp2
    go_region
    go_wp2
    go_ret
    exact ⟨ret_bool (by simp_all [okN]), (below_two_new w _ _).drew⟩

theorem flawed_any (x : Nd) (w : World) (hz : x.nm.size ≤ 100000 ∧ x.inn.size ≤ 100000) :
    Calls Tryd.prog 22 #[nodeV' x] w fun e w' => e = .returned (.bool (!okN x)) ∧ Below w.heap.size w w' := by
  by_cases h1 : x.op = 1
  · exact flawed_num x w h1 hz
  · by_cases h2 : x.op = 2 ∨ x.op = 3
    · exact flawed_name x w h2 hz
    · by_cases h4 : x.op = 4
      · exact flawed_of x w h4 hz
      · exact flawed_not x w ⟨by simpa using h1, by simp; omega, by simp; omega, by simpa using h4⟩ hz

set_option maxHeartbeats 4000000 in
theorem rnode_plain (x : Nd) (w : World) (ho : ((x.op == 2) = false) ∧ ((x.op == 3) = false) ∧ ((x.op == 4) = false)) :
    Calls Tryd.prog 24 #[nodeV' x] w fun e w' => e = .returned (.bool (okN x)) ∧ Below w.heap.size w w' := by
  obtain ⟨xo, xn, xm, xi, xp⟩ := x
  unfold nodeV'
  simp only [] at *
  obtain ⟨o2, o3, o4⟩ := ho
  go_enter Tryd.func24, Tryd.ntmps24
  go_wp2
  all_goals
    go_ret
    exact ⟨ret_bool (by rw [Bool.eq_iff_iff]; simp_all [okN, size_nil, numB]; try omega), (Below.refl _ _).alloc (Nat.le_refl _) _⟩

theorem below_one {w w3 : World} {o1 : Obj} (h : Below (w.alloc o1).heap.size (w.alloc o1) w3) : Below w.heap.size w w3 := below_new h

set_option maxHeartbeats 4000000 in
theorem rnode_name (x : Nd) (w : World) (ho : x.op = 2 ∨ x.op = 3) (hz : x.nm.size ≤ 100000 ∧ x.inn.size ≤ 100000) :
    Calls Tryd.prog 24 #[nodeV' x] w fun e w' => e = .returned (.bool (okN x)) ∧ Below w.heap.size w w' := by
  obtain ⟨xo, xn, xm, xi, xp⟩ := x
  unfold nodeV'
  simp only [] at *
  obtain ⟨r, hr⟩ : ∃ r, nameB xm = r := ⟨_, rfl⟩
  have HN := fun w => rname_is2 xm w hz.1 r hr
  have HR := Lib.hid hr
  clear hr
  by_cases hp : 0 ≤ xp
  · by_cases hn : xn = 0
    · subst hn
      rcases ho with rfl | rfl
      all_goals
        go_enter Tryd.func24, Tryd.ntmps24
        go_wp2_with fail
        refine (HN _).mono ?_
        rintro e w3 ⟨rfl, hb3⟩
        have hA : BlkN w3 w.heap.size ⟨_, 0, xm, xi, xp⟩ := (hb3.block w.heap.size (by simp)).trans (heap_alloc_new w _)
        obtain ⟨a0, a1, a2, a3, a4⟩ := hA.facts
        simp only [] at a0 a1 a2 a3 a4
        clear hA
        cases r
        all_goals
          go_wp2
          all_goals
            go_ret
            exact ⟨ret_bool (by have := HR.out; simp_all [okN, empty_emp]), below_one hb3⟩
    · rcases ho with rfl | rfl
      all_goals
        go_enter Tryd.func24, Tryd.ntmps24
        go_wp2
        all_goals
          go_ret
          exact ⟨ret_bool (by simp_all [okN] <;> (intros; omega)), (Below.refl _ _).alloc (Nat.le_refl _) _⟩
  · rcases ho with rfl | rfl
    all_goals
      go_enter Tryd.func24, Tryd.ntmps24
      go_wp2
      all_goals
        go_ret
        exact ⟨ret_bool (by simp_all [okN] <;> (intros; omega)), (Below.refl _ _).alloc (Nat.le_refl _) _⟩

set_option maxHeartbeats 4000000 in
theorem rnode_of (x : Nd) (w : World) (ho : x.op = 4) (hz : x.nm.size ≤ 100000 ∧ x.inn.size ≤ 100000) :
    Calls Tryd.prog 24 #[nodeV' x] w fun e w' => e = .returned (.bool (okN x)) ∧ Below w.heap.size w w' := by
  obtain ⟨xo, xn, xm, xi, xp⟩ := x
  unfold nodeV'
  simp only [] at *
  subst ho
  obtain ⟨r, hr⟩ : ∃ r, nameB xm = r := ⟨_, rfl⟩
  have HN := fun w => rname_is2 xm w hz.1 r hr
  obtain ⟨q, hq⟩ : ∃ q, nameB xi = q := ⟨_, rfl⟩
  have HM := fun w => rname_is2 xi w hz.2 q hq
  have HR := Lib.hid hr
  have HQ := Lib.hid hq
  clear hr hq
  by_cases hp : 0 ≤ xp
  · by_cases hn : xn = 0
    · subst hn
      go_enter Tryd.func24, Tryd.ntmps24
      go_wp2_with fail
      refine (HN _).mono ?_
      rintro e w3 ⟨rfl, hb3⟩
      have hA : BlkN w3 w.heap.size ⟨4, 0, xm, xi, xp⟩ := (hb3.block w.heap.size (by simp)).trans (heap_alloc_new w _)
      obtain ⟨a0, a1, a2, a3, a4⟩ := hA.facts
      simp only [] at a0 a1 a2 a3 a4
      clear hA
      cases r with
      | false =>
        go_wp2
        all_goals
          go_ret
          exact ⟨ret_bool (by have := HR.out; simp_all [okN]), below_one hb3⟩
      | true =>
        go_wp2_with fail
        refine (HM _).mono ?_
        rintro e w4 ⟨rfl, hb4'⟩
        go_wp2
        all_goals
          go_ret
          exact ⟨ret_bool (by have := HR.out; have := HQ.out; simp_all [okN]), below_one (hb3.trans (hb4'.mono hb3.size))⟩
    · go_enter Tryd.func24, Tryd.ntmps24
      go_wp2
      all_goals
        go_ret
        exact ⟨ret_bool (by simp_all [okN] <;> (intros; omega)), (Below.refl _ _).alloc (Nat.le_refl _) _⟩
  · go_enter Tryd.func24, Tryd.ntmps24
    go_wp2
    all_goals
      go_ret
      exact ⟨ret_bool (by simp_all [okN] <;> (intros; omega)), (Below.refl _ _).alloc (Nat.le_refl _) _⟩

theorem rnode_any (x : Nd) (w : World) (hz : x.nm.size ≤ 100000 ∧ x.inn.size ≤ 100000) (b : Bool) (hb : okN x = b) :
    Calls Tryd.prog 24 #[nodeV' x] w fun e w' => e = .returned (.bool b) ∧ Below w.heap.size w w' := by
  subst hb
  by_cases h2 : x.op = 2 ∨ x.op = 3
  · exact rnode_name x w h2 hz
  · by_cases h4 : x.op = 4
    · exact rnode_of x w h4 hz
    · exact rnode_plain x w ⟨by simp; omega, by simp; omega, by simpa using h4⟩

end Go.Proofs.YtifbhlgingaahaaDoor
