/- What flawed and the reference's node tell of a node. Trees and their rows of nodes; what height does. -/
import Derived.Test.YtlpgafgiljffhaaGreatDoorNa
import Derived.Laws.StructEq
namespace Go.Proofs.YtlpgafgiljffhaaGreatDoor
open Go.RowKit
def okN (x : Nd) : Bool := decide (0 ≤ x.pl) &&
  if x.op = 1 then numB x.n && (decide (x.nm.size = 0) && decide (x.inn.size = 0))
  else if x.op = 2 ∨ x.op = 3 then decide (x.n = 0) && (nameB x.nm && decide (x.inn.size = 0))
  else if x.op = 4 then decide (x.n = 0) && (nameB x.nm && nameB x.inn)
  else decide (x.n = 0) && (decide (x.nm.size = 0) && decide (x.inn.size = 0))
theorem empty_of_size (s : ByteArray) (h : s.size = 0) : s = ⟨#[]⟩ := ByteArray.ext (Array.eq_empty_of_size_eq_zero h)
def nodeV' (x : Nd) : Value := .agg #[.int .i64 x.op, .int .i64 x.n, .string x.nm, .string x.inn, .int .i64 x.pl]
theorem name_is2 (s : ByteArray) (w : World) (hs : s.size ≤ 100000) (b : Bool) (h : nameB s = b) : Calls Tryz.prog 68 #[.string s] w fun e w' => e = .returned (.bool b) ∧ Below w.heap.size w w' := by
  subst h; exact name_any s w (by unfold maxLen; omega)
theorem rname_is2 (s : ByteArray) (w : World) (hs : s.size ≤ 100000) (b : Bool) (h : nameB s = b) : Calls Tryz.prog 32 #[.string s] w fun e w' => e = .returned (.bool b) ∧ Below w.heap.size w w' := by
  subst h; exact rname_any s w (by unfold maxLen; omega)
theorem size_nil (s : ByteArray) : s.toList = [] ↔ s.size = 0 := by
  rw [Lib.toList_data, Lib.size_eq]
  constructor
  · intro h; rw [h]; rfl
  · intro h; exact List.eq_nil_of_length_eq_zero h
theorem empty_emp (s : ByteArray) : s.toList.isEmpty = decide (s.size = 0) := by
  rw [Lib.toList_data, Lib.size_eq]
  cases s.data.toList <;> simp
theorem below_two_new (w : World) (o1 o2 : Obj) : Below w.heap.size w ((w.alloc o1).alloc o2) := ((Below.refl _ _).alloc (Nat.le_refl _) _).alloc (by simp) _
theorem below_three {w w3 : World} {o1 o2 : Obj} (h : Below ((w.alloc o1).alloc o2).heap.size ((w.alloc o1).alloc o2) w3) : Below w.heap.size w w3 := (below_two_new w o1 o2).trans (h.mono (by simp; omega))
set_option maxRecDepth 100000 in
set_option maxHeartbeats 2000000 in
theorem flawed_not (x : Nd) (w : World) (ho : ((x.op == 1) = false) ∧ ((x.op == 2) = false) ∧ ((x.op == 3) = false) ∧ ((x.op == 4) = false)) (hz : x.nm.size ≤ 100000 ∧ x.inn.size ≤ 100000) :
    Calls Tryz.prog 108 #[nodeV' x] w fun e w' => e = .returned (.bool (!okN x)) ∧ Below w.heap.size w w' := by
  obtain ⟨xo, xn, xm, xi, xp⟩ := x
  unfold nodeV'
  simp only [] at *
  obtain ⟨o1, o2, o3, o4⟩ := ho
  go_enter Tryz.func108, Tryz.ntmps108
  go_wp2
  all_goals
    go_ret
    exact ⟨ret_bool (by simp_all [okN, size_nil]), below_two_new _ _ _⟩
set_option maxRecDepth 100000 in
set_option maxHeartbeats 2000000 in
theorem flawed_num (x : Nd) (w : World) (ho : x.op = 1) (hz : x.nm.size ≤ 100000 ∧ x.inn.size ≤ 100000) :
    Calls Tryz.prog 108 #[nodeV' x] w fun e w' => e = .returned (.bool (!okN x)) ∧ Below w.heap.size w w' := by
  obtain ⟨xo, xn, xm, xi, xp⟩ := x
  unfold nodeV'
  simp only [] at *
  subst ho
  have HN := fun w => number_any xn w
  obtain ⟨r, hr⟩ : ∃ r, numB xn = r := ⟨_, rfl⟩
  rw [hr] at HN
  have HR := Lib.hid hr
  clear hr
  by_cases hp : 0 ≤ xp
  all_goals cases r
  all_goals
    go_enter Tryz.func108, Tryz.ntmps108
    go_wp2_with (go_at_call 124; refine (HN _).mono ?_; rintro e w2 ⟨rfl, rfl⟩)
    all_goals
      go_ret
      exact ⟨ret_bool (by have := HR.out; simp_all [okN, size_nil]), below_two_new _ _ _⟩
def BlkN (W : World) (b : Nat) (x : Nd) : Prop := W.heap[b]? = some (.cells #[.int .i64 x.op, .int .i64 x.n, .string x.nm, .string x.inn, .int .i64 x.pl] 65 (0, 0))
theorem BlkN.facts {W : World} {b : Nat} {x : Nd} (h : BlkN W b x) :
    (W.cell? ⟨b, 0, none⟩ = some (.int .i64 x.op) ∧ W.cell? ⟨b, 1, none⟩ = some (.int .i64 x.n) ∧ W.cell? ⟨b, 2, none⟩ = some (.string x.nm) ∧ W.cell? ⟨b, 3, none⟩ = some (.string x.inn) ∧ W.cell? ⟨b, 4, none⟩ = some (.int .i64 x.pl)) := by
  unfold BlkN at h
  simp [World.cell?, h]
theorem blk_first {w w3 : World} {o1 o2 : Obj} (h : Below ((w.alloc o1).alloc o2).heap.size ((w.alloc o1).alloc o2) w3) : w3.heap[w.heap.size]? = some o1 := by
  rw [h.block _ (by simp; omega), Below.heap_alloc _ _ _ (by simp)]
  exact heap_alloc_new w o1
theorem blk_second {w w3 : World} {o1 o2 : Obj} (h : Below ((w.alloc o1).alloc o2).heap.size ((w.alloc o1).alloc o2) w3) : w3.heap[w.heap.size + 1]? = some o2 := by
  rw [h.block _ (by simp)]
  have := heap_alloc_new (w.alloc o1) o2
  simpa using this
set_option maxRecDepth 100000 in
set_option maxHeartbeats 4000000 in
theorem flawed_name (x : Nd) (w : World) (ho : x.op = 2 ∨ x.op = 3) (hz : x.nm.size ≤ 100000 ∧ x.inn.size ≤ 100000) :
    Calls Tryz.prog 108 #[nodeV' x] w fun e w' => e = .returned (.bool (!okN x)) ∧ Below w.heap.size w w' := by
  obtain ⟨xo, xn, xm, xi, xp⟩ := x
  unfold nodeV'
  simp only [] at *
  obtain ⟨r, hr⟩ : ∃ r, nameB xm = r := ⟨_, rfl⟩
  have HN := fun w => name_is2 xm w hz.1 r hr
  have HR := Lib.hid hr
  clear hr
  by_cases hp : 0 ≤ xp
  · rcases ho with rfl | rfl
    all_goals
      go_enter Tryz.func108, Tryz.ntmps108
      go_wp2_with fail
      refine (HN _).mono ?_
      rintro e w3 ⟨rfl, hb3⟩
      have hA : BlkN w3 w.heap.size ⟨_, xn, xm, xi, xp⟩ := blk_first hb3
      have hB : BlkN w3 (w.heap.size + 1) ⟨_, 0, xm, ⟨#[]⟩, xp⟩ := blk_second hb3
      obtain ⟨a0, a1, a2, a3, a4⟩ := hA.facts
      obtain ⟨b0, b1, b2, b3, b4⟩ := hB.facts
      simp only [] at a0 a1 a2 a3 a4 b0 b1 b2 b3 b4
      clear hA hB
      cases r
      all_goals
        go_wp2
        all_goals
          go_ret
          exact ⟨ret_bool (by have := HR.out; simp_all [okN, size_nil]), below_three hb3⟩
  · rcases ho with rfl | rfl
    all_goals
      go_enter Tryz.func108, Tryz.ntmps108
      go_wp2
      all_goals
        go_ret
        exact ⟨ret_bool (by simp_all [okN]), below_two_new _ _ _⟩
set_option maxRecDepth 100000 in
set_option maxHeartbeats 4000000 in
theorem flawed_of (x : Nd) (w : World) (ho : x.op = 4) (hz : x.nm.size ≤ 100000 ∧ x.inn.size ≤ 100000) :
    Calls Tryz.prog 108 #[nodeV' x] w fun e w' => e = .returned (.bool (!okN x)) ∧ Below w.heap.size w w' := by
  obtain ⟨xo, xn, xm, xi, xp⟩ := x
  unfold nodeV'
  simp only [] at *
  subst ho
  obtain ⟨r, hr⟩ : ∃ r, nameB xm = r := ⟨_, rfl⟩
  have HN := fun w => name_is2 xm w hz.1 r hr
  obtain ⟨q, hq⟩ : ∃ q, nameB xi = q := ⟨_, rfl⟩
  have HM := fun w => name_is2 xi w hz.2 q hq
  have HR := Lib.hid hr
  have HQ := Lib.hid hq
  clear hr hq
  by_cases hp : 0 ≤ xp
  · go_enter Tryz.func108, Tryz.ntmps108
    go_wp2_with fail
    go_region
    go_wp2_with fail
    refine (HN _).mono ?_
    rintro e w3 ⟨rfl, hb3'⟩
    have hb3 := ((Below.refl _ ((w.alloc (.cells #[.int .i64 4, .int .i64 xn, .string xm, .string xi, .int .i64 xp] 65)).alloc (.cells #[.int .i64 4, .int .i64 0, .string xm, .string xi, .int .i64 xp] 65))).drew).trans hb3'
    clear hb3'
    cases r with
    | false =>
      go_wp2
      all_goals
        go_ret
        exact ⟨ret_bool (by have := HR.out; simp_all [okN]), below_three hb3⟩
    | true =>
      have hA : BlkN w3 w.heap.size ⟨4, xn, xm, xi, xp⟩ := blk_first hb3
      obtain ⟨a0, a1, a2, a3, a4⟩ := hA.facts
      simp only [] at a0 a1 a2 a3 a4
      clear hA
      go_wp2_with fail
      refine (HM _).mono ?_
      rintro e w4 ⟨rfl, hb4'⟩
      clear a0 a1 a2 a3 a4
      have hb4 := hb3.trans (hb4'.mono hb3.size)
      clear hb4' hb3
      have hA : BlkN w4 w.heap.size ⟨4, xn, xm, xi, xp⟩ := blk_first hb4
      have hB : BlkN w4 (w.heap.size + 1) ⟨4, 0, xm, xi, xp⟩ := blk_second hb4
      obtain ⟨a0, a1, a2, a3, a4⟩ := hA.facts
      obtain ⟨b0, b1, b2, b3, b4⟩ := hB.facts
      simp only [] at a0 a1 a2 a3 a4 b0 b1 b2 b3 b4
      clear hA hB
      cases q
      all_goals
        go_wp2
        all_goals
          go_ret
          exact ⟨ret_bool (by have := HR.out; have := HQ.out; simp_all [okN]), below_three hb4⟩
  · go_enter Tryz.func108, Tryz.ntmps108
    go_wp2
    go_region
    go_wp2
    go_ret
    exact ⟨ret_bool (by simp_all [okN]), (below_two_new w _ _).drew⟩
theorem flawed_any (x : Nd) (w : World) (hz : x.nm.size ≤ 100000 ∧ x.inn.size ≤ 100000) :
    Calls Tryz.prog 108 #[nodeV' x] w fun e w' => e = .returned (.bool (!okN x)) ∧ Below w.heap.size w w' := by
  by_cases h1 : x.op = 1
  · exact flawed_num x w h1 hz
  · by_cases h2 : x.op = 2 ∨ x.op = 3
    · exact flawed_name x w h2 hz
    · by_cases h4 : x.op = 4
      · exact flawed_of x w h4 hz
      · exact flawed_not x w ⟨by simpa using h1, by simp; omega, by simp; omega, by simpa using h4⟩ hz
set_option maxRecDepth 100000 in
set_option maxHeartbeats 4000000 in
theorem rnode_plain (x : Nd) (w : World) (ho : ((x.op == 2) = false) ∧ ((x.op == 3) = false) ∧ ((x.op == 4) = false)) :
    Calls Tryz.prog 96 #[nodeV' x] w fun e w' => e = .returned (.bool (okN x)) ∧ Below w.heap.size w w' := by
  obtain ⟨xo, xn, xm, xi, xp⟩ := x
  unfold nodeV'
  simp only [] at *
  obtain ⟨o2, o3, o4⟩ := ho
  go_enter Tryz.func96, Tryz.ntmps96
  go_wp2
  all_goals
    go_ret
    exact ⟨ret_bool (by rw [Bool.eq_iff_iff]; simp_all [okN, size_nil, numB]; try omega), (Below.refl _ _).alloc (Nat.le_refl _) _⟩
theorem below_one {w w3 : World} {o1 : Obj} (h : Below (w.alloc o1).heap.size (w.alloc o1) w3) : Below w.heap.size w w3 := below_new h
set_option maxRecDepth 100000 in
set_option maxHeartbeats 4000000 in
theorem rnode_name (x : Nd) (w : World) (ho : x.op = 2 ∨ x.op = 3) (hz : x.nm.size ≤ 100000 ∧ x.inn.size ≤ 100000) :
    Calls Tryz.prog 96 #[nodeV' x] w fun e w' => e = .returned (.bool (okN x)) ∧ Below w.heap.size w w' := by
  obtain ⟨xo, xn, xm, xi, xp⟩ := x
  unfold nodeV'
  simp only [] at *
  obtain ⟨r, hr⟩ : ∃ r, nameB xm = r := ⟨_, rfl⟩
  have HN := fun w => rname_is2 xm w hz.1 r hr
  have HR := Lib.hid hr
  clear hr
  by_cases hp : 0 ≤ xp
  · by_cases hn : xn = 0
    · subst hn
      rcases ho with rfl | rfl
      all_goals
        go_enter Tryz.func96, Tryz.ntmps96
        go_wp2_with fail
        refine (HN _).mono ?_
        rintro e w3 ⟨rfl, hb3⟩
        have hA : BlkN w3 w.heap.size ⟨_, 0, xm, xi, xp⟩ := (hb3.block w.heap.size (by simp)).trans (heap_alloc_new w _)
        obtain ⟨a0, a1, a2, a3, a4⟩ := hA.facts
        simp only [] at a0 a1 a2 a3 a4
        clear hA
        cases r
        all_goals
          go_wp2
          all_goals
            go_ret
            exact ⟨ret_bool (by have := HR.out; simp_all [okN, empty_emp]), below_one hb3⟩
    · rcases ho with rfl | rfl
      all_goals
        go_enter Tryz.func96, Tryz.ntmps96
        go_wp2
        all_goals
          go_ret
          exact ⟨ret_bool (by simp_all [okN] <;> (intros; omega)), (Below.refl _ _).alloc (Nat.le_refl _) _⟩
  · rcases ho with rfl | rfl
    all_goals
      go_enter Tryz.func96, Tryz.ntmps96
      go_wp2
      all_goals
        go_ret
        exact ⟨ret_bool (by simp_all [okN] <;> (intros; omega)), (Below.refl _ _).alloc (Nat.le_refl _) _⟩
set_option maxRecDepth 100000 in
set_option maxHeartbeats 4000000 in
theorem rnode_of (x : Nd) (w : World) (ho : x.op = 4) (hz : x.nm.size ≤ 100000 ∧ x.inn.size ≤ 100000) :
    Calls Tryz.prog 96 #[nodeV' x] w fun e w' => e = .returned (.bool (okN x)) ∧ Below w.heap.size w w' := by
  obtain ⟨xo, xn, xm, xi, xp⟩ := x
  unfold nodeV'
  simp only [] at *
  subst ho
  obtain ⟨r, hr⟩ : ∃ r, nameB xm = r := ⟨_, rfl⟩
  have HN := fun w => rname_is2 xm w hz.1 r hr
  obtain ⟨q, hq⟩ : ∃ q, nameB xi = q := ⟨_, rfl⟩
  have HM := fun w => rname_is2 xi w hz.2 q hq
  have HR := Lib.hid hr
  have HQ := Lib.hid hq
  clear hr hq
  by_cases hp : 0 ≤ xp
  · by_cases hn : xn = 0
    · subst hn
      go_enter Tryz.func96, Tryz.ntmps96
      go_wp2_with fail
      refine (HN _).mono ?_
      rintro e w3 ⟨rfl, hb3⟩
      have hA : BlkN w3 w.heap.size ⟨4, 0, xm, xi, xp⟩ := (hb3.block w.heap.size (by simp)).trans (heap_alloc_new w _)
      obtain ⟨a0, a1, a2, a3, a4⟩ := hA.facts
      simp only [] at a0 a1 a2 a3 a4
      clear hA
      cases r with
      | false =>
        go_wp2
        all_goals
          go_ret
          exact ⟨ret_bool (by have := HR.out; simp_all [okN]), below_one hb3⟩
      | true =>
        go_wp2_with fail
        refine (HM _).mono ?_
        rintro e w4 ⟨rfl, hb4'⟩
        go_wp2
        all_goals
          go_ret
          exact ⟨ret_bool (by have := HR.out; have := HQ.out; simp_all [okN]), below_one (hb3.trans (hb4'.mono hb3.size))⟩
    · go_enter Tryz.func96, Tryz.ntmps96
      go_wp2
      all_goals
        go_ret
        exact ⟨ret_bool (by simp_all [okN] <;> (intros; omega)), (Below.refl _ _).alloc (Nat.le_refl _) _⟩
  · go_enter Tryz.func96, Tryz.ntmps96
    go_wp2
    all_goals
      go_ret
      exact ⟨ret_bool (by simp_all [okN] <;> (intros; omega)), (Below.refl _ _).alloc (Nat.le_refl _) _⟩
theorem rnode_any (x : Nd) (w : World) (hz : x.nm.size ≤ 100000 ∧ x.inn.size ≤ 100000) (b : Bool) (hb : okN x = b) :
    Calls Tryz.prog 96 #[nodeV' x] w fun e w' => e = .returned (.bool b) ∧ Below w.heap.size w w' := by
  subst hb
  by_cases h2 : x.op = 2 ∨ x.op = 3
  · exact rnode_name x w h2 hz
  · by_cases h4 : x.op = 4
    · exact rnode_of x w h4 hz
    · exact rnode_plain x w ⟨by simp; omega, by simp; omega, by simpa using h4⟩
end Go.Proofs.YtlpgafgiljffhaaGreatDoor
namespace Go.Proofs.YtlpgafgiljffhaaGreatDoor
open Go.RowKit
def Ex.wf : Ex → Prop
  | .leaf x => ar x.op = 0
  | .un x a => ar x.op = 1 ∧ a.wf
  | .bin x a b => ar x.op = 2 ∧ a.wf ∧ b.wf
theorem Ex.size_pos' (e : Ex) : 1 ≤ e.size := by cases e <;> simp [Ex.size]
theorem addr_add' (g j : Nat) : (⟨g, 0, none⟩ : Addr).add j = ⟨g, j, none⟩ := by unfold Addr.add; split <;> simp_all
theorem endF_flat (e : Ex) : e.wf → ∀ (r : List Nd) (m : Nat) (k : Nat), 1 ≤ m → endF (e.flat ++ r) m k = if m = 1 then some (k + e.size) else endF r ((m - 1 : Nat) : Int) (k + e.size) := by
  induction e with
  | leaf x =>
    intro h r m k hm
    have h' : ar x.op = 0 := h
    show endF (x :: r) m k = _
    rw [endF, h', if_neg (by omega)]
    by_cases h1 : m = 1
    · rw [if_pos (by omega), if_pos h1]; rfl
    · rw [if_neg (by omega), if_neg h1]
      show endF r _ (k + 1) = endF r _ (k + 1)
      congr 1; omega
  | un x a ih =>
    intro h r m k hm
    obtain ⟨h1, h2⟩ := h
    show endF (x :: (a.flat ++ r)) m k = _
    rw [endF, h1, if_neg (by omega), if_neg (by omega), show (m : Int) + (1 - 1) = (m : Int) by omega, ih h2 r m (k + 1) hm]
    show (if m = 1 then some (k + 1 + a.size) else endF r _ (k + 1 + a.size)) = if m = 1 then some (k + (a.size + 1)) else endF r _ (k + (a.size + 1))
    rw [show k + 1 + a.size = k + (a.size + 1) by omega]
  | bin x a b iha ihb =>
    intro h r m k hm
    obtain ⟨h1, h2, h3⟩ := h
    show endF (x :: ((a.flat ++ b.flat) ++ r)) m k = _
    rw [endF, h1, if_neg (by omega), if_neg (by omega), show (m : Int) + (2 - 1) = ((m + 1 : Nat) : Int) by omega, List.append_assoc, iha h2 _ (m + 1) (k + 1) (by omega), if_neg (by omega), show m + 1 - 1 = m by omega, ihb h3 r m _ hm]
    show (if m = 1 then some (k + 1 + a.size + b.size) else endF r _ (k + 1 + a.size + b.size)) = if m = 1 then some (k + (a.size + b.size + 1)) else endF r _ (k + (a.size + b.size + 1))
    rw [show k + 1 + a.size + b.size = k + (a.size + b.size + 1) by omega]
theorem endF_tree : ∀ (l : List Nd) (m k j : Nat), 1 ≤ m → endF l m k = some j → ∃ (es : List Ex) (r : List Nd), es.length = m ∧ (∀ e ∈ es, e.wf) ∧ l = es.flatMap Ex.flat ++ r ∧ j = k + (es.flatMap Ex.flat).length := by
  intro l
  induction l with
  | nil => intro m k j _ h; cases h
  | cons x l ih =>
    intro m k j hm h
    rw [endF] at h
    have hc := ar_cases x.op
    by_cases h1 : ar x.op < 0
    · rw [if_pos h1] at h; cases h
    · rw [if_neg h1] at h
      by_cases h2 : (m : Int) + (ar x.op - 1) = 0
      · rw [if_pos h2] at h
        cases h
        exact ⟨[.leaf x], l, by simp; omega, fun e he => by rw [List.mem_singleton.1 he]; show ar x.op = 0; omega, rfl, rfl⟩
      · rw [if_neg h2] at h
        obtain ⟨m', hm'⟩ : ∃ m' : Nat, (m : Int) + (ar x.op - 1) = m' := ⟨((m : Int) + (ar x.op - 1)).toNat, by omega⟩
        rw [hm'] at h
        obtain ⟨es, r, e1, e2, e3, e4⟩ := ih m' (k + 1) j (by omega) h
        rcases hc with h3 | h3 | h3 | h3
        · omega
        · refine ⟨.leaf x :: es, r, by simp; omega, fun e he => ?_, ?_, ?_⟩
          · rcases List.mem_cons.1 he with rfl | he
            · exact h3
            · exact e2 e he
          · rw [e3]; rfl
          · rw [e4]; simp [Ex.flat]; omega
        · match es, e1 with
          | e :: es, e1 =>
            refine ⟨.un x e :: es, r, by simp at e1 ⊢; omega, fun t ht => ?_, ?_, ?_⟩
            · rcases List.mem_cons.1 ht with rfl | ht
              · exact ⟨h3, e2 e (by simp)⟩
              · exact e2 t (List.mem_cons_of_mem _ ht)
            · rw [e3]; simp [Ex.flat]
            · rw [e4]; simp [Ex.flat]; omega
          | [], e1 => simp at e1; omega
        · match es, e1 with
          | e :: e' :: es, e1 =>
            refine ⟨.bin x e e' :: es, r, by simp at e1 ⊢; omega, fun t ht => ?_, ?_, ?_⟩
            · rcases List.mem_cons.1 ht with rfl | ht
              · exact ⟨h3, e2 e (by simp), e2 e' (by simp)⟩
              · exact e2 t (List.mem_cons_of_mem _ (List.mem_cons_of_mem _ ht))
            · rw [e3]; simp [Ex.flat]
            · rw [e4]; simp [Ex.flat]; omega
          | [], e1 => simp at e1; omega
          | [_], e1 => simp at e1; omega
theorem tree_of_end (l : List Nd) (h : endL l 0 = l.length) (_h0 : l ≠ []) : ∃ e : Ex, e.wf ∧ e.flat = l := by
  have e0 : endL l 0 = endI (endF l 1 0) := by rw [show (0 : Int) = ((0 : Nat) : Int) from rfl, endL_nat]; rfl
  rw [e0] at h
  cases h1 : endF l 1 0 with
  | none => rw [h1] at h; simp only [endI] at h; omega
  | some j =>
    rw [h1] at h
    simp only [endI] at h
    obtain ⟨es, r, e1, e2, e3, e4⟩ := endF_tree l 1 0 j (Nat.le_refl _) h1
    match es, e1 with
    | [e], _ =>
      refine ⟨e, e2 e (by simp), ?_⟩
      have hl := congrArg List.length e3
      simp only [List.flatMap_cons, List.flatMap_nil, List.append_nil, List.length_append] at hl e3 e4
      have hr : r = [] := List.eq_nil_of_length_eq_zero (by omega)
      rw [e3, hr, List.append_nil]
theorem end_of_tree (e : Ex) (h : e.wf) : endL e.flat 0 = e.flat.length := by
  rw [show (0 : Int) = ((0 : Nat) : Int) from rfl, endL_nat]
  have := endF_flat e h [] 1 0 (Nat.le_refl _)
  rw [List.append_nil, if_pos rfl] at this
  rw [List.drop_zero, show (1 : Int) = ((1 : Nat) : Int) from rfl, this, e.flat_length]
  simp [endI]
theorem Ex.flat_pre (e : Ex) : ∀ (e' : Ex) (r r' : List Nd), e.wf → e'.wf → e.flat ++ r = e'.flat ++ r' → e = e' ∧ r = r' := by
  induction e with
  | leaf x =>
    intro e' r r' h h' he
    cases e' with
    | leaf y => have h0 := List.cons.inj he; exact ⟨by rw [h0.1], h0.2⟩
    | un y a => have h0 := (List.cons.inj he).1; subst h0; have := h'.1; have h2 : ar x.op = 0 := h; omega
    | bin y a b => have h0 := (List.cons.inj he).1; subst h0; have := h'.1; have h2 : ar x.op = 0 := h; omega
  | un x a ih =>
    intro e' r r' h h' he
    cases e' with
    | leaf y => have h0 := (List.cons.inj he).1; subst h0; have := h.1; have h2 : ar x.op = 0 := h'; omega
    | un y b =>
      have h0 := List.cons.inj he
      obtain ⟨h1, h2⟩ := ih b r r' h.2 h'.2 h0.2
      exact ⟨by rw [h0.1, h1], h2⟩
    | bin y a b => have h0 := (List.cons.inj he).1; subst h0; have := h.1; have := h'.1; omega
  | bin x a b iha ihb =>
    intro e' r r' h h' he
    cases e' with
    | leaf y => have h0 := (List.cons.inj he).1; subst h0; have := h.1; have h2 : ar x.op = 0 := h'; omega
    | un y b => have h0 := (List.cons.inj he).1; subst h0; have := h.1; have := h'.1; omega
    | bin y a' b' =>
      have h0 := List.cons.inj he
      have h1 : a.flat ++ (b.flat ++ r) = a'.flat ++ (b'.flat ++ r') := by simpa [List.append_assoc] using h0.2
      obtain ⟨g1, g2⟩ := iha a' _ _ h.2.1 h'.2.1 h1
      obtain ⟨g3, g4⟩ := ihb b' _ _ h.2.2 h'.2.2 g2
      exact ⟨by rw [h0.1, g1, g3], g4⟩
theorem Ex.flat_inj (e e' : Ex) (h : e.wf) (h' : e'.wf) (he : e.flat = e'.flat) : e = e' := (e.flat_pre e' [] [] h h' (by simpa using he)).1
theorem Ex.depth_le (e : Ex) : e.depth ≤ e.size := by
  induction e with
  | leaf x => simp [Ex.depth]
  | un x a ih => simp [Ex.depth, Ex.size]; omega
  | bin x a b iha ihb => simp [Ex.depth, Ex.size]; omega
def dF : List (Nat × Ex) → Nat → Nat
  | [], g => g
  | p :: r, g => dF r (max g (p.1 + p.2.depth))
def intsV (l : List Nat) : List Value := l.map fun (n : Nat) => Value.int .i64 n
theorem own_pop {w : World} {B e n cap : Nat} {ad : Option Addr} {xs : List Value} {x : Value} (h : w.ownsRow B e 1 (.slice ad (n + 1) cap) (n + 1) (xs ++ [x])) : w.ownsRow B e 1 (.slice ad n cap) n xs := by
  obtain ⟨h1, h2⟩ := h
  have hl : xs.length = n := by simpa using h1
  refine ⟨by omega, ?_⟩
  rcases h2 with ⟨_, h2⟩ | ⟨g, cap', cur, hv, hg, hh, hc1, hc2, hc3, hc4⟩
  · omega
  · simp only [Value.slice.injEq] at hv
    obtain ⟨rfl, _, rfl⟩ := hv
    refine .inr ⟨g, cap, cur, rfl, hg, hh, by omega, hc2, hc3, ?_⟩
    have := congrArg (List.take n) hc4
    rw [List.take_take] at this
    rw [Nat.mul_one]
    rw [show min n ((n + 1) * 1) = n by omega] at this
    rw [this, List.take_append_of_le_length (by omega), List.take_of_length_le (by omega)]
theorem info3 : (Tryz.prog.info? 3).map (fun i => (i.zero, i.size, i.bytes)) = some (some (.int .i64 0), 1, 8) := by kernel_rfl
theorem append_int {w : World} {ops : Array Oper} {rest : List Oper} {o : Oper} {a : Act} {Q : Exit → Act → World → Prop} (hgd : o.guard = none) (s x : Operand)
    (ho : o.op = .call { callee := .builtin .append, args := #[s, x], argTypes := #[122, 122] }) (base n : Nat) (v : Value) (xs : List Value) (z : Int) (hs : a.eval s = v) (g : Nat) (hx : a.eval x = .slice (some ⟨g, 0, none⟩) 1 1)
    (hown : w.ownsRow base 3 1 v n xs) (hc : w.cell? ⟨g, 0, none⟩ = some (.int .i64 z)) (hn : n ≤ 1000000) (hbase : base ≤ w.heap.size)
    (h : ∀ v' w', w'.ownsRow base 3 1 v' (n + 1) (xs ++ [.int .i64 z]) → Below base w w' → wpList Tryz.prog ops Q rest (a.put o.dst v') w') : wpList Tryz.prog ops Q (o :: rest) a w := by
  obtain ⟨i0, hi, hz0, hz1, hz2⟩ := info_parts info3
  refine wpList_append_own _ hgd s x 122 ho base 3 i0 (.int .i64 0) 1 8 Tryz.underlying122 hi hz0 hz1 hz2 rfl (by decide) v n xs hs hown ⟨g, 0, none⟩ 1 1 [.int .i64 z] hx rfl ?_ (fun u hu => by simp at hu; subst hu; rfl) (by unfold maxLen; omega) (by omega) hbase ?_
  · intro j u hj
    match j, hj with
    | 0, hj => simp at hj; subst hj; rw [show (⟨g, 0, none⟩ : Addr).add 0 = ⟨g, 0, none⟩ from rfl]; exact hc
    | j + 1, hj => simp at hj
  · intro v' w' h1 h2 _
    exact h v' w' h1 ((Below.refl base w).grown h2 hbase (fun k hk => (hown.lt k hk).1))
end Go.Proofs.YtlpgafgiljffhaaGreatDoor
