/- Layer 14, the code: within, count; rows of numbers in blocks of their own. -/
import Derived.Test.YtkdpimifojjhaaaNf
namespace Go.Proofs.Ytkdpimifojjhaaa
set_option linter.unusedSimpArgs false
set_option linter.unusedVariables false
open Go.RowKit

theorem within_any (n i : Int) (q : Bool) (hq : decide (0 ≤ i ∧ i < n) = q) (w : World) :
    Calls Try.prog 38 #[.int .i64 n, .int .i64 i] w fun e w' => e = .returned (.bool q) ∧ w' = w := by
  by_cases h1 : 0 ≤ i
  · by_cases h2 : i < n
    · have HQ : Hid (q = true) := Lib.hid (by rw [← hq]; simp [h1, h2])
      clear hq
      go_enter Try.func38, Try.ntmps38
      go_wp2
      go_ret
      exact ⟨ret_bool HQ.out.symm, rfl⟩
    · have HQ : Hid (q = false) := Lib.hid (by rw [← hq]; simp [h2])
      clear hq
      go_enter Try.func38, Try.ntmps38
      go_wp2
      go_ret
      exact ⟨ret_bool HQ.out.symm, rfl⟩
  · have HQ : Hid (q = false) := Lib.hid (by rw [← hq]; simp [h1])
    clear hq
    go_enter Try.func38, Try.ntmps38
    go_wp2
    go_ret
    exact ⟨ret_bool HQ.out.symm, rfl⟩

theorem count_any (vs va vt : Value) (g : Gr) (w : World) (hs : IntsD w vs g.st) (h1 : 1 ≤ g.st.length) (h2 : g.st.length ≤ 1000000) :
    Calls Try.prog 39 #[.agg #[vs, va, vt]] w fun e w' => e = .returned (.int .i64 (numN g : Int)) ∧ Below w.heap.size w w' := by
  obtain ⟨a1, p1, rfl⟩ := hs.shape0
  have HN : Hid ((g.st.length : Int) - 1 = (numN g : Int)) := Lib.hid (by unfold numN; omega)
  have hw : IntKind.i64.wrap ((g.st.length : Int) - 1) = (g.st.length : Int) - 1 := IntWalk.i64_in _ (by omega)
  clear hs h1
  generalize g.st.length = n at HN hw ⊢
  go_enter Try.func39, Try.ntmps39
  go_wp2_with fail
  go_ret
  exact ⟨ret_int HN.out, bal (Below.refl _ _) _⟩

/-- A row of numbers, whole in its block. -/
def ints (l : List Int) : List Value := l.map (Value.int .i64)
abbrev BkI (w : World) (g : Nat) (l : List Int) : Prop := Bk w g 3 (ints l).toArray
theorem ints_len (l : List Int) : (ints l).length = l.length := by simp [ints]
theorem ints_zero (n : Nat) : ints (List.replicate n 0) = List.replicate n (.int .i64 0) := by simp [ints]
theorem ints_flat (l : List Int) : ints l = l.flatMap fun x => [Value.int .i64 x] := by
  induction l with
  | nil => rfl
  | cons a l ih => rw [List.flatMap_cons, ← ih]; rfl
section
variable {w : World} {g g' k : Nat} {l : List Int} {x : Int}
theorem BkI.at (h : BkI w g l) (hk : l[k]? = some x) : w.cell? ⟨g, k, none⟩ = some (.int .i64 x) := by
  rw [h.cell k]; simp [ints, hk]
theorem BkI.set (h : BkI w g l) (k : Nat) (x : Int) : BkI (w.setCell ⟨g, k, none⟩ (.int .i64 x)) g (l.set k x) := by
  have e : ((ints l).toArray.setIfInBounds k (.int .i64 x)) = (ints (l.set k x)).toArray := by simp [ints, List.map_set]
  show Bk _ _ _ _
  rw [← e]
  exact heap_setCell_same w g k _ _ _ h
theorem Bk.other {T : Nat} {cs : Array Value} {u : Value} (h : Bk w g T cs) (hg : g ≠ g') (k : Nat) : Bk (w.setCell ⟨g', k, none⟩ u) g T cs := (Below.heap_setCell w ⟨g', k, none⟩ u g hg).trans h
theorem BkI.ints (h : BkI w g l) {n : Nat} (hn : l.length = n) (hl : n ≤ 1000000) : IntsD w (.slice (some ⟨g, 0, none⟩) n n) l := by
  subst hn
  refine intsD_of_bk h ?_ hl
  exact ints_flat l
end
theorem bkI_new {w : World} {g : Nat} {n : Nat} {Z : List Value} (hZ : Z = List.replicate n (.int .i64 0)) (h : w.heap[g]? = some (.cells Z.toArray 3 (0, 0))) : BkI w g (List.replicate n 0) := by
  unfold BkI Bk
  rw [ints_zero, ← hZ]; exact h
theorem info_int : (Try.prog.info? 3).map (fun i => (i.zero, i.size, i.bytes)) = some (some (.int .i64 0), 1, 8) := by kernel_rfl
theorem make_int (n : Nat) (hn : n ≤ 1000000) (W : World) : (Instr.makeSlice 22 (.int .i64 n) (.int .i64 n)).run Try.prog W = .ok (.slice (some ⟨W.heap.size, 0, none⟩) n n) (W.alloc (.cells (ints (List.replicate n 0)).toArray 3)) := by
  obtain ⟨i0, hi, hz0, hz1, hz2⟩ := info_parts info_int
  have h := run_make (P := Try.prog) W 22 3 i0 _ Try.underlying22 hi hz0 .i64 .i64 n n (by omega) (Int.le_refl _) (by rw [hz2]; omega) (by omega)
  have e : madeCells (Value.int .i64 0).cells ((n : Int).toNat * i0.size) = (ints (List.replicate n 0)).toArray := by
    rw [hz1, Int.toNat_natCast, Nat.mul_one, ints_zero]
    exact Array.toList_inj.1 (by rw [show (Value.int .i64 0).cells = #[Value.int .i64 0] from rfl, toList_madeCells_one])
  rw [e, Int.toNat_natCast] at h
  exact h

end Go.Proofs.Ytkdpimifojjhaaa
