/- Layer 11's law: unit. -/
import Derived.Test.YtacbanfnakgecaaGreatVh
namespace Go.Proofs.YtacbanfnakgecaaGreat
set_option linter.unusedSimpArgs false
set_option linter.unusedVariables false
open Go.RowKit
def insM (op loc : Int) (e : List Opn) (v : Value) : II := ⟨⟨op, 0, loc, e, [], false, 0⟩, v, .slice none 0 0⟩
def codeE (v : Value) : List II := [insM 4 0 oneL v, insM 22 0 [] (.slice none 0 0)]
def codeF (v : Value) : List II := [insM 9 1 oneL v, insM 22 0 [] (.slice none 0 0)]
def unitM (v va vb : Value) : Un := ⟨4, [0, 0], [0, 0], [(codeE v, va), (codeF v, vb)]⟩
set_option maxRecDepth 100000 in
set_option maxHeartbeats 4000000 in
theorem unit11_any (w : World) :
    Calls Tryz.prog 38 #[] w fun e w' => ∃ ai ar ac v va vb, e = .returned (.agg #[.int .i64 4, .slice ai 2 2, .slice ar 2 2, .slice ac 2 2]) ∧ UnD w' (.slice ai 2 2) (.slice ar 2 2) (.slice ac 2 2) (unitM v va vb) ∧ Below w.heap.size w w' := by
  go_enter Tryz.func38, Tryz.ntmps38
  go_wp2_with fail
  refine bodyPost_ret (v := .agg #[.int .i64 4, .slice (some ⟨w.heap.size + 1 + 1, 0, none⟩) 2 2, .slice (some ⟨w.heap.size + 1 + 1 + 1, 0, none⟩) 2 2, .slice (some ⟨w.heap.size + 1 + 1 + 1 + 1 + 1 + 1, 0, none⟩) 2 2]) ?_ rfl ?_
  · refine results_cell_row (t := 25) (ty := 25) (cs := #[.int .i64 4, .slice (some ⟨w.heap.size + 1 + 1, 0, none⟩) 2 2, .slice (some ⟨w.heap.size + 1 + 1 + 1, 0, none⟩) 2 2, .slice (some ⟨w.heap.size + 1 + 1 + 1 + 1 + 1 + 1, 0, none⟩) 2 2]) (fr := (0, 0)) rfl _ _ w.heap.size _ rfl ?_ Tryz.underlying25 rfl (by kernel_rfl)
    show Bk _ _ _ _
    repeat (first | exact bk_here (by simp only [alloc_size]) | refine bk_up ?_ _)
  refine ⟨_, _, _, .slice (some ⟨w.heap.size + 1, 0, none⟩) 1 1, .slice (some ⟨w.heap.size + 1 + 1 + 1 + 1, 0, none⟩) 2 2, .slice (some ⟨w.heap.size + 1 + 1 + 1 + 1 + 1, 0, none⟩) 2 2, rfl, ⟨?_, ?_, ?_⟩, ?_⟩
  · refine intsD_of_bk (T := 3) (cs := #[.int .i64 0, .int .i64 0]) (xs := [0, 0]) ?_ rfl (by decide)
    refine bk_up (bk_up (bk_up (bk_up (bk_here (by simp only [alloc_size])) _) _) _) _
  · refine intsD_of_bk (T := 3) (cs := #[.int .i64 0, .int .i64 0]) (xs := [0, 0]) ?_ rfl (by decide)
    repeat (first | exact bk_here (by simp only [alloc_size]) | refine bk_up ?_ _)
  · have hone : ∀ W : World, Bk W (w.heap.size + 1) 86 #[.int .i64 1, .int .i64 1, .int .i64 0] → OpsD W (.slice (some ⟨w.heap.size + 1, 0, none⟩) 1 1) oneL := fun W h => opsD_of_bk (xs := oneL) h rfl (by decide)
    refine codD_of_bk (T := 66) (cs := #[.slice (some ⟨w.heap.size + 1 + 1 + 1 + 1, 0, none⟩) 2 2, .slice (some ⟨w.heap.size + 1 + 1 + 1 + 1 + 1, 0, none⟩) 2 2]) (xs := [(codeE (.slice (some ⟨w.heap.size + 1, 0, none⟩) 1 1), .slice (some ⟨w.heap.size + 1 + 1 + 1 + 1, 0, none⟩) 2 2), (codeF (.slice (some ⟨w.heap.size + 1, 0, none⟩) 1 1), .slice (some ⟨w.heap.size + 1 + 1 + 1 + 1 + 1, 0, none⟩) 2 2)]) ?_ rfl (by simp) fun t ht => ?_
    · repeat (first | exact bk_here (by simp only [alloc_size]) | refine bk_up ?_ _)
    · rcases List.mem_cons.1 ht with rfl | ht
      · refine insD_of_bk (T := 57) (cs := #[.int .i64 4, .int .i64 0, .int .i64 0, .slice (some ⟨w.heap.size + 1, 0, none⟩) 1 1, .slice none 0 0, .bool false, .int .i64 0, .int .i64 22, .int .i64 0, .int .i64 0, .slice none 0 0, .slice none 0 0, .bool false, .int .i64 0]) (xs := codeE (.slice (some ⟨w.heap.size + 1, 0, none⟩) 1 1)) ?_ rfl (by simp [codeE]) fun t ht => ?_
        · repeat (first | exact bk_here (by simp only [alloc_size]) | refine bk_up ?_ _)
        · simp only [codeE, List.mem_cons, List.not_mem_nil, or_false] at ht
          rcases ht with rfl | rfl
          · refine ⟨hone _ ?_, SlD.nil⟩
            repeat (first | exact bk_here (by simp only [alloc_size]) | refine bk_up ?_ _)
          · exact ⟨SlD.nil, SlD.nil⟩
      · rw [List.mem_singleton.1 ht]
        refine insD_of_bk (T := 57) (cs := #[.int .i64 9, .int .i64 0, .int .i64 1, .slice (some ⟨w.heap.size + 1, 0, none⟩) 1 1, .slice none 0 0, .bool false, .int .i64 0, .int .i64 22, .int .i64 0, .int .i64 0, .slice none 0 0, .slice none 0 0, .bool false, .int .i64 0]) (xs := codeF (.slice (some ⟨w.heap.size + 1, 0, none⟩) 1 1)) ?_ rfl (by simp [codeF]) fun t ht => ?_
        · repeat (first | exact bk_here (by simp only [alloc_size]) | refine bk_up ?_ _)
        · simp only [codeF, List.mem_cons, List.not_mem_nil, or_false] at ht
          rcases ht with rfl | rfl
          · refine ⟨hone _ ?_, SlD.nil⟩
            repeat (first | exact bk_here (by simp only [alloc_size]) | refine bk_up ?_ _)
          · exact ⟨SlD.nil, SlD.nil⟩
  · repeat (first | exact Below.refl _ _ | refine bel_up ?_ _)
theorem unitM_right (v va vb : Value) : rightU (unitM v va vb) = true := by rfl
end Go.Proofs.YtacbanfnakgecaaGreat
