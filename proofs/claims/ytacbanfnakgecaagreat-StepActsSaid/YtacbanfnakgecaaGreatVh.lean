/- Layer 9's law: unit. Layer 10's law: unit. -/
import Derived.Test.YtacbanfnakgecaaGreatVa
import Derived.Test.YtacbanfnakgecaaGreatYy
namespace Go.Proofs.YtacbanfnakgecaaGreat
set_option linter.unusedSimpArgs false
set_option linter.unusedVariables false
open Go.RowKit

def insF : Ins := ⟨8, 0, 0, [], [], false, 0⟩
def insD : Ins := ⟨22, 0, 0, [], [], false, 0⟩
def codeU : List II := [⟨insF, .slice none 0 0, .slice none 0 0⟩, ⟨insD, .slice none 0 0, .slice none 0 0⟩]
def unitU (v : Value) : Un := ⟨4, [3], [1], [(codeU, v)]⟩
theorem bk_up {w : World} {g T : Nat} {cs : Array Value} (h : Bk w g T cs) (o : Obj) : Bk (w.alloc o) g T cs := by
  have := h.lt
  unfold Bk at *
  rw [show (w.alloc o).heap = w.heap.push o from rfl, Array.getElem?_push_lt this, ← h, Array.getElem?_eq_getElem this]
theorem bk_here {w : World} {g T : Nat} {cs : Array Value} (h : g = w.heap.size) : Bk (w.alloc (.cells cs T)) g T cs := h ▸ Bk.new w T cs
theorem bel_up {a w : World} (h : Below a.heap.size a w) (o : Obj) : Below a.heap.size a (w.alloc o) := h.alloc h.size o
theorem insD_of_bk {w : World} {g T : Nat} {cs : Array Value} {xs : List II} (h : Bk w g T cs) (hcs : cs.toList = xs.flatMap II.cells) (hl : xs.length ≤ 1000000) (he : ∀ t ∈ xs, OpsD w t.ev t.x.e ∧ OpsD w t.fv t.x.f) : InsD w (.slice (some ⟨g, 0, none⟩) xs.length xs.length) xs :=
  slD_of_bk II.cells 7 (fun _ => rfl) h hcs hl fun i hi hk => ⟨hk 0 (by decide), hk 1 (by decide), hk 2 (by decide), hk 3 (by decide), hk 4 (by decide), hk 5 (by decide), hk 6 (by decide), (he _ (List.getElem_mem hi)).1, (he _ (List.getElem_mem hi)).2⟩
theorem codD_of_bk {w : World} {g T : Nat} {cs : Array Value} {xs : List (List II × Value)} (h : Bk w g T cs) (hcs : cs.toList = xs.flatMap fun x => [x.2]) (hl : xs.length ≤ 1000000) (he : ∀ t ∈ xs, InsD w t.2 t.1) : CodD w (.slice (some ⟨g, 0, none⟩) xs.length xs.length) xs :=
  slD_of_bk (fun x : List II × Value => [x.2]) 1 (fun _ => rfl) h hcs hl fun i hi hk => ⟨hk 0 (by decide), he _ (List.getElem_mem hi)⟩

theorem unit_right (v : Value) : rightU (unitU v) = true := by rfl
theorem unit_short (v : Value) : ShortU (unitU v) := by
  refine ⟨by simp [unitU], by simp [unitU], fun r hr => ?_⟩
  rw [show r = (codeU, v) from List.mem_singleton.1 hr]
  refine ⟨by simp [codeU], fun t ht => ?_⟩
  simp only [codeU, List.mem_cons, List.not_mem_nil, or_false] at ht
  rcases ht with rfl | rfl <;> exact ⟨by decide, by decide⟩

end Go.Proofs.YtacbanfnakgecaaGreat

namespace Go.Proofs.YtacbanfnakgecaaGreat
set_option linter.unusedSimpArgs false
set_option linter.unusedVariables false
open Go.RowKit

def oneL : List Opn := [⟨1, 1, 0⟩]
def insK (op : Int) (e : List Opn) (v : Value) : II := ⟨⟨op, 0, 0, e, [], false, 0⟩, v, .slice none 0 0⟩
def codeA (v : Value) : List II := [insK 4 oneL v, insK 8 [] (.slice none 0 0), insK 22 [] (.slice none 0 0)]
def codeB (v : Value) : List II := [insK 9 oneL v, insK 22 [] (.slice none 0 0)]
def unitK (v va vb : Value) : Un := ⟨4, [0], [0, 0], [(codeA v, va), (codeB v, vb)]⟩
theorem opsD_of_bk {w : World} {g T : Nat} {cs : Array Value} {xs : List Opn} (h : Bk w g T cs) (hcs : cs.toList = xs.flatMap fun o => [.int .i64 o.op, .int .i64 o.n, .int .i64 o.t]) (hl : xs.length ≤ 1000000) : OpsD w (.slice (some ⟨g, 0, none⟩) xs.length xs.length) xs :=
  slD_of_bk (fun o : Opn => [.int .i64 o.op, .int .i64 o.n, .int .i64 o.t]) 3 (fun _ => rfl) h hcs hl fun i hi hk => ⟨hk 0 (by decide), hk 1 (by decide), hk 2 (by decide)⟩

set_option maxRecDepth 100000 in
set_option maxHeartbeats 4000000 in
theorem unit10_any (w : World) :
    Calls Tryz.prog 26 #[] w fun e w' => ∃ ai ar ac v va vb, e = .returned (.agg #[.int .i64 4, .slice ai 1 1, .slice ar 2 2, .slice ac 2 2]) ∧ UnD w' (.slice ai 1 1) (.slice ar 2 2) (.slice ac 2 2) (unitK v va vb) ∧ Below w.heap.size w w' := by
  go_enter Tryz.func26, Tryz.ntmps26
  go_wp2_with fail
  refine bodyPost_ret (v := .agg #[.int .i64 4, .slice (some ⟨w.heap.size + 1 + 1, 0, none⟩) 1 1, .slice (some ⟨w.heap.size + 1 + 1 + 1, 0, none⟩) 2 2, .slice (some ⟨w.heap.size + 1 + 1 + 1 + 1 + 1 + 1, 0, none⟩) 2 2]) ?_ rfl ?_
  · refine results_cell_row (t := 25) (ty := 25) (cs := #[.int .i64 4, .slice (some ⟨w.heap.size + 1 + 1, 0, none⟩) 1 1, .slice (some ⟨w.heap.size + 1 + 1 + 1, 0, none⟩) 2 2, .slice (some ⟨w.heap.size + 1 + 1 + 1 + 1 + 1 + 1, 0, none⟩) 2 2]) (fr := (0, 0)) rfl _ _ w.heap.size _ rfl ?_ Tryz.underlying25 rfl (by kernel_rfl)
    show Bk _ _ _ _
    repeat (first | exact bk_here (by simp only [alloc_size]) | refine bk_up ?_ _)
  refine ⟨_, _, _, .slice (some ⟨w.heap.size + 1, 0, none⟩) 1 1, .slice (some ⟨w.heap.size + 1 + 1 + 1 + 1, 0, none⟩) 3 3, .slice (some ⟨w.heap.size + 1 + 1 + 1 + 1 + 1, 0, none⟩) 2 2, rfl, ⟨?_, ?_, ?_⟩, ?_⟩
  · refine intsD_of_bk (T := 3) (cs := #[.int .i64 0]) (xs := [0]) ?_ rfl (by decide)
    repeat (first | exact bk_here (by simp only [alloc_size]) | refine bk_up ?_ _)
  · refine intsD_of_bk (T := 3) (cs := #[.int .i64 0, .int .i64 0]) (xs := [0, 0]) ?_ rfl (by decide)
    repeat (first | exact bk_here (by simp only [alloc_size]) | refine bk_up ?_ _)
  · have hone : ∀ W : World, Bk W (w.heap.size + 1) 86 #[.int .i64 1, .int .i64 1, .int .i64 0] → OpsD W (.slice (some ⟨w.heap.size + 1, 0, none⟩) 1 1) oneL := fun W h => opsD_of_bk (xs := oneL) h rfl (by decide)
    refine codD_of_bk (T := 66) (cs := #[.slice (some ⟨w.heap.size + 1 + 1 + 1 + 1, 0, none⟩) 3 3, .slice (some ⟨w.heap.size + 1 + 1 + 1 + 1 + 1, 0, none⟩) 2 2]) (xs := [(codeA (.slice (some ⟨w.heap.size + 1, 0, none⟩) 1 1), .slice (some ⟨w.heap.size + 1 + 1 + 1 + 1, 0, none⟩) 3 3), (codeB (.slice (some ⟨w.heap.size + 1, 0, none⟩) 1 1), .slice (some ⟨w.heap.size + 1 + 1 + 1 + 1 + 1, 0, none⟩) 2 2)]) ?_ rfl (by simp) fun t ht => ?_
    · repeat (first | exact bk_here (by simp only [alloc_size]) | refine bk_up ?_ _)
    · rcases List.mem_cons.1 ht with rfl | ht
      · refine insD_of_bk (T := 57) (cs := #[.int .i64 4, .int .i64 0, .int .i64 0, .slice (some ⟨w.heap.size + 1, 0, none⟩) 1 1, .slice none 0 0, .bool false, .int .i64 0, .int .i64 8, .int .i64 0, .int .i64 0, .slice none 0 0, .slice none 0 0, .bool false, .int .i64 0, .int .i64 22, .int .i64 0, .int .i64 0, .slice none 0 0, .slice none 0 0, .bool false, .int .i64 0]) (xs := codeA (.slice (some ⟨w.heap.size + 1, 0, none⟩) 1 1)) ?_ rfl (by simp [codeA]) fun t ht => ?_
        · repeat (first | exact bk_here (by simp only [alloc_size]) | refine bk_up ?_ _)
        · simp only [codeA, List.mem_cons, List.not_mem_nil, or_false] at ht
          rcases ht with rfl | rfl | rfl
          · refine ⟨hone _ ?_, SlD.nil⟩
            repeat (first | exact bk_here (by simp only [alloc_size]) | refine bk_up ?_ _)
          · exact ⟨SlD.nil, SlD.nil⟩
          · exact ⟨SlD.nil, SlD.nil⟩
      · rw [List.mem_singleton.1 ht]
        refine insD_of_bk (T := 57) (cs := #[.int .i64 9, .int .i64 0, .int .i64 0, .slice (some ⟨w.heap.size + 1, 0, none⟩) 1 1, .slice none 0 0, .bool false, .int .i64 0, .int .i64 22, .int .i64 0, .int .i64 0, .slice none 0 0, .slice none 0 0, .bool false, .int .i64 0]) (xs := codeB (.slice (some ⟨w.heap.size + 1, 0, none⟩) 1 1)) ?_ rfl (by simp [codeB]) fun t ht => ?_
        · repeat (first | exact bk_here (by simp only [alloc_size]) | refine bk_up ?_ _)
        · simp only [codeB, List.mem_cons, List.not_mem_nil, or_false] at ht
          rcases ht with rfl | rfl
          · refine ⟨hone _ ?_, SlD.nil⟩
            repeat (first | exact bk_here (by simp only [alloc_size]) | refine bk_up ?_ _)
          · exact ⟨SlD.nil, SlD.nil⟩
  · repeat (first | exact Below.refl _ _ | refine bel_up ?_ _)

theorem unitK_right (v va vb : Value) : rightU (unitK v va vb) = true := by rfl

end Go.Proofs.YtacbanfnakgecaaGreat
