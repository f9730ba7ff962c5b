/- Layer 9's law: unit. -/
import Derived.Test.YtdklcjgoomdhkaaVa
namespace Go.Proofs.Ytdklcjgoomdhkaa
set_option linter.unusedSimpArgs false
set_option linter.unusedVariables false
open Go.RowKit

def insF : Ins := ⟨8, 0, 0, [], [], false, 0⟩
def insD : Ins := ⟨22, 0, 0, [], [], false, 0⟩
def codeU : List II := [⟨insF, .slice none 0 0, .slice none 0 0⟩, ⟨insD, .slice none 0 0, .slice none 0 0⟩]
def unitU (v : Value) : Un := ⟨4, [3], [1], [(codeU, v)]⟩
theorem bk_up {w : World} {g T : Nat} {cs : Array Value} (h : Bk w g T cs) (o : Obj) : Bk (w.alloc o) g T cs := by
  have := h.lt
  unfold Bk at *
  rw [show (w.alloc o).heap = w.heap.push o from rfl, Array.getElem?_push_lt this, ← h, Array.getElem?_eq_getElem this]
theorem bk_here {w : World} {g T : Nat} {cs : Array Value} (h : g = w.heap.size) : Bk (w.alloc (.cells cs T)) g T cs := h ▸ Bk.new w T cs
theorem bel_up {a w : World} (h : Below a.heap.size a w) (o : Obj) : Below a.heap.size a (w.alloc o) := h.alloc h.size o
theorem insD_of_bk {w : World} {g T : Nat} {cs : Array Value} {xs : List II} (h : Bk w g T cs) (hcs : cs.toList = xs.flatMap II.cells) (hl : xs.length ≤ 1000000) (he : ∀ t ∈ xs, OpsD w t.ev t.x.e ∧ OpsD w t.fv t.x.f) : InsD w (.slice (some ⟨g, 0, none⟩) xs.length xs.length) xs :=
  slD_of_bk II.cells 7 (fun _ => rfl) h hcs hl fun i hi hk => ⟨hk 0 (by decide), hk 1 (by decide), hk 2 (by decide), hk 3 (by decide), hk 4 (by decide), hk 5 (by decide), hk 6 (by decide), (he _ (List.getElem_mem hi)).1, (he _ (List.getElem_mem hi)).2⟩
theorem codD_of_bk {w : World} {g T : Nat} {cs : Array Value} {xs : List (List II × Value)} (h : Bk w g T cs) (hcs : cs.toList = xs.flatMap fun x => [x.2]) (hl : xs.length ≤ 1000000) (he : ∀ t ∈ xs, InsD w t.2 t.1) : CodD w (.slice (some ⟨g, 0, none⟩) xs.length xs.length) xs :=
  slD_of_bk (fun x : List II × Value => [x.2]) 1 (fun _ => rfl) h hcs hl fun i hi hk => ⟨hk 0 (by decide), he _ (List.getElem_mem hi)⟩

set_option maxRecDepth 100000 in
set_option maxHeartbeats 4000000 in
theorem unit_any (w : World) :
    Calls Try.prog 25 #[] w fun e w' => ∃ ai ar ac v, e = .returned (.agg #[.int .i64 4, .slice ai 1 1, .slice ar 1 1, .slice ac 1 1]) ∧ UnD w' (.slice ai 1 1) (.slice ar 1 1) (.slice ac 1 1) (unitU v) ∧ Below w.heap.size w w' := by
  go_enter Try.func25, Try.ntmps25
  go_wp2_with fail
  have LD : Below w.heap.size w (((((w.alloc (.cells #[.int .i64 4, .slice (some ⟨w.heap.size + 1, 0, none⟩) 1 1, .slice (some ⟨w.heap.size + 1 + 1, 0, none⟩) 1 1, .slice (some ⟨w.heap.size + 1 + 1 + 1 + 1, 0, none⟩) 1 1] 25)).alloc (.cells #[.int .i64 3] 3)).alloc (.cells #[.int .i64 1] 3)).alloc
    (.cells #[.int .i64 8, .int .i64 0, .int .i64 0, .slice none 0 0, .slice none 0 0, .bool false, .int .i64 0, .int .i64 22, .int .i64 0, .int .i64 0, .slice none 0 0, .slice none 0 0, .bool false, .int .i64 0] 50)).alloc (.cells #[.slice (some ⟨w.heap.size + 1 + 1 + 1, 0, none⟩) 2 2] 46)) :=
    bel_up (bel_up (bel_up (bel_up (bel_up (Below.refl _ _) _) _) _) _) _
  have K0 := bk_up (bk_up (bk_up (bk_up (Bk.new w 25 #[.int .i64 4, .slice (some ⟨w.heap.size + 1, 0, none⟩) 1 1, .slice (some ⟨w.heap.size + 1 + 1, 0, none⟩) 1 1, .slice (some ⟨w.heap.size + 1 + 1 + 1 + 1, 0, none⟩) 1 1]) (.cells #[.int .i64 3] 3)) (.cells #[.int .i64 1] 3))
    (.cells #[.int .i64 8, .int .i64 0, .int .i64 0, .slice none 0 0, .slice none 0 0, .bool false, .int .i64 0, .int .i64 22, .int .i64 0, .int .i64 0, .slice none 0 0, .slice none 0 0, .bool false, .int .i64 0] 50)) (.cells #[.slice (some ⟨w.heap.size + 1 + 1 + 1, 0, none⟩) 2 2] 46)
  have K1 := bk_up (bk_up (bk_up (bk_here (w := w.alloc (.cells #[.int .i64 4, .slice (some ⟨w.heap.size + 1, 0, none⟩) 1 1, .slice (some ⟨w.heap.size + 1 + 1, 0, none⟩) 1 1, .slice (some ⟨w.heap.size + 1 + 1 + 1 + 1, 0, none⟩) 1 1] 25)) (g := w.heap.size + 1) (T := 3) (cs := #[.int .i64 3]) (by simp only [alloc_size])) (.cells #[.int .i64 1] 3))
    (.cells #[.int .i64 8, .int .i64 0, .int .i64 0, .slice none 0 0, .slice none 0 0, .bool false, .int .i64 0, .int .i64 22, .int .i64 0, .int .i64 0, .slice none 0 0, .slice none 0 0, .bool false, .int .i64 0] 50)) (.cells #[.slice (some ⟨w.heap.size + 1 + 1 + 1, 0, none⟩) 2 2] 46)
  have K2 := bk_up (bk_up (bk_here (w := (w.alloc (.cells #[.int .i64 4, .slice (some ⟨w.heap.size + 1, 0, none⟩) 1 1, .slice (some ⟨w.heap.size + 1 + 1, 0, none⟩) 1 1, .slice (some ⟨w.heap.size + 1 + 1 + 1 + 1, 0, none⟩) 1 1] 25)).alloc (.cells #[.int .i64 3] 3)) (g := w.heap.size + 1 + 1) (T := 3) (cs := #[.int .i64 1]) (by simp only [alloc_size]))
    (.cells #[.int .i64 8, .int .i64 0, .int .i64 0, .slice none 0 0, .slice none 0 0, .bool false, .int .i64 0, .int .i64 22, .int .i64 0, .int .i64 0, .slice none 0 0, .slice none 0 0, .bool false, .int .i64 0] 50)) (.cells #[.slice (some ⟨w.heap.size + 1 + 1 + 1, 0, none⟩) 2 2] 46)
  have K3 := bk_up (bk_here (w := ((w.alloc (.cells #[.int .i64 4, .slice (some ⟨w.heap.size + 1, 0, none⟩) 1 1, .slice (some ⟨w.heap.size + 1 + 1, 0, none⟩) 1 1, .slice (some ⟨w.heap.size + 1 + 1 + 1 + 1, 0, none⟩) 1 1] 25)).alloc (.cells #[.int .i64 3] 3)).alloc (.cells #[.int .i64 1] 3)) (g := w.heap.size + 1 + 1 + 1) (T := 50)
    (cs := #[.int .i64 8, .int .i64 0, .int .i64 0, .slice none 0 0, .slice none 0 0, .bool false, .int .i64 0, .int .i64 22, .int .i64 0, .int .i64 0, .slice none 0 0, .slice none 0 0, .bool false, .int .i64 0]) (by simp only [alloc_size])) (.cells #[.slice (some ⟨w.heap.size + 1 + 1 + 1, 0, none⟩) 2 2] 46)
  have K4 := bk_here (w := (((w.alloc (.cells #[.int .i64 4, .slice (some ⟨w.heap.size + 1, 0, none⟩) 1 1, .slice (some ⟨w.heap.size + 1 + 1, 0, none⟩) 1 1, .slice (some ⟨w.heap.size + 1 + 1 + 1 + 1, 0, none⟩) 1 1] 25)).alloc (.cells #[.int .i64 3] 3)).alloc (.cells #[.int .i64 1] 3)).alloc
    (.cells #[.int .i64 8, .int .i64 0, .int .i64 0, .slice none 0 0, .slice none 0 0, .bool false, .int .i64 0, .int .i64 22, .int .i64 0, .int .i64 0, .slice none 0 0, .slice none 0 0, .bool false, .int .i64 0] 50)) (g := w.heap.size + 1 + 1 + 1 + 1) (T := 46) (cs := #[.slice (some ⟨w.heap.size + 1 + 1 + 1, 0, none⟩) 2 2]) (by simp only [alloc_size])
  generalize ((((w.alloc _).alloc _).alloc _).alloc _).alloc _ = w5 at LD K0 K1 K2 K3 K4 ⊢
  have d0 : w5.cell? ⟨w.heap.size, 0, none⟩ = some _ := K0.cell 0
  have d1 : w5.cell? ⟨w.heap.size, 1, none⟩ = some _ := K0.cell 1
  have d2 : w5.cell? ⟨w.heap.size, 2, none⟩ = some _ := K0.cell 2
  have d3 : w5.cell? ⟨w.heap.size, 3, none⟩ = some _ := K0.cell 3
  refine bodyPost_ret (v := .agg #[.int .i64 4, .slice (some ⟨w.heap.size + 1, 0, none⟩) 1 1, .slice (some ⟨w.heap.size + 1 + 1, 0, none⟩) 1 1, .slice (some ⟨w.heap.size + 1 + 1 + 1 + 1, 0, none⟩) 1 1]) (by simp [results, Try.results25, go_sem, d0, d1, d2, d3]) rfl ?_
  refine ⟨_, _, _, .slice (some ⟨w.heap.size + 1 + 1 + 1, 0, none⟩) 2 2, rfl, ⟨?_, ?_, ?_⟩, LD⟩
  · exact intsD_of_bk (xs := [3]) K1 rfl (by decide)
  · exact intsD_of_bk (xs := [1]) K2 rfl (by decide)
  · refine codD_of_bk (xs := [(codeU, .slice (some ⟨w.heap.size + 1 + 1 + 1, 0, none⟩) 2 2)]) K4 rfl (by simp) fun t ht => ?_
    rw [List.mem_singleton.1 ht]
    refine insD_of_bk (xs := codeU) K3 rfl (by decide) fun t ht => ?_
    simp only [codeU, List.mem_cons, List.not_mem_nil, or_false] at ht
    rcases ht with rfl | rfl <;> exact ⟨SlD.nil, SlD.nil⟩

theorem unit_right (v : Value) : rightU (unitU v) = true := by rfl
theorem unit_short (v : Value) : ShortU (unitU v) := by
  refine ⟨by simp [unitU], by simp [unitU], fun r hr => ?_⟩
  rw [show r = (codeU, v) from List.mem_singleton.1 hr]
  refine ⟨by simp [codeU], fun t ht => ?_⟩
  simp only [codeU, List.mem_cons, List.not_mem_nil, or_false] at ht
  rcases ht with rfl | rfl <;> exact ⟨by decide, by decide⟩

end Go.Proofs.Ytdklcjgoomdhkaa
