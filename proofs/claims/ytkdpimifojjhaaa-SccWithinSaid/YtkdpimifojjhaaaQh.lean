/- Layer 17, the code: newSearch. -/
import Derived.Test.YtkdpimifojjhaaaQd
import Derived.Deep.RegionLaw
import Derived.Deep.DeepCutAuto
namespace Go.Proofs.Ytkdpimifojjhaaa
set_option linter.unusedSimpArgs false
set_option linter.unusedVariables false
open Go.RowKit

/-- A new search, in memory. -/
structure SN (w0 w : World) (n gS gO gL gD : Nat) : Prop where
  r : Bk w gS 63 #[.int .i64 0, .slice (some ⟨gO, 0, none⟩) n n, .slice (some ⟨gL, 0, none⟩) n n, .slice (some ⟨gD, 0, none⟩) n n, .slice none 0 0]
  o : BkI w gO (List.replicate n 0)
  l : BkI w gL (List.replicate n 0)
  d : BkI w gD (List.replicate n (-1))
  pS : w0.heap.size ≤ gS
  pO : w0.heap.size ≤ gO
  pL : w0.heap.size ≤ gL
  pD : w0.heap.size ≤ gD
  nOL : gO ≠ gL
  nOD : gO ≠ gD
  nLD : gL ≠ gD
  b : Below w0.heap.size w0 w
theorem sn_mk {w0 w : World} {n gS gO gL gD : Nat} (r : Bk w gS 63 #[.int .i64 0, .slice (some ⟨gO, 0, none⟩) n n, .slice (some ⟨gL, 0, none⟩) n n, .slice (some ⟨gD, 0, none⟩) n n, .slice none 0 0])
    (o : BkI w gO (List.replicate n 0)) (l : BkI w gL (List.replicate n 0)) (d : BkI w gD (List.replicate n (-1))) (pS : w0.heap.size ≤ gS) (pO : w0.heap.size ≤ gO) (pL : w0.heap.size ≤ gL) (pD : w0.heap.size ≤ gD) (nOL : gO ≠ gL) (nOD : gO ≠ gD) (nLD : gL ≠ gD) (b : Below w0.heap.size w0 w) :
    ∃ a c e f, Value.pointer (some ⟨gS, 0, none⟩) = .pointer (some ⟨a, 0, none⟩) ∧ SN w0 w n a c e f := ⟨gS, gO, gL, gD, rfl, r, o, l, d, pS, pO, pL, pD, nOL, nOD, nLD, b⟩
set_option maxRecDepth 100000 in
set_option maxHeartbeats 8000000 in
theorem newSearch_core (n : Nat) (hn : n ≤ 1000) (w : World)
    (hrep : ∀ (W : World) (g : Nat), Bk W g 3 #[.int .i64 (-1)] → Calls Try.prog 28 #[.slice (some ⟨g, 0, none⟩) 1 1, .int .i64 n] W fun e w' => ∃ gn, e = .returned (.slice (some ⟨gn, 0, none⟩) n n) ∧ BkI w' gn (List.replicate n (-1)) ∧ Below W.heap.size W w' ∧ W.heap.size ≤ gn) :
    Calls Try.prog 40 #[.int .i64 n] w fun e w' => ∃ gS gO gL gD, e = .returned (.pointer (some ⟨gS, 0, none⟩)) ∧ SN w w' n gS gO gL gD := by
  have HR := Lib.hid hrep
  have mk2 := fun (W : World) => make_int n (by omega) W
  clear hrep
  go_enter Try.func40, Try.ntmps40
  go_upto_region 1 with fail
  go_cut [2] (fun s2 wx => ∃ gS gO gL gD, s2 = .pointer (some ⟨gS, 0, none⟩) ∧ SN w wx n gS gO gL gD)
  case first =>
    go_region_law (go_simp; go_at_call 28; (refine Calls.mono (HR.out _ _ (by repeat' (first | with_reducible refine bk_drew ?_ | ((with_reducible refine bk_at ?_); (simp only [alloc_size]; done)) | with_reducible exact Bk.new _ _ _ | with_reducible refine bk_alloc ?_ _))) ?_); rintro e wn ⟨gn, rfl, hgn, bn, pn⟩)
    all_goals
      have hbs := bn.size
      have hgl := (show Bk wn gn _ _ from hgn).lt
      simp only [alloc_size, World.drew] at hbs pn hgl
      go_wp2_with fail
      go_meet
      apply sn_mk
      case r => repeat' (first | with_reducible exact hgn | with_reducible refine bk_drew ?_ | ((with_reducible refine bk_at ?_); (simp only [alloc_size]; done)) | with_reducible refine bk_alloc ?_ _ | with_reducible refine Bk.below ?_ bn)
      case o => repeat' (first | with_reducible exact hgn | with_reducible refine bk_drew ?_ | ((with_reducible refine bk_at ?_); (simp only [alloc_size]; done)) | with_reducible refine bk_alloc ?_ _ | with_reducible refine Bk.below ?_ bn)
      case l => repeat' (first | with_reducible exact hgn | with_reducible refine bk_drew ?_ | ((with_reducible refine bk_at ?_); (simp only [alloc_size]; done)) | with_reducible refine bk_alloc ?_ _ | with_reducible refine Bk.below ?_ bn)
      case d => repeat' (first | with_reducible exact hgn | with_reducible refine bk_drew ?_ | ((with_reducible refine bk_at ?_); (simp only [alloc_size]; done)) | with_reducible refine bk_alloc ?_ _ | with_reducible refine Bk.below ?_ bn)
      case b => repeat' (first | with_reducible exact Below.refl _ _ | with_reducible refine bdr ?_ | with_reducible refine bal ?_ _ | with_reducible refine Below.trans ?_ (bn.mono (by simp only [alloc_size, World.drew]; omega)))
      all_goals first | omega | (simp only [alloc_size, World.drew]; omega)
  case rest =>
    obtain ⟨gS, gO, gL, gD, rfl, hs⟩ := hcut
    go_wp2_with fail
    go_ret
    exact ⟨_, _, _, _, rfl, hs⟩

end Go.Proofs.Ytkdpimifojjhaaa
