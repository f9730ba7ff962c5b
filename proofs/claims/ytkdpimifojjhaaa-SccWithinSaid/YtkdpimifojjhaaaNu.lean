/- Layer 14's law: graphs, edges, truths that came in; Light. -/
import Derived.Test.YtkdpimifojjhaaaNt
import Derived.DataShut
namespace Go.Proofs.Ytkdpimifojjhaaa
set_option linter.unusedSimpArgs false
set_option linter.unusedVariables false
open Go.ChangeShapes Go.WideShapes Go.ChangeAt Go.RowKit

theorem c_int : Try.prog.cellsOf 3 = 1 := by kernel_rfl
theorem c_ints : Try.prog.cellsOf 22 = 1 := by kernel_rfl
theorem open_intsF {H : Type} {enc : TypeId × Value → H} {W : World} {fuel : Nat} {c : Value} {x : DataW H × List MemPlace} (h : DataW.trod enc Try.prog W 0 (fun _ => true) true fuel 22 [c] = some x) : ∃ l, IntsD W c l :=
  open_sl (0 : Int) Try.underlying22 c_int (by decide) IntAt (fun n cs y b off hy hl hc _ => by
    match cs, hl with
    | [c0], _ =>
      obtain ⟨n0, e0, _⟩ := DataW.trod_int Try.underlying3 hy
      have e0' : c0 = _ := (List.cons.inj e0).1
      subst e0'
      exact ⟨n0, hc 0 (by decide)⟩) h
theorem open_ints {H : Type} {enc : TypeId × Value → H} {W : World} {base : Nat} {v : Value} {d : DataW H} {p : List MemPlace} (hv : Value.okWide Try.prog W .any base 22 v) (h : DataW.Trod enc Try.prog W 0 (fun _ => true) true 22 v d p) : ∃ l, IntsD W v l := by
  obtain ⟨fuel, hf⟩ := h
  obtain ⟨a, len, cap, rfl⟩ := okWide_slice Try.underlying22 hv
  exact open_intsF hf
theorem open_trus {H : Type} {enc : TypeId × Value → H} {W : World} {base : Nat} {v : Value} {d : DataW H} {p : List MemPlace} (hv : Value.okWide Try.prog W .any base 32 v) (h : DataW.Trod enc Try.prog W 0 (fun _ => true) true 32 v d p) : ∃ l, TrusD W v l := by
  obtain ⟨fuel, hf⟩ := h
  obtain ⟨a, len, cap, rfl⟩ := okWide_slice Try.underlying32 hv
  exact open_sl false Try.underlying32 (by kernel_rfl) (by decide) TruAt (fun n cs y b off hy hl hc _ => by
    match cs, hl with
    | [c0], _ =>
      obtain ⟨n0, e0, _⟩ := DataW.trod_bool Try.underlying4 hy
      have e0' : c0 = _ := (List.cons.inj e0).1
      subst e0'
      exact ⟨n0, hc 0 (by decide)⟩) hf
theorem open_edgs {H : Type} {enc : TypeId × Value → H} {W : World} {base : Nat} {v : Value} {d : DataW H} {p : List MemPlace} (hv : Value.okWide Try.prog W .any base 37 v) (h : DataW.Trod enc Try.prog W 0 (fun _ => true) true 37 v d p) : ∃ l, EdgsD W v l := by
  obtain ⟨fuel, hf⟩ := h
  obtain ⟨a, len, cap, rfl⟩ := okWide_slice Try.underlying37 hv
  exact open_sl ((0, 0, 0) : Edg) Try.underlying37 (by kernel_rfl) (by decide) EdgAt (fun n cs y b off hy hl hc _ => by
    obtain ⟨xs, m, _, _, _, hxl, hf⟩ := DataW.trod_struct Try.underlying41 hy
    match cs, hl with
    | [c0, c1, c2], _ =>
      match xs, hxl with
      | [x0, x1, x2], _ =>
        have f0 : DataW.trod enc Try.prog W 0 (fun _ => true) true m 3 (([c0, c1, c2].drop 0).take (Try.prog.cellsOf 3)) = some x0 := hf 0 _ rfl
        have f1 : DataW.trod enc Try.prog W 0 (fun _ => true) true m 3 (([c0, c1, c2].drop 1).take (Try.prog.cellsOf 3)) = some x1 := hf 1 _ rfl
        have f2 : DataW.trod enc Try.prog W 0 (fun _ => true) true m 3 (([c0, c1, c2].drop 2).take (Try.prog.cellsOf 3)) = some x2 := hf 2 _ rfl
        rw [c_int] at f0 f1 f2
        obtain ⟨n0, e0, w0⟩ := DataW.trod_int Try.underlying3 f0
        obtain ⟨n1, e1, w1⟩ := DataW.trod_int Try.underlying3 f1
        obtain ⟨n2, e2, w2⟩ := DataW.trod_int Try.underlying3 f2
        have e0' : c0 = _ := (List.cons.inj e0).1
        have e1' : c1 = _ := (List.cons.inj e1).1
        have e2' : c2 = _ := (List.cons.inj e2).1
        subst e0' e1' e2'
        exact ⟨(n0, n1, n2), hc 0 (by decide), hc 1 (by decide), hc 2 (by decide)⟩) hf
theorem open_csr {H : Type} {enc : TypeId × Value → H} {W : World} {base : Nat} {v : Value} {d : DataW H} {p : List MemPlace} (hv : Value.okWide Try.prog W .any base 24 v) (h : DataW.Trod enc Try.prog W 0 (fun _ => true) true 24 v d p) :
    ∃ (g : Gr) (vs va vt : Value), v = .agg #[vs, va, vt] ∧ GrD W vs va vt g := by
  obtain ⟨cs, rfl, hsz⟩ := okWide_struct Try.underlying24 hv
  obtain ⟨fuel, hf⟩ := h
  have hs : Try.prog.cellsOf 24 = 3 := by kernel_rfl
  rw [hs] at hsz
  obtain ⟨l⟩ := cs
  have hl : l.length = 3 := hsz
  have hf : DataW.trod enc Try.prog W 0 (fun _ => true) true fuel 24 l = some (d, p) := hf
  obtain ⟨xs, m, _, _, _, hxl, hf⟩ := DataW.trod_struct Try.underlying24 hf
  match l, hl with
  | [c0, c1, c2], _ =>
    match xs, hxl with
    | [x0, x1, x2], _ =>
      have f0 : DataW.trod enc Try.prog W 0 (fun _ => true) true m 22 (([c0, c1, c2].drop 0).take (Try.prog.cellsOf 22)) = some x0 := hf 0 _ rfl
      have f1 : DataW.trod enc Try.prog W 0 (fun _ => true) true m 22 (([c0, c1, c2].drop 1).take (Try.prog.cellsOf 22)) = some x1 := hf 1 _ rfl
      have f2 : DataW.trod enc Try.prog W 0 (fun _ => true) true m 22 (([c0, c1, c2].drop 2).take (Try.prog.cellsOf 22)) = some x2 := hf 2 _ rfl
      rw [c_ints] at f0 f1 f2
      obtain ⟨l0, h0⟩ := open_intsF f0
      obtain ⟨l1, h1⟩ := open_intsF f1
      obtain ⟨l2, h2⟩ := open_intsF f2
      exact ⟨⟨l0, l1, l2⟩, c0, c1, c2, rfl, h0, h1, h2⟩

end Go.Proofs.Ytkdpimifojjhaaa
