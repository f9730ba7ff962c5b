/- A modulus, numbers, rows of numbers and a memory that came in. -/
import Derived.Test.YtibkegalbcjmpaaMg
namespace Go.Proofs.Ytibkegalbcjmpaa
open Go.ChangeShapes Go.WideShapes Go.ChangeAt Go.RowKit
open Go.ChangeMaps (open_string shut_string)
set_option maxRecDepth 100000

theorem open_intsF {H : Type} {enc : TypeId × Value → H} {W : World} {fuel : Nat} {c : Value} {x : DataW H × List MemPlace} (h : DataW.trod enc Try.prog W 0 (fun _ => true) true fuel 38 [c] = some x) :
    ∃ ts : List Int, IntsD W c ts ∧ ts.length ≤ maxLen := by
  obtain ⟨ts, ad, cap, rfl, h0, h1, h2, h3⟩ := open_gen (α := Int) (S := 1) 0 Try.underlying38 (by kernel_rfl) (by decide)
    (fun b off t => IntAt W b off t)
    (fun n cs y b off hy hl hc hb => by
      match cs, hl with
      | [c0], _ =>
        obtain ⟨n0, e0, _⟩ := DataW.trod_int Try.underlying3 hy
        have e0' : c0 = _ := (List.cons.inj e0).1
        subst e0'
        exact ⟨n0, hc 0 (by decide)⟩) h
  exact ⟨ts, ⟨ad, cap, rfl, ⟨h1, nil_cap h0⟩, by unfold maxLen at h2; omega, h3⟩, by omega⟩

theorem open_rowsF {H : Type} {enc : TypeId × Value → H} {W : World} {fuel : Nat} {c : Value} {x : DataW H × List MemPlace} (h : DataW.trod enc Try.prog W 0 (fun _ => true) true fuel 39 [c] = some x) :
    ∃ ts : List (List Int × Value), AllD W c ts ∧ ts.length ≤ maxLen ∧ ∀ x ∈ ts, x.1.length ≤ maxLen := by
  obtain ⟨ts, ad, cap, rfl, h0, h1, h2, h3⟩ := open_gen (α := List Int × Value) (S := 1) ([], .bool false) Try.underlying39 (by kernel_rfl) (by decide)
    (fun b off t => RowAt W b off t ∧ t.1.length ≤ maxLen)
    (fun n cs y b off hy hl hc hb => by
      match cs, hl with
      | [c0], _ =>
        obtain ⟨ns, h4, h5⟩ := open_intsF hy
        exact ⟨(ns, c0), ⟨hc 0 (by decide), h4⟩, h5⟩) h
  refine ⟨ts, ⟨ad, cap, rfl, ⟨h1, nil_cap h0⟩, by unfold maxLen at h2; omega, fun i hi => ?_⟩, by omega, fun x hx => ?_⟩
  · obtain ⟨b, off, g1, g2, g3⟩ := h3 i hi
    exact ⟨b, off, g1, g2, g3.1⟩
  · obtain ⟨i, hi, rfl⟩ := List.mem_iff_getElem.1 hx
    obtain ⟨b, off, g1, g2, g3⟩ := h3 i hi
    exact g3.2

theorem open_state {H : Type} {enc : TypeId × Value → H} {W : World} {base : Nat} {v : Value} {d : DataW H} {p : List MemPlace} (hv : Value.okWide Try.prog W .any base 41 v) (h : DataW.Trod enc Try.prog W 0 (fun _ => true) true 41 v d p) :
    ∃ (m : Int) (own mem : List Int) (rs : List (List Int × Value)) (ov av mv : Value), v = .agg #[.int .i64 m, ov, av, mv] ∧ IntsD W ov own ∧ AllD W av rs ∧ IntsD W mv mem ∧ own.length ≤ maxLen ∧ rs.length ≤ maxLen ∧ mem.length ≤ maxLen ∧ ∀ x ∈ rs, x.1.length ≤ maxLen := by
  obtain ⟨cs, rfl, hsz⟩ := okWide_struct Try.underlying41 hv
  obtain ⟨fuel, hf⟩ := h
  have hf : DataW.trod enc Try.prog W 0 (fun _ => true) true fuel 41 cs.toList = some (d, p) := hf
  obtain ⟨xs, m, _, _, _, hxl, hx⟩ := DataW.trod_struct Try.underlying41 hf
  have hs4 : Try.prog.cellsOf 41 = 4 := by kernel_rfl
  rw [hs4] at hsz
  obtain ⟨l⟩ := cs
  have hl : l.length = 4 := hsz
  match l, hl with
  | [c0, c1, c2, k3], _ =>
    match xs, hxl with
    | [x0, x1, x2, x3], _ =>
      have s1 : Try.prog.cellsOf 38 = 1 := by kernel_rfl
      have s2 : Try.prog.cellsOf 39 = 1 := by kernel_rfl
      have f0 : DataW.trod enc Try.prog W 0 (fun _ => true) true m 3 (([c0, c1, c2, k3].drop 0).take (Try.prog.cellsOf 3)) = some x0 := hx 0 _ rfl
      have f1 : DataW.trod enc Try.prog W 0 (fun _ => true) true m 38 (([c0, c1, c2, k3].drop 1).take (Try.prog.cellsOf 38)) = some x1 := hx 1 _ rfl
      have f2 : DataW.trod enc Try.prog W 0 (fun _ => true) true m 39 (([c0, c1, c2, k3].drop 2).take (Try.prog.cellsOf 39)) = some x2 := hx 2 _ rfl
      have f3 : DataW.trod enc Try.prog W 0 (fun _ => true) true m 38 (([c0, c1, c2, k3].drop 3).take (Try.prog.cellsOf 38)) = some x3 := hx 3 _ rfl
      rw [c3] at f0
      rw [s1] at f1 f3
      rw [s2] at f2
      obtain ⟨n0, e0, _⟩ := DataW.trod_int Try.underlying3 f0
      have e0' : c0 = _ := (List.cons.inj e0).1
      subst e0'
      obtain ⟨own, g1, g2⟩ := open_intsF f1
      obtain ⟨rs, g3, g4, g5⟩ := open_rowsF f2
      obtain ⟨mem, g6, g7⟩ := open_intsF f3
      exact ⟨n0, own, mem, rs, _, _, _, rfl, g1, g3, g6, g2, g4, g7, g5⟩

end Go.Proofs.Ytibkegalbcjmpaa
