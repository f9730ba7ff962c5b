/- Layer 8: entries and slices of entries that came in. -/
import Derived.Test.YtponbnlhedigoaaSk
import Derived.ProofKit
import Derived.OpenShut
import Derived.ShutString
import Derived.Deep.Slices
import Derived.ChangeOld
import Derived.WalkSmall
namespace Go.Proofs.Ytponbnlhedigoaa
open Go.ChangeShapes Go.WideShapes Go.ChangeAt Go.RowKit
open Go.ChangeMaps (open_string shut_string)
set_option maxRecDepth 100000

def NilOK (v : Value) : Prop := v = .slice none 0 0 ∨ ∃ a n c, v = .slice (some a) n c

theorem cell_spot {w : World} {b off : Nat} {sp : Option Nat} {x : Value} (h : w.cell? ⟨b, off, sp⟩ = some x) : sp = none ∧ b < w.heap.size := by
  unfold World.cell? at h
  constructor
  · cases sp with
    | none => rfl
    | some k => split at h <;> simp at h
  · rcases Nat.lt_or_ge b w.heap.size with h' | h'
    · exact h'
    · simp [Array.getElem?_eq_none h'] at h

theorem open_gen {α H : Type} {enc : TypeId × Value → H} {W : World} {fuel T E S : Nat} {c : Value} {x : DataW H × List MemPlace} (z : α) (hT : Try.prog.underlying T = some (.slice E)) (hS : Try.prog.cellsOf E = S) (h0 : 0 < S) (R : Nat → Nat → α → Prop)
    (hR : ∀ n cs y b off, DataW.trod enc Try.prog W 0 (fun _ => true) true n E cs = some y → cs.length = S → (∀ j, j < S → W.cell? ⟨b, off + j, none⟩ = cs[j]?) → b < W.heap.size → ∃ t, R b off t)
    (h : DataW.trod enc Try.prog W 0 (fun _ => true) true fuel T [c] = some x) :
    ∃ (ts : List α) (ad : Option Addr) (cap : Nat), c = .slice ad ts.length cap ∧ NilOK c ∧ ts.length ≤ cap ∧ cap ≤ maxLen ∧ ∀ i, (hi : i < ts.length) → ∃ b off, ad = some ⟨b, off, none⟩ ∧ b < W.heap.size ∧ R b (off + i * S) ts[i] := by
  haveI : Inhabited α := ⟨z⟩
  rcases Deep.open_slice hT h with ⟨hcs, _⟩ | ⟨a, len, cap, m, n, D, Pl, hcs, _, hl, hm, hmm, _, hx⟩
  · obtain rfl : c = .slice none 0 0 := (List.cons.inj hcs).1
    exact ⟨[], none, 0, rfl, .inl rfl, Nat.zero_le _, Nat.zero_le _, fun i hi => absurd hi (Nat.not_lt_zero _)⟩
  · obtain rfl : c = .slice (some a) len cap := (List.cons.inj hcs).1
    rw [hS] at hx
    simp only [if_true] at hmm
    by_cases hz : len = 0
    · subst hz
      exact ⟨[], some a, cap, rfl, .inr ⟨_, _, _, rfl⟩, Nat.zero_le _, hm, fun i hi => absurd hi (Nat.not_lt_zero _)⟩
    · obtain ⟨b, off, sp⟩ := a
      obtain ⟨rfl, hb⟩ : sp = none ∧ b < W.heap.size := by
        obtain ⟨cs', h1, _⟩ := hx 0 (by omega)
        obtain ⟨_, hcl, hat⟩ := World.cells?_some h1
        have k := hat 0 h0
        have e0 : ((⟨b, off, sp⟩ : Addr).add (0 * S)).add 0 = ⟨b, off, sp⟩ := by simp [Addr.add]
        rw [e0, List.getElem?_eq_getElem (by omega)] at k
        exact cell_spot k
      have e : ∀ j, (⟨b, off, none⟩ : Addr).add j = ⟨b, off + j, none⟩ := by
        intro j; unfold Addr.add; split <;> simp_all
      have hc : ∀ i, i < len → ∃ t : α, R b (off + i * S) t := by
        intro i hi
        obtain ⟨cs', h1, h2⟩ := hx i (by omega)
        obtain ⟨_, hcl, hat⟩ := World.cells?_some h1
        refine hR n cs' _ b (off + i * S) h2 hcl (fun j hj => ?_) hb
        have k := hat j hj
        rw [Deep.add_add, e, ← Nat.add_assoc] at k
        exact k
      obtain ⟨V, hV⟩ := Deep.choose_lt (α := α) (p := fun i t => R b (off + i * S) t) hc
      refine ⟨(List.range len).map V, some ⟨b, off, none⟩, cap, by simp, .inr ⟨_, _, _, rfl⟩, by simpa using hl, hm, fun i hi => ?_⟩
      have hi' : i < len := by simpa using hi
      refine ⟨b, off, rfl, hb, ?_⟩
      simp only [List.getElem_map, List.getElem_range]
      exact hV i hi'

theorem cell_ent {H : Type} {enc : TypeId × Value → H} {W : World} {n : Nat} {cs : List Value} {x : DataW H × List MemPlace} (h : DataW.trod enc Try.prog W 0 (fun _ => true) true n 25 cs = some x) (hl : cs.length = 2) :
    ∃ t : Ent, cs = cellsE t ∧ (Lit.int .i64 t.1).wf = true ∧ (Lit.int .i64 t.2).wf = true := by
  obtain ⟨xs, m, _, _, _, hxl, hf⟩ := DataW.trod_struct Try.underlying25 h
  match cs, hl with
  | [c0, c1], _ =>
    match xs, hxl with
    | [x0, x1], _ =>
      have s3 : Try.prog.cellsOf 3 = 1 := by kernel_rfl
      have f0 : DataW.trod enc Try.prog W 0 (fun _ => true) true m 3 (([c0, c1].drop 0).take (Try.prog.cellsOf 3)) = some x0 := hf 0 _ rfl
      have f1 : DataW.trod enc Try.prog W 0 (fun _ => true) true m 3 (([c0, c1].drop 1).take (Try.prog.cellsOf 3)) = some x1 := hf 1 _ rfl
      rw [s3] at f0 f1
      obtain ⟨n0, e0, w0⟩ := DataW.trod_int Try.underlying3 f0
      obtain ⟨n1, e1, w1⟩ := DataW.trod_int Try.underlying3 f1
      have e0' : c0 = _ := (List.cons.inj e0).1
      have e1' : c1 = _ := (List.cons.inj e1).1
      subst e0' e1'
      exact ⟨(n0, n1), rfl, w0.2, w1.2⟩

theorem nil_cap {ad : Option Addr} {n cap : Nat} (h : NilOK (.slice ad n cap)) : ad = none → cap = 0 := by
  rintro rfl
  rcases h with h | ⟨_, _, _, h⟩
  · injection h
  · injection h with h; cases h

theorem open_ents {H : Type} {enc : TypeId × Value → H} {W : World} {base : Nat} {v : Value} {d : DataW H} {p : List MemPlace} (hv : Value.okWide Try.prog W .any base 22 v) (h : DataW.Trod enc Try.prog W 0 (fun _ => true) true 22 v d p) :
    ∃ ts : List Ent, EntsD W v ts ∧ ts.length ≤ maxLen ∧ ∀ i, (hi : i < ts.length) → (Lit.int .i64 ts[i].1).wf = true ∧ (Lit.int .i64 ts[i].2).wf = true := by
  obtain ⟨a0, len, cap, rfl⟩ := okWide_slice Try.underlying22 hv
  obtain ⟨fuel, hf⟩ := h
  obtain ⟨ts, ad, cap', hc, h0, h1, h2, h3⟩ := open_gen (α := Ent) (S := 2) (c := .slice a0 len cap) (fuel := fuel) (0, 0) Try.underlying22 (by kernel_rfl) (by decide)
    (fun b off t => EntAt W b off t ∧ (Lit.int .i64 t.1).wf = true ∧ (Lit.int .i64 t.2).wf = true)
    (fun n cs y b off hy hl hc hb => by
      obtain ⟨t, rfl, w0, w1⟩ := cell_ent hy hl
      exact ⟨t, ⟨hc 0 (by decide), hc 1 (by decide)⟩, w0, w1⟩) (by simpa [Value.cells] using hf)
  refine ⟨ts, ⟨ad, cap', hc, ⟨h1, nil_cap (by rw [← hc]; exact h0)⟩, by unfold maxLen at h2; omega, fun i hi => ?_⟩, by omega, fun i hi => ?_⟩
  · obtain ⟨b, off, he, hb, hx, _⟩ := h3 i hi
    exact ⟨b, off, he, hb, hx⟩
  · obtain ⟨b, off, he, hb, _, hx⟩ := h3 i hi
    exact hx
theorem open_ent {H : Type} {enc : TypeId × Value → H} {W : World} {base : Nat} {v : Value} {d : DataW H} {p : List MemPlace} (hv : Value.okWide Try.prog W .any base 25 v) (h : DataW.Trod enc Try.prog W 0 (fun _ => true) true 25 v d p) :
    ∃ x y : Int, v = .agg #[.int .i64 x, .int .i64 y] := by
  obtain ⟨cs, rfl, hsz⟩ := okWide_struct Try.underlying25 hv
  obtain ⟨fuel, hf⟩ := h
  have hc2 : Try.prog.cellsOf 25 = 2 := by kernel_rfl
  obtain ⟨t, ht, _⟩ := cell_ent (cs := cs.toList) (by simpa [Value.cells] using hf) (by simpa [hc2] using hsz)
  refine ⟨t.1, t.2, ?_⟩
  have : cs = #[.int .i64 t.1, .int .i64 t.2] := Array.ext' (by simpa [cellsE] using ht)
  rw [this]

end Go.Proofs.Ytponbnlhedigoaa
