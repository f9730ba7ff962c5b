/- Layer 9: a unit and a configuration that came in. -/
import Derived.Test.YtmkgijedchpgcaaVa
import Derived.ProofKit
import Derived.OpenShut
import Derived.ShutString
import Derived.Deep.Slices
import Derived.ChangeOld
import Derived.WalkSmall
namespace Go.Proofs.Ytmkgijedchpgcaa
set_option linter.unusedSimpArgs false
set_option linter.unusedVariables false
open Go.ChangeShapes Go.WideShapes Go.ChangeAt Go.RowKit
open Go.ChangeMaps (open_string shut_string)
set_option maxRecDepth 100000

def NilOK (v : Value) : Prop := v = .slice none 0 0 ∨ ∃ a n c, v = .slice (some a) n c

theorem cell_spot {w : World} {b off : Nat} {sp : Option Nat} {x : Value} (h : w.cell? ⟨b, off, sp⟩ = some x) : sp = none ∧ b < w.heap.size := by
  unfold World.cell? at h
  constructor
  · cases sp with
    | none => rfl
    | some k => split at h <;> simp at h
  · rcases Nat.lt_or_ge b w.heap.size with h' | h'
    · exact h'
    · simp [Array.getElem?_eq_none h'] at h

theorem open_gen {α H : Type} {enc : TypeId × Value → H} {W : World} {fuel T E S : Nat} {c : Value} {x : DataW H × List MemPlace} (z : α) (hT : Try.prog.underlying T = some (.slice E)) (hS : Try.prog.cellsOf E = S) (h0 : 0 < S) (R : Nat → Nat → α → Prop)
    (hR : ∀ n cs y b off, DataW.trod enc Try.prog W 0 (fun _ => true) true n E cs = some y → cs.length = S → (∀ j, j < S → W.cell? ⟨b, off + j, none⟩ = cs[j]?) → b < W.heap.size → ∃ t, R b off t)
    (h : DataW.trod enc Try.prog W 0 (fun _ => true) true fuel T [c] = some x) :
    ∃ (ts : List α) (ad : Option Addr) (cap : Nat), c = .slice ad ts.length cap ∧ NilOK c ∧ ts.length ≤ cap ∧ cap ≤ maxLen ∧ ∀ i, (hi : i < ts.length) → ∃ b off, ad = some ⟨b, off, none⟩ ∧ b < W.heap.size ∧ R b (off + i * S) ts[i] := by
  haveI : Inhabited α := ⟨z⟩
  rcases Deep.open_slice hT h with ⟨hcs, _⟩ | ⟨a, len, cap, m, n, D, Pl, hcs, _, hl, hm, hmm, _, hx⟩
  · obtain rfl : c = .slice none 0 0 := (List.cons.inj hcs).1
    exact ⟨[], none, 0, rfl, .inl rfl, Nat.zero_le _, Nat.zero_le _, fun i hi => absurd hi (Nat.not_lt_zero _)⟩
  · obtain rfl : c = .slice (some a) len cap := (List.cons.inj hcs).1
    rw [hS] at hx
    simp only [if_true] at hmm
    by_cases hz : len = 0
    · subst hz
      exact ⟨[], some a, cap, rfl, .inr ⟨_, _, _, rfl⟩, Nat.zero_le _, hm, fun i hi => absurd hi (Nat.not_lt_zero _)⟩
    · obtain ⟨b, off, sp⟩ := a
      obtain ⟨rfl, hb⟩ : sp = none ∧ b < W.heap.size := by
        obtain ⟨cs', h1, _⟩ := hx 0 (by omega)
        obtain ⟨_, hcl, hat⟩ := World.cells?_some h1
        have k := hat 0 h0
        have e0 : ((⟨b, off, sp⟩ : Addr).add (0 * S)).add 0 = ⟨b, off, sp⟩ := by simp [Addr.add]
        rw [e0, List.getElem?_eq_getElem (by omega)] at k
        exact cell_spot k
      have e : ∀ j, (⟨b, off, none⟩ : Addr).add j = ⟨b, off + j, none⟩ := by
        intro j; unfold Addr.add; split <;> simp_all
      have hc : ∀ i, i < len → ∃ t : α, R b (off + i * S) t := by
        intro i hi
        obtain ⟨cs', h1, h2⟩ := hx i (by omega)
        obtain ⟨_, hcl, hat⟩ := World.cells?_some h1
        refine hR n cs' _ b (off + i * S) h2 hcl (fun j hj => ?_) hb
        have k := hat j hj
        rw [Deep.add_add, e, ← Nat.add_assoc] at k
        exact k
      obtain ⟨V, hV⟩ := Deep.choose_lt (α := α) (p := fun i t => R b (off + i * S) t) hc
      refine ⟨(List.range len).map V, some ⟨b, off, none⟩, cap, by simp, .inr ⟨_, _, _, rfl⟩, by simpa using hl, hm, fun i hi => ?_⟩
      have hi' : i < len := by simpa using hi
      refine ⟨b, off, rfl, hb, ?_⟩
      simp only [List.getElem_map, List.getElem_range]
      exact hV i hi'

theorem cell_ent {H : Type} {enc : TypeId × Value → H} {W : World} {n : Nat} {cs : List Value} {x : DataW H × List MemPlace} (h : DataW.trod enc Try.prog W 0 (fun _ => true) true n 50 cs = some x) (hl : cs.length = 2) :
    ∃ t : Ent, cs = cellsE t ∧ (Lit.int .i64 t.1).wf = true ∧ (Lit.int .i64 t.2).wf = true := by
  obtain ⟨xs, m, _, _, _, hxl, hf⟩ := DataW.trod_struct Try.underlying50 h
  match cs, hl with
  | [c0, c1], _ =>
    match xs, hxl with
    | [x0, x1], _ =>
      have s3 : Try.prog.cellsOf 3 = 1 := by kernel_rfl
      have f0 : DataW.trod enc Try.prog W 0 (fun _ => true) true m 3 (([c0, c1].drop 0).take (Try.prog.cellsOf 3)) = some x0 := hf 0 _ rfl
      have f1 : DataW.trod enc Try.prog W 0 (fun _ => true) true m 3 (([c0, c1].drop 1).take (Try.prog.cellsOf 3)) = some x1 := hf 1 _ rfl
      rw [s3] at f0 f1
      obtain ⟨n0, e0, w0⟩ := DataW.trod_int Try.underlying3 f0
      obtain ⟨n1, e1, w1⟩ := DataW.trod_int Try.underlying3 f1
      have e0' : c0 = _ := (List.cons.inj e0).1
      have e1' : c1 = _ := (List.cons.inj e1).1
      subst e0' e1'
      exact ⟨(n0, n1), rfl, w0.2, w1.2⟩

theorem nil_cap {ad : Option Addr} {n cap : Nat} (h : NilOK (.slice ad n cap)) : ad = none → cap = 0 := by
  rintro rfl
  rcases h with h | ⟨_, _, _, h⟩
  · injection h
  · injection h with h; cases h


theorem open_sl {α : Type} {H : Type} {enc : TypeId × Value → H} {W : World} {fuel T E S : Nat} {c : Value} {x : DataW H × List MemPlace} (z : α) (hT : Try.prog.underlying T = some (.slice E)) (hS : Try.prog.cellsOf E = S) (h0 : 0 < S) (R : World → Nat → Nat → α → Prop)
    (hR : ∀ n cs y b off, DataW.trod enc Try.prog W 0 (fun _ => true) true n E cs = some y → cs.length = S → (∀ j, j < S → W.cell? ⟨b, off + j, none⟩ = cs[j]?) → b < W.heap.size → ∃ t, R W b off t)
    (h : DataW.trod enc Try.prog W 0 (fun _ => true) true fuel T [c] = some x) : ∃ ts : List α, SlD S R W c ts := by
  obtain ⟨ts, ad, cap, hc, h1, h2, h3, h4⟩ := open_gen z hT hS h0 (R W) hR h
  subst hc
  exact ⟨ts, ad, cap, rfl, ⟨h2, nil_cap h1⟩, by unfold maxLen at h3; omega, h4⟩

theorem c_int : Try.prog.cellsOf 3 = 1 := by kernel_rfl
theorem c_bool : Try.prog.cellsOf 4 = 1 := by kernel_rfl
theorem c_ints : Try.prog.cellsOf 22 = 1 := by kernel_rfl
theorem c_ops : Try.prog.cellsOf 51 = 1 := by kernel_rfl
theorem c_instrs : Try.prog.cellsOf 54 = 1 := by kernel_rfl
theorem c_code : Try.prog.cellsOf 23 = 1 := by kernel_rfl
theorem c_ents : Try.prog.cellsOf 48 = 1 := by kernel_rfl
theorem c_bufs : Try.prog.cellsOf 27 = 1 := by kernel_rfl
theorem c_regs : Try.prog.cellsOf 26 = 1 := by kernel_rfl

theorem open_ints {H : Type} {enc : TypeId × Value → H} {W : World} {fuel : Nat} {c : Value} {x : DataW H × List MemPlace} (h : DataW.trod enc Try.prog W 0 (fun _ => true) true fuel 22 [c] = some x) : ∃ l, IntsD W c l :=
  open_sl (0 : Int) Try.underlying22 c_int (by decide) IntAt (fun n cs y b off hy hl hc _ => by
    match cs, hl with
    | [c0], _ =>
      obtain ⟨n0, e0, _⟩ := DataW.trod_int Try.underlying3 hy
      have e0' : c0 = _ := (List.cons.inj e0).1
      subst e0'
      exact ⟨n0, hc 0 (by decide)⟩) h
theorem open_entsF {H : Type} {enc : TypeId × Value → H} {W : World} {fuel : Nat} {c : Value} {x : DataW H × List MemPlace} (h : DataW.trod enc Try.prog W 0 (fun _ => true) true fuel 48 [c] = some x) : ∃ l, EntsD W c l :=
  open_sl ((0, 0) : Ent) Try.underlying48 (by kernel_rfl) (by decide) EntAt (fun n cs y b off hy hl hc _ => by
    obtain ⟨t, rfl, _, _⟩ := cell_ent hy hl
    exact ⟨t, hc 0 (by decide), hc 1 (by decide)⟩) h
theorem open_bufs {H : Type} {enc : TypeId × Value → H} {W : World} {fuel : Nat} {c : Value} {x : DataW H × List MemPlace} (h : DataW.trod enc Try.prog W 0 (fun _ => true) true fuel 27 [c] = some x) : ∃ l, BufsD W c l :=
  open_sl (([], .nilFunc) : List Ent × Value) Try.underlying27 c_ents (by decide) BfAt (fun n cs y b off hy hl hc _ => by
    match cs, hl with
    | [c0], _ =>
      obtain ⟨l, hl⟩ := open_entsF hy
      exact ⟨(l, c0), hc 0 (by decide), hl⟩) h
theorem open_rows {H : Type} {enc : TypeId × Value → H} {W : World} {fuel : Nat} {c : Value} {x : DataW H × List MemPlace} (h : DataW.trod enc Try.prog W 0 (fun _ => true) true fuel 26 [c] = some x) : ∃ l, AllD W c l :=
  open_sl (([], .nilFunc) : List Int × Value) Try.underlying26 c_ints (by decide) RowAt (fun n cs y b off hy hl hc _ => by
    match cs, hl with
    | [c0], _ =>
      obtain ⟨l, hl⟩ := open_ints hy
      exact ⟨(l, c0), hc 0 (by decide), hl⟩) h
theorem cell_op {H : Type} {enc : TypeId × Value → H} {W : World} {n : Nat} {cs : List Value} {x : DataW H × List MemPlace} (h : DataW.trod enc Try.prog W 0 (fun _ => true) true n 91 cs = some x) (hl : cs.length = 3) :
    ∃ o : Opn, cs = o.cells := by
  obtain ⟨xs, m, _, _, _, hxl, hf⟩ := DataW.trod_struct Try.underlying91 h
  match cs, hl with
  | [c0, c1, c2], _ =>
    match xs, hxl with
    | [x0, x1, x2], _ =>
      have f0 : DataW.trod enc Try.prog W 0 (fun _ => true) true m 3 (([c0, c1, c2].drop 0).take (Try.prog.cellsOf 3)) = some x0 := hf 0 _ rfl
      rw [c_int] at f0
      have f1 : DataW.trod enc Try.prog W 0 (fun _ => true) true m 3 (([c0, c1, c2].drop 1).take (Try.prog.cellsOf 3)) = some x1 := hf 1 _ rfl
      rw [c_int] at f1
      have f2 : DataW.trod enc Try.prog W 0 (fun _ => true) true m 3 (([c0, c1, c2].drop 2).take (Try.prog.cellsOf 3)) = some x2 := hf 2 _ rfl
      rw [c_int] at f2
      obtain ⟨n0, e0, _⟩ := DataW.trod_int Try.underlying3 f0
      have e0' : c0 = _ := (List.cons.inj e0).1
      subst e0'
      obtain ⟨n1, e1, _⟩ := DataW.trod_int Try.underlying3 f1
      have e1' : c1 = _ := (List.cons.inj e1).1
      subst e1'
      obtain ⟨n2, e2, _⟩ := DataW.trod_int Try.underlying3 f2
      have e2' : c2 = _ := (List.cons.inj e2).1
      subst e2'
      exact ⟨⟨n0, n1, n2⟩, rfl⟩
theorem open_ops {H : Type} {enc : TypeId × Value → H} {W : World} {fuel : Nat} {c : Value} {x : DataW H × List MemPlace} (h : DataW.trod enc Try.prog W 0 (fun _ => true) true fuel 51 [c] = some x) : ∃ l, OpsD W c l :=
  open_sl (⟨0, 0, 0⟩ : Opn) Try.underlying51 (by kernel_rfl) (by decide) OpAt (fun n cs y b off hy hl hc _ => by
    obtain ⟨t, rfl⟩ := cell_op hy hl
    exact ⟨t, hc 0 (by decide), hc 1 (by decide), hc 2 (by decide)⟩) h
theorem cell_ins {H : Type} {enc : TypeId × Value → H} {W : World} {n : Nat} {cs : List Value} {x : DataW H × List MemPlace} (h : DataW.trod enc Try.prog W 0 (fun _ => true) true n 53 cs = some x) (hl : cs.length = 7) :
    ∃ t : II, cs = t.cells ∧ OpsD W t.ev t.x.e ∧ OpsD W t.fv t.x.f := by
  obtain ⟨xs, m, _, _, _, hxl, hf⟩ := DataW.trod_struct Try.underlying53 h
  match cs, hl with
  | [c0, c1, c2, c3, c4, c5, c6], _ =>
    match xs, hxl with
    | [x0, x1, x2, x3, x4, x5, x6], _ =>
      have f0 : DataW.trod enc Try.prog W 0 (fun _ => true) true m 3 (([c0, c1, c2, c3, c4, c5, c6].drop 0).take (Try.prog.cellsOf 3)) = some x0 := hf 0 _ rfl
      rw [c_int] at f0
      have f1 : DataW.trod enc Try.prog W 0 (fun _ => true) true m 3 (([c0, c1, c2, c3, c4, c5, c6].drop 1).take (Try.prog.cellsOf 3)) = some x1 := hf 1 _ rfl
      rw [c_int] at f1
      have f2 : DataW.trod enc Try.prog W 0 (fun _ => true) true m 3 (([c0, c1, c2, c3, c4, c5, c6].drop 2).take (Try.prog.cellsOf 3)) = some x2 := hf 2 _ rfl
      rw [c_int] at f2
      have f3 : DataW.trod enc Try.prog W 0 (fun _ => true) true m 51 (([c0, c1, c2, c3, c4, c5, c6].drop 3).take (Try.prog.cellsOf 51)) = some x3 := hf 3 _ rfl
      rw [c_ops] at f3
      have f4 : DataW.trod enc Try.prog W 0 (fun _ => true) true m 51 (([c0, c1, c2, c3, c4, c5, c6].drop 4).take (Try.prog.cellsOf 51)) = some x4 := hf 4 _ rfl
      rw [c_ops] at f4
      have f5 : DataW.trod enc Try.prog W 0 (fun _ => true) true m 4 (([c0, c1, c2, c3, c4, c5, c6].drop 5).take (Try.prog.cellsOf 4)) = some x5 := hf 5 _ rfl
      rw [c_bool] at f5
      have f6 : DataW.trod enc Try.prog W 0 (fun _ => true) true m 3 (([c0, c1, c2, c3, c4, c5, c6].drop 6).take (Try.prog.cellsOf 3)) = some x6 := hf 6 _ rfl
      rw [c_int] at f6
      obtain ⟨n0, e0, _⟩ := DataW.trod_int Try.underlying3 f0
      have e0' : c0 = _ := (List.cons.inj e0).1
      subst e0'
      obtain ⟨n1, e1, _⟩ := DataW.trod_int Try.underlying3 f1
      have e1' : c1 = _ := (List.cons.inj e1).1
      subst e1'
      obtain ⟨n2, e2, _⟩ := DataW.trod_int Try.underlying3 f2
      have e2' : c2 = _ := (List.cons.inj e2).1
      subst e2'
      obtain ⟨n3, h3⟩ := open_ops f3
      obtain ⟨n4, h4⟩ := open_ops f4
      obtain ⟨n5, e5, _⟩ := DataW.trod_bool Try.underlying4 f5
      have e5' : c5 = _ := (List.cons.inj e5).1
      subst e5'
      obtain ⟨n6, e6, _⟩ := DataW.trod_int Try.underlying3 f6
      have e6' : c6 = _ := (List.cons.inj e6).1
      subst e6'
      exact ⟨⟨⟨n0, n1, n2, n3, n4, n5, n6⟩, c3, c4⟩, rfl, h3, h4⟩
theorem open_ins {H : Type} {enc : TypeId × Value → H} {W : World} {fuel : Nat} {c : Value} {x : DataW H × List MemPlace} (h : DataW.trod enc Try.prog W 0 (fun _ => true) true fuel 54 [c] = some x) : ∃ l, InsD W c l :=
  open_sl (⟨⟨0, 0, 0, [], [], false, 0⟩, .nilFunc, .nilFunc⟩ : II) Try.underlying54 (by kernel_rfl) (by decide) IsAt (fun n cs y b off hy hl hc _ => by
    obtain ⟨t, rfl, he, hf⟩ := cell_ins hy hl
    exact ⟨t, hc 0 (by decide), hc 1 (by decide), hc 2 (by decide), hc 3 (by decide), hc 4 (by decide), hc 5 (by decide), hc 6 (by decide), he, hf⟩) h
theorem open_code {H : Type} {enc : TypeId × Value → H} {W : World} {fuel : Nat} {c : Value} {x : DataW H × List MemPlace} (h : DataW.trod enc Try.prog W 0 (fun _ => true) true fuel 23 [c] = some x) : ∃ l, CodD W c l :=
  open_sl (([], .nilFunc) : List II × Value) Try.underlying23 c_instrs (by decide) RwAt (fun n cs y b off hy hl hc _ => by
    match cs, hl with
    | [c0], _ =>
      obtain ⟨l, hl⟩ := open_ins hy
      exact ⟨(l, c0), hc 0 (by decide), hl⟩) h
theorem cell_unit {H : Type} {enc : TypeId × Value → H} {W : World} {n : Nat} {cs : List Value} {x : DataW H × List MemPlace} (h : DataW.trod enc Try.prog W 0 (fun _ => true) true n 25 cs = some x) (hl : cs.length = 4) :
    ∃ (u : Un) (vi vr vc : Value), cs = [.int .i64 u.mod, vi, vr, vc] ∧ UnD W vi vr vc u := by
  obtain ⟨xs, m, _, _, _, hxl, hf⟩ := DataW.trod_struct Try.underlying25 h
  match cs, hl with
  | [c0, c1, c2, c3], _ =>
    match xs, hxl with
    | [x0, x1, x2, x3], _ =>
      have f0 : DataW.trod enc Try.prog W 0 (fun _ => true) true m 3 (([c0, c1, c2, c3].drop 0).take (Try.prog.cellsOf 3)) = some x0 := hf 0 _ rfl
      rw [c_int] at f0
      have f1 : DataW.trod enc Try.prog W 0 (fun _ => true) true m 22 (([c0, c1, c2, c3].drop 1).take (Try.prog.cellsOf 22)) = some x1 := hf 1 _ rfl
      rw [c_ints] at f1
      have f2 : DataW.trod enc Try.prog W 0 (fun _ => true) true m 22 (([c0, c1, c2, c3].drop 2).take (Try.prog.cellsOf 22)) = some x2 := hf 2 _ rfl
      rw [c_ints] at f2
      have f3 : DataW.trod enc Try.prog W 0 (fun _ => true) true m 23 (([c0, c1, c2, c3].drop 3).take (Try.prog.cellsOf 23)) = some x3 := hf 3 _ rfl
      rw [c_code] at f3
      obtain ⟨n0, e0, _⟩ := DataW.trod_int Try.underlying3 f0
      have e0' : c0 = _ := (List.cons.inj e0).1
      subst e0'
      obtain ⟨n1, h1⟩ := open_ints f1
      obtain ⟨n2, h2⟩ := open_ints f2
      obtain ⟨n3, h3⟩ := open_code f3
      exact ⟨⟨n0, n1, n2, n3⟩, c1, c2, c3, rfl, h1, h2, h3⟩
theorem cell_conf {H : Type} {enc : TypeId × Value → H} {W : World} {n : Nat} {cs : List Value} {x : DataW H × List MemPlace} (h : DataW.trod enc Try.prog W 0 (fun _ => true) true n 29 cs = some x) (hl : cs.length = 4) :
    ∃ (c : Cf) (vp vr vm vb : Value), cs = [vp, vr, vm, vb] ∧ CfD W vp vr vm vb c := by
  obtain ⟨xs, m, _, _, _, hxl, hf⟩ := DataW.trod_struct Try.underlying29 h
  match cs, hl with
  | [c0, c1, c2, c3], _ =>
    match xs, hxl with
    | [x0, x1, x2, x3], _ =>
      have f0 : DataW.trod enc Try.prog W 0 (fun _ => true) true m 22 (([c0, c1, c2, c3].drop 0).take (Try.prog.cellsOf 22)) = some x0 := hf 0 _ rfl
      rw [c_ints] at f0
      have f1 : DataW.trod enc Try.prog W 0 (fun _ => true) true m 26 (([c0, c1, c2, c3].drop 1).take (Try.prog.cellsOf 26)) = some x1 := hf 1 _ rfl
      rw [c_regs] at f1
      have f2 : DataW.trod enc Try.prog W 0 (fun _ => true) true m 22 (([c0, c1, c2, c3].drop 2).take (Try.prog.cellsOf 22)) = some x2 := hf 2 _ rfl
      rw [c_ints] at f2
      have f3 : DataW.trod enc Try.prog W 0 (fun _ => true) true m 27 (([c0, c1, c2, c3].drop 3).take (Try.prog.cellsOf 27)) = some x3 := hf 3 _ rfl
      rw [c_bufs] at f3
      obtain ⟨n0, h0⟩ := open_ints f0
      obtain ⟨n1, h1⟩ := open_rows f1
      obtain ⟨n2, h2⟩ := open_ints f2
      obtain ⟨n3, h3⟩ := open_bufs f3
      exact ⟨⟨n0, n1, n2, n3⟩, c0, c1, c2, c3, rfl, h0, h1, h2, h3⟩
theorem open_unit {H : Type} {enc : TypeId × Value → H} {W : World} {base : Nat} {v : Value} {d : DataW H} {p : List MemPlace} (hv : Value.okWide Try.prog W .any base 25 v) (h : DataW.Trod enc Try.prog W 0 (fun _ => true) true 25 v d p) :
    ∃ (u : Un) (vi vr vc : Value), v = .agg #[.int .i64 u.mod, vi, vr, vc] ∧ UnD W vi vr vc u := by
  obtain ⟨cs, rfl, hsz⟩ := okWide_struct Try.underlying25 hv
  obtain ⟨fuel, hf⟩ := h
  have hs : Try.prog.cellsOf 25 = 4 := by kernel_rfl
  rw [hs] at hsz
  obtain ⟨l⟩ := cs
  have hl : l.length = 4 := hsz
  have hf : DataW.trod enc Try.prog W 0 (fun _ => true) true fuel 25 l = some (d, p) := hf
  obtain ⟨u, vi, vr, vc, rfl, hu⟩ := cell_unit hf hl
  exact ⟨u, vi, vr, vc, rfl, hu⟩
theorem open_conf {H : Type} {enc : TypeId × Value → H} {W : World} {base : Nat} {v : Value} {d : DataW H} {p : List MemPlace} (hv : Value.okWide Try.prog W .any base 29 v) (h : DataW.Trod enc Try.prog W 0 (fun _ => true) true 29 v d p) :
    ∃ (c : Cf) (vp vr vm vb : Value), v = .agg #[vp, vr, vm, vb] ∧ CfD W vp vr vm vb c := by
  obtain ⟨cs, rfl, hsz⟩ := okWide_struct Try.underlying29 hv
  obtain ⟨fuel, hf⟩ := h
  have hs : Try.prog.cellsOf 29 = 4 := by kernel_rfl
  rw [hs] at hsz
  obtain ⟨l⟩ := cs
  have hl : l.length = 4 := hsz
  have hf : DataW.trod enc Try.prog W 0 (fun _ => true) true fuel 29 l = some (d, p) := hf
  obtain ⟨c, vp, vr, vm, vb, rfl, hc⟩ := cell_conf hf hl
  exact ⟨c, vp, vr, vm, vb, rfl, hc⟩

end Go.Proofs.Ytmkgijedchpgcaa
