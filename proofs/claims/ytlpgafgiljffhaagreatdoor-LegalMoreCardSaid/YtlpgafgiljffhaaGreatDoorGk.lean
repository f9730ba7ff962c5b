/- A program that came in, as it lies in memory. The reference's parser of programs, plainly. The reference's parser of programs: wrong, key, sign, name, number, fault. -/
import Derived.Test.YtlpgafgiljffhaaGreatDoorGj
import Derived.Test.YtlpgafgiljffhaaGreatDoorPo
import Derived.Test.YtlpgafgiljffhaaGreatDoorVm
import Derived.Deep.RegionHeld3
namespace Go.Proofs.YtlpgafgiljffhaaGreatDoor
open Go.ChangeShapes Go.WideShapes Go.ChangeAt Go.RowKit
open Go.ChangeMaps (open_string shut_string)
set_option maxRecDepth 100000
theorem c_strs : Tryz.prog.cellsOf 34 = 1 := by kernel_rfl
theorem c_sts : Tryz.prog.cellsOf 41 = 1 := by kernel_rfl
theorem c_vars : Tryz.prog.cellsOf 22 = 1 := by kernel_rfl
theorem c_thrs : Tryz.prog.cellsOf 23 = 1 := by kernel_rfl
theorem c_cls : Tryz.prog.cellsOf 24 = 1 := by kernel_rfl
theorem nil_cap {ad : Option Addr} {n cap : Nat} (h : NilOK (.slice ad n cap)) : ad = none → cap = 0 := by
  rintro rfl
  rcases h with h | ⟨_, _, _, h⟩
  · injection h
  · injection h with h; cases h
theorem open_strsF {H : Type} {enc : TypeId × Value → H} {W : World} {fuel : Nat} {c : Value} {x : DataW H × List MemPlace} (h : DataW.trod enc Tryz.prog W 0 (fun _ => true) true fuel 34 [c] = some x) :
    ∃ ts : List ByteArray, StrsD W c ts ∧ ts.length ≤ maxLen := by
  obtain ⟨ts, ad, cap, rfl, h0, h1, h2, h3⟩ := open_gen (α := ByteArray) (S := 1) ⟨#[]⟩ Tryz.underlying34 (by kernel_rfl) (by decide)
    (fun b off t => StrAt W b off t)
    (fun n cs y b off hy hl hc hb => by
      match cs, hl with
      | [c0], _ =>
        obtain ⟨n0, e0, _⟩ := DataW.trod_string Tryz.underlying9 hy
        have e0' : c0 = _ := (List.cons.inj e0).1
        subst e0'
        exact ⟨n0, hc 0 (by decide)⟩) h
  exact ⟨ts, ⟨ad, cap, rfl, ⟨h1, nil_cap h0⟩, by unfold maxLen at h2; omega, h3⟩, by omega⟩
theorem cell_var {H : Type} {enc : TypeId × Value → H} {W : World} {n : Nat} {cs : List Value} {x : DataW H × List MemPlace} (h : DataW.trod enc Tryz.prog W 0 (fun _ => true) true n 40 cs = some x) (hl : cs.length = 3) :
    ∃ t : Vr, cs = [.string t.nm, .int .i64 t.n, .int .i64 t.pl] := by
  obtain ⟨xs, m, _, _, _, hxl, hf⟩ := DataW.trod_struct Tryz.underlying40 h
  match cs, hl with
  | [k0, k1, k2], _ =>
    match xs, hxl with
    | [x0, x1, x2], _ =>
      have f0 : DataW.trod enc Tryz.prog W 0 (fun _ => true) true m 9 (([k0, k1, k2].drop 0).take (Tryz.prog.cellsOf 9)) = some x0 := hf 0 _ rfl
      have f1 : DataW.trod enc Tryz.prog W 0 (fun _ => true) true m 3 (([k0, k1, k2].drop 1).take (Tryz.prog.cellsOf 3)) = some x1 := hf 1 _ rfl
      have f2 : DataW.trod enc Tryz.prog W 0 (fun _ => true) true m 3 (([k0, k1, k2].drop 2).take (Tryz.prog.cellsOf 3)) = some x2 := hf 2 _ rfl
      rw [c_str] at f0
      rw [c_int] at f1 f2
      obtain ⟨n0, e0, _⟩ := DataW.trod_string Tryz.underlying9 f0
      obtain ⟨n1, e1, _⟩ := DataW.trod_int Tryz.underlying3 f1
      obtain ⟨n2, e2, _⟩ := DataW.trod_int Tryz.underlying3 f2
      have e0' : k0 = _ := (List.cons.inj e0).1
      have e1' : k1 = _ := (List.cons.inj e1).1
      have e2' : k2 = _ := (List.cons.inj e2).1
      subst e0' e1' e2'
      exact ⟨⟨n0, n1, n2⟩, rfl⟩
theorem open_varsF {H : Type} {enc : TypeId × Value → H} {W : World} {fuel : Nat} {c : Value} {x : DataW H × List MemPlace} (h : DataW.trod enc Tryz.prog W 0 (fun _ => true) true fuel 22 [c] = some x) :
    ∃ ts : List Vr, VrsD W c ts ∧ ts.length ≤ maxLen := by
  obtain ⟨ts, ad, cap, rfl, h0, h1, h2, h3⟩ := open_gen (α := Vr) (S := 3) ⟨⟨#[]⟩, 0, 0⟩ Tryz.underlying22 (by kernel_rfl) (by decide)
    (fun b off t => VrAt W b off t)
    (fun n cs y b off hy hl hc hb => by
      obtain ⟨t, rfl⟩ := cell_var hy hl
      exact ⟨t, hc 0 (by decide), hc 1 (by decide), hc 2 (by decide)⟩) h
  exact ⟨ts, ⟨ad, cap, rfl, ⟨h1, nil_cap h0⟩, by unfold maxLen at h2; omega, h3⟩, by omega⟩
theorem cell_thread {H : Type} {enc : TypeId × Value → H} {W : World} {n : Nat} {cs : List Value} {x : DataW H × List MemPlace} (h : DataW.trod enc Tryz.prog W 0 (fun _ => true) true n 43 cs = some x) (hl : cs.length = 4) :
    ∃ t : TI, cs = [.string t.1.nm, t.2.1, t.2.2, .int .i64 t.1.pl] ∧ StrsD W t.2.1 t.1.regs ∧ (∃ ss : List SI, ss.map (·.1) = t.1.body ∧ StsD W t.2.2 ss) ∧ BigT t := by
  obtain ⟨xs, m, _, _, _, hxl, hf⟩ := DataW.trod_struct Tryz.underlying43 h
  match cs, hl with
  | [k0, k1, k2, k3], _ =>
    match xs, hxl with
    | [x0, x1, x2, x3], _ =>
      have f0 : DataW.trod enc Tryz.prog W 0 (fun _ => true) true m 9 (([k0, k1, k2, k3].drop 0).take (Tryz.prog.cellsOf 9)) = some x0 := hf 0 _ rfl
      have f1 : DataW.trod enc Tryz.prog W 0 (fun _ => true) true m 34 (([k0, k1, k2, k3].drop 1).take (Tryz.prog.cellsOf 34)) = some x1 := hf 1 _ rfl
      have f2 : DataW.trod enc Tryz.prog W 0 (fun _ => true) true m 41 (([k0, k1, k2, k3].drop 2).take (Tryz.prog.cellsOf 41)) = some x2 := hf 2 _ rfl
      have f3 : DataW.trod enc Tryz.prog W 0 (fun _ => true) true m 3 (([k0, k1, k2, k3].drop 3).take (Tryz.prog.cellsOf 3)) = some x3 := hf 3 _ rfl
      rw [c_str] at f0
      rw [c_strs] at f1
      rw [c_sts] at f2
      rw [c_int] at f3
      obtain ⟨n0, e0, _⟩ := DataW.trod_string Tryz.underlying9 f0
      obtain ⟨l1, g1, i1⟩ := open_strsF f1
      obtain ⟨l2, g2, i2, _⟩ := open_stsF f2
      obtain ⟨n3, e3, _⟩ := DataW.trod_int Tryz.underlying3 f3
      have e0' : k0 = _ := (List.cons.inj e0).1
      have e3' : k3 = _ := (List.cons.inj e3).1
      subst e0' e3'
      exact ⟨(⟨n0, l1, l2.map (·.1), n3⟩, k1, k2), rfl, g1, ⟨l2, rfl, g2⟩, i1, by rw [List.length_map]; exact i2.1, fun s hs => by obtain ⟨u, hu, rfl⟩ := List.mem_map.1 hs; exact i2.2 u hu⟩
theorem open_threadsF {H : Type} {enc : TypeId × Value → H} {W : World} {fuel : Nat} {c : Value} {x : DataW H × List MemPlace} (h : DataW.trod enc Tryz.prog W 0 (fun _ => true) true fuel 23 [c] = some x) :
    ∃ ts : List TI, ThsD W c ts ∧ ts.length ≤ maxLen ∧ ∀ x ∈ ts, BigT x := by
  obtain ⟨ts, ad, cap, rfl, h0, h1, h2, h3⟩ := open_gen (α := TI) (S := 4) (⟨⟨#[]⟩, [], [], 0⟩, .bool false, .bool false) Tryz.underlying23 (by kernel_rfl) (by decide)
    (fun b off t => ThAt W b off t ∧ BigT t)
    (fun n cs y b off hy hl hc hb => by
      obtain ⟨t, rfl, g1, g2, g3⟩ := cell_thread hy hl
      exact ⟨t, ⟨⟨hc 0 (by decide), hc 1 (by decide), hc 2 (by decide), hc 3 (by decide)⟩, g1, g2⟩, g3⟩) h
  refine ⟨ts, ⟨ad, cap, rfl, ⟨h1, nil_cap h0⟩, by unfold maxLen at h2; omega, fun i hi => ?_⟩, by omega, fun x hx => ?_⟩
  · obtain ⟨b, off, g1, g2, g3, _⟩ := h3 i hi
    exact ⟨b, off, g1, g2, g3⟩
  · obtain ⟨i, hi, rfl⟩ := List.mem_iff_getElem.1 hx
    obtain ⟨b, off, g1, g2, g3, g4⟩ := h3 i hi
    exact g4
theorem cell_claim {H : Type} {enc : TypeId × Value → H} {W : World} {n : Nat} {cs : List Value} {x : DataW H × List MemPlace} (h : DataW.trod enc Tryz.prog W 0 (fun _ => true) true n 49 cs = some x) (hl : cs.length = 3) :
    ∃ t : CI, cs = [.int .i64 t.1.kind, t.2, .int .i64 t.1.pl] ∧ NdsC W t.2 t.1.e ∧ t.1.e.length ≤ maxLen := by
  obtain ⟨xs, m, _, _, _, hxl, hf⟩ := DataW.trod_struct Tryz.underlying49 h
  match cs, hl with
  | [k0, k1, k2], _ =>
    match xs, hxl with
    | [x0, x1, x2], _ =>
      have f0 : DataW.trod enc Tryz.prog W 0 (fun _ => true) true m 3 (([k0, k1, k2].drop 0).take (Tryz.prog.cellsOf 3)) = some x0 := hf 0 _ rfl
      have f1 : DataW.trod enc Tryz.prog W 0 (fun _ => true) true m 47 (([k0, k1, k2].drop 1).take (Tryz.prog.cellsOf 47)) = some x1 := hf 1 _ rfl
      have f2 : DataW.trod enc Tryz.prog W 0 (fun _ => true) true m 3 (([k0, k1, k2].drop 2).take (Tryz.prog.cellsOf 3)) = some x2 := hf 2 _ rfl
      rw [c_int] at f0 f2
      rw [c_nds] at f1
      obtain ⟨n0, e0, _⟩ := DataW.trod_int Tryz.underlying3 f0
      obtain ⟨l1, g1, i1⟩ := open_ndsF f1
      obtain ⟨n2, e2, _⟩ := DataW.trod_int Tryz.underlying3 f2
      have e0' : k0 = _ := (List.cons.inj e0).1
      have e2' : k2 = _ := (List.cons.inj e2).1
      subst e0' e2'
      exact ⟨(⟨n0, l1, n2⟩, k1), rfl, g1, i1⟩
theorem open_claimsF {H : Type} {enc : TypeId × Value → H} {W : World} {fuel : Nat} {c : Value} {x : DataW H × List MemPlace} (h : DataW.trod enc Tryz.prog W 0 (fun _ => true) true fuel 24 [c] = some x) :
    ∃ ts : List CI, ClsD W c ts ∧ ts.length ≤ maxLen ∧ ∀ x ∈ ts, x.1.e.length ≤ maxLen := by
  obtain ⟨ts, ad, cap, rfl, h0, h1, h2, h3⟩ := open_gen (α := CI) (S := 3) (⟨0, [], 0⟩, .bool false) Tryz.underlying24 (by kernel_rfl) (by decide)
    (fun b off t => ClAt W b off t ∧ t.1.e.length ≤ maxLen)
    (fun n cs y b off hy hl hc hb => by
      obtain ⟨t, rfl, g1, g2⟩ := cell_claim hy hl
      exact ⟨t, ⟨⟨hc 0 (by decide), hc 1 (by decide), hc 2 (by decide)⟩, g1⟩, g2⟩) h
  refine ⟨ts, ⟨ad, cap, rfl, ⟨h1, nil_cap h0⟩, by unfold maxLen at h2; omega, fun i hi => ?_⟩, by omega, fun x hx => ?_⟩
  · obtain ⟨b, off, g1, g2, g3, _⟩ := h3 i hi
    exact ⟨b, off, g1, g2, g3⟩
  · obtain ⟨i, hi, rfl⟩ := List.mem_iff_getElem.1 hx
    obtain ⟨b, off, g1, g2, g3, g4⟩ := h3 i hi
    exact g4
theorem open_prog {H : Type} {enc : TypeId × Value → H} {W : World} {base : Nat} {v : Value} {d : DataW H} {p : List MemPlace} (hv : Value.okWide Tryz.prog W .any base 26 v) (h : DataW.Trod enc Tryz.prog W 0 (fun _ => true) true 26 v d p) :
    ∃ (m : Int) (vs : List Vr) (ts : List TI) (cs : List CI), PgL W v m vs ts cs := by
  obtain ⟨cs, rfl, hsz⟩ := okWide_struct Tryz.underlying26 hv
  obtain ⟨fuel, hf⟩ := h
  have hf : DataW.trod enc Tryz.prog W 0 (fun _ => true) true fuel 26 cs.toList = some (d, p) := hf
  obtain ⟨xs, m, _, _, _, hxl, hf⟩ := DataW.trod_struct Tryz.underlying26 hf
  have hs4 : Tryz.prog.cellsOf 26 = 4 := by kernel_rfl
  rw [hs4] at hsz
  obtain ⟨l⟩ := cs
  have hl : l.length = 4 := hsz
  match l, hl with
  | [k0, k1, k2, k3], _ =>
    match xs, hxl with
    | [x0, x1, x2, x3], _ =>
      have f0 : DataW.trod enc Tryz.prog W 0 (fun _ => true) true m 3 (([k0, k1, k2, k3].drop 0).take (Tryz.prog.cellsOf 3)) = some x0 := hf 0 _ rfl
      have f1 : DataW.trod enc Tryz.prog W 0 (fun _ => true) true m 22 (([k0, k1, k2, k3].drop 1).take (Tryz.prog.cellsOf 22)) = some x1 := hf 1 _ rfl
      have f2 : DataW.trod enc Tryz.prog W 0 (fun _ => true) true m 23 (([k0, k1, k2, k3].drop 2).take (Tryz.prog.cellsOf 23)) = some x2 := hf 2 _ rfl
      have f3 : DataW.trod enc Tryz.prog W 0 (fun _ => true) true m 24 (([k0, k1, k2, k3].drop 3).take (Tryz.prog.cellsOf 24)) = some x3 := hf 3 _ rfl
      rw [c_int] at f0
      rw [c_vars] at f1
      rw [c_thrs] at f2
      rw [c_cls] at f3
      obtain ⟨n0, e0, _⟩ := DataW.trod_int Tryz.underlying3 f0
      have e0' : k0 = _ := (List.cons.inj e0).1
      subst e0'
      obtain ⟨vs, g1, i1⟩ := open_varsF f1
      obtain ⟨ts, g2, i2, i3⟩ := open_threadsF f2
      obtain ⟨cs, g3, i4, i5⟩ := open_claimsF f3
      exact ⟨n0, vs, ts, cs, ⟨⟨_, _, _, rfl, g1, g2, g3⟩, i1, i2, i4, i3, i5⟩⟩
end Go.Proofs.YtlpgafgiljffhaaGreatDoor

namespace Go.Proofs.YtlpgafgiljffhaaGreatDoor
open Go.RowKit
set_option linter.unusedSimpArgs false
set_option linter.unusedVariables false

theorem TokS.tokC {w : World} {b : Nat} {v : Value} {l : List Tok} (h : TokS w b v l) : TokC w v l := by
  obtain ⟨ad, cap, hv, hc⟩ := h
  refine ⟨ad, cap, hv, fun i hi => ?_⟩
  obtain ⟨g, hg, h1, _, k0, k1, k2, k3⟩ := hc i hi
  exact ⟨g, hg, h1, k0, k1, k2, k3⟩
/-- The reference's state: tokens, the place, what is wrong, where. -/
structure Rs (w : World) (b : Nat) (l : List Tok) (v : Value) (q : Pq) : Prop where
  bk : Bk w b 86 #[v, .int .i64 q.n, .int .i64 q.k, .int .i64 q.a]
  ts : TokS w b v l
  hn : l.length ≤ 100000
  hok : TokOK l
  hnum : ∀ i, (tokO l i).2.2.1 ≤ 9999
section
variable {w w' : World} {b : Nat} {l : List Tok} {v : Value} {q : Pq}
theorem Rs.cx (h : Rs w b l v q) : RCtx l v w := ⟨h.ts.tokC, h.hn, h.hok, h.hnum⟩
theorem Rs.below (h : Rs w b l v q) (hb : Below w.heap.size w w') : Rs w' b l v q := ⟨h.bk.below hb, h.ts.keep (Below.keep hb), h.hn, h.hok, h.hnum⟩
theorem Rs.cells (h : Rs w b l v q) : w.cell? ⟨b, 0, none⟩ = some v ∧ w.cell? ⟨b, 1, none⟩ = some (.int .i64 q.n) ∧ w.cell? ⟨b, 2, none⟩ = some (.int .i64 q.k) ∧ w.cell? ⟨b, 3, none⟩ = some (.int .i64 q.a) :=
  ⟨h.bk.cell 0, h.bk.cell 1, h.bk.cell 2, h.bk.cell 3⟩
theorem Rs.fz (h : Rs w b l v q) : w.frozen? ⟨b, 1, none⟩ = false ∧ w.frozen? ⟨b, 2, none⟩ = false ∧ w.frozen? ⟨b, 3, none⟩ = false := ⟨h.bk.fz 1, h.bk.fz 2, h.bk.fz 3⟩
theorem Rs.shape (h : Rs w b l v q) : ∃ ad cap, v = .slice ad l.length cap := by
  obtain ⟨ad, cap, h, _⟩ := h.ts
  exact ⟨ad, cap, h⟩
theorem Rs.setN (h : Rs w b l v q) (n : Nat) (x : Int) (hx : x = n) : Rs (w.setCell ⟨b, 1, none⟩ (.int .i64 x)) b l v ⟨n, q.k, q.a⟩ := by
  subst hx
  exact ⟨h.bk.set 1 _, h.ts.keep ((Keep.refl b w).setCell 1 _), h.hn, h.hok, h.hnum⟩
theorem Rs.setKA (h : Rs w b l v q) (k a : Nat) (x y : Int) (hx : x = k) (hy : y = a) : Rs ((w.setCell ⟨b, 2, none⟩ (.int .i64 x)).setCell ⟨b, 3, none⟩ (.int .i64 y)) b l v ⟨q.n, k, a⟩ := by
  subst hx; subst hy
  exact ⟨(h.bk.set 2 _).set 3 _, h.ts.keep (((Keep.refl b w).setCell 2 _).setCell 3 _), h.hn, h.hok, h.hnum⟩
end
def wrP (l : List Tok) (q : Pq) : Pq := if q.k = 0 then ⟨q.n, (refK l q.n).1, (refK l q.n).2⟩ else q
def kyB (l : List Tok) (q : Pq) (x : List UInt8) : Bool := decide (q.k = 0) && (decide ((tokO l q.n).1 = 1) && ((tokO l q.n).2.1 == x))
def rsgP (l : List Tok) (q : Pq) (x : List UInt8) : Pq := if q.k = 0 ∧ sgAt l q.n x = true then ⟨q.n + 1, q.k, q.a⟩ else wrP l q
def rnmP (l : List Tok) (q : Pq) : ByteArray × Pq := if q.k = 0 ∧ nmAt l q.n = true then (txt l q.n, ⟨q.n + 1, q.k, q.a⟩) else (⟨#[]⟩, wrP l q)
def rnuP (l : List Tok) (q : Pq) : Nat × Pq := if q.k = 0 ∧ (tokO l q.n).1 = 2 then ((tokO l q.n).2.2.1, ⟨q.n + 1, q.k, q.a⟩) else (0, wrP l q)
def faP (q : Pq) (k a : Nat) : Pq := if q.k = 0 ∧ k ≠ 0 then ⟨q.n, k, a⟩ else q
/-- The registers behind the first one. -/
def rgL (l : List Tok) : Nat → Pq → List ByteArray → List ByteArray × Pq
  | 0, q, rs => (rs, q)
  | f + 1, q, rs => if q.k = 0 ∧ sgAt l q.n [44] = true then rgL l f (rnmP l ⟨q.n + 1, q.k, q.a⟩).2 (rs ++ [(rnmP l ⟨q.n + 1, q.k, q.a⟩).1]) else (rs, q)
def rgP (l : List Tok) (q : Pq) : List ByteArray × Pq :=
  if kyB l q [114, 101, 103] = true then
    let m := rnmP l ⟨q.n + 1, q.k, q.a⟩
    let r := rgL l (l.length + 1) m.2 [m.1]
    (r.1, rsgP l r.2 [59])
  else ([], q)
noncomputable def bdR (l : List Tok) (n : Nat) : List St × Nat × Nat × Nat := match stmtR l n with
  | .err k a => ([], 0, k, a)
  | .ok xs j => (xs, j, 0, 0)
noncomputable def bdP (l : List Tok) (q : Pq) : List St × Pq :=
  if q.k = 0 then ((bdR l q.n).1, ⟨(bdR l q.n).2.1, (faP q (bdR l q.n).2.2.1 (bdR l q.n).2.2.2).k, (faP q (bdR l q.n).2.2.1 (bdR l q.n).2.2.2).a⟩) else ([], q)
noncomputable def rthP (l : List Tok) (q : Pq) : Th × Pq :=
  let m := rnmP l ⟨q.n + 1, q.k, q.a⟩
  let r := rgP l (rsgP l m.2 [123])
  let b := bdP l r.2
  (⟨m.1, r.1, b.1, (tokO l q.n).2.2.2⟩, rsgP l b.2 [125])
noncomputable def rclP (l : List Tok) (q : Pq) (kd : Int) : Cl × Pq :=
  match parseR l (q.n + 1) with
  | .err k a => (⟨kd, [], (tokO l q.n).2.2.2⟩, rsgP l ⟨q.n + 1, k, a⟩ [59])
  | .ok x j => (⟨kd, x.flat.map clm, (tokO l q.n).2.2.2⟩, rsgP l ⟨j, q.k, q.a⟩ [59])
def kdP (l : List Tok) (q : Pq) : Nat := if kyB l q [102, 111, 114, 97, 108, 108] = true then 1 else if kyB l q [101, 120, 105, 115, 116, 115] = true then 2 else if kyB l q [97, 108, 119, 97, 121, 115] = true then 3 else 0
def rlcP (l : List Tok) (q : Pq) : Vr × Pq :=
  let m := rnmP l ⟨q.n + 1, q.k, q.a⟩
  let n := rnuP l (rsgP l m.2 [61])
  (⟨m.1, n.1, (tokO l q.n).2.2.2⟩, rsgP l n.2 [59])
def locL (l : List Tok) : Nat → Pq → List Vr → List Vr × Pq
  | 0, q, a => (a, q)
  | f + 1, q, a => if kyB l q [108, 111, 99] = true then locL l f (rlcP l q).2 (a ++ [(rlcP l q).1]) else (a, q)
noncomputable def thrL (l : List Tok) : Nat → Pq → List Th → List Th × Pq
  | 0, q, a => (a, q)
  | f + 1, q, a => if kyB l q [116, 104, 114, 101, 97, 100] = true then thrL l f (rthP l q).2 (a ++ [(rthP l q).1]) else (a, q)
noncomputable def clmL (l : List Tok) : Nat → Pq → List Cl → List Cl × Pq
  | 0, q, a => (a, q)
  | f + 1, q, a => if 0 < kdP l q then clmL l f (rclP l q (kdP l q)).2 (a ++ [(rclP l q (kdP l q)).1]) else (a, q)
/-- What the reference's Parse makes of tokens. -/
noncomputable def rprP (l : List Tok) : Pg × Nat × Nat :=
  let q0 : Pq := if kyB l ⟨0, 0, 0⟩ [109, 111, 100] = true then ⟨1, 0, 0⟩ else wrP l ⟨0, 0, 0⟩
  let n := rnuP l q0
  let A := locL l (l.length + 2) (rsgP l n.2 [59]) []
  let B := thrL l (l.length + 2) A.2 []
  let C := clmL l (l.length + 2) B.2 []
  let q := if C.2.n < l.length then wrP l C.2 else C.2
  if q.k ≠ 0 then (⟨0, [], [], []⟩, q.k, q.a) else (⟨n.1, A.1, B.1, C.1⟩, 0, 0)
noncomputable def rparseG (s : List UInt8) : Pg × Nat × Nat :=
  if (scanL s).2.1 ≠ 0 then (⟨0, [], [], []⟩, (scanL s).2.1, (scanL s).2.2) else rprP (scanL s).1

end Go.Proofs.YtlpgafgiljffhaaGreatDoor

namespace Go.Proofs.YtlpgafgiljffhaaGreatDoor
open Go.RowKit
set_option linter.unusedSimpArgs false
set_option linter.unusedVariables false
section
variable {w : World} {b : Nat} {l : List Tok} {v : Value} {q : Pq}
theorem Rs.tok {ad : Option Addr} {cap : Nat} (h : Rs w b l (.slice ad l.length cap) q) (i : Nat) (hi : i < l.length) : ∃ g, ad = some ⟨g, 0, none⟩ ∧ g ≠ b ∧ g < w.heap.size ∧ w.cell? ⟨g, i * 4, none⟩ = some (.int .i64 ((tokO l i).1 : Nat)) ∧ w.cell? ⟨g, i * 4 + 1, none⟩ = some (.string (txt l i)) ∧
    w.cell? ⟨g, i * 4 + 2, none⟩ = some (.int .i64 ((tokO l i).2.2.1 : Nat)) ∧ w.cell? ⟨g, i * 4 + 3, none⟩ = some (.int .i64 ((tokO l i).2.2.2 : Nat)) := by
  obtain ⟨ad', cap', hv, hc⟩ := h.ts
  injection hv with e1 _ _
  subst e1
  obtain ⟨g, hg, h1, h2, k0, k1, k2, k3⟩ := hc i hi
  have e : tokO l i = l[i] := by unfold tokO; rw [List.getElem?_eq_getElem hi]; rfl
  refine ⟨g, hg, h2, h1, ?_, ?_, ?_, ?_⟩
  · rw [e]; exact k0
  · unfold txt; rw [e]; exact k1
  · rw [e]; exact k2
  · rw [e]; exact k3
theorem ba_bytes (a y : ByteArray) : (a.toList == y.toList) = (a.data.toList == y.data.toList) := by rw [ByteArray.toList_eq, ByteArray.toList_eq]
theorem txt_bytes (l : List Tok) (i : Nat) : (txt l i).data.toList = (tokO l i).2.1 := by unfold txt; simp
set_option maxRecDepth 100000 in
set_option maxHeartbeats 4000000 in
theorem swrong_any (h : Rs w b l v q) :
    Calls Tryz.prog 52 #[.pointer (some ⟨b, 0, none⟩)] w fun e w' => e = .returned (.tuple #[]) ∧ Rs w' b l v (wrP l q) ∧ Keep b w w' := by
  obtain ⟨ad, cap, rfl⟩ := h.shape
  obtain ⟨c0, c1, c2, c3⟩ := h.cells
  have lb := h.bk.lt
  have H := Lib.hid h
  clear h
  by_cases hk : q.k = 0
  · have e1 : ((q.k : Int) == 0) = true := by rw [hk]; rfl
    have HW := Lib.hid fun (W : World) (hW : Rs W b l (.slice ad l.length cap) q) => rwrong_any l (.slice ad l.length cap) q.n W hW.cx
    have HR : Hid (wrP l q = ⟨q.n, (refK l q.n).1, (refK l q.n).2⟩) := Lib.hid (by unfold wrP; rw [if_pos hk])
    generalize (refK l q.n).1 = k' at HW HR
    generalize (refK l q.n).2 = a' at HW HR
    clear hk
    go_enter Tryz.func52, Tryz.ntmps52
    go_wp2_with fail
    go_region_law (go_simp; go_at_call 82; (refine Calls.mono (HW.out _ (H.out.below (below_drewN (Below.refl _ _) 1))) ?_); rintro e wn ⟨rfl, bn⟩; have TN := Lib.hid ((H.out.below (below_drewN (Below.refl _ _) 1)).below bn); have BN := Lib.hid ((below_drewN (Below.refl w.heap.size w) 1).trans (bn.mono (Nat.le_refl _))))
    all_goals
      obtain ⟨d0, d1, d2, d3⟩ := TN.out.cells
      obtain ⟨f1, f2, f3⟩ := TN.out.fz
      have lb := TN.out.bk.lt
      have HE := Lib.hid (TN.out.setKA k' a' (k' : Int) (a' : Int) rfl rfl)
      have KE := Lib.hid (((Below.keep (b := b) BN.out).setCell 2 (.int .i64 (k' : Int))).setCell 3 (.int .i64 (a' : Int)))
      go_wp2_with fail
      exact bodyPost_end (v := .tuple #[]) (by simp [results, Tryz.results52, go_sem]) rfl ⟨rfl, by rw [HR.out]; exact HE.out, KE.out⟩
  · have e1 : ((q.k : Int) == 0) = false := by rw [beq_eq_false_iff_ne]; omega
    have HR : Hid (wrP l q = q) := Lib.hid (by unfold wrP; rw [if_neg hk])
    clear hk
    go_enter Tryz.func52, Tryz.ntmps52
    go_wp2_with fail
    exact bodyPost_end (v := .tuple #[]) (by simp [results, Tryz.results52, go_sem]) rfl ⟨rfl, by rw [HR.out]; exact H.out, Keep.refl _ _⟩

set_option maxRecDepth 100000 in
set_option maxHeartbeats 4000000 in
theorem skey_any (y : ByteArray) (h : Rs w b l v q) :
    Calls Tryz.prog 51 #[.pointer (some ⟨b, 0, none⟩), .string y] w fun e w' => e = .returned (.bool (kyB l q y.data.toList)) ∧ Below w.heap.size w w' := by
  obtain ⟨ad, cap, rfl⟩ := h.shape
  obtain ⟨c0, c1, c2, c3⟩ := h.cells
  have H := Lib.hid h
  clear h
  by_cases hk : q.k = 0
  · have e1 : ((q.k : Int) == 0) = true := by rw [hk]; rfl
    by_cases hlt : q.n < l.length
    · obtain ⟨g, rfl, _, hg, k0, k1, _, _⟩ := H.out.tok q.n hlt
      have e2 : (0 : Int) ≤ (q.n : Int) := by omega
      have e3 : (q.n : Int) < (l.length : Int) := by omega
      by_cases h1 : (tokO l q.n).1 = 1
      · obtain ⟨r, hr⟩ : ∃ r, ((txt l q.n).toList == y.toList) = r := ⟨_, rfl⟩
        have HR : Hid (kyB l q y.data.toList = r) := Lib.hid (by unfold kyB; rw [decide_eq_true hk, decide_eq_true h1, Bool.true_and, Bool.true_and, ← txt_bytes, ← ba_bytes, hr])
        have e4 : (((tokO l q.n).1 : Nat) == (1 : Int)) = true := by rw [h1]; rfl
        generalize (tokO l q.n).1 = tk at k0 e4
        generalize txt l q.n = tx at k1 hr
        clear hk hlt h1
        go_enter Tryz.func51, Tryz.ntmps51
        go_wp2_with fail
        go_quiet (fail)
        go_wp2_with fail
        go_ret
        exact ⟨by rw [HR.out]; rfl, below_drewN (Below.refl _ _) _⟩
      · have HR : Hid (kyB l q y.data.toList = false) := Lib.hid (by unfold kyB; rw [decide_eq_false h1]; simp)
        have e4 : (((tokO l q.n).1 : Nat) == (1 : Int)) = false := by rw [beq_eq_false_iff_ne]; omega
        generalize (tokO l q.n).1 = tk at k0 e4
        clear hk hlt h1
        go_enter Tryz.func51, Tryz.ntmps51
        go_wp2_with fail
        go_quiet (fail)
        go_wp2_with fail
        go_ret
        exact ⟨by rw [HR.out]; rfl, below_drewN (Below.refl _ _) _⟩
    · have e3 : ¬ (q.n : Int) < (l.length : Int) := by omega
      have HR : Hid (kyB l q y.data.toList = false) := Lib.hid (by
        have : (tokO l q.n).1 = 0 := by unfold tokO; rw [List.getElem?_eq_none (by omega)]; rfl
        unfold kyB; rw [this]; simp)
      have e5 : decide (q.n < l.length) = false := decide_eq_false hlt
      clear hk
      go_enter Tryz.func51, Tryz.ntmps51
      go_wp2_with fail
      go_quiet (fail)
      go_wp2_with fail
      go_ret
      exact ⟨by rw [HR.out]; rfl, below_drewN (Below.refl _ _) _⟩
  · have e1 : ((q.k : Int) == 0) = false := by rw [beq_eq_false_iff_ne]; omega
    have HR : Hid (kyB l q y.data.toList = false) := Lib.hid (by unfold kyB; rw [decide_eq_false hk]; rfl)
    clear hk
    go_enter Tryz.func51, Tryz.ntmps51
    go_wp2_with fail
    go_quiet (fail)
    go_wp2_with fail
    go_ret
    exact ⟨by rw [HR.out]; rfl, below_drewN (Below.refl _ _) _⟩

set_option maxRecDepth 100000 in
set_option maxHeartbeats 4000000 in
theorem ssign_any (y : ByteArray) (h : Rs w b l v q) :
    Calls Tryz.prog 54 #[.pointer (some ⟨b, 0, none⟩), .string y] w fun e w' => e = .returned (.tuple #[]) ∧ Rs w' b l v (rsgP l q y.data.toList) ∧ Keep b w w' := by
  obtain ⟨ad, cap, rfl⟩ := h.shape
  obtain ⟨c0, c1, c2, c3⟩ := h.cells
  have lb := h.bk.lt
  have H := Lib.hid h
  have HW := Lib.hid fun (W : World) (hW : Rs W b l (.slice ad l.length cap) q) => swrong_any hW
  clear h
  by_cases hk : q.k = 0
  · have e1 : ((q.k : Int) == 0) = true := by rw [hk]; rfl
    obtain ⟨r, hr⟩ : ∃ r, sgAt l q.n y.data.toList = r := ⟨_, rfl⟩
    have HI := fun (n : Nat) => Lib.hid ((ris_any l (.slice ad l.length cap) q.n y (w.drewN n) (H.out.below (below_drewN (Below.refl _ _) n)).cx.ht H.out.hn r hr).mono (fun e w' (hh : e = .returned (.bool r) ∧ (w.drewN n) = w') => (show e = .returned (.bool r) ∧ ∃ m, w' = w.drewN m from ⟨hh.1, n, hh.2.symm⟩)))
    cases r
    · have HR : Hid (rsgP l q y.data.toList = wrP l q) := Lib.hid (by unfold rsgP; rw [if_neg (fun hh => by rw [hr] at hh; exact absurd hh.2 (by decide))])
      clear hk hr
      go_enter Tryz.func54, Tryz.ntmps54
      go_wp2_with fail
      go_quiet ((go_at_call 83; exact (HI _).out))
      have HN := Lib.hid (H.out.below (below_drewN (Below.refl _ _) nq))
      have KN := Lib.hid (Below.keep (b := b) (below_drewN (Below.refl _ w) nq))
      generalize w.drewN nq = wd at HN KN ⊢
      go_wp2_with fail
      refine (HW.out wd HN.out).mono ?_
      rintro e w2 ⟨rfl, h2, k2⟩
      have H2 := Lib.hid h2
      have K2 := Lib.hid (KN.out.trans k2)
      clear h2 k2
      go_wp2_with fail
      exact bodyPost_end (v := .tuple #[]) (by simp [results, Tryz.results54, go_sem]) rfl ⟨rfl, by rw [HR.out]; exact H2.out, K2.out⟩
    · have HR : Hid (rsgP l q y.data.toList = ⟨q.n + 1, q.k, q.a⟩) := Lib.hid (by unfold rsgP; rw [if_pos ⟨hk, hr⟩])
      have hlt := sgAt_lt hr
      have e4 : IntKind.i64.wrap ((q.n : Int) + 1) = (q.n : Int) + 1 := IntWalk.i64_in _ (by have := H.out.hn; omega)
      clear hk hr hlt
      go_enter Tryz.func54, Tryz.ntmps54
      go_wp2_with fail
      go_quiet ((go_at_call 83; exact (HI _).out))
      have HN := Lib.hid (H.out.below (below_drewN (Below.refl _ _) nq))
      have KN := Lib.hid (Below.keep (b := b) (below_drewN (Below.refl _ w) nq))
      generalize w.drewN nq = wd at HN KN ⊢
      obtain ⟨d0, d1, d2, d3⟩ := HN.out.cells
      obtain ⟨f1, f2, f3⟩ := HN.out.fz
      have lb := HN.out.bk.lt
      have HE := Lib.hid (HN.out.setN (q.n + 1) ((q.n : Int) + 1) (by omega))
      have KE := Lib.hid (KN.out.setCell 1 (.int .i64 ((q.n : Int) + 1)))
      go_wp2_with fail
      exact bodyPost_ret (v := .tuple #[]) (by simp [results, Tryz.results54, go_sem]) rfl ⟨rfl, by rw [HR.out]; exact HE.out, KE.out⟩
  · have e1 : ((q.k : Int) == 0) = false := by rw [beq_eq_false_iff_ne]; omega
    have HR : Hid (rsgP l q y.data.toList = wrP l q) := Lib.hid (by unfold rsgP; rw [if_neg (fun hh => hk hh.1)])
    clear hk
    go_enter Tryz.func54, Tryz.ntmps54
    go_wp2_with fail
    go_quiet (fail)
    have HN := Lib.hid (H.out.below (below_drewN (Below.refl _ _) nq))
    have KN := Lib.hid (Below.keep (b := b) (below_drewN (Below.refl _ w) nq))
    generalize w.drewN nq = wd at HN KN ⊢
    go_wp2_with fail
    refine (HW.out wd HN.out).mono ?_
    rintro e w2 ⟨rfl, h2, k2⟩
    have H2 := Lib.hid h2
    have K2 := Lib.hid (KN.out.trans k2)
    clear h2 k2
    go_wp2_with fail
    exact bodyPost_end (v := .tuple #[]) (by simp [results, Tryz.results54, go_sem]) rfl ⟨rfl, by rw [HR.out]; exact H2.out, K2.out⟩

end

end Go.Proofs.YtlpgafgiljffhaaGreatDoor
