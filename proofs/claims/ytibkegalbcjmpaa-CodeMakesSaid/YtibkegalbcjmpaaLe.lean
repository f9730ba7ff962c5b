/- A program that came in, as it lies in memory. -/
import Derived.Test.YtibkegalbcjmpaaMq
import Derived.Test.YtibkegalbcjmpaaLc
namespace Go.Proofs.Ytibkegalbcjmpaa
open Go.ChangeShapes Go.WideShapes Go.ChangeAt Go.RowKit
open Go.ChangeMaps (open_string shut_string)
set_option maxRecDepth 100000

theorem c_int : Try.prog.cellsOf 3 = 1 := by kernel_rfl
theorem c_str : Try.prog.cellsOf 9 = 1 := by kernel_rfl
theorem c_nds : Try.prog.cellsOf 22 = 1 := by kernel_rfl
theorem c_bool : Try.prog.cellsOf 4 = 1 := by kernel_rfl
theorem c_strs : Try.prog.cellsOf 23 = 1 := by kernel_rfl
theorem c_sts : Try.prog.cellsOf 60 = 1 := by kernel_rfl
theorem c_vars : Try.prog.cellsOf 24 = 1 := by kernel_rfl
theorem c_thrs : Try.prog.cellsOf 25 = 1 := by kernel_rfl
theorem c_cls : Try.prog.cellsOf 26 = 1 := by kernel_rfl

def cellsI (t : SI) : List Value := [.int .i64 t.1.kind, .string t.1.reg, .string t.1.loc, t.2.1, t.2.2, .bool t.1.ne, .int .i64 t.1.body, .int .i64 t.1.els, .int .i64 t.1.pl]

theorem cell_stmt {H : Type} {enc : TypeId × Value → H} {W : World} {n : Nat} {cs : List Value} {x : DataW H × List MemPlace} (h : DataW.trod enc Try.prog W 0 (fun _ => true) true n 83 cs = some x) (hl : cs.length = 9) :
    ∃ t : SI, cs = cellsI t ∧ NdsC W t.2.1 t.1.e ∧ NdsC W t.2.2 t.1.f ∧ t.1.e.length ≤ maxLen ∧ t.1.f.length ≤ maxLen := by
  obtain ⟨xs, m, _, _, _, hxl, hf⟩ := DataW.trod_struct Try.underlying83 h
  match cs, hl with
  | [c0, c1, c2, c3, c4, c5, c6, c7, c8], _ =>
    match xs, hxl with
    | [x0, x1, x2, x3, x4, x5, x6, x7, x8], _ =>
      have f0 : DataW.trod enc Try.prog W 0 (fun _ => true) true m 3 (([c0, c1, c2, c3, c4, c5, c6, c7, c8].drop 0).take (Try.prog.cellsOf 3)) = some x0 := hf 0 _ rfl
      have f1 : DataW.trod enc Try.prog W 0 (fun _ => true) true m 9 (([c0, c1, c2, c3, c4, c5, c6, c7, c8].drop 1).take (Try.prog.cellsOf 9)) = some x1 := hf 1 _ rfl
      have f2 : DataW.trod enc Try.prog W 0 (fun _ => true) true m 9 (([c0, c1, c2, c3, c4, c5, c6, c7, c8].drop 2).take (Try.prog.cellsOf 9)) = some x2 := hf 2 _ rfl
      have f3 : DataW.trod enc Try.prog W 0 (fun _ => true) true m 22 (([c0, c1, c2, c3, c4, c5, c6, c7, c8].drop 3).take (Try.prog.cellsOf 22)) = some x3 := hf 3 _ rfl
      have f4 : DataW.trod enc Try.prog W 0 (fun _ => true) true m 22 (([c0, c1, c2, c3, c4, c5, c6, c7, c8].drop 4).take (Try.prog.cellsOf 22)) = some x4 := hf 4 _ rfl
      have f5 : DataW.trod enc Try.prog W 0 (fun _ => true) true m 4 (([c0, c1, c2, c3, c4, c5, c6, c7, c8].drop 5).take (Try.prog.cellsOf 4)) = some x5 := hf 5 _ rfl
      have f6 : DataW.trod enc Try.prog W 0 (fun _ => true) true m 3 (([c0, c1, c2, c3, c4, c5, c6, c7, c8].drop 6).take (Try.prog.cellsOf 3)) = some x6 := hf 6 _ rfl
      have f7 : DataW.trod enc Try.prog W 0 (fun _ => true) true m 3 (([c0, c1, c2, c3, c4, c5, c6, c7, c8].drop 7).take (Try.prog.cellsOf 3)) = some x7 := hf 7 _ rfl
      have f8 : DataW.trod enc Try.prog W 0 (fun _ => true) true m 3 (([c0, c1, c2, c3, c4, c5, c6, c7, c8].drop 8).take (Try.prog.cellsOf 3)) = some x8 := hf 8 _ rfl
      rw [c_int] at f0 f6 f7 f8
      rw [c_str] at f1 f2
      rw [c_nds] at f3 f4
      rw [c_bool] at f5
      obtain ⟨n0, e0, _⟩ := DataW.trod_int Try.underlying3 f0
      obtain ⟨n1, e1, _⟩ := DataW.trod_string Try.underlying9 f1
      obtain ⟨n2, e2, _⟩ := DataW.trod_string Try.underlying9 f2
      obtain ⟨l3, g3, i3⟩ := open_ndsF f3
      obtain ⟨l4, g4, i4⟩ := open_ndsF f4
      obtain ⟨n5, e5, _⟩ := DataW.trod_bool Try.underlying4 f5
      obtain ⟨n6, e6, _⟩ := DataW.trod_int Try.underlying3 f6
      obtain ⟨n7, e7, _⟩ := DataW.trod_int Try.underlying3 f7
      obtain ⟨n8, e8, _⟩ := DataW.trod_int Try.underlying3 f8
      have e0' : c0 = _ := (List.cons.inj e0).1
      have e1' : c1 = _ := (List.cons.inj e1).1
      have e2' : c2 = _ := (List.cons.inj e2).1
      have e5' : c5 = _ := (List.cons.inj e5).1
      have e6' : c6 = _ := (List.cons.inj e6).1
      have e7' : c7 = _ := (List.cons.inj e7).1
      have e8' : c8 = _ := (List.cons.inj e8).1
      subst e0' e1' e2' e5' e6' e7' e8'
      exact ⟨(⟨n0, n1, n2, l3, l4, n5, n6, n7, n8⟩, c3, c4), rfl, g3, g4, i3, i4⟩

theorem open_stsF {H : Type} {enc : TypeId × Value → H} {W : World} {fuel : Nat} {c : Value} {x : DataW H × List MemPlace} (h : DataW.trod enc Try.prog W 0 (fun _ => true) true fuel 60 [c] = some x) :
    ∃ ts : List SI, StsD W c ts ∧ BigOK ts ∧ NilOK c := by
  obtain ⟨ts, ad, cap, rfl, h0, h1, h2, h3⟩ := open_gen (α := SI) (S := 9) (⟨0, ⟨#[]⟩, ⟨#[]⟩, [], [], false, 0, 0, 0⟩, .bool false, .bool false) Try.underlying60 (by kernel_rfl) (by decide)
    (fun b off t => StAt W b off t ∧ NdsC W t.2.1 t.1.e ∧ NdsC W t.2.2 t.1.f ∧ t.1.e.length ≤ maxLen ∧ t.1.f.length ≤ maxLen)
    (fun n cs y b off hy hl hc hb => by
      obtain ⟨t, rfl, g⟩ := cell_stmt hy hl
      exact ⟨t, ⟨hc 0 (by decide), hc 1 (by decide), hc 2 (by decide), hc 3 (by decide), hc 4 (by decide), hc 5 (by decide), hc 6 (by decide), hc 7 (by decide), hc 8 (by decide)⟩, g⟩) h
  refine ⟨ts, ⟨ad, cap, rfl, h1, by unfold maxLen at h2; omega, fun i hi => ?_⟩, ⟨by omega, fun t ht => ?_⟩, h0⟩
  · obtain ⟨b, off, g1, g2, g3, g4, g5, _⟩ := h3 i hi
    exact ⟨b, off, g1, g2, g3, g4, g5⟩
  · obtain ⟨i, hi, rfl⟩ := List.mem_iff_getElem.1 ht
    obtain ⟨b, off, g1, g2, g3, g4, g5, g6⟩ := h3 i hi
    exact g6

theorem open_strsF {H : Type} {enc : TypeId × Value → H} {W : World} {fuel : Nat} {c : Value} {x : DataW H × List MemPlace} (h : DataW.trod enc Try.prog W 0 (fun _ => true) true fuel 23 [c] = some x) :
    ∃ ts : List ByteArray, StrsD W c ts ∧ ts.length ≤ maxLen := by
  obtain ⟨ts, ad, cap, rfl, h0, h1, h2, h3⟩ := open_gen (α := ByteArray) (S := 1) ⟨#[]⟩ Try.underlying23 (by kernel_rfl) (by decide)
    (fun b off t => StrAt W b off t)
    (fun n cs y b off hy hl hc hb => by
      match cs, hl with
      | [c0], _ =>
        obtain ⟨n0, e0, _⟩ := DataW.trod_string Try.underlying9 hy
        have e0' : c0 = _ := (List.cons.inj e0).1
        subst e0'
        exact ⟨n0, hc 0 (by decide)⟩) h
  exact ⟨ts, ⟨ad, cap, rfl, ⟨h1, nil_cap h0⟩, by unfold maxLen at h2; omega, h3⟩, by omega⟩


theorem cell_var {H : Type} {enc : TypeId × Value → H} {W : World} {n : Nat} {cs : List Value} {x : DataW H × List MemPlace} (h : DataW.trod enc Try.prog W 0 (fun _ => true) true n 59 cs = some x) (hl : cs.length = 3) :
    ∃ t : ByteArray × Int × Int, cs = [.string t.1, .int .i64 t.2.1, .int .i64 t.2.2] := by
  obtain ⟨xs, m, _, _, _, hxl, hf⟩ := DataW.trod_struct Try.underlying59 h
  match cs, hl with
  | [k0, k1, k2], _ =>
    match xs, hxl with
    | [x0, x1, x2], _ =>
      have f0 : DataW.trod enc Try.prog W 0 (fun _ => true) true m 9 (([k0, k1, k2].drop 0).take (Try.prog.cellsOf 9)) = some x0 := hf 0 _ rfl
      have f1 : DataW.trod enc Try.prog W 0 (fun _ => true) true m 3 (([k0, k1, k2].drop 1).take (Try.prog.cellsOf 3)) = some x1 := hf 1 _ rfl
      have f2 : DataW.trod enc Try.prog W 0 (fun _ => true) true m 3 (([k0, k1, k2].drop 2).take (Try.prog.cellsOf 3)) = some x2 := hf 2 _ rfl
      rw [c9] at f0
      rw [c3] at f1 f2
      obtain ⟨n0, e0, _⟩ := DataW.trod_string Try.underlying9 f0
      obtain ⟨n1, e1, _⟩ := DataW.trod_int Try.underlying3 f1
      obtain ⟨n2, e2, _⟩ := DataW.trod_int Try.underlying3 f2
      have e0' : k0 = _ := (List.cons.inj e0).1
      have e1' : k1 = _ := (List.cons.inj e1).1
      have e2' : k2 = _ := (List.cons.inj e2).1
      subst e0' e1' e2'
      exact ⟨(n0, n1, n2), rfl⟩

theorem open_varsF {H : Type} {enc : TypeId × Value → H} {W : World} {fuel : Nat} {c : Value} {x : DataW H × List MemPlace} (h : DataW.trod enc Try.prog W 0 (fun _ => true) true fuel 24 [c] = some x) :
    ∃ ts : List (ByteArray × Int × Int), VnsD W c ts ∧ ts.length ≤ maxLen := by
  obtain ⟨ts, ad, cap, rfl, h0, h1, h2, h3⟩ := open_gen (α := (ByteArray × Int × Int)) (S := 3) (⟨#[]⟩, 0, 0) Try.underlying24 (by kernel_rfl) (by decide)
    (fun b off t => VnAt W b off t)
    (fun n cs y b off hy hl hc hb => by
      obtain ⟨t, rfl⟩ := cell_var hy hl
      exact ⟨t, hc 0 (by decide), hc 1 (by decide), hc 2 (by decide)⟩) h
  exact ⟨ts, ⟨ad, cap, rfl, ⟨h1, nil_cap h0⟩, by unfold maxLen at h2; omega, h3⟩, by omega⟩


theorem cell_thread {H : Type} {enc : TypeId × Value → H} {W : World} {n : Nat} {cs : List Value} {x : DataW H × List MemPlace} (h : DataW.trod enc Try.prog W 0 (fun _ => true) true n 62 cs = some x) (hl : cs.length = 4) :
    ∃ t : TB, cs = [.string t.1.nm, t.1.rv, .slice t.1.ba t.1.bl t.1.bc, .int .i64 t.1.pl] ∧ StrsD W t.1.rv t.1.regs ∧ StsD W (.slice t.1.ba t.1.bl t.1.bc) t.2 ∧ BigT t := by
  obtain ⟨xs, m, _, _, _, hxl, hf⟩ := DataW.trod_struct Try.underlying62 h
  match cs, hl with
  | [k0, k1, k2, k3], _ =>
    match xs, hxl with
    | [x0, x1, x2, x3], _ =>
      have f0 : DataW.trod enc Try.prog W 0 (fun _ => true) true m 9 (([k0, k1, k2, k3].drop 0).take (Try.prog.cellsOf 9)) = some x0 := hf 0 _ rfl
      have f1 : DataW.trod enc Try.prog W 0 (fun _ => true) true m 23 (([k0, k1, k2, k3].drop 1).take (Try.prog.cellsOf 23)) = some x1 := hf 1 _ rfl
      have f2 : DataW.trod enc Try.prog W 0 (fun _ => true) true m 60 (([k0, k1, k2, k3].drop 2).take (Try.prog.cellsOf 60)) = some x2 := hf 2 _ rfl
      have f3 : DataW.trod enc Try.prog W 0 (fun _ => true) true m 3 (([k0, k1, k2, k3].drop 3).take (Try.prog.cellsOf 3)) = some x3 := hf 3 _ rfl
      rw [c9] at f0
      rw [c_strs] at f1
      rw [c_sts] at f2
      rw [c3] at f3
      obtain ⟨n0, e0, _⟩ := DataW.trod_string Try.underlying9 f0
      obtain ⟨l1, g1, i1⟩ := open_strsF f1
      obtain ⟨l2, g2, i2, _⟩ := open_stsF f2
      obtain ⟨n3, e3, _⟩ := DataW.trod_int Try.underlying3 f3
      have e0' : k0 = _ := (List.cons.inj e0).1
      have e3' : k3 = _ := (List.cons.inj e3).1
      subst e0' e3'
      obtain ⟨ad, cap, rfl, g2'⟩ := id g2
      exact ⟨(⟨n0, l1, k1, ad, l2.length, cap, n3⟩, l2), rfl, g1, g2, i1, i2⟩

theorem open_threadsF {H : Type} {enc : TypeId × Value → H} {W : World} {fuel : Nat} {c : Value} {x : DataW H × List MemPlace} (h : DataW.trod enc Try.prog W 0 (fun _ => true) true fuel 25 [c] = some x) :
    ∃ ts : List TB, TbsD W c ts ∧ ts.length ≤ maxLen ∧ ∀ x ∈ ts, BigT x := by
  obtain ⟨ts, ad, cap, rfl, h0, h1, h2, h3⟩ := open_gen (α := TB) (S := 4) (⟨⟨#[]⟩, [], .bool false, none, 0, 0, 0⟩, []) Try.underlying25 (by kernel_rfl) (by decide)
    (fun b off t => TbAt W b off t ∧ BigT t)
    (fun n cs y b off hy hl hc hb => by
      obtain ⟨t, rfl, g1, g2, g3⟩ := cell_thread hy hl
      exact ⟨t, ⟨⟨⟨hc 0 (by decide), hc 1 (by decide), hc 2 (by decide), hc 3 (by decide)⟩, g1⟩, g2⟩, g3⟩) h
  refine ⟨ts, ⟨ad, cap, rfl, ⟨h1, nil_cap h0⟩, by unfold maxLen at h2; omega, fun i hi => ?_⟩, by omega, fun x hx => ?_⟩
  · obtain ⟨b, off, g1, g2, g3, _⟩ := h3 i hi
    exact ⟨b, off, g1, g2, g3⟩
  · obtain ⟨i, hi, rfl⟩ := List.mem_iff_getElem.1 hx
    obtain ⟨b, off, g1, g2, g3, g4⟩ := h3 i hi
    exact g4


theorem cell_claim {H : Type} {enc : TypeId × Value → H} {W : World} {n : Nat} {cs : List Value} {x : DataW H × List MemPlace} (h : DataW.trod enc Try.prog W 0 (fun _ => true) true n 65 cs = some x) (hl : cs.length = 3) :
    ∃ t : Cl, cs = [.int .i64 t.kind, t.ev, .int .i64 t.pl] ∧ NdsC W t.ev t.e ∧ t.e.length ≤ maxLen := by
  obtain ⟨xs, m, _, _, _, hxl, hf⟩ := DataW.trod_struct Try.underlying65 h
  match cs, hl with
  | [k0, k1, k2], _ =>
    match xs, hxl with
    | [x0, x1, x2], _ =>
      have f0 : DataW.trod enc Try.prog W 0 (fun _ => true) true m 3 (([k0, k1, k2].drop 0).take (Try.prog.cellsOf 3)) = some x0 := hf 0 _ rfl
      have f1 : DataW.trod enc Try.prog W 0 (fun _ => true) true m 22 (([k0, k1, k2].drop 1).take (Try.prog.cellsOf 22)) = some x1 := hf 1 _ rfl
      have f2 : DataW.trod enc Try.prog W 0 (fun _ => true) true m 3 (([k0, k1, k2].drop 2).take (Try.prog.cellsOf 3)) = some x2 := hf 2 _ rfl
      rw [c3] at f0 f2
      rw [c_nds] at f1
      obtain ⟨n0, e0, _⟩ := DataW.trod_int Try.underlying3 f0
      obtain ⟨l1, g1, i1⟩ := open_ndsF f1
      obtain ⟨n2, e2, _⟩ := DataW.trod_int Try.underlying3 f2
      have e0' : k0 = _ := (List.cons.inj e0).1
      have e2' : k2 = _ := (List.cons.inj e2).1
      subst e0' e2'
      exact ⟨⟨n0, l1, k1, n2⟩, rfl, g1, i1⟩

theorem open_claimsF {H : Type} {enc : TypeId × Value → H} {W : World} {fuel : Nat} {c : Value} {x : DataW H × List MemPlace} (h : DataW.trod enc Try.prog W 0 (fun _ => true) true fuel 26 [c] = some x) :
    ∃ ts : List Cl, ClsD W c ts ∧ ts.length ≤ maxLen ∧ ∀ x ∈ ts, x.e.length ≤ maxLen := by
  obtain ⟨ts, ad, cap, rfl, h0, h1, h2, h3⟩ := open_gen (α := Cl) (S := 3) ⟨0, [], .bool false, 0⟩ Try.underlying26 (by kernel_rfl) (by decide)
    (fun b off t => ClAt W b off t ∧ t.e.length ≤ maxLen)
    (fun n cs y b off hy hl hc hb => by
      obtain ⟨t, rfl, g1, g2⟩ := cell_claim hy hl
      exact ⟨t, ⟨⟨hc 0 (by decide), hc 1 (by decide), hc 2 (by decide)⟩, g1⟩, g2⟩) h
  refine ⟨ts, ⟨ad, cap, rfl, ⟨h1, nil_cap h0⟩, by unfold maxLen at h2; omega, fun i hi => ?_⟩, by omega, fun x hx => ?_⟩
  · obtain ⟨b, off, g1, g2, g3, _⟩ := h3 i hi
    exact ⟨b, off, g1, g2, g3⟩
  · obtain ⟨i, hi, rfl⟩ := List.mem_iff_getElem.1 hx
    obtain ⟨b, off, g1, g2, g3, g4⟩ := h3 i hi
    exact g4


theorem open_prog {H : Type} {enc : TypeId × Value → H} {W : World} {base : Nat} {v : Value} {d : DataW H} {p : List MemPlace} (hv : Value.okWide Try.prog W .any base 28 v) (h : DataW.Trod enc Try.prog W 0 (fun _ => true) true 28 v d p) :
    ∃ (m : Int) (vs : List (ByteArray × Int × Int)) (ts : List TB) (cs : List Cl), PgD W v m vs ts cs := by
  obtain ⟨cs, rfl, hsz⟩ := okWide_struct Try.underlying28 hv
  obtain ⟨fuel, hf⟩ := h
  have hf : DataW.trod enc Try.prog W 0 (fun _ => true) true fuel 28 cs.toList = some (d, p) := hf
  obtain ⟨xs, m, _, _, _, hxl, hf⟩ := DataW.trod_struct Try.underlying28 hf
  have hs4 : Try.prog.cellsOf 28 = 4 := by kernel_rfl
  rw [hs4] at hsz
  obtain ⟨l⟩ := cs
  have hl : l.length = 4 := hsz
  match l, hl with
  | [k0, k1, k2, k3], _ =>
    match xs, hxl with
    | [x0, x1, x2, x3], _ =>
      have f0 : DataW.trod enc Try.prog W 0 (fun _ => true) true m 3 (([k0, k1, k2, k3].drop 0).take (Try.prog.cellsOf 3)) = some x0 := hf 0 _ rfl
      have f1 : DataW.trod enc Try.prog W 0 (fun _ => true) true m 24 (([k0, k1, k2, k3].drop 1).take (Try.prog.cellsOf 24)) = some x1 := hf 1 _ rfl
      have f2 : DataW.trod enc Try.prog W 0 (fun _ => true) true m 25 (([k0, k1, k2, k3].drop 2).take (Try.prog.cellsOf 25)) = some x2 := hf 2 _ rfl
      have f3 : DataW.trod enc Try.prog W 0 (fun _ => true) true m 26 (([k0, k1, k2, k3].drop 3).take (Try.prog.cellsOf 26)) = some x3 := hf 3 _ rfl
      rw [c3] at f0
      rw [c_vars] at f1
      rw [c_thrs] at f2
      rw [c_cls] at f3
      obtain ⟨n0, e0, _⟩ := DataW.trod_int Try.underlying3 f0
      have e0' : k0 = _ := (List.cons.inj e0).1
      subst e0'
      obtain ⟨vs, g1, i1⟩ := open_varsF f1
      obtain ⟨ts, g2, i2, i3⟩ := open_threadsF f2
      obtain ⟨cs, g3, i4, i5⟩ := open_claimsF f3
      exact ⟨n0, vs, ts, cs, ⟨⟨_, _, _, rfl, g1, g2, g3⟩, i1, i2, i4, i3, i5⟩⟩

end Go.Proofs.Ytibkegalbcjmpaa
