/- Layer 10's law: right; what a light unit's instructions are. Layer 9: a unit and a configuration that came in. Layer 10's law: a case that came in. StepRoom: plain facts. -/
import Derived.Test.YtacbanfnakgecaaGreatYa
import Derived.Test.YtacbanfnakgecaaGreatVg
import Derived.Test.YtacbanfnakgecaaGreatUx
import Derived.Test.YtacbanfnakgecaaGreatUm
import Derived.Test.YtacbanfnakgecaaGreatUo
import Derived.Test.YtacbanfnakgecaaGreatVa
import Derived.ProofKit
import Derived.OpenShut
import Derived.ShutString
import Derived.Deep.Slices
import Derived.ChangeOld
import Derived.WalkSmall
import Derived.Test.YtacbanfnakgecaaGreatYn
import Derived.Test.YtacbanfnakgecaaGreatYb
namespace Go.Proofs.YtacbanfnakgecaaGreat
set_option linter.unusedSimpArgs false
set_option linter.unusedVariables false
open Go.RowKit

theorem lightU_short {u : Un} (h : lightU u = true) : ShortU u := by
  unfold lightU at h
  simp only [Bool.and_eq_true, decide_eq_true_eq, List.all_eq_true] at h
  obtain ⟨h1, h2, h3, h4⟩ := h
  refine ⟨by omega, by omega, fun r hr => ?_⟩
  have h5 := h4 r hr
  unfold lightR at h5
  simp only [Bool.and_eq_true, decide_eq_true_eq, List.all_eq_true] at h5
  refine ⟨by omega, fun t ht => ?_⟩
  have h6 := h5.2 t ht
  unfold lightI at h6
  simp only [Bool.and_eq_true, decide_eq_true_eq] at h6
  omega
theorem lightC_short {c : Cf} (h : lightC c = true) : ShortC c := by
  unfold lightC at h
  simp only [Bool.and_eq_true, decide_eq_true_eq, List.all_eq_true] at h
  obtain ⟨⟨h1, h2, h3, h4⟩, h5, h6⟩ := h
  exact ⟨by omega, by omega, by omega, by omega, fun x hx => by have := h5 x hx; omega, fun x hx => by have := h6 x hx; omega⟩
theorem lightU_code {u : Un} (h : lightU u = true) : u.code.length ≤ 100000 := by
  unfold lightU at h
  simp only [Bool.and_eq_true, decide_eq_true_eq] at h
  omega
theorem usL {u : Un} (h : lightU u = true) : ∀ k pc, (iiAt u k pc).x.e.length ≤ 100000 ∧ (iiAt u k pc).x.f.length ≤ 100000 := by
  intro k pc
  have key : ∀ (l : List II) (i : Nat), (∀ t ∈ l, t.x.e.length ≤ 100000 ∧ t.x.f.length ≤ 100000) → ((l.getD i noII).x.e.length ≤ 100000 ∧ (l.getD i noII).x.f.length ≤ 100000) := by
    intro l i hl
    rw [List.getD_eq_getElem?_getD]
    cases hg : l[i]? with
    | none => exact ⟨by simp [noII], by simp [noII]⟩
    | some t => exact hl t (List.mem_of_getElem? hg)
  have hs := (lightU_short h).2.2
  unfold iiAt
  refine key _ _ fun t ht => ?_
  rw [List.getD_eq_getElem?_getD] at ht
  cases hg : u.code[k]? with
  | none => rw [hg] at ht; simp at ht
  | some r =>
    rw [hg] at ht
    exact (hs r (List.mem_of_getElem? hg)).2 t ht

set_option maxRecDepth 100000 in
set_option maxHeartbeats 4000000 in
theorem right10_any (u : Un) (c : Cf) (model room t loc : Int) (vi vr vc xp xr xm xb : Value) (w : World) (hu : UnD w vi vr vc u) (hc : CfD w xp xr xm xb c) (q : Bool) (hq : (lightU u && (lightC c && rightC u c model room)) = q) :
    Calls Tryz.prog 5 #[.agg #[.int .i64 u.mod, vi, vr, vc, xp, xr, xm, xb, .int .i64 model, .int .i64 room, .int .i64 t, .int .i64 loc]] w fun e w' => e = .returned (.bool q) ∧ Below w.heap.size w w' := by
  have HU := Lib.hid hu
  have HC := Lib.hid hc
  obtain ⟨ai, ci, rfl⟩ := hu.i.shape0
  obtain ⟨ar, cr, rfl⟩ := hu.r.shape0
  obtain ⟨ac, cc, rfl⟩ := hu.c.shape0
  obtain ⟨ap, cp, rfl⟩ := hc.p.shape0
  obtain ⟨aq, cq, rfl⟩ := hc.r.shape0
  obtain ⟨am, cm, rfl⟩ := hc.m.shape0
  obtain ⟨ab, cb, rfl⟩ := hc.b.shape0
  have HL := Lib.hid (fun (W : World) (h : Below w.heap.size w W) => ulight_any u _ _ _ W (HU.out.below h) _ rfl)
  have HLC := Lib.hid (fun (W : World) (h : Below w.heap.size w W) => clight_any c _ _ _ _ W (HC.out.below h) _ rfl)
  have HR := Lib.hid (fun (hl : lightU u = true) (hk : lightC c = true) (W : World) (h : Below w.heap.size w W) => rcright_any u c model room _ _ _ _ _ _ _ W (HU.out.below h) (HC.out.below h) (lightU_short hl) (lightC_short hk) _ rfl)
  have HQL := Lib.hid (rfl : lightU u = lightU u)
  generalize u.init.length = ni at HL HR ⊢
  generalize u.regs.length = nr at HL HR ⊢
  generalize u.code.length = nc at HL HR ⊢
  generalize c.pc.length = np at HLC HR ⊢
  generalize c.regs.length = nq at HLC HR ⊢
  generalize c.mem.length = nm at HLC HR ⊢
  generalize c.buf.length = nb at HLC HR ⊢
  generalize u.mod = md at HL HR ⊢
  obtain ⟨q1, h1⟩ : ∃ q, lightU u = q := ⟨_, rfl⟩
  obtain ⟨q2, h2⟩ : ∃ q, lightC c = q := ⟨_, rfl⟩
  obtain ⟨q3, h3⟩ : ∃ q, rightC u c model room = q := ⟨_, rfl⟩
  rw [h1, h2, h3] at hq
  rw [h1] at HL
  rw [h2] at HLC
  rw [h3] at HR
  replace h1 := Lib.hid h1
  replace h2 := Lib.hid h2
  subst hq
  clear hu hc HU HC HQL h3
  have K := Lib.hid (Bk.new w 31 #[.int .i64 md, .slice ai ni ci, .slice ar nr cr, .slice ac nc cc, .slice ap np cp, .slice aq nq cq, .slice am nm cm, .slice ab nb cb, .int .i64 model, .int .i64 room, .int .i64 t, .int .i64 loc])
  have B : Hid (Below w.heap.size w (World.alloc w (.cells #[.int .i64 md, .slice ai ni ci, .slice ar nr cr, .slice ac nc cc, .slice ap np cp, .slice aq nq cq, .slice am nm cm, .slice ab nb cb, .int .i64 model, .int .i64 room, .int .i64 t, .int .i64 loc] 31))) := Lib.hid (bal (Below.refl _ _) _)
  go_enter Tryz.func5, Tryz.ntmps5
  go_wp2_with fail
  generalize World.alloc w (.cells #[.int .i64 md, .slice ai ni ci, .slice ar nr cr, .slice ac nc cc, .slice ap np cp, .slice aq nq cq, .slice am nm cm, .slice ab nb cb, .int .i64 model, .int .i64 room, .int .i64 t, .int .i64 loc] 31) = w1 at K B ⊢
  obtain ⟨c0, c1, c2, c3, c4, c5, c6, c7, c8, c9, c10, c11, cl⟩ : w1.cell? ⟨w.heap.size, 0, none⟩ = some (.int .i64 md) ∧ w1.cell? ⟨w.heap.size, 1, none⟩ = some (.slice ai ni ci) ∧ w1.cell? ⟨w.heap.size, 2, none⟩ = some (.slice ar nr cr) ∧ w1.cell? ⟨w.heap.size, 3, none⟩ = some (.slice ac nc cc) ∧ w1.cell? ⟨w.heap.size, 4, none⟩ = some (.slice ap np cp) ∧ w1.cell? ⟨w.heap.size, 5, none⟩ = some (.slice aq nq cq) ∧ w1.cell? ⟨w.heap.size, 6, none⟩ = some (.slice am nm cm) ∧ w1.cell? ⟨w.heap.size, 7, none⟩ = some (.slice ab nb cb) ∧ w1.cell? ⟨w.heap.size, 8, none⟩ = some (.int .i64 model) ∧ w1.cell? ⟨w.heap.size, 9, none⟩ = some (.int .i64 room) ∧ w1.cell? ⟨w.heap.size, 10, none⟩ = some (.int .i64 t) ∧ w1.cell? ⟨w.heap.size, 11, none⟩ = some (.int .i64 loc) ∧ w.heap.size < w1.heap.size := ⟨K.out.cell 0, K.out.cell 1, K.out.cell 2, K.out.cell 3, K.out.cell 4, K.out.cell 5, K.out.cell 6, K.out.cell 7, K.out.cell 8, K.out.cell 9, K.out.cell 10, K.out.cell 11, K.out.lt⟩
  go_wp2_with fail
  clear c0 c1 c2 c3 c4 c5 c6 c7 c8 c9 c10 c11 cl
  refine (HL.out w1 B.out).mono ?_
  rintro e w2 ⟨rfl, b⟩
  replace K := Lib.hid (K.out.below b)
  replace B := Lib.hid (B.out.trans (b.mono B.out.size))
  clear b
  obtain ⟨c0, c1, c2, c3, c4, c5, c6, c7, c8, c9, c10, c11, cl⟩ : w2.cell? ⟨w.heap.size, 0, none⟩ = some (.int .i64 md) ∧ w2.cell? ⟨w.heap.size, 1, none⟩ = some (.slice ai ni ci) ∧ w2.cell? ⟨w.heap.size, 2, none⟩ = some (.slice ar nr cr) ∧ w2.cell? ⟨w.heap.size, 3, none⟩ = some (.slice ac nc cc) ∧ w2.cell? ⟨w.heap.size, 4, none⟩ = some (.slice ap np cp) ∧ w2.cell? ⟨w.heap.size, 5, none⟩ = some (.slice aq nq cq) ∧ w2.cell? ⟨w.heap.size, 6, none⟩ = some (.slice am nm cm) ∧ w2.cell? ⟨w.heap.size, 7, none⟩ = some (.slice ab nb cb) ∧ w2.cell? ⟨w.heap.size, 8, none⟩ = some (.int .i64 model) ∧ w2.cell? ⟨w.heap.size, 9, none⟩ = some (.int .i64 room) ∧ w2.cell? ⟨w.heap.size, 10, none⟩ = some (.int .i64 t) ∧ w2.cell? ⟨w.heap.size, 11, none⟩ = some (.int .i64 loc) ∧ w.heap.size < w2.heap.size := ⟨K.out.cell 0, K.out.cell 1, K.out.cell 2, K.out.cell 3, K.out.cell 4, K.out.cell 5, K.out.cell 6, K.out.cell 7, K.out.cell 8, K.out.cell 9, K.out.cell 10, K.out.cell 11, K.out.lt⟩
  cases q1 with
  | false => go_wp2_with fail; refine bodyPost_ret (v := .bool _) (by simp [results, Tryz.results5, go_sem]) rfl ⟨rfl, B.out⟩
  | true =>
    go_wp2_with fail
    clear c0 c1 c2 c3 c4 c5 c6 c7 c8 c9 c10 c11 cl
    refine (HLC.out w2 B.out).mono ?_
    rintro e w3 ⟨rfl, b⟩
    replace K := Lib.hid (K.out.below b)
    replace B := Lib.hid (B.out.trans (b.mono B.out.size))
    clear b
    obtain ⟨c0, c1, c2, c3, c4, c5, c6, c7, c8, c9, c10, c11, cl⟩ : w3.cell? ⟨w.heap.size, 0, none⟩ = some (.int .i64 md) ∧ w3.cell? ⟨w.heap.size, 1, none⟩ = some (.slice ai ni ci) ∧ w3.cell? ⟨w.heap.size, 2, none⟩ = some (.slice ar nr cr) ∧ w3.cell? ⟨w.heap.size, 3, none⟩ = some (.slice ac nc cc) ∧ w3.cell? ⟨w.heap.size, 4, none⟩ = some (.slice ap np cp) ∧ w3.cell? ⟨w.heap.size, 5, none⟩ = some (.slice aq nq cq) ∧ w3.cell? ⟨w.heap.size, 6, none⟩ = some (.slice am nm cm) ∧ w3.cell? ⟨w.heap.size, 7, none⟩ = some (.slice ab nb cb) ∧ w3.cell? ⟨w.heap.size, 8, none⟩ = some (.int .i64 model) ∧ w3.cell? ⟨w.heap.size, 9, none⟩ = some (.int .i64 room) ∧ w3.cell? ⟨w.heap.size, 10, none⟩ = some (.int .i64 t) ∧ w3.cell? ⟨w.heap.size, 11, none⟩ = some (.int .i64 loc) ∧ w.heap.size < w3.heap.size := ⟨K.out.cell 0, K.out.cell 1, K.out.cell 2, K.out.cell 3, K.out.cell 4, K.out.cell 5, K.out.cell 6, K.out.cell 7, K.out.cell 8, K.out.cell 9, K.out.cell 10, K.out.cell 11, K.out.lt⟩
    cases q2 with
    | false => go_wp2_with fail; refine bodyPost_ret (v := .bool _) (by simp [results, Tryz.results5, go_sem]) rfl ⟨rfl, B.out⟩
    | true =>
      go_wp2_with fail
      clear c0 c1 c2 c3 c4 c5 c6 c7 c8 c9 c10 c11 cl
      refine (HR.out h1.out h2.out w3 B.out).mono ?_
      rintro e w4 ⟨rfl, b⟩
      replace K := Lib.hid (K.out.below b)
      replace B := Lib.hid (B.out.trans (b.mono B.out.size))
      clear b
      go_wp2_with fail
      cases q3 <;> refine bodyPost_ret (v := .bool _) (by simp [results, Tryz.results5, go_sem]) rfl ⟨rfl, B.out⟩

end Go.Proofs.YtacbanfnakgecaaGreat

namespace Go.Proofs.YtacbanfnakgecaaGreat
set_option linter.unusedSimpArgs false
set_option linter.unusedVariables false
open Go.ChangeShapes Go.WideShapes Go.ChangeAt Go.RowKit
open Go.ChangeMaps (open_string shut_string)
set_option maxRecDepth 100000

def NilOK (v : Value) : Prop := v = .slice none 0 0 ∨ ∃ a n c, v = .slice (some a) n c

theorem cell_spot {w : World} {b off : Nat} {sp : Option Nat} {x : Value} (h : w.cell? ⟨b, off, sp⟩ = some x) : sp = none ∧ b < w.heap.size := by
  unfold World.cell? at h
  constructor
  · cases sp with
    | none => rfl
    | some k => split at h <;> simp at h
  · rcases Nat.lt_or_ge b w.heap.size with h' | h'
    · exact h'
    · simp [Array.getElem?_eq_none h'] at h

theorem open_gen {α H : Type} {enc : TypeId × Value → H} {W : World} {fuel T E S : Nat} {c : Value} {x : DataW H × List MemPlace} (z : α) (hT : Tryz.prog.underlying T = some (.slice E)) (hS : Tryz.prog.cellsOf E = S) (h0 : 0 < S) (R : Nat → Nat → α → Prop)
    (hR : ∀ n cs y b off, DataW.trod enc Tryz.prog W 0 (fun _ => true) true n E cs = some y → cs.length = S → (∀ j, j < S → W.cell? ⟨b, off + j, none⟩ = cs[j]?) → b < W.heap.size → ∃ t, R b off t)
    (h : DataW.trod enc Tryz.prog W 0 (fun _ => true) true fuel T [c] = some x) :
    ∃ (ts : List α) (ad : Option Addr) (cap : Nat), c = .slice ad ts.length cap ∧ NilOK c ∧ ts.length ≤ cap ∧ cap ≤ maxLen ∧ ∀ i, (hi : i < ts.length) → ∃ b off, ad = some ⟨b, off, none⟩ ∧ b < W.heap.size ∧ R b (off + i * S) ts[i] := by
  haveI : Inhabited α := ⟨z⟩
  rcases Deep.open_slice hT h with ⟨hcs, _⟩ | ⟨a, len, cap, m, n, D, Pl, hcs, _, hl, hm, hmm, _, hx⟩
  · obtain rfl : c = .slice none 0 0 := (List.cons.inj hcs).1
    exact ⟨[], none, 0, rfl, .inl rfl, Nat.zero_le _, Nat.zero_le _, fun i hi => absurd hi (Nat.not_lt_zero _)⟩
  · obtain rfl : c = .slice (some a) len cap := (List.cons.inj hcs).1
    rw [hS] at hx
    simp only [if_true] at hmm
    by_cases hz : len = 0
    · subst hz
      exact ⟨[], some a, cap, rfl, .inr ⟨_, _, _, rfl⟩, Nat.zero_le _, hm, fun i hi => absurd hi (Nat.not_lt_zero _)⟩
    · obtain ⟨b, off, sp⟩ := a
      obtain ⟨rfl, hb⟩ : sp = none ∧ b < W.heap.size := by
        obtain ⟨cs', h1, _⟩ := hx 0 (by omega)
        obtain ⟨_, hcl, hat⟩ := World.cells?_some h1
        have k := hat 0 h0
        have e0 : ((⟨b, off, sp⟩ : Addr).add (0 * S)).add 0 = ⟨b, off, sp⟩ := by simp [Addr.add]
        rw [e0, List.getElem?_eq_getElem (by omega)] at k
        exact cell_spot k
      have e : ∀ j, (⟨b, off, none⟩ : Addr).add j = ⟨b, off + j, none⟩ := by
        intro j; unfold Addr.add; split <;> simp_all
      have hc : ∀ i, i < len → ∃ t : α, R b (off + i * S) t := by
        intro i hi
        obtain ⟨cs', h1, h2⟩ := hx i (by omega)
        obtain ⟨_, hcl, hat⟩ := World.cells?_some h1
        refine hR n cs' _ b (off + i * S) h2 hcl (fun j hj => ?_) hb
        have k := hat j hj
        rw [Deep.add_add, e, ← Nat.add_assoc] at k
        exact k
      obtain ⟨V, hV⟩ := Deep.choose_lt (α := α) (p := fun i t => R b (off + i * S) t) hc
      refine ⟨(List.range len).map V, some ⟨b, off, none⟩, cap, by simp, .inr ⟨_, _, _, rfl⟩, by simpa using hl, hm, fun i hi => ?_⟩
      have hi' : i < len := by simpa using hi
      refine ⟨b, off, rfl, hb, ?_⟩
      simp only [List.getElem_map, List.getElem_range]
      exact hV i hi'

theorem cell_ent {H : Type} {enc : TypeId × Value → H} {W : World} {n : Nat} {cs : List Value} {x : DataW H × List MemPlace} (h : DataW.trod enc Tryz.prog W 0 (fun _ => true) true n 70 cs = some x) (hl : cs.length = 2) :
    ∃ t : Ent, cs = cellsE t ∧ (Lit.int .i64 t.1).wf = true ∧ (Lit.int .i64 t.2).wf = true := by
  obtain ⟨xs, m, _, _, _, hxl, hf⟩ := DataW.trod_struct Tryz.underlying70 h
  match cs, hl with
  | [c0, c1], _ =>
    match xs, hxl with
    | [x0, x1], _ =>
      have s3 : Tryz.prog.cellsOf 3 = 1 := by kernel_rfl
      have f0 : DataW.trod enc Tryz.prog W 0 (fun _ => true) true m 3 (([c0, c1].drop 0).take (Tryz.prog.cellsOf 3)) = some x0 := hf 0 _ rfl
      have f1 : DataW.trod enc Tryz.prog W 0 (fun _ => true) true m 3 (([c0, c1].drop 1).take (Tryz.prog.cellsOf 3)) = some x1 := hf 1 _ rfl
      rw [s3] at f0 f1
      obtain ⟨n0, e0, w0⟩ := DataW.trod_int Tryz.underlying3 f0
      obtain ⟨n1, e1, w1⟩ := DataW.trod_int Tryz.underlying3 f1
      have e0' : c0 = _ := (List.cons.inj e0).1
      have e1' : c1 = _ := (List.cons.inj e1).1
      subst e0' e1'
      exact ⟨(n0, n1), rfl, w0.2, w1.2⟩

theorem nil_cap {ad : Option Addr} {n cap : Nat} (h : NilOK (.slice ad n cap)) : ad = none → cap = 0 := by
  rintro rfl
  rcases h with h | ⟨_, _, _, h⟩
  · injection h
  · injection h with h; cases h


theorem open_sl {α : Type} {H : Type} {enc : TypeId × Value → H} {W : World} {fuel T E S : Nat} {c : Value} {x : DataW H × List MemPlace} (z : α) (hT : Tryz.prog.underlying T = some (.slice E)) (hS : Tryz.prog.cellsOf E = S) (h0 : 0 < S) (R : World → Nat → Nat → α → Prop)
    (hR : ∀ n cs y b off, DataW.trod enc Tryz.prog W 0 (fun _ => true) true n E cs = some y → cs.length = S → (∀ j, j < S → W.cell? ⟨b, off + j, none⟩ = cs[j]?) → b < W.heap.size → ∃ t, R W b off t)
    (h : DataW.trod enc Tryz.prog W 0 (fun _ => true) true fuel T [c] = some x) : ∃ ts : List α, SlD S R W c ts := by
  obtain ⟨ts, ad, cap, hc, h1, h2, h3, h4⟩ := open_gen z hT hS h0 (R W) hR h
  subst hc
  exact ⟨ts, ad, cap, rfl, ⟨h2, nil_cap h1⟩, by unfold maxLen at h3; omega, h4⟩

theorem c_int : Tryz.prog.cellsOf 3 = 1 := by kernel_rfl
theorem c_bool : Tryz.prog.cellsOf 4 = 1 := by kernel_rfl
theorem c_ints : Tryz.prog.cellsOf 22 = 1 := by kernel_rfl
theorem c_ops : Tryz.prog.cellsOf 55 = 1 := by kernel_rfl
theorem c_instrs : Tryz.prog.cellsOf 66 = 1 := by kernel_rfl
theorem c_code : Tryz.prog.cellsOf 23 = 1 := by kernel_rfl
theorem c_ents : Tryz.prog.cellsOf 51 = 1 := by kernel_rfl
theorem c_bufs : Tryz.prog.cellsOf 27 = 1 := by kernel_rfl
theorem c_regs : Tryz.prog.cellsOf 26 = 1 := by kernel_rfl

theorem open_ints {H : Type} {enc : TypeId × Value → H} {W : World} {fuel : Nat} {c : Value} {x : DataW H × List MemPlace} (h : DataW.trod enc Tryz.prog W 0 (fun _ => true) true fuel 22 [c] = some x) : ∃ l, IntsD W c l :=
  open_sl (0 : Int) Tryz.underlying22 c_int (by decide) IntAt (fun n cs y b off hy hl hc _ => by
    match cs, hl with
    | [c0], _ =>
      obtain ⟨n0, e0, _⟩ := DataW.trod_int Tryz.underlying3 hy
      have e0' : c0 = _ := (List.cons.inj e0).1
      subst e0'
      exact ⟨n0, hc 0 (by decide)⟩) h
theorem open_entsF {H : Type} {enc : TypeId × Value → H} {W : World} {fuel : Nat} {c : Value} {x : DataW H × List MemPlace} (h : DataW.trod enc Tryz.prog W 0 (fun _ => true) true fuel 51 [c] = some x) : ∃ l, EntsD W c l :=
  open_sl ((0, 0) : Ent) Tryz.underlying51 (by kernel_rfl) (by decide) EntAt (fun n cs y b off hy hl hc _ => by
    obtain ⟨t, rfl, _, _⟩ := cell_ent hy hl
    exact ⟨t, hc 0 (by decide), hc 1 (by decide)⟩) h
theorem open_bufs {H : Type} {enc : TypeId × Value → H} {W : World} {fuel : Nat} {c : Value} {x : DataW H × List MemPlace} (h : DataW.trod enc Tryz.prog W 0 (fun _ => true) true fuel 27 [c] = some x) : ∃ l, BufsD W c l :=
  open_sl (([], .nilFunc) : List Ent × Value) Tryz.underlying27 c_ents (by decide) BfAt (fun n cs y b off hy hl hc _ => by
    match cs, hl with
    | [c0], _ =>
      obtain ⟨l, hl⟩ := open_entsF hy
      exact ⟨(l, c0), hc 0 (by decide), hl⟩) h
theorem open_rows {H : Type} {enc : TypeId × Value → H} {W : World} {fuel : Nat} {c : Value} {x : DataW H × List MemPlace} (h : DataW.trod enc Tryz.prog W 0 (fun _ => true) true fuel 26 [c] = some x) : ∃ l, AllD W c l :=
  open_sl (([], .nilFunc) : List Int × Value) Tryz.underlying26 c_ints (by decide) RowAt (fun n cs y b off hy hl hc _ => by
    match cs, hl with
    | [c0], _ =>
      obtain ⟨l, hl⟩ := open_ints hy
      exact ⟨(l, c0), hc 0 (by decide), hl⟩) h
theorem cell_op {H : Type} {enc : TypeId × Value → H} {W : World} {n : Nat} {cs : List Value} {x : DataW H × List MemPlace} (h : DataW.trod enc Tryz.prog W 0 (fun _ => true) true n 86 cs = some x) (hl : cs.length = 3) :
    ∃ o : Opn, cs = o.cells := by
  obtain ⟨xs, m, _, _, _, hxl, hf⟩ := DataW.trod_struct Tryz.underlying86 h
  match cs, hl with
  | [c0, c1, c2], _ =>
    match xs, hxl with
    | [x0, x1, x2], _ =>
      have f0 : DataW.trod enc Tryz.prog W 0 (fun _ => true) true m 3 (([c0, c1, c2].drop 0).take (Tryz.prog.cellsOf 3)) = some x0 := hf 0 _ rfl
      rw [c_int] at f0
      have f1 : DataW.trod enc Tryz.prog W 0 (fun _ => true) true m 3 (([c0, c1, c2].drop 1).take (Tryz.prog.cellsOf 3)) = some x1 := hf 1 _ rfl
      rw [c_int] at f1
      have f2 : DataW.trod enc Tryz.prog W 0 (fun _ => true) true m 3 (([c0, c1, c2].drop 2).take (Tryz.prog.cellsOf 3)) = some x2 := hf 2 _ rfl
      rw [c_int] at f2
      obtain ⟨n0, e0, _⟩ := DataW.trod_int Tryz.underlying3 f0
      have e0' : c0 = _ := (List.cons.inj e0).1
      subst e0'
      obtain ⟨n1, e1, _⟩ := DataW.trod_int Tryz.underlying3 f1
      have e1' : c1 = _ := (List.cons.inj e1).1
      subst e1'
      obtain ⟨n2, e2, _⟩ := DataW.trod_int Tryz.underlying3 f2
      have e2' : c2 = _ := (List.cons.inj e2).1
      subst e2'
      exact ⟨⟨n0, n1, n2⟩, rfl⟩
theorem open_ops {H : Type} {enc : TypeId × Value → H} {W : World} {fuel : Nat} {c : Value} {x : DataW H × List MemPlace} (h : DataW.trod enc Tryz.prog W 0 (fun _ => true) true fuel 55 [c] = some x) : ∃ l, OpsD W c l :=
  open_sl (⟨0, 0, 0⟩ : Opn) Tryz.underlying55 (by kernel_rfl) (by decide) OpAt (fun n cs y b off hy hl hc _ => by
    obtain ⟨t, rfl⟩ := cell_op hy hl
    exact ⟨t, hc 0 (by decide), hc 1 (by decide), hc 2 (by decide)⟩) h
theorem cell_ins {H : Type} {enc : TypeId × Value → H} {W : World} {n : Nat} {cs : List Value} {x : DataW H × List MemPlace} (h : DataW.trod enc Tryz.prog W 0 (fun _ => true) true n 57 cs = some x) (hl : cs.length = 7) :
    ∃ t : II, cs = t.cells ∧ OpsD W t.ev t.x.e ∧ OpsD W t.fv t.x.f := by
  obtain ⟨xs, m, _, _, _, hxl, hf⟩ := DataW.trod_struct Tryz.underlying57 h
  match cs, hl with
  | [c0, c1, c2, c3, c4, c5, c6], _ =>
    match xs, hxl with
    | [x0, x1, x2, x3, x4, x5, x6], _ =>
      have f0 : DataW.trod enc Tryz.prog W 0 (fun _ => true) true m 3 (([c0, c1, c2, c3, c4, c5, c6].drop 0).take (Tryz.prog.cellsOf 3)) = some x0 := hf 0 _ rfl
      rw [c_int] at f0
      have f1 : DataW.trod enc Tryz.prog W 0 (fun _ => true) true m 3 (([c0, c1, c2, c3, c4, c5, c6].drop 1).take (Tryz.prog.cellsOf 3)) = some x1 := hf 1 _ rfl
      rw [c_int] at f1
      have f2 : DataW.trod enc Tryz.prog W 0 (fun _ => true) true m 3 (([c0, c1, c2, c3, c4, c5, c6].drop 2).take (Tryz.prog.cellsOf 3)) = some x2 := hf 2 _ rfl
      rw [c_int] at f2
      have f3 : DataW.trod enc Tryz.prog W 0 (fun _ => true) true m 55 (([c0, c1, c2, c3, c4, c5, c6].drop 3).take (Tryz.prog.cellsOf 55)) = some x3 := hf 3 _ rfl
      rw [c_ops] at f3
      have f4 : DataW.trod enc Tryz.prog W 0 (fun _ => true) true m 55 (([c0, c1, c2, c3, c4, c5, c6].drop 4).take (Tryz.prog.cellsOf 55)) = some x4 := hf 4 _ rfl
      rw [c_ops] at f4
      have f5 : DataW.trod enc Tryz.prog W 0 (fun _ => true) true m 4 (([c0, c1, c2, c3, c4, c5, c6].drop 5).take (Tryz.prog.cellsOf 4)) = some x5 := hf 5 _ rfl
      rw [c_bool] at f5
      have f6 : DataW.trod enc Tryz.prog W 0 (fun _ => true) true m 3 (([c0, c1, c2, c3, c4, c5, c6].drop 6).take (Tryz.prog.cellsOf 3)) = some x6 := hf 6 _ rfl
      rw [c_int] at f6
      obtain ⟨n0, e0, _⟩ := DataW.trod_int Tryz.underlying3 f0
      have e0' : c0 = _ := (List.cons.inj e0).1
      subst e0'
      obtain ⟨n1, e1, _⟩ := DataW.trod_int Tryz.underlying3 f1
      have e1' : c1 = _ := (List.cons.inj e1).1
      subst e1'
      obtain ⟨n2, e2, _⟩ := DataW.trod_int Tryz.underlying3 f2
      have e2' : c2 = _ := (List.cons.inj e2).1
      subst e2'
      obtain ⟨n3, h3⟩ := open_ops f3
      obtain ⟨n4, h4⟩ := open_ops f4
      obtain ⟨n5, e5, _⟩ := DataW.trod_bool Tryz.underlying4 f5
      have e5' : c5 = _ := (List.cons.inj e5).1
      subst e5'
      obtain ⟨n6, e6, _⟩ := DataW.trod_int Tryz.underlying3 f6
      have e6' : c6 = _ := (List.cons.inj e6).1
      subst e6'
      exact ⟨⟨⟨n0, n1, n2, n3, n4, n5, n6⟩, c3, c4⟩, rfl, h3, h4⟩
theorem open_ins {H : Type} {enc : TypeId × Value → H} {W : World} {fuel : Nat} {c : Value} {x : DataW H × List MemPlace} (h : DataW.trod enc Tryz.prog W 0 (fun _ => true) true fuel 66 [c] = some x) : ∃ l, InsD W c l :=
  open_sl (⟨⟨0, 0, 0, [], [], false, 0⟩, .nilFunc, .nilFunc⟩ : II) Tryz.underlying66 (by kernel_rfl) (by decide) IsAt (fun n cs y b off hy hl hc _ => by
    obtain ⟨t, rfl, he, hf⟩ := cell_ins hy hl
    exact ⟨t, hc 0 (by decide), hc 1 (by decide), hc 2 (by decide), hc 3 (by decide), hc 4 (by decide), hc 5 (by decide), hc 6 (by decide), he, hf⟩) h
theorem open_code {H : Type} {enc : TypeId × Value → H} {W : World} {fuel : Nat} {c : Value} {x : DataW H × List MemPlace} (h : DataW.trod enc Tryz.prog W 0 (fun _ => true) true fuel 23 [c] = some x) : ∃ l, CodD W c l :=
  open_sl (([], .nilFunc) : List II × Value) Tryz.underlying23 c_instrs (by decide) RwAt (fun n cs y b off hy hl hc _ => by
    match cs, hl with
    | [c0], _ =>
      obtain ⟨l, hl⟩ := open_ins hy
      exact ⟨(l, c0), hc 0 (by decide), hl⟩) h
theorem cell_unit {H : Type} {enc : TypeId × Value → H} {W : World} {n : Nat} {cs : List Value} {x : DataW H × List MemPlace} (h : DataW.trod enc Tryz.prog W 0 (fun _ => true) true n 25 cs = some x) (hl : cs.length = 4) :
    ∃ (u : Un) (vi vr vc : Value), cs = [.int .i64 u.mod, vi, vr, vc] ∧ UnD W vi vr vc u := by
  obtain ⟨xs, m, _, _, _, hxl, hf⟩ := DataW.trod_struct Tryz.underlying25 h
  match cs, hl with
  | [c0, c1, c2, c3], _ =>
    match xs, hxl with
    | [x0, x1, x2, x3], _ =>
      have f0 : DataW.trod enc Tryz.prog W 0 (fun _ => true) true m 3 (([c0, c1, c2, c3].drop 0).take (Tryz.prog.cellsOf 3)) = some x0 := hf 0 _ rfl
      rw [c_int] at f0
      have f1 : DataW.trod enc Tryz.prog W 0 (fun _ => true) true m 22 (([c0, c1, c2, c3].drop 1).take (Tryz.prog.cellsOf 22)) = some x1 := hf 1 _ rfl
      rw [c_ints] at f1
      have f2 : DataW.trod enc Tryz.prog W 0 (fun _ => true) true m 22 (([c0, c1, c2, c3].drop 2).take (Tryz.prog.cellsOf 22)) = some x2 := hf 2 _ rfl
      rw [c_ints] at f2
      have f3 : DataW.trod enc Tryz.prog W 0 (fun _ => true) true m 23 (([c0, c1, c2, c3].drop 3).take (Tryz.prog.cellsOf 23)) = some x3 := hf 3 _ rfl
      rw [c_code] at f3
      obtain ⟨n0, e0, _⟩ := DataW.trod_int Tryz.underlying3 f0
      have e0' : c0 = _ := (List.cons.inj e0).1
      subst e0'
      obtain ⟨n1, h1⟩ := open_ints f1
      obtain ⟨n2, h2⟩ := open_ints f2
      obtain ⟨n3, h3⟩ := open_code f3
      exact ⟨⟨n0, n1, n2, n3⟩, c1, c2, c3, rfl, h1, h2, h3⟩
theorem cell_conf {H : Type} {enc : TypeId × Value → H} {W : World} {n : Nat} {cs : List Value} {x : DataW H × List MemPlace} (h : DataW.trod enc Tryz.prog W 0 (fun _ => true) true n 29 cs = some x) (hl : cs.length = 4) :
    ∃ (c : Cf) (vp vr vm vb : Value), cs = [vp, vr, vm, vb] ∧ CfD W vp vr vm vb c := by
  obtain ⟨xs, m, _, _, _, hxl, hf⟩ := DataW.trod_struct Tryz.underlying29 h
  match cs, hl with
  | [c0, c1, c2, c3], _ =>
    match xs, hxl with
    | [x0, x1, x2, x3], _ =>
      have f0 : DataW.trod enc Tryz.prog W 0 (fun _ => true) true m 22 (([c0, c1, c2, c3].drop 0).take (Tryz.prog.cellsOf 22)) = some x0 := hf 0 _ rfl
      rw [c_ints] at f0
      have f1 : DataW.trod enc Tryz.prog W 0 (fun _ => true) true m 26 (([c0, c1, c2, c3].drop 1).take (Tryz.prog.cellsOf 26)) = some x1 := hf 1 _ rfl
      rw [c_regs] at f1
      have f2 : DataW.trod enc Tryz.prog W 0 (fun _ => true) true m 22 (([c0, c1, c2, c3].drop 2).take (Tryz.prog.cellsOf 22)) = some x2 := hf 2 _ rfl
      rw [c_ints] at f2
      have f3 : DataW.trod enc Tryz.prog W 0 (fun _ => true) true m 27 (([c0, c1, c2, c3].drop 3).take (Tryz.prog.cellsOf 27)) = some x3 := hf 3 _ rfl
      rw [c_bufs] at f3
      obtain ⟨n0, h0⟩ := open_ints f0
      obtain ⟨n1, h1⟩ := open_rows f1
      obtain ⟨n2, h2⟩ := open_ints f2
      obtain ⟨n3, h3⟩ := open_bufs f3
      exact ⟨⟨n0, n1, n2, n3⟩, c0, c1, c2, c3, rfl, h0, h1, h2, h3⟩
theorem open_unit {H : Type} {enc : TypeId × Value → H} {W : World} {base : Nat} {v : Value} {d : DataW H} {p : List MemPlace} (hv : Value.okWide Tryz.prog W .any base 25 v) (h : DataW.Trod enc Tryz.prog W 0 (fun _ => true) true 25 v d p) :
    ∃ (u : Un) (vi vr vc : Value), v = .agg #[.int .i64 u.mod, vi, vr, vc] ∧ UnD W vi vr vc u := by
  obtain ⟨cs, rfl, hsz⟩ := okWide_struct Tryz.underlying25 hv
  obtain ⟨fuel, hf⟩ := h
  have hs : Tryz.prog.cellsOf 25 = 4 := by kernel_rfl
  rw [hs] at hsz
  obtain ⟨l⟩ := cs
  have hl : l.length = 4 := hsz
  have hf : DataW.trod enc Tryz.prog W 0 (fun _ => true) true fuel 25 l = some (d, p) := hf
  obtain ⟨u, vi, vr, vc, rfl, hu⟩ := cell_unit hf hl
  exact ⟨u, vi, vr, vc, rfl, hu⟩
theorem open_conf {H : Type} {enc : TypeId × Value → H} {W : World} {base : Nat} {v : Value} {d : DataW H} {p : List MemPlace} (hv : Value.okWide Tryz.prog W .any base 29 v) (h : DataW.Trod enc Tryz.prog W 0 (fun _ => true) true 29 v d p) :
    ∃ (c : Cf) (vp vr vm vb : Value), v = .agg #[vp, vr, vm, vb] ∧ CfD W vp vr vm vb c := by
  obtain ⟨cs, rfl, hsz⟩ := okWide_struct Tryz.underlying29 hv
  obtain ⟨fuel, hf⟩ := h
  have hs : Tryz.prog.cellsOf 29 = 4 := by kernel_rfl
  rw [hs] at hsz
  obtain ⟨l⟩ := cs
  have hl : l.length = 4 := hsz
  have hf : DataW.trod enc Tryz.prog W 0 (fun _ => true) true fuel 29 l = some (d, p) := hf
  obtain ⟨c, vp, vr, vm, vb, rfl, hc⟩ := cell_conf hf hl
  exact ⟨c, vp, vr, vm, vb, rfl, hc⟩

end Go.Proofs.YtacbanfnakgecaaGreat

namespace Go.Proofs.YtacbanfnakgecaaGreat
open Go.ChangeShapes Go.WideShapes Go.ChangeAt Go.RowKit
set_option maxRecDepth 100000
set_option linter.unusedSimpArgs false
set_option linter.unusedVariables false

theorem c_unit : Tryz.prog.cellsOf 25 = 4 := by kernel_rfl
theorem c_conf : Tryz.prog.cellsOf 29 = 4 := by kernel_rfl
theorem open_case {H : Type} {enc : TypeId × Value → H} {W : World} {base : Nat} {v : Value} {d : DataW H} {p : List MemPlace} (hv : Value.okWide Tryz.prog W .any base 31 v) (h : DataW.Trod enc Tryz.prog W 0 (fun _ => true) true 31 v d p) :
    ∃ (u : Un) (c : Cf) (vi vr vc xp xr xm xb : Value) (model room t loc : Int), v = .agg #[.int .i64 u.mod, vi, vr, vc, xp, xr, xm, xb, .int .i64 model, .int .i64 room, .int .i64 t, .int .i64 loc] ∧ UnD W vi vr vc u ∧ CfD W xp xr xm xb c := by
  obtain ⟨cs, rfl, hsz⟩ := okWide_struct Tryz.underlying31 hv
  obtain ⟨fuel, hf⟩ := h
  have hs : Tryz.prog.cellsOf 31 = 12 := by kernel_rfl
  rw [hs] at hsz
  obtain ⟨l⟩ := cs
  have hl : l.length = 12 := hsz
  have hf : DataW.trod enc Tryz.prog W 0 (fun _ => true) true fuel 31 l = some (d, p) := hf
  obtain ⟨xs, m, _, _, _, hxl, hf⟩ := DataW.trod_struct Tryz.underlying31 hf
  match l, hl with
  | [c0, c1, c2, c3, c4, c5, c6, c7, c8, c9, c10, c11], _ =>
    match xs, hxl with
    | [x0, x1, x2, x3, x4, x5], _ =>
      have f0 : DataW.trod enc Tryz.prog W 0 (fun _ => true) true m 25 (([c0, c1, c2, c3, c4, c5, c6, c7, c8, c9, c10, c11].drop 0).take (Tryz.prog.cellsOf 25)) = some x0 := hf 0 _ rfl
      rw [c_unit] at f0
      have f1 : DataW.trod enc Tryz.prog W 0 (fun _ => true) true m 29 (([c0, c1, c2, c3, c4, c5, c6, c7, c8, c9, c10, c11].drop 4).take (Tryz.prog.cellsOf 29)) = some x1 := hf 1 _ rfl
      rw [c_conf] at f1
      have f2 : DataW.trod enc Tryz.prog W 0 (fun _ => true) true m 3 (([c0, c1, c2, c3, c4, c5, c6, c7, c8, c9, c10, c11].drop 8).take (Tryz.prog.cellsOf 3)) = some x2 := hf 2 _ rfl
      rw [c_int] at f2
      have f3 : DataW.trod enc Tryz.prog W 0 (fun _ => true) true m 3 (([c0, c1, c2, c3, c4, c5, c6, c7, c8, c9, c10, c11].drop 9).take (Tryz.prog.cellsOf 3)) = some x3 := hf 3 _ rfl
      rw [c_int] at f3
      have f4 : DataW.trod enc Tryz.prog W 0 (fun _ => true) true m 3 (([c0, c1, c2, c3, c4, c5, c6, c7, c8, c9, c10, c11].drop 10).take (Tryz.prog.cellsOf 3)) = some x4 := hf 4 _ rfl
      rw [c_int] at f4
      have f5 : DataW.trod enc Tryz.prog W 0 (fun _ => true) true m 3 (([c0, c1, c2, c3, c4, c5, c6, c7, c8, c9, c10, c11].drop 11).take (Tryz.prog.cellsOf 3)) = some x5 := hf 5 _ rfl
      rw [c_int] at f5
      have f0 : DataW.trod enc Tryz.prog W 0 (fun _ => true) true m 25 [c0, c1, c2, c3] = some x0 := f0
      have f1 : DataW.trod enc Tryz.prog W 0 (fun _ => true) true m 29 [c4, c5, c6, c7] = some x1 := f1
      obtain ⟨u, vi, vr, vc, hu, du⟩ := cell_unit f0 rfl
      obtain ⟨c, xp, xr, xm, xb, hc, dc⟩ := cell_conf f1 rfl
      obtain ⟨n2, e2, _⟩ := DataW.trod_int Tryz.underlying3 f2
      have e2' : c8 = _ := (List.cons.inj e2).1
      subst e2'
      obtain ⟨n3, e3, _⟩ := DataW.trod_int Tryz.underlying3 f3
      have e3' : c9 = _ := (List.cons.inj e3).1
      subst e3'
      obtain ⟨n4, e4, _⟩ := DataW.trod_int Tryz.underlying3 f4
      have e4' : c10 = _ := (List.cons.inj e4).1
      subst e4'
      obtain ⟨n5, e5, _⟩ := DataW.trod_int Tryz.underlying3 f5
      have e5' : c11 = _ := (List.cons.inj e5).1
      subst e5'
      injection hu with h1 hu
      injection hu with h2 hu
      injection hu with h3 hu
      injection hu with h4 hu
      injection hc with g1 hc
      injection hc with g2 hc
      injection hc with g3 hc
      injection hc with g4 hc
      subst h1 h2 h3 h4 g1 g2 g3 g4
      exact ⟨u, c, _, _, _, _, _, _, _, n2, n3, n4, n5, rfl, du, dc⟩

end Go.Proofs.YtacbanfnakgecaaGreat

namespace Go.Proofs.YtacbanfnakgecaaGreat
set_option linter.unusedSimpArgs false
set_option linter.unusedVariables false
open Go.RowKit

theorem rightL_more {l : List Ent} {model room mod locs : Int} (h : rightL l model room mod locs = true) : rightL l model 4 mod locs = true := by
  rw [rightL_iff] at h ⊢
  obtain ⟨⟨h1, h2, h3, h4⟩, h5, h6⟩ := h
  refine ⟨⟨by omega, by omega, h3, h4⟩, h5, ?_⟩
  rcases h6 with h6 | h6 | ⟨h6, h7, h8⟩
  · exact .inl h6
  · exact .inr (.inl ⟨h6.1, by omega⟩)
  · exact .inr (.inr ⟨h6, h7, fun k => by have := h8 k; omega⟩)
theorem rightP_more {u : Un} {p : Pf} {model room : Int} (h : RightP u p model room) : RightP u p model 4 := by
  refine { h with t := fun k hk => ?_, e := rightL_more h.e }
  have := h.t k hk
  unfold thB at this ⊢
  rw [Bool.and_eq_true, Bool.and_eq_true] at this ⊢
  exact ⟨this.1, this.2.1, rightL_more this.2.2⟩
theorem en_more {u : Un} {p : Pf} {model room t : Int} (h : RightP u p model room) (he : enT u p model room t = true) : enT u p model 4 t = true := by
  have h4 : room ≤ 4 := ((rightL_iff _ _ _ _ _).1 h.e).1.2.1
  unfold enT at he ⊢
  rw [Bool.and_eq_true] at he ⊢
  refine ⟨he.1, ?_⟩
  have he := he.2
  unfold enP enO at he ⊢
  generalize insAt u t.toNat (p.pc.getD t.toNat 0) = x at he ⊢
  by_cases h0 : x.op = 22
  · rw [if_pos h0] at he; cases he
  · rw [if_neg h0] at he ⊢
    by_cases h1 : x.op = 4
    · rw [if_pos h1] at he ⊢
      rw [Bool.or_eq_true] at he ⊢
      refine he.imp id fun hr => ?_
      unfold roomL at hr ⊢
      split at hr
      · next hm => rw [if_pos hm]; simp only [decide_eq_true_eq] at hr ⊢; omega
      · next hm =>
        rw [if_neg hm]
        split at hr
        · next hm => rw [if_pos hm]; simp only [decide_eq_true_eq] at hr ⊢; omega
        · cases hr
    · rw [if_neg h1] at he ⊢; exact he
theorem sc_empty {u : Un} {p : Pf} {room : Int} (h : RightP u p 1 room) : ∀ r ∈ p.buf, r = [] := by
  intro r hr
  obtain ⟨k, hk, rfl⟩ := List.mem_iff_getElem.1 hr
  have ht := h.t k (by rw [← h.lb]; exact hk)
  unfold thB at ht
  rw [Bool.and_eq_true, Bool.and_eq_true, rightL_iff] at ht
  obtain ⟨_, _, _, _, h6⟩ := ht
  rw [List.getD_eq_getElem?_getD, List.getElem?_eq_getElem hk] at h6
  rcases h6 with h6 | h6 | h6
  · exact h6.2
  · omega
  · omega
theorem act_buf_sc (u : Un) (p : Pf) (room t : Int) : (actT u p 1 room t).buf = p.buf := by
  unfold actT
  split
  · unfold actP actO bufO
    simp
  · rfl
theorem pop_nil (model loc : Int) : (popL [] model loc).2.2 = false := by
  cases hq : (popL [] model loc).2.2 with
  | false => rfl
  | true => exact absurd (pop_mem _ _ _ hq) (by simp)
theorem popC_sc {c : Cf} (h : ∀ r ∈ c.pf.buf, r = []) (t loc : Int) : (popC c 1 t loc).2.2 = false := by
  rw [popC_pf]
  unfold popP
  split
  · next hb =>
    have hk : t.toNat < c.pf.buf.length := by omega
    rw [List.getD_eq_getElem?_getD, List.getElem?_eq_getElem hk, Option.getD_some, h _ (List.getElem_mem hk)]
    exact pop_nil 1 loc
  · rfl
theorem quiet_sc {c : Cf} (h : ∀ r ∈ c.pf.buf, r = []) : quietC c = true := by
  unfold quietC
  rw [List.all_eq_true]
  intro x hx
  have := h x.1 (by unfold Cf.pf; exact List.mem_map_of_mem hx)
  rw [this]; rfl

end Go.Proofs.YtacbanfnakgecaaGreat
