/- Layer 10's law: right; what a light unit's instructions are. -/
import Derived.Test.YtdnjojjbdieacaaZc
import Derived.Test.YtdnjojjbdieacaaUx
import Derived.Test.YtdnjojjbdieacaaUm
import Derived.Test.YtdnjojjbdieacaaUo
namespace Go.Proofs.Ytdnjojjbdieacaa
set_option linter.unusedSimpArgs false
set_option linter.unusedVariables false
open Go.RowKit

theorem lightU_short {u : Un} (h : lightU u = true) : ShortU u := by
  unfold lightU at h
  simp only [Bool.and_eq_true, decide_eq_true_eq, List.all_eq_true] at h
  obtain ⟨h1, h2, h3, h4⟩ := h
  refine ⟨by omega, by omega, fun r hr => ?_⟩
  have h5 := h4 r hr
  unfold lightR at h5
  simp only [Bool.and_eq_true, decide_eq_true_eq, List.all_eq_true] at h5
  refine ⟨by omega, fun t ht => ?_⟩
  have h6 := h5.2 t ht
  unfold lightI at h6
  simp only [Bool.and_eq_true, decide_eq_true_eq] at h6
  omega
theorem lightC_short {c : Cf} (h : lightC c = true) : ShortC c := by
  unfold lightC at h
  simp only [Bool.and_eq_true, decide_eq_true_eq, List.all_eq_true] at h
  obtain ⟨⟨h1, h2, h3, h4⟩, h5, h6⟩ := h
  exact ⟨by omega, by omega, by omega, by omega, fun x hx => by have := h5 x hx; omega, fun x hx => by have := h6 x hx; omega⟩
theorem lightU_code {u : Un} (h : lightU u = true) : u.code.length ≤ 100000 := by
  unfold lightU at h
  simp only [Bool.and_eq_true, decide_eq_true_eq] at h
  omega
theorem usL {u : Un} (h : lightU u = true) : ∀ k pc, (iiAt u k pc).x.e.length ≤ 100000 ∧ (iiAt u k pc).x.f.length ≤ 100000 := by
  intro k pc
  have key : ∀ (l : List II) (i : Nat), (∀ t ∈ l, t.x.e.length ≤ 100000 ∧ t.x.f.length ≤ 100000) → ((l.getD i noII).x.e.length ≤ 100000 ∧ (l.getD i noII).x.f.length ≤ 100000) := by
    intro l i hl
    rw [List.getD_eq_getElem?_getD]
    cases hg : l[i]? with
    | none => exact ⟨by simp [noII], by simp [noII]⟩
    | some t => exact hl t (List.mem_of_getElem? hg)
  have hs := (lightU_short h).2.2
  unfold iiAt
  refine key _ _ fun t ht => ?_
  rw [List.getD_eq_getElem?_getD] at ht
  cases hg : u.code[k]? with
  | none => rw [hg] at ht; simp at ht
  | some r =>
    rw [hg] at ht
    exact (hs r (List.mem_of_getElem? hg)).2 t ht

set_option maxRecDepth 100000 in
set_option maxHeartbeats 4000000 in
theorem right10_any (u : Un) (c : Cf) (model room t loc : Int) (vi vr vc xp xr xm xb : Value) (w : World) (hu : UnD w vi vr vc u) (hc : CfD w xp xr xm xb c) (q : Bool) (hq : (lightU u && (lightC c && rightC u c model room)) = q) :
    Calls Try.prog 6 #[.agg #[.int .i64 u.mod, vi, vr, vc, xp, xr, xm, xb, .int .i64 model, .int .i64 room, .int .i64 t, .int .i64 loc]] w fun e w' => e = .returned (.bool q) ∧ Below w.heap.size w w' := by
  have HU := Lib.hid hu
  have HC := Lib.hid hc
  obtain ⟨ai, ci, rfl⟩ := hu.i.shape0
  obtain ⟨ar, cr, rfl⟩ := hu.r.shape0
  obtain ⟨ac, cc, rfl⟩ := hu.c.shape0
  obtain ⟨ap, cp, rfl⟩ := hc.p.shape0
  obtain ⟨aq, cq, rfl⟩ := hc.r.shape0
  obtain ⟨am, cm, rfl⟩ := hc.m.shape0
  obtain ⟨ab, cb, rfl⟩ := hc.b.shape0
  have HL := Lib.hid (fun (W : World) (h : Below w.heap.size w W) => ulight_any u _ _ _ W (HU.out.below h) _ rfl)
  have HLC := Lib.hid (fun (W : World) (h : Below w.heap.size w W) => clight_any c _ _ _ _ W (HC.out.below h) _ rfl)
  have HR := Lib.hid (fun (hl : lightU u = true) (hk : lightC c = true) (W : World) (h : Below w.heap.size w W) => rcright_any u c model room _ _ _ _ _ _ _ W (HU.out.below h) (HC.out.below h) (lightU_short hl) (lightC_short hk) _ rfl)
  have HQL := Lib.hid (rfl : lightU u = lightU u)
  generalize u.init.length = ni at HL HR ⊢
  generalize u.regs.length = nr at HL HR ⊢
  generalize u.code.length = nc at HL HR ⊢
  generalize c.pc.length = np at HLC HR ⊢
  generalize c.regs.length = nq at HLC HR ⊢
  generalize c.mem.length = nm at HLC HR ⊢
  generalize c.buf.length = nb at HLC HR ⊢
  generalize u.mod = md at HL HR ⊢
  obtain ⟨q1, h1⟩ : ∃ q, lightU u = q := ⟨_, rfl⟩
  obtain ⟨q2, h2⟩ : ∃ q, lightC c = q := ⟨_, rfl⟩
  obtain ⟨q3, h3⟩ : ∃ q, rightC u c model room = q := ⟨_, rfl⟩
  rw [h1, h2, h3] at hq
  rw [h1] at HL
  rw [h2] at HLC
  rw [h3] at HR
  replace h1 := Lib.hid h1
  replace h2 := Lib.hid h2
  subst hq
  clear hu hc HU HC HQL h3
  have K := Lib.hid (Bk.new w 31 #[.int .i64 md, .slice ai ni ci, .slice ar nr cr, .slice ac nc cc, .slice ap np cp, .slice aq nq cq, .slice am nm cm, .slice ab nb cb, .int .i64 model, .int .i64 room, .int .i64 t, .int .i64 loc])
  have B : Hid (Below w.heap.size w (World.alloc w (.cells #[.int .i64 md, .slice ai ni ci, .slice ar nr cr, .slice ac nc cc, .slice ap np cp, .slice aq nq cq, .slice am nm cm, .slice ab nb cb, .int .i64 model, .int .i64 room, .int .i64 t, .int .i64 loc] 31))) := Lib.hid (bal (Below.refl _ _) _)
  go_enter Try.func6, Try.ntmps6
  go_wp2_with fail
  generalize World.alloc w (.cells #[.int .i64 md, .slice ai ni ci, .slice ar nr cr, .slice ac nc cc, .slice ap np cp, .slice aq nq cq, .slice am nm cm, .slice ab nb cb, .int .i64 model, .int .i64 room, .int .i64 t, .int .i64 loc] 31) = w1 at K B ⊢
  obtain ⟨c0, c1, c2, c3, c4, c5, c6, c7, c8, c9, c10, c11, cl⟩ : w1.cell? ⟨w.heap.size, 0, none⟩ = some (.int .i64 md) ∧ w1.cell? ⟨w.heap.size, 1, none⟩ = some (.slice ai ni ci) ∧ w1.cell? ⟨w.heap.size, 2, none⟩ = some (.slice ar nr cr) ∧ w1.cell? ⟨w.heap.size, 3, none⟩ = some (.slice ac nc cc) ∧ w1.cell? ⟨w.heap.size, 4, none⟩ = some (.slice ap np cp) ∧ w1.cell? ⟨w.heap.size, 5, none⟩ = some (.slice aq nq cq) ∧ w1.cell? ⟨w.heap.size, 6, none⟩ = some (.slice am nm cm) ∧ w1.cell? ⟨w.heap.size, 7, none⟩ = some (.slice ab nb cb) ∧ w1.cell? ⟨w.heap.size, 8, none⟩ = some (.int .i64 model) ∧ w1.cell? ⟨w.heap.size, 9, none⟩ = some (.int .i64 room) ∧ w1.cell? ⟨w.heap.size, 10, none⟩ = some (.int .i64 t) ∧ w1.cell? ⟨w.heap.size, 11, none⟩ = some (.int .i64 loc) ∧ w.heap.size < w1.heap.size := ⟨K.out.cell 0, K.out.cell 1, K.out.cell 2, K.out.cell 3, K.out.cell 4, K.out.cell 5, K.out.cell 6, K.out.cell 7, K.out.cell 8, K.out.cell 9, K.out.cell 10, K.out.cell 11, K.out.lt⟩
  go_wp2_with fail
  clear c0 c1 c2 c3 c4 c5 c6 c7 c8 c9 c10 c11 cl
  refine (HL.out w1 B.out).mono ?_
  rintro e w2 ⟨rfl, b⟩
  replace K := Lib.hid (K.out.below b)
  replace B := Lib.hid (B.out.trans (b.mono B.out.size))
  clear b
  obtain ⟨c0, c1, c2, c3, c4, c5, c6, c7, c8, c9, c10, c11, cl⟩ : w2.cell? ⟨w.heap.size, 0, none⟩ = some (.int .i64 md) ∧ w2.cell? ⟨w.heap.size, 1, none⟩ = some (.slice ai ni ci) ∧ w2.cell? ⟨w.heap.size, 2, none⟩ = some (.slice ar nr cr) ∧ w2.cell? ⟨w.heap.size, 3, none⟩ = some (.slice ac nc cc) ∧ w2.cell? ⟨w.heap.size, 4, none⟩ = some (.slice ap np cp) ∧ w2.cell? ⟨w.heap.size, 5, none⟩ = some (.slice aq nq cq) ∧ w2.cell? ⟨w.heap.size, 6, none⟩ = some (.slice am nm cm) ∧ w2.cell? ⟨w.heap.size, 7, none⟩ = some (.slice ab nb cb) ∧ w2.cell? ⟨w.heap.size, 8, none⟩ = some (.int .i64 model) ∧ w2.cell? ⟨w.heap.size, 9, none⟩ = some (.int .i64 room) ∧ w2.cell? ⟨w.heap.size, 10, none⟩ = some (.int .i64 t) ∧ w2.cell? ⟨w.heap.size, 11, none⟩ = some (.int .i64 loc) ∧ w.heap.size < w2.heap.size := ⟨K.out.cell 0, K.out.cell 1, K.out.cell 2, K.out.cell 3, K.out.cell 4, K.out.cell 5, K.out.cell 6, K.out.cell 7, K.out.cell 8, K.out.cell 9, K.out.cell 10, K.out.cell 11, K.out.lt⟩
  cases q1 with
  | false => go_wp2_with fail; refine bodyPost_ret (v := .bool _) (by simp [results, Try.results6, go_sem]) rfl ⟨rfl, B.out⟩
  | true =>
    go_wp2_with fail
    clear c0 c1 c2 c3 c4 c5 c6 c7 c8 c9 c10 c11 cl
    refine (HLC.out w2 B.out).mono ?_
    rintro e w3 ⟨rfl, b⟩
    replace K := Lib.hid (K.out.below b)
    replace B := Lib.hid (B.out.trans (b.mono B.out.size))
    clear b
    obtain ⟨c0, c1, c2, c3, c4, c5, c6, c7, c8, c9, c10, c11, cl⟩ : w3.cell? ⟨w.heap.size, 0, none⟩ = some (.int .i64 md) ∧ w3.cell? ⟨w.heap.size, 1, none⟩ = some (.slice ai ni ci) ∧ w3.cell? ⟨w.heap.size, 2, none⟩ = some (.slice ar nr cr) ∧ w3.cell? ⟨w.heap.size, 3, none⟩ = some (.slice ac nc cc) ∧ w3.cell? ⟨w.heap.size, 4, none⟩ = some (.slice ap np cp) ∧ w3.cell? ⟨w.heap.size, 5, none⟩ = some (.slice aq nq cq) ∧ w3.cell? ⟨w.heap.size, 6, none⟩ = some (.slice am nm cm) ∧ w3.cell? ⟨w.heap.size, 7, none⟩ = some (.slice ab nb cb) ∧ w3.cell? ⟨w.heap.size, 8, none⟩ = some (.int .i64 model) ∧ w3.cell? ⟨w.heap.size, 9, none⟩ = some (.int .i64 room) ∧ w3.cell? ⟨w.heap.size, 10, none⟩ = some (.int .i64 t) ∧ w3.cell? ⟨w.heap.size, 11, none⟩ = some (.int .i64 loc) ∧ w.heap.size < w3.heap.size := ⟨K.out.cell 0, K.out.cell 1, K.out.cell 2, K.out.cell 3, K.out.cell 4, K.out.cell 5, K.out.cell 6, K.out.cell 7, K.out.cell 8, K.out.cell 9, K.out.cell 10, K.out.cell 11, K.out.lt⟩
    cases q2 with
    | false => go_wp2_with fail; refine bodyPost_ret (v := .bool _) (by simp [results, Try.results6, go_sem]) rfl ⟨rfl, B.out⟩
    | true =>
      go_wp2_with fail
      clear c0 c1 c2 c3 c4 c5 c6 c7 c8 c9 c10 c11 cl
      refine (HR.out h1.out h2.out w3 B.out).mono ?_
      rintro e w4 ⟨rfl, b⟩
      replace K := Lib.hid (K.out.below b)
      replace B := Lib.hid (B.out.trans (b.mono B.out.size))
      clear b
      go_wp2_with fail
      cases q3 <;> refine bodyPost_ret (v := .bool _) (by simp [results, Try.results6, go_sem]) rfl ⟨rfl, B.out⟩

end Go.Proofs.Ytdnjojjbdieacaa
