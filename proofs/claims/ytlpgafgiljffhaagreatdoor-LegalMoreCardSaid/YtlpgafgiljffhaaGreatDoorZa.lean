/- Slices of statements; fits and cut. cut: a statement's body, its else part, and what follows. complete and height. height, Depth, Tops. name, value: a statement's fields. -/
import Derived.Test.YtlpgafgiljffhaaGreatDoorVm
namespace Go.Proofs.YtlpgafgiljffhaaGreatDoor
open Go.RowKit
def StAt (w : World) (b off : Nat) (t : SI) : Prop :=
  w.cell? ⟨b, off, none⟩ = some (.int .i64 t.1.kind) ∧ w.cell? ⟨b, off + 1, none⟩ = some (.string t.1.reg) ∧ w.cell? ⟨b, off + 2, none⟩ = some (.string t.1.loc) ∧ w.cell? ⟨b, off + 3, none⟩ = some t.2.1 ∧ w.cell? ⟨b, off + 4, none⟩ = some t.2.2 ∧
  w.cell? ⟨b, off + 5, none⟩ = some (.bool t.1.ne) ∧ w.cell? ⟨b, off + 6, none⟩ = some (.int .i64 t.1.body) ∧ w.cell? ⟨b, off + 7, none⟩ = some (.int .i64 t.1.els) ∧ w.cell? ⟨b, off + 8, none⟩ = some (.int .i64 t.1.pl)
def StsD (w : World) (v : Value) (ts : List SI) : Prop :=
  ∃ ad cap, v = .slice ad ts.length cap ∧ ts.length ≤ cap ∧ cap ≤ 9223372036854775807 ∧ ∀ i, (hi : i < ts.length) → ∃ b off, ad = some ⟨b, off, none⟩ ∧ b < w.heap.size ∧ StAt w b (off + i * 9) ts[i] ∧ NdsC w ts[i].2.1 ts[i].1.e ∧ NdsC w ts[i].2.2 ts[i].1.f
theorem StAt.below {w w' : World} {b off : Nat} {t : SI} (h : StAt w b off t) (hb : Below w.heap.size w w') (hl : b < w.heap.size) : StAt w' b off t := by
  obtain ⟨h0, h1, h2, h3, h4, h5, h6, h7, h8⟩ := h
  exact ⟨(hb.cell (p := ⟨b, _, none⟩) hl).trans h0, (hb.cell (p := ⟨b, _, none⟩) hl).trans h1, (hb.cell (p := ⟨b, _, none⟩) hl).trans h2, (hb.cell (p := ⟨b, _, none⟩) hl).trans h3, (hb.cell (p := ⟨b, _, none⟩) hl).trans h4, (hb.cell (p := ⟨b, _, none⟩) hl).trans h5, (hb.cell (p := ⟨b, _, none⟩) hl).trans h6, (hb.cell (p := ⟨b, _, none⟩) hl).trans h7, (hb.cell (p := ⟨b, _, none⟩) hl).trans h8⟩
theorem StsD.below {w w' : World} {v : Value} {ts : List SI} (h : StsD w v ts) (hb : Below w.heap.size w w') : StsD w' v ts := by
  obtain ⟨ad, cap, hv, h1, h2, hc⟩ := h
  refine ⟨ad, cap, hv, h1, h2, fun i hi => ?_⟩
  obtain ⟨b, off, ha, hl, g1, g2, g3⟩ := hc i hi
  exact ⟨b, off, ha, Nat.lt_of_lt_of_le hl hb.size, g1.below hb hl, g2.below hb, g3.below hb⟩
theorem StsD.head {w : World} {v : Value} {t : SI} {r : List SI} (h : StsD w v (t :: r)) : ∃ b off cap, v = .slice (some ⟨b, off, none⟩) (r.length + 1) cap ∧ r.length + 1 ≤ cap ∧ cap ≤ 9223372036854775807 ∧ b < w.heap.size ∧ StAt w b off t ∧ NdsC w t.2.1 t.1.e ∧ NdsC w t.2.2 t.1.f := by
  obtain ⟨ad, cap, hv, h1, h2, hc⟩ := h
  obtain ⟨b, off, rfl, hl, g1, g2, g3⟩ := hc 0 (by simp)
  exact ⟨b, off, cap, hv, h1, h2, hl, by simpa using g1, g2, g3⟩
def fitB (x : St) (n : Nat) : Bool := decide (0 ≤ x.body) && (decide (x.body ≤ n) && (decide (0 ≤ x.els) && decide (x.els ≤ (n : Int) - x.body)))
set_option maxRecDepth 100000 in
set_option maxHeartbeats 2000000 in
theorem fits_any (t : SI) (r : List SI) (v : Value) (w : World) (h : StsD w v (t :: r)) (hn : r.length ≤ 100000) : Calls Tryz.prog 117 #[v] w fun e w' => e = .returned (.bool (fitB t.1 r.length)) ∧ Below w.heap.size w w' := by
  obtain ⟨b, off, cap, rfl, _, _, hl, ⟨h0, h1, h2, h3, h4, h5, h6, h7, h8⟩, hE, hF⟩ := h.head
  clear h
  obtain ⟨a1, p1, e1, _⟩ := hE
  obtain ⟨a2, p2, e2, _⟩ := hF
  rw [e1] at h3
  rw [e2] at h4
  obtain ⟨⟨tk, tr, tl, te, tf, tn, tb, tq, tp⟩, v1, v2⟩ := t
  simp only [] at h0 h1 h2 h3 h4 h5 h6 h7 h8 e1 e2 ⊢
  unfold fitB
  simp only []
  obtain ⟨n, hN⟩ : ∃ n, n = r.length := ⟨_, rfl⟩
  rw [← hN] at hn ⊢
  clear hN e1 e2
  have m0 : IntKind.i64.wrap (((n + 1 : Nat) : Int) - 1) = (n : Int) := by rw [show (((n + 1 : Nat) : Int) - 1) = (n : Int) by omega]; exact IntWalk.i64_in _ (by omega)
  by_cases q1 : 0 ≤ tb
  · by_cases q2 : tb ≤ (n : Int)
    · by_cases q3 : 0 ≤ tq
      · have m1 : IntKind.i64.wrap ((n : Int) - tb) = (n : Int) - tb := IntWalk.i64_in _ (by omega)
        have d1 : decide (0 ≤ tb) = true := by simp; omega
        have d2 : decide (tb ≤ (n : Int)) = true := by simp; omega
        have d3 : decide (0 ≤ tq) = true := by simp; omega
        rw [d1, d2, d3, Bool.true_and, Bool.true_and, Bool.true_and]
        go_enter Tryz.func117, Tryz.ntmps117
        go_wp2
        go_ret
        exact ⟨rfl, (Below.refl _ _).alloc (Nat.le_refl _) _⟩
      · have d1 : decide (0 ≤ tb) = true := by simp; omega
        have d2 : decide (tb ≤ (n : Int)) = true := by simp; omega
        have d3 : decide (0 ≤ tq) = false := by simp; omega
        rw [d1, d2, d3, Bool.true_and, Bool.true_and, Bool.false_and]
        go_enter Tryz.func117, Tryz.ntmps117
        go_wp2
        go_ret
        exact ⟨rfl, (Below.refl _ _).alloc (Nat.le_refl _) _⟩
    · have d1 : decide (0 ≤ tb) = true := by simp; omega
      have d2 : decide (tb ≤ (n : Int)) = false := by simp; omega
      rw [d1, d2, Bool.true_and, Bool.false_and]
      go_enter Tryz.func117, Tryz.ntmps117
      go_wp2
      go_ret
      exact ⟨rfl, (Below.refl _ _).alloc (Nat.le_refl _) _⟩
  · have d1 : decide (0 ≤ tb) = false := by simp; omega
    rw [d1, Bool.false_and]
    go_enter Tryz.func117, Tryz.ntmps117
    go_wp2
    go_ret
    exact ⟨rfl, (Below.refl _ _).alloc (Nat.le_refl _) _⟩
end Go.Proofs.YtlpgafgiljffhaaGreatDoor

namespace Go.Proofs.YtlpgafgiljffhaaGreatDoor
open Go.RowKit
theorem u25 : Tryz.prog.underlying 41 = some (.slice 61) := by kernel_rfl
theorem sl_from (a : Option Addr) (n cap k : Nat) (h : k ≤ n) (w : World) : (Instr.slice 41 (.slice a n cap) (some (.int .i64 k)) none none).run Tryz.prog w = .ok (.slice (if cap = k then a else a.map (·.add (k * 9))) (n - k) (cap - k)) w := by
  have hk : (0 : Int) ≤ (k : Int) ∧ (k : Int) ≤ (n : Int) := ⟨Int.natCast_nonneg _, by omega⟩
  simp [Instr.slice, run_underlying u25, Instr.sliceBounds, Instr.sliceBound, asIntOf, Result.andThen, h, hk]
theorem sl_to (a : Option Addr) (n cap k : Nat) (h : k ≤ cap) (w : World) : (Instr.slice 41 (.slice a n cap) none (some (.int .i64 k)) none).run Tryz.prog w = .ok (.slice a k cap) w := by
  have e : ∀ x : Addr, x.add 0 = x := fun x => rfl
  have ha : (if cap = 0 then a else a.map fun x => x.add 0) = a := by
    split
    · rfl
    · cases a <;> rfl
  simp [Instr.slice, run_underlying u25, Instr.sliceBounds, Instr.sliceBound, asIntOf, Result.andThen, h, ha]
theorem StsD.from {w : World} {a : Option Addr} {n cap : Nat} {ts : List SI} (h : StsD w (.slice a n cap) ts) (k : Nat) (hk : k ≤ ts.length) : StsD w (.slice (if cap = k then a else a.map (·.add (k * 9))) (n - k) (cap - k)) (ts.drop k) := by
  obtain ⟨ad, cap', hv, h1, h2, hc⟩ := h
  injection hv with e1 e2 e3
  subst e1 e2 e3
  refine ⟨_, _, by rw [List.length_drop], by rw [List.length_drop]; omega, by omega, fun i hi => ?_⟩
  rw [List.length_drop] at hi
  obtain ⟨b, off, ha, hl, g1, g2, g3⟩ := hc (k + i) (by omega)
  have hne : ¬ cap = k := by omega
  refine ⟨b, off + k * 9, by rw [if_neg hne, ha]; simp [Addr.add], hl, ?_, ?_, ?_⟩
  · have e : (ts.drop k)[i]'(by rw [List.length_drop]; omega) = ts[k + i]'(by omega) := List.getElem_drop
    rw [e, show off + k * 9 + i * 9 = off + (k + i) * 9 by omega]
    exact g1
  · have e : (ts.drop k)[i]'(by rw [List.length_drop]; omega) = ts[k + i]'(by omega) := List.getElem_drop
    rw [e]; exact g2
  · have e : (ts.drop k)[i]'(by rw [List.length_drop]; omega) = ts[k + i]'(by omega) := List.getElem_drop
    rw [e]; exact g3
theorem StsD.upto {w : World} {a : Option Addr} {n cap : Nat} {ts : List SI} (h : StsD w (.slice a n cap) ts) (k : Nat) (hk : k ≤ ts.length) : StsD w (.slice a k cap) (ts.take k) := by
  obtain ⟨ad, cap', hv, h1, h2, hc⟩ := h
  injection hv with e1 e2 e3
  subst e1 e2 e3
  have hl : (ts.take k).length = k := by rw [List.length_take]; omega
  refine ⟨_, _, by rw [hl], by rw [hl]; omega, h2, fun i hi => ?_⟩
  rw [hl] at hi
  obtain ⟨b, off, ha, hlt, g1, g2, g3⟩ := hc i (by omega)
  have e : (ts.take k)[i]'(by rw [hl]; exact hi) = ts[i]'(by omega) := List.getElem_take
  exact ⟨b, off, ha, hlt, by rw [e]; exact g1, by rw [e]; exact g2, by rw [e]; exact g3⟩
set_option maxRecDepth 100000 in
set_option maxHeartbeats 4000000 in
theorem cut_any (t : SI) (bs os rs : List SI) (v : Value) (w : World) (h : StsD w v (t :: (bs ++ (os ++ rs)))) (hb : t.1.body = (bs.length : Nat)) (ho : t.1.els = (os.length : Nat)) :
    Calls Tryz.prog 118 #[v] w fun e w' => ∃ v1 v2 v3, e = .returned (.tuple #[v1, v2, v3]) ∧ StsD w' v1 bs ∧ StsD w' v2 os ∧ StsD w' v3 rs ∧ Below w.heap.size w w' := by
  have HH := Lib.hid h
  obtain ⟨b, off, cap, rfl, hcap, hmax, hl, ⟨h0, h1, h2, h3, h4, h5, h6, h7, h8⟩, hE, hF⟩ := h.head
  clear h
  obtain ⟨A1, hA1⟩ : ∃ A, A = (if cap = 1 then some (⟨b, off, none⟩ : Addr) else (some (⟨b, off, none⟩ : Addr)).map (·.add (1 * 9))) := ⟨_, rfl⟩
  have hR := HH.out.from 1 (by simp)
  rw [← hA1] at hR
  simp only [List.drop_succ_cons, List.drop_zero] at hR
  obtain ⟨n, hN⟩ : ∃ n, n = (bs ++ (os ++ rs)).length := ⟨_, rfl⟩
  have hnl : n = bs.length + (os.length + rs.length) := by rw [hN]; simp
  rw [← hN] at hcap hR
  rw [show n + 1 - 1 = n by omega] at hR
  obtain ⟨c1, hc1⟩ : ∃ c, c = cap - 1 := ⟨_, rfl⟩
  rw [← hc1] at hR
  have hS1 : ∀ w, (Instr.slice 41 (.slice (some ⟨b, off, none⟩) (n + 1) cap) (some (.int .i64 1)) none none).run Tryz.prog w = .ok (.slice A1 n c1) w := fun w => by
    have := sl_from (some ⟨b, off, none⟩) (n + 1) cap 1 (by omega) w
    rw [← hA1, ← hc1, show n + 1 - 1 = n by omega] at this
    exact this
  obtain ⟨nb, hnb⟩ : ∃ nb, nb = bs.length := ⟨_, rfl⟩
  obtain ⟨no, hno⟩ : ∃ no, no = os.length := ⟨_, rfl⟩
  obtain ⟨A2, hA2⟩ : ∃ A, A = (if c1 = nb then A1 else A1.map (·.add (nb * 9))) := ⟨_, rfl⟩
  obtain ⟨c2, hc2⟩ : ∃ c, c = c1 - nb := ⟨_, rfl⟩
  obtain ⟨n2, hn2⟩ : ∃ c, c = n - nb := ⟨_, rfl⟩
  obtain ⟨A3, hA3⟩ : ∃ A, A = (if c2 = no then A2 else A2.map (·.add (no * 9))) := ⟨_, rfl⟩
  obtain ⟨c3, hc3⟩ : ∃ c, c = c2 - no := ⟨_, rfl⟩
  obtain ⟨n3, hn3⟩ : ∃ c, c = n2 - no := ⟨_, rfl⟩
  have hS2 : ∀ w, (Instr.slice 41 (.slice A1 n c1) none (some (.int .i64 nb)) none).run Tryz.prog w = .ok (.slice A1 nb c1) w := sl_to A1 n c1 nb (by omega)
  have hS3 : ∀ w, (Instr.slice 41 (.slice A1 n c1) (some (.int .i64 nb)) none none).run Tryz.prog w = .ok (.slice A2 n2 c2) w := by rw [hA2, hn2, hc2]; exact sl_from A1 n c1 nb (by omega)
  have hS4 : ∀ w, (Instr.slice 41 (.slice A2 n2 c2) none (some (.int .i64 no)) none).run Tryz.prog w = .ok (.slice A2 no c2) w := sl_to A2 n2 c2 no (by omega)
  have hS5 : ∀ w, (Instr.slice 41 (.slice A2 n2 c2) (some (.int .i64 no)) none none).run Tryz.prog w = .ok (.slice A3 n3 c3) w := by rw [hA3, hn3, hc3]; exact sl_from A2 n2 c2 no (by omega)
  have D1 : Hid (StsD w (.slice A1 nb c1) bs) := by
    have := hR.upto bs.length (by simp)
    rw [List.take_left, ← hnb] at this
    exact this
  have hR2 : StsD w (.slice A2 n2 c2) (os ++ rs) := by
    have := hR.from bs.length (by simp)
    rw [List.drop_left, ← hnb, ← hA2, ← hn2, ← hc2] at this
    exact this
  have D2 : Hid (StsD w (.slice A2 no c2) os) := by
    have := hR2.upto os.length (by simp)
    rw [List.take_left, ← hno] at this
    exact this
  have D3 : Hid (StsD w (.slice A3 n3 c3) rs) := by
    have := hR2.from os.length (by simp)
    rw [List.drop_left, ← hno, ← hA3, ← hn3, ← hc3] at this
    exact this
  obtain ⟨a1, p1, e1, _⟩ := hE
  obtain ⟨a2, p2, e2, _⟩ := hF
  rw [e1] at h3
  rw [e2] at h4
  rw [hb, ← hnb] at h6
  rw [ho, ← hno] at h7
  obtain ⟨⟨tk, tr, tl, te, tf, tn, tb, tq, tp⟩, v1, v2⟩ := t
  simp only [] at h0 h1 h2 h3 h4 h5 h6 h7 h8
  rw [← hN]
  clear HH hA1 hR hN hnl hcap hmax hc1 hA2 hc2 hn2 hA3 hc3 hn3 hR2 e1 e2 hb ho hnb hno
  go_enter Tryz.func118, Tryz.ntmps118
  go_wp2
  go_region
  have hB : BlkS (w.alloc (.cells #[.int .i64 tk, .string tr, .string tl, .slice a1 te.length p1, .slice a2 tf.length p2, .bool tn, .int .i64 nb, .int .i64 no, .int .i64 tp] 61)).drew w.heap.size ⟨tk, tr, tl, te, tf, tn, nb, no, tp⟩ (.slice a1 te.length p1) (.slice a2 tf.length p2) := heap_alloc_new w _
  have HBW : Hid (Below w.heap.size w (w.alloc (.cells #[.int .i64 tk, .string tr, .string tl, .slice a1 te.length p1, .slice a2 tf.length p2, .bool tn, .int .i64 nb, .int .i64 no, .int .i64 tp] 61)).drew) := ((Below.refl _ _).alloc (Nat.le_refl _) _).drew
  clear h0 h1 h2 h3 h4 h5 h6 h7 h8
  generalize (w.alloc (.cells #[.int .i64 tk, .string tr, .string tl, .slice a1 te.length p1, .slice a2 tf.length p2, .bool tn, .int .i64 nb, .int .i64 no, .int .i64 tp] 61)).drew = w1 at hB HBW ⊢
  have hlt := hB.lt
  obtain ⟨⟨b0, b1, b2, b3, b4, b5, b6, b7, b8⟩, _⟩ := hB.facts
  simp only [] at b6 b7
  clear hB b0 b1 b2 b3 b4 b5 b8
  go_wp2
  go_quiet (fail)
  go_wp2
  go_quiet (fail)
  go_wp2
  refine bodyPost_ret (v := .tuple #[.slice A1 nb c1, .slice A2 no c2, .slice A3 n3 c3]) (by simp [results, Tryz.results118, go_sem]) rfl ⟨_, _, _, rfl, D1.out.below ?_, D2.out.below ?_, D3.out.below ?_, ?_⟩
  all_goals exact below_drewN (below_drewN HBW.out _) _
end Go.Proofs.YtlpgafgiljffhaaGreatDoor

namespace Go.Proofs.YtlpgafgiljffhaaGreatDoor
open Go.RowKit
def Cpl (xs : List St) : Prop := ∃ t : Tr, t.flat = xs
open Classical in
noncomputable def cplB (xs : List St) : Bool := decide (Cpl xs)
open Classical in
theorem cplB_yes {xs : List St} (h : Cpl xs) : cplB xs = true := by unfold cplB; exact decide_eq_true h
open Classical in
theorem cplB_no {xs : List St} (h : ¬ Cpl xs) : cplB xs = false := by unfold cplB; exact decide_eq_false h
theorem cpl_nil : Cpl [] := ⟨.nil, rfl⟩
theorem cpl_cons {s : St} {bs os rs : List St} (hb : s.body = (bs.length : Nat)) (ho : s.els = (os.length : Nat)) : Cpl (s :: (bs ++ (os ++ rs))) ↔ Cpl bs ∧ Cpl os ∧ Cpl rs := by
  constructor
  · rintro ⟨t, ht⟩
    cases t with
    | nil => cases ht
    | node s0 b o r =>
      rw [Tr.flat, List.append_assoc] at ht
      injection ht with e1 e2
      have g1 : b.flat.length = bs.length := by have := congrArg St.body e1; rw [hb] at this; exact Int.ofNat_inj.1 this
      have g2 : o.flat.length = os.length := by have := congrArg St.els e1; rw [ho] at this; exact Int.ofNat_inj.1 this
      obtain ⟨h1, h2⟩ := List.append_inj e2 g1
      obtain ⟨h3, h4⟩ := List.append_inj h2 g2
      exact ⟨⟨b, h1⟩, ⟨o, h3⟩, ⟨r, h4⟩⟩
  · rintro ⟨⟨b, rfl⟩, ⟨o, rfl⟩, ⟨r, rfl⟩⟩
    refine ⟨.node s b o r, ?_⟩
    rw [Tr.flat, List.append_assoc, ← hb, ← ho]
theorem cpl_fit {s : St} {r : List St} (h : Cpl (s :: r)) : fitB s r.length = true := by
  obtain ⟨t, ht⟩ := h
  cases t with
  | nil => cases ht
  | node s0 b o r0 =>
    rw [Tr.flat] at ht
    injection ht with e1 e2
    have g1 : s.body = (b.flat.length : Nat) := by rw [← e1]
    have g2 : s.els = (o.flat.length : Nat) := by rw [← e1]
    have g3 : r.length = b.flat.length + o.flat.length + r0.flat.length := by rw [← e2]; simp; omega
    unfold fitB
    rw [g1, g2, g3]
    simp
    omega
theorem fit_part {s : St} {r : List SI} (h : fitB s r.length = true) : ∃ bs os rs, r = bs ++ (os ++ rs) ∧ s.body = (bs.length : Nat) ∧ s.els = (os.length : Nat) := by
  unfold fitB at h
  simp only [Bool.and_eq_true, decide_eq_true_eq] at h
  obtain ⟨h1, h2, h3, h4⟩ := h
  refine ⟨r.take s.body.toNat, (r.drop s.body.toNat).take s.els.toNat, (r.drop s.body.toNat).drop s.els.toNat, by rw [List.take_append_drop, List.take_append_drop], ?_, ?_⟩
  · rw [List.length_take]; omega
  · rw [List.length_take, List.length_drop]; omega
theorem StsD.shape {w : World} {v : Value} {ts : List SI} (h : StsD w v ts) : ∃ ad cap, v = .slice ad ts.length cap := by
  obtain ⟨ad, cap, hv, _⟩ := h; exact ⟨ad, cap, hv⟩
set_option maxRecDepth 100000 in
set_option maxHeartbeats 4000000 in
theorem complete_any : ∀ (N : Nat) (ts : List SI) (v : Value) (w : World), ts.length ≤ N → ts.length ≤ 100000 → StsD w v ts → Calls Tryz.prog 103 #[v] w fun e w' => e = .returned (.bool (cplB (ts.map (·.1)))) ∧ Below w.heap.size w w' := by
  intro N
  induction N using Nat.strongRecOn with
  | _ N ih =>
    intro ts v w hN hn h
    have HIH : Hid (∀ (us : List SI) (u : Value) (W : World), us.length < ts.length → StsD W u us → Calls Tryz.prog 103 #[u] W fun e w' => e = .returned (.bool (cplB (us.map (·.1)))) ∧ Below W.heap.size W w') :=
      fun us u W hu hW => ih us.length (by omega) us u W (Nat.le_refl _) (by omega) hW
    have HN : Hid (ts.length ≤ 100000) := hn
    have HH := Lib.hid h
    obtain ⟨ad0, cap0, rfl⟩ := h.shape
    obtain ⟨B, hB⟩ : ∃ B, B = cplB (ts.map (·.1)) := ⟨_, rfl⟩
    have HB := Lib.hid hB
    rw [← hB]
    obtain ⟨n0, hn0⟩ : ∃ n0, n0 = ts.length := ⟨_, rfl⟩
    have HN0 := Lib.hid hn0
    rw [← hn0] at HH ⊢
    clear ih hN hn h hB hn0
    go_enter Tryz.func103, Tryz.ntmps103
    go_wp2_with fail
    go_loopg [0] n0 (fun fuel v' wr => ∃ rs : List SI, StsD wr v' rs ∧ rs.length ≤ fuel ∧ rs.length ≤ ts.length ∧ (Cpl (ts.map (·.1)) ↔ Cpl (rs.map (·.1))) ∧ Below w.heap.size w wr)
    case atStart => exact ⟨ts, HH.out, by rw [HN0.out]; exact Nat.le_refl _, Nat.le_refl _, Iff.rfl, Below.refl _ _⟩
    case round =>
      obtain ⟨rs, hs, hf, hrl, hiff, hbl⟩ := hrel
      have HS := Lib.hid hs
      have HI := Lib.hid hiff
      have HBL := Lib.hid hbl
      have HRL := Lib.hid hrl
      have hn9 := HN.out
      clear hs hiff hbl hrl
      cases rs with
      | nil =>
        obtain ⟨ad, cap, rfl⟩ := HS.out.shape
        go_wp2
        go_ret
        refine ⟨ret_bool ?_, HBL.out⟩
        rw [HB.out]
        exact (cplB_yes (HI.out.2 cpl_nil)).symm
      | cons t r =>
        have hlr : r.length ≤ 100000 := by have := HRL.out; simp at this; omega
        have HFT := Lib.hid (fun (W : World) (hW : Below wr.heap.size wr W) => fits_any t r _ W (HS.out.below hW) hlr)
        obtain ⟨b, hb⟩ : ∃ b, fitB t.1 r.length = b := ⟨_, rfl⟩
        rw [hb] at HFT
        have HFB := Lib.hid hb
        obtain ⟨ad, cap, rfl⟩ := HS.out.shape
        obtain ⟨m, hm⟩ : ∃ m, m = (t :: r).length := ⟨_, rfl⟩
        have hm0 : 0 < m := by rw [hm]; simp
        have q1 : decide ((0 : Int) < (m : Int)) = true := by simp; omega
        have HM := Lib.hid hm
        rw [← hm] at HFT HS hf ⊢
        clear hm hb
        cases b with
        | false =>
          go_wp2_with fail
          refine (HFT.out _ (Below.refl _ _)).mono ?_
          rintro e w2 ⟨rfl, hb2⟩
          go_wp2
          go_ret
          refine ⟨ret_bool ?_, HBL.out.trans (hb2.mono HBL.out.size)⟩
          rw [HB.out]
          refine (cplB_no fun hc => ?_).symm
          have h1 := cpl_fit (HI.out.1 hc)
          rw [List.length_map, HFB.out] at h1
          cases h1
        | true =>
          obtain ⟨bs, os, rr, hr, e1, e2⟩ := fit_part HFB.out
          have HR := Lib.hid hr
          have HE1 := Lib.hid e1
          have HE2 := Lib.hid e2
          have HS2 : Hid (∀ W, Below wr.heap.size wr W → StsD W (.slice ad m cap) (t :: (bs ++ (os ++ rr)))) := fun W hW => by rw [← hr]; exact HS.out.below hW
          have hlb : bs.length < ts.length ∧ os.length < ts.length ∧ rr.length < ts.length ∧ rr.length ≤ gk - 1 ∧ 0 < gk := by
            have h1 := HRL.out
            rw [hr] at h1
            have h2 := HM.out
            rw [hr] at h2
            simp at h1 h2
            omega
          have HLB := Lib.hid hlb
          clear hr e1 e2 hlb
          go_wp2_with fail
          refine (HFT.out _ (Below.refl _ _)).mono ?_
          rintro e w2 ⟨rfl, hb2⟩
          go_wp2_with fail
          refine (cut_any t bs os rr _ _ (HS2.out _ hb2) HE1.out HE2.out).mono ?_
          rintro e w3 ⟨v1, v2, v3, rfl, d1, d2, d3, hb3⟩
          have HB3 := Lib.hid (hb2.trans (hb3.mono hb2.size))
          have D2 := Lib.hid d2
          have D3 := Lib.hid d3
          have D1 := Lib.hid d1
          obtain ⟨g1, k1, rfl⟩ := d1.shape
          obtain ⟨g2, k2, rfl⟩ := d2.shape
          obtain ⟨g3, k3, rfl⟩ := d3.shape
          have HIF : Hid (Cpl (ts.map (·.1)) ↔ Cpl (bs.map (·.1)) ∧ Cpl (os.map (·.1)) ∧ Cpl (rr.map (·.1))) := by
            have h1 := HI.out
            rw [HR.out, List.map_cons, List.map_append, List.map_append] at h1
            exact h1.trans (cpl_cons (by rw [List.length_map]; exact HE1.out) (by rw [List.length_map]; exact HE2.out))
          clear d1 d2 d3 hb2 hb3
          obtain ⟨c1, hc1⟩ : ∃ c, cplB (bs.map (·.1)) = c := ⟨_, rfl⟩
          obtain ⟨c2, hc2⟩ : ∃ c, cplB (os.map (·.1)) = c := ⟨_, rfl⟩
          have HC1 := Lib.hid hc1
          have HC2 := Lib.hid hc2
          clear hc1 hc2
          go_wp2_with fail
          refine (HIH.out bs _ _ HLB.out.1 D1.out).mono ?_
          rintro e w4 ⟨rfl, hb4⟩
          have HB4 := Lib.hid (HB3.out.trans (hb4.mono HB3.out.size))
          have D24 := Lib.hid (D2.out.below hb4)
          have D34 := Lib.hid (D3.out.below hb4)
          rw [HC1.out]
          clear hb4
          have hno : c1 = false ∨ c2 = false → ¬ Cpl (ts.map (·.1)) := by
            rintro (rfl | rfl) hc
            · have := cplB_yes (HIF.out.1 hc).1; rw [HC1.out] at this; cases this
            · have := cplB_yes (HIF.out.1 hc).2.1; rw [HC2.out] at this; cases this
          have HNO := Lib.hid hno
          clear hno
          cases c1 with
          | false =>
            go_wp2
            go_ret
            refine ⟨ret_bool ?_, HBL.out.trans (HB4.out.mono HBL.out.size)⟩
            rw [HB.out]
            exact (cplB_no (HNO.out (.inl (by simp)))).symm
          | true =>
            go_wp2_with fail
            refine (HIH.out os _ _ HLB.out.2.1 D24.out).mono ?_
            rintro e w5 ⟨rfl, hb5⟩
            have HB5 := Lib.hid (HB4.out.trans (hb5.mono HB4.out.size))
            have D35 := Lib.hid (D34.out.below hb5)
            rw [HC2.out]
            clear hb5
            cases c2 with
            | false =>
              go_wp2
              go_ret
              refine ⟨ret_bool ?_, HBL.out.trans (HB5.out.mono HBL.out.size)⟩
              rw [HB.out]
              exact (cplB_no (HNO.out (.inr (by simp)))).symm
            | true =>
              go_wp2
              go_roundg (gk - 1)
              case measure => have := HLB.out; omega
              case rel =>
                refine ⟨rr, D35.out, HLB.out.2.2.2.1, Nat.le_of_lt HLB.out.2.2.1, ?_, HBL.out.trans (HB5.out.mono HBL.out.size)⟩
                have y1 : Cpl (bs.map (·.1)) := by
                  by_cases hy : Cpl (bs.map (·.1))
                  · exact hy
                  · have := cplB_no hy; rw [HC1.out] at this; cases this
                have y2 : Cpl (os.map (·.1)) := by
                  by_cases hy : Cpl (os.map (·.1))
                  · exact hy
                  · have := cplB_no hy; rw [HC2.out] at this; cases this
                exact HIF.out.trans ⟨fun hh => hh.2.2, fun hh => ⟨y1, y2, hh⟩⟩
end Go.Proofs.YtlpgafgiljffhaaGreatDoor

namespace Go.Proofs.YtlpgafgiljffhaaGreatDoor
open Go.RowKit
set_option maxRecDepth 100000 in
set_option maxHeartbeats 1000000 in
theorem nests_int (k : Int) (w : World) : Calls Tryz.prog 122 #[.int .i64 k] w fun e w' => e = .returned (.bool (nestK k)) ∧ w = w' := by
  by_cases h0 : k = 10
  · subst h0
    exact nests_any 10 w
  · by_cases h1 : k = 11
    · subst h1
      exact nests_any 11 w
    · by_cases h2 : k = 12
      · subst h2
        exact nests_any 12 w
      · have hb : nestK k = false := by simp [nestK, h0, h1, h2]
        rw [hb]
        have q0 : (k == 10) = false := by simp; omega
        have q1 : (k == 11) = false := by simp; omega
        have q2 : (k == 12) = false := by simp; omega
        clear hb h0 h1 h2
        go_enter Tryz.func122, Tryz.ntmps122
        go_wp2
        go_ret
        exact ⟨rfl, rfl⟩
theorem hgt_le (t : Tr) : t.hgt ≤ t.flat.length := by
  induction t with
  | nil => exact Nat.le_refl _
  | node s b o r hb ho hr =>
    rw [Tr.hgt, Tr.flat]
    simp only [List.length_cons, List.length_append]
    split <;> omega
set_option maxRecDepth 100000 in
set_option maxHeartbeats 4000000 in
theorem sheight_any : ∀ (N : Nat) (t : Tr) (ts : List SI) (v : Value) (w : World), ts.length ≤ N → ts.length ≤ 100000 → ts.map (·.1) = t.flat → StsD w v ts → Calls Tryz.prog 106 #[v] w fun e w' => e = .returned (.int .i64 (t.hgt : Int)) ∧ Below w.heap.size w w' := by
  intro N
  induction N using Nat.strongRecOn with
  | _ N ih =>
    intro t ts v w hN hn ht h
    have HIH : Hid (∀ (t' : Tr) (us : List SI) (u : Value) (W : World), us.length < ts.length → us.map (·.1) = t'.flat → StsD W u us → Calls Tryz.prog 106 #[u] W fun e w' => e = .returned (.int .i64 (t'.hgt : Int)) ∧ Below W.heap.size W w') :=
      fun t' us u W hu ht' hW => ih us.length (by omega) t' us u W (Nat.le_refl _) (by omega) ht' hW
    have HN : Hid (ts.length ≤ 100000) := hn
    have HH := Lib.hid h
    obtain ⟨ad0, cap0, rfl⟩ := h.shape
    have HT := Lib.hid ht
    obtain ⟨n0, hn0⟩ : ∃ n0, n0 = ts.length := ⟨_, rfl⟩
    have HN0 := Lib.hid hn0
    rw [← hn0] at HH ⊢
    clear ih hN hn h ht hn0
    go_enter Tryz.func106, Tryz.ntmps106
    go_wp2_with fail
    go_loopg [0, 3] n0 (fun fuel v' g' wr => ∃ (rs : List SI) (t' : Tr) (gg : Nat), g' = .int .i64 (gg : Nat) ∧ StsD wr v' rs ∧ rs.map (·.1) = t'.flat ∧ rs.length ≤ fuel ∧ rs.length ≤ ts.length ∧ max gg t'.hgt = t.hgt ∧ Below w.heap.size w wr)
    case atStart => exact ⟨ts, t, 0, rfl, HH.out, HT.out, by rw [HN0.out]; exact Nat.le_refl _, Nat.le_refl _, by omega, Below.refl _ _⟩
    case round =>
      obtain ⟨rs, t', gg, rfl, hs, htf, hf, hrl, hmx, hbl⟩ := hrel
      have HS := Lib.hid hs
      have HBL := Lib.hid hbl
      have HRL := Lib.hid hrl
      have HMX := Lib.hid hmx
      have hn9 := HN.out
      clear hs hbl hrl hmx
      cases t' with
      | nil =>
        have hrs : rs = [] := by cases rs with
          | nil => rfl
          | cons a b => cases htf
        subst hrs
        obtain ⟨ad, cap, rfl⟩ := HS.out.shape
        go_wp2
        go_ret
        refine ⟨ret_int ?_, HBL.out⟩
        have := HMX.out
        rw [Tr.hgt] at this
        omega
      | node s b o r =>
        obtain ⟨t0, r0, hrs⟩ : ∃ t0 r0, rs = t0 :: r0 := by cases rs with
          | nil => cases htf
          | cons a b => exact ⟨a, b, rfl⟩
        subst hrs
        rw [Tr.flat, List.map_cons] at htf
        injection htf with e1 e2
        have hk : t0.1.kind = s.kind := by rw [e1]
        have g1 : t0.1.body = (b.flat.length : Nat) := by rw [e1]
        have g2 : t0.1.els = (o.flat.length : Nat) := by rw [e1]
        rw [List.append_assoc] at e2
        obtain ⟨bs, br, hr, j1, j2⟩ := List.map_eq_append_iff.1 e2
        obtain ⟨os, rr, hr2, j3, j4⟩ := List.map_eq_append_iff.1 j2
        subst hr hr2
        have lb : bs.length = b.flat.length := by rw [← j1, List.length_map]
        have lo : os.length = o.flat.length := by rw [← j3, List.length_map]
        rw [← lb] at g1
        rw [← lo] at g2
        have hlb : bs.length < ts.length ∧ os.length < ts.length ∧ rr.length < ts.length ∧ rr.length ≤ gk - 1 ∧ 0 < gk := by
          have h1 := HRL.out
          simp at h1 hf
          omega
        have HLB := Lib.hid hlb
        have HJ1 := Lib.hid j1
        have HJ3 := Lib.hid j3
        have HJ4 := Lib.hid j4
        have HG1 := Lib.hid g1
        have HG2 := Lib.hid g2
        have hh1 := hgt_le b
        have hh2 := hgt_le o
        have hbnd : b.hgt ≤ 100000 ∧ o.hgt ≤ 100000 ∧ gg ≤ 100000 := by
          have h1 := HRL.out
          have h2 := HMX.out
          have h3 := hgt_le t
          have h4 : ts.length = t.flat.length := by rw [← HT.out, List.length_map]
          simp at h1
          omega
        obtain ⟨hbd1, hbd2, hbd3⟩ := hbnd
        obtain ⟨b0, off, cap, hv0, _, _, hbl0, ⟨h0, _⟩, _⟩ := HS.out.head
        subst hv0
        obtain ⟨m, hm⟩ : ∃ m, m = (bs ++ (os ++ rr)).length := ⟨_, rfl⟩
        have q1 : decide ((0 : Int) < ((m + 1 : Nat) : Int)) = true := by simp
        rw [hk] at h0
        rw [← hm] at HS ⊢
        obtain ⟨kk, hkk⟩ : ∃ kk, kk = s.kind := ⟨_, rfl⟩
        have HKK := Lib.hid hkk
        rw [← hkk] at h0
        obtain ⟨hb', hhb⟩ : ∃ z, z = b.hgt := ⟨_, rfl⟩
        obtain ⟨ho', hho⟩ : ∃ z, z = o.hgt := ⟨_, rfl⟩
        have HHB := Lib.hid hhb
        have HHO := Lib.hid hho
        rw [← hhb] at hbd1
        rw [← hho] at hbd2
        clear hlb j1 j2 j3 j4 g1 g2 e1 e2 hm hkk hk lb lo hh1 hh2 hf hhb hho
        go_wp2_with fail
        refine (cut_any t0 bs os rr _ _ HS.out HG1.out HG2.out).mono ?_
        rintro e w3 ⟨v1, v2, v3, rfl, d1, d2, d3, hb3⟩
        have D2 := Lib.hid d2
        have D3 := Lib.hid d3
        have D1 := Lib.hid d1
        have k0 : w3.cell? ⟨b0, off, none⟩ = some (.int .i64 kk) := (hb3.cell (p := ⟨b0, off, none⟩) hbl0).trans h0
        have HB3 := Lib.hid hb3
        obtain ⟨a1, k1, rfl⟩ := d1.shape
        obtain ⟨a2, k2, rfl⟩ := d2.shape
        obtain ⟨a3, k3, rfl⟩ := d3.shape
        clear d1 d2 d3 hb3 h0
        go_wp2_with fail
        refine (nests_int kk _).mono ?_
        rintro e w4 ⟨rfl, rfl⟩
        obtain ⟨nk, hnk⟩ : ∃ nk, nestK kk = nk := ⟨_, rfl⟩
        have HNK := Lib.hid hnk
        rw [hnk]
        clear hnk
        cases nk with
        | false =>
          go_wp2
          go_roundg (gk - 1)
          case measure => have := HLB.out; omega
          case rel =>
            refine ⟨rr, r, gg, rfl, D3.out, HJ4.out, HLB.out.2.2.2.1, Nat.le_of_lt HLB.out.2.2.1, ?_, HBL.out.trans (HB3.out.mono HBL.out.size)⟩
            have := HMX.out
            rw [Tr.hgt, ← HKK.out, HNK.out, if_neg (by simp)] at this
            omega
        | true =>
          go_wp2_with fail
          refine (HIH.out b bs _ _ HLB.out.1 HJ1.out D1.out).mono ?_
          rintro e w5 ⟨rfl, hb5⟩
          have HB5 := Lib.hid (HB3.out.trans (hb5.mono HB3.out.size))
          have D25 := Lib.hid (D2.out.below hb5)
          have D35 := Lib.hid (D3.out.below hb5)
          rw [← HHB.out]
          clear hb5
          go_wp2_with fail
          refine (HIH.out o os _ _ HLB.out.2.1 HJ3.out D25.out).mono ?_
          rintro e w6 ⟨rfl, hb6⟩
          have HB6 := Lib.hid (HB5.out.trans (hb6.mono HB5.out.size))
          have D36 := Lib.hid (D35.out.below hb6)
          rw [← HHO.out]
          clear hb6
          go_wp2
          all_goals
            go_roundg (gk - 1)
            case measure => have := HLB.out; omega
            case rel =>
              refine ⟨rr, r, max gg (max (1 + hb') (1 + ho')), ?_, D36.out, HJ4.out, HLB.out.2.2.2.1, Nat.le_of_lt HLB.out.2.2.1, ?_, HBL.out.trans (HB6.out.mono HBL.out.size)⟩
              · congr 1
                omega
              · have := HMX.out
                rw [Tr.hgt, ← HKK.out, HNK.out, if_pos rfl, ← HHB.out, ← HHO.out] at this
                omega
end Go.Proofs.YtlpgafgiljffhaaGreatDoor

namespace Go.Proofs.YtlpgafgiljffhaaGreatDoor
open Go.RowKit
def nameW (s : ByteArray) (b : Bool) : Bool := if b = true then nameB s else decide (s.size = 0)
noncomputable def valW (l : List Nd) (b : Bool) : Bool := if b = true then (rightB l && regsO l) else decide (l.length = 0)
set_option maxRecDepth 100000 in
set_option maxHeartbeats 1000000 in
theorem snameW_any (s : ByteArray) (b : Bool) (w : World) (hs : s.size ≤ 100000) : Calls Tryz.prog 120 #[.string s, .bool b] w fun e w' => e = .returned (.bool (nameW s b)) ∧ Below w.heap.size w w' := by
  cases b with
  | true =>
    have HN := Lib.hid (name_is2 s w hs (nameB s) rfl)
    show Calls _ _ _ _ fun e w' => e = .returned (.bool (nameB s)) ∧ _
    obtain ⟨z, hz⟩ : ∃ z, nameB s = z := ⟨_, rfl⟩
    rw [hz] at HN ⊢
    clear hz
    go_enter Tryz.func120, Tryz.ntmps120
    go_wp2_with fail
    refine HN.out.mono ?_
    rintro e w2 ⟨rfl, hb⟩
    go_wp2
    go_ret
    exact ⟨rfl, hb⟩
  | false =>
    show Calls _ _ _ _ fun e w' => e = .returned (.bool (decide (s.size = 0))) ∧ _
    by_cases h : s.size = 0
    · have hs0 : s = ⟨#[]⟩ := empty_of_size s h
      subst hs0
      go_enter Tryz.func120, Tryz.ntmps120
      go_wp2
      go_ret
      exact ⟨rfl, Below.refl _ _⟩
    · have q : s.toList.isEmpty = false := by
        rw [Lib.toList_data]
        rw [Lib.size_eq] at h
        cases hd : s.data.toList with
        | nil => rw [hd] at h; exact absurd rfl h
        | cons a r => rfl
      rw [decide_eq_false h]
      clear h
      go_enter Tryz.func120, Tryz.ntmps120
      go_wp2
      go_ret
      exact ⟨rfl, Below.refl _ _⟩
set_option maxRecDepth 100000 in
set_option maxHeartbeats 1000000 in
theorem svalue_any (l : List Nd) (v : Value) (b : Bool) (w : World) (hv : NdsC w v l) (hn : l.length ≤ 100000) (hz : NmOK l) : Calls Tryz.prog 121 #[v, .bool b] w fun e w' => e = .returned (.bool (valW l b)) ∧ Below w.heap.size w w' := by
  cases b with
  | true =>
    have HR := Lib.hid (right_any l v w hv.nds hn hz (rightB l) rfl)
    have HC := Lib.hid (fun (w' : World) (h : Below w.heap.size w w') => fcontains_any l v w' (hv.below h).nds hn (regsO l) rfl)
    show Calls _ _ _ _ fun e w' => e = .returned (.bool (rightB l && regsO l)) ∧ _
    obtain ⟨z1, h1⟩ : ∃ z, rightB l = z := ⟨_, rfl⟩
    obtain ⟨z2, h2⟩ : ∃ z, regsO l = z := ⟨_, rfl⟩
    rw [h1] at HR ⊢
    rw [h2] at HC ⊢
    obtain ⟨ad, cap, rfl, _⟩ := hv
    clear h1 h2 hz hn
    cases z1 with
    | false =>
      go_enter Tryz.func121, Tryz.ntmps121
      go_wp2_with fail
      refine HR.out.mono ?_
      rintro e w2 ⟨rfl, hb⟩
      go_wp2
      go_ret
      exact ⟨rfl, hb⟩
    | true =>
      go_enter Tryz.func121, Tryz.ntmps121
      go_wp2_with fail
      refine HR.out.mono ?_
      rintro e w2 ⟨rfl, hb⟩
      go_wp2_with fail
      refine (HC.out w2 hb).mono ?_
      rintro e w3 ⟨rfl, hb3⟩
      cases z2 <;>
      · go_wp2
        go_ret
        exact ⟨rfl, hb.trans (hb3.mono hb.size)⟩
  | false =>
    obtain ⟨ad, cap, rfl, _⟩ := hv
    show Calls _ _ _ _ fun e w' => e = .returned (.bool (decide (l.length = 0))) ∧ _
    obtain ⟨n, hN⟩ : ∃ n, n = l.length := ⟨_, rfl⟩
    rw [← hN] at hn ⊢
    clear hN hz
    by_cases h : n = 0
    · subst h
      go_enter Tryz.func121, Tryz.ntmps121
      go_wp2
      go_ret
      exact ⟨rfl, Below.refl _ _⟩
    · rw [decide_eq_false h]
      have q1 : ((n : Int) == 0) = false := by simp; omega
      have q2 : (n == 0) = false := by simp; omega
      clear h
      go_enter Tryz.func121, Tryz.ntmps121
      go_wp2
      go_ret
      exact ⟨rfl, Below.refl _ _⟩
def hasB (k j : Nat) : Bool :=
  if j = 0 then hasR k else if j = 1 then hasL k else if j = 2 then hasE k else if j = 3 then hasF k else if j = 4 then decide (k = 9) else if j = 5 then nestK k else decide (k = 10)
def Flds (w : World) : Prop := 0 < w.heap.size ∧ ∀ k, k < 14 → ∀ j, j < 7 → w.cell? ⟨0, k * 7 + j, none⟩ = some (.bool (hasB k j))
theorem Flds.below {w w' : World} (h : Flds w) (hb : Below w.heap.size w w') : Flds w' := ⟨Nat.lt_of_lt_of_le h.1 hb.size, fun k hk j hj => (hb.cell (p := ⟨0, k * 7 + j, none⟩) h.1).trans (h.2 k hk j hj)⟩
noncomputable def flawB (x : St) : Bool :=
  if x.kind < 1 ∨ 13 < x.kind ∨ x.pl < 0 then true else
  !(nameW x.reg (hasB x.kind.toNat 0) && (nameW x.loc (hasB x.kind.toNat 1) && (valW x.e (hasB x.kind.toNat 2) && valW x.f (hasB x.kind.toNat 3)))) ||
    ((x.ne && !hasB x.kind.toNat 4) || ((decide (x.body ≠ 0) && !hasB x.kind.toNat 5) || (decide (x.els ≠ 0) && !hasB x.kind.toNat 6)))
end Go.Proofs.YtlpgafgiljffhaaGreatDoor
