/- Layer 9: the reference's Ended, Final. -/
import Derived.Test.YtdklcjgoomdhkaaUp
namespace Go.Proofs.Ytdklcjgoomdhkaa
set_option linter.unusedSimpArgs false
set_option linter.unusedVariables false
open Go.RowKit

def endedC (u : Un) (c : Cf) (t : Int) : Bool :=
  if 0 ≤ t ∧ t < u.code.length ∧ t < c.pc.length then
    (if 0 ≤ c.pc.getD t.toNat 0 ∧ c.pc.getD t.toNat 0 < ((u.code.getD t.toNat ([], undef)).1.length : Int) then decide ((((u.code.getD t.toNat ([], undef)).1[(c.pc.getD t.toNat 0).toNat]?).map fun i => i.x.op) = some 22) else false)
  else false

set_option maxRecDepth 100000 in
set_option maxHeartbeats 4000000 in
theorem ended_any (u : Un) (c : Cf) (t : Int) (vi vr vc ap ar am ab : Value) (w : World) (hu : UnD w vi vr vc u) (hc : CfD w ap ar am ab c) (q : Bool) (hq : endedC u c t = q) :
    Calls Try.prog 20 #[.agg #[.int .i64 u.mod, vi, vr, vc], .agg #[ap, ar, am, ab], .int .i64 t] w fun e w' => e = .returned (.bool q) ∧ Below w.heap.size w w' := by
  have HU := Lib.hid hu
  have HC := Lib.hid hc
  have hc9 := hu.c.bd
  have hp9 := hc.p.bd
  obtain ⟨xi, ci, rfl⟩ := hu.i.shape0
  obtain ⟨xr, cr, rfl⟩ := hu.r.shape0
  obtain ⟨xc, cc, rfl⟩ := hu.c.shape0
  obtain ⟨yp, dp, rfl⟩ := hc.p.shape0
  obtain ⟨yr, dr, rfl⟩ := hc.r.shape0
  obtain ⟨ym, dm, rfl⟩ := hc.m.shape0
  obtain ⟨yb, db, rfl⟩ := hc.b.shape0
  obtain ⟨m, hm⟩ : ∃ m, m = u.mod := ⟨_, rfl⟩
  obtain ⟨nc, hnc⟩ : ∃ n, n = u.code.length := ⟨_, rfl⟩
  obtain ⟨np, hnp⟩ : ∃ n, n = c.pc.length := ⟨_, rfl⟩
  have HNC := Lib.hid hnc
  have HNP := Lib.hid hnp
  rw [← hnc] at HU hc9 ⊢
  rw [← hnp] at HC hp9 ⊢
  rw [← hm]
  generalize u.init.length = ni at HU ⊢
  generalize u.regs.length = nr at HU ⊢
  generalize c.regs.length = mr at HC ⊢
  generalize c.mem.length = mm at HC ⊢
  generalize c.buf.length = mb at HC ⊢
  have HQ := Lib.hid hq
  have T2 := Lib.hid (two_new w 25 31 #[.int .i64 m, .slice xi ni ci, .slice xr nr cr, .slice xc nc cc] #[.slice yp np dp, .slice yr mr dr, .slice ym mm dm, .slice yb mb db])
  clear hu hc hq hnc hnp hm
  obtain ⟨L0, KA0, KB0⟩ := T2.out
  have LL := Lib.hid L0
  have KA := Lib.hid KA0
  have KB := Lib.hid KB0
  clear L0 KA0 KB0 T2
  by_cases h1 : 0 ≤ t ∧ t < nc ∧ t < np
  · obtain ⟨k, rfl⟩ : ∃ k : Nat, t = (k : Int) := ⟨t.toNat, by omega⟩
    have hk1 : k < u.code.length := by rw [← HNC.out]; omega
    have hk2 : k < c.pc.length := by rw [← HNP.out]; omega
    obtain ⟨b1, o1, rfl, hb1, y1⟩ := IntsD.at2 HC.out.p k hk2
    obtain ⟨b2, o2, rfl, hb2, hx⟩ := SlD.at HU.out.c k hk1
    obtain ⟨x2, m2, hxv⟩ := hx.r.shape0
    have y2 : w.cell? ⟨b2, o2 + k, none⟩ = some (.slice x2 (u.code[k]).1.length m2) := by have := hx.c; rw [Nat.mul_one, hxv] at this; exact this
    have z2 : InsD w (.slice x2 (u.code[k]).1.length m2) (u.code[k]).1 := by rw [← hxv]; exact hx.r
    have Z2 := Lib.hid z2
    have hE : Hid (endedC u c k = (if 0 ≤ c.pc[k] ∧ c.pc[k] < ((u.code[k]).1.length : Int) then decide ((((u.code[k]).1[(c.pc[k]).toNat]?).map fun i => i.x.op) = some 22) else false)) := Lib.hid (by
      unfold endedC
      rw [if_pos (by rw [← HNC.out, ← HNP.out]; exact h1), Int.toNat_natCast]
      have g1 : c.pc.getD k 0 = c.pc[k] := by rw [List.getD_eq_getElem?_getD, List.getElem?_eq_getElem hk2]; rfl
      have g2 : u.code.getD k ([], undef) = u.code[k] := by rw [List.getD_eq_getElem?_getD, List.getElem?_eq_getElem hk1]; rfl
      rw [g1, g2])
    have hn9 := z2.bd
    generalize (u.code[k]).1 = row at y2 Z2 hE hn9
    generalize c.pc[k] = p at y1 hE
    obtain ⟨nl, hnl⟩ : ∃ n, n = row.length := ⟨_, rfl⟩
    have HNL := Lib.hid hnl
    rw [← hnl] at y2 Z2 hE hn9
    clear hx hxv z2 hk1 hk2 hnl
    obtain ⟨h2, h3, h4⟩ := h1
    have e1 : (0 : Int) ≤ (k : Int) := h2
    have e3 : ¬ (nc : Int) ≤ (k : Int) := by omega
    have e4 : ¬ (np : Int) ≤ (k : Int) := by omega
    have e5 : k < nc := by omega
    have e6 : k < np := by omega
    by_cases h5 : 0 ≤ p ∧ p < (nl : Int)
    · obtain ⟨j, rfl⟩ : ∃ j : Nat, p = (j : Int) := ⟨p.toNat, by omega⟩
      have hj : j < row.length := by rw [← HNL.out]; omega
      obtain ⟨b3, o3, rfl, hb3, hx3⟩ := SlD.at Z2.out j hj
      obtain ⟨iv, hiv⟩ : ∃ i, i = row[j] := ⟨_, rfl⟩
      rw [← hiv] at hx3
      have hE2 : Hid (decide (iv.x.op = 22) = q) := Lib.hid (by
        rw [← HQ.out, hE.out, if_pos h5, Int.toNat_natCast, List.getElem?_eq_getElem hj, hiv]
        rw [Bool.eq_iff_iff]; simp)
      have y3 := hx3.c0
      generalize iv.x.op = op at y3 hE2
      have f1 : (0 : Int) ≤ (j : Int) := h5.1
      have f2 : (j : Int) < (nl : Int) := h5.2
      have f3 : ¬ (nl : Int) ≤ (j : Int) := by omega
      have f4 : j < nl := by omega
      have Y1 := Lib.hid (fun (W : World) (hb : Below w.heap.size w W) => (⟨(hb.cell (p := ⟨b1, _, none⟩) hb1).trans y1, (hb.cell (p := ⟨b2, _, none⟩) hb2).trans y2, (hb.cell (p := ⟨b3, _, none⟩) hb3).trans y3, Nat.lt_of_lt_of_le hb1 hb.size, Nat.lt_of_lt_of_le hb2 hb.size, Nat.lt_of_lt_of_le hb3 hb.size⟩ : W.cell? ⟨b1, o1 + k, none⟩ = some (.int .i64 (j : Int)) ∧ W.cell? ⟨b2, o2 + k, none⟩ = some (.slice (some ⟨b3, o3, none⟩) nl m2) ∧ W.cell? ⟨b3, o3 + j * 7, none⟩ = some (.int .i64 op) ∧ b1 < W.heap.size ∧ b2 < W.heap.size ∧ b3 < W.heap.size))
      clear hx3 hiv hj h5 hE y1 y2 y3 hb1 hb2 hb3
      go_enter Try.func20, Try.ntmps20
      go_wp2_with fail
      generalize (w.alloc _).alloc _ = w0 at LL KA KB ⊢
      obtain ⟨y1, y2, y3, hb1, hb2, hb3⟩ := Y1.out w0 LL.out
      have c3 : w0.cell? ⟨w.heap.size, 3, none⟩ = some (.slice (some ⟨b2, o2, none⟩) nc cc) := KA.out.cell 3
      have d0 : w0.cell? ⟨w.heap.size + 1, 0, none⟩ = some (.slice (some ⟨b1, o1, none⟩) np dp) := KB.out.cell 0
      have l1 := KA.out.lt
      have l2 := KB.out.lt
      have e1 : ¬ (k : Int) < 0 := by omega
      have e3 : ¬ (nc : Int) ≤ (k : Int) := by omega
      have e4 : ¬ (np : Int) ≤ (k : Int) := by omega
      have e7 : (k : Int) < (nc : Int) := by omega
      have e8 : (k : Int) < (np : Int) := by omega
      have e9 : (0 : Int) ≤ (k : Int) := by omega
      have f1 : ¬ (j : Int) < 0 := by omega
      have f2 : (j : Int) < (nl : Int) := by omega
      have f3 : ¬ (nl : Int) ≤ (j : Int) := by omega
      have f5 : (0 : Int) ≤ (j : Int) := by omega
      go_quiet (fail)
      replace LL := Lib.hid (below_drewN' LL.out nq)
      replace KA := Lib.hid (KA.out.below (below_drewN' (Below.refl _ _) nq))
      replace KB := Lib.hid (KB.out.below (below_drewN' (Below.refl _ _) nq))
      clear y1 y2 y3 hb1 hb2 hb3 c3 d0 l1 l2
      generalize w0.drewN nq = w5 at LL KA KB ⊢
      obtain ⟨y1, y2, y3, hb1, hb2, hb3⟩ := Y1.out w5 LL.out
      have c3 : w5.cell? ⟨w.heap.size, 3, none⟩ = some (.slice (some ⟨b2, o2, none⟩) nc cc) := KA.out.cell 3
      have d0 : w5.cell? ⟨w.heap.size + 1, 0, none⟩ = some (.slice (some ⟨b1, o1, none⟩) np dp) := KB.out.cell 0
      have l1 := KA.out.lt
      have l2 := KB.out.lt
      go_wp2_with fail
      have e1 : ¬ (k : Int) < 0 := by omega
      have e3 : ¬ (nc : Int) ≤ (k : Int) := by omega
      have e4 : ¬ (np : Int) ≤ (k : Int) := by omega
      have e7 : (k : Int) < (nc : Int) := by omega
      have e8 : (k : Int) < (np : Int) := by omega
      have e9 : (0 : Int) ≤ (k : Int) := by omega
      have f1 : ¬ (j : Int) < 0 := by omega
      have f2 : (j : Int) < (nl : Int) := by omega
      have f3 : ¬ (nl : Int) ≤ (j : Int) := by omega
      have f5 : (0 : Int) ≤ (j : Int) := by omega
      go_quiet (fail)
      go_wp2
      go_ret
      exact ⟨ret_bool (by rw [← hE2.out]; rfl), below_drewN' LL.out _⟩
    · have HBF : Hid (q = false) := Lib.hid (by rw [← HQ.out, hE.out, if_neg h5])
      have h6 : p < 0 ∨ (nl : Int) ≤ p := by omega
      have Y1 := Lib.hid (fun (W : World) (hb : Below w.heap.size w W) => (⟨(hb.cell (p := ⟨b1, _, none⟩) hb1).trans y1, (hb.cell (p := ⟨b2, _, none⟩) hb2).trans y2, Nat.lt_of_lt_of_le hb1 hb.size, Nat.lt_of_lt_of_le hb2 hb.size⟩ : W.cell? ⟨b1, o1 + k, none⟩ = some (.int .i64 p) ∧ W.cell? ⟨b2, o2 + k, none⟩ = some (.slice x2 nl m2) ∧ b1 < W.heap.size ∧ b2 < W.heap.size))
      clear h5 hE y1 y2 hb1 hb2 HQ
      go_enter Try.func20, Try.ntmps20
      go_wp2_with fail
      generalize (w.alloc _).alloc _ = w0 at LL KA KB ⊢
      obtain ⟨y1, y2, hb1, hb2⟩ := Y1.out w0 LL.out
      have c3 : w0.cell? ⟨w.heap.size, 3, none⟩ = some (.slice (some ⟨b2, o2, none⟩) nc cc) := KA.out.cell 3
      have d0 : w0.cell? ⟨w.heap.size + 1, 0, none⟩ = some (.slice (some ⟨b1, o1, none⟩) np dp) := KB.out.cell 0
      have l1 := KA.out.lt
      have l2 := KB.out.lt
      have e1 : ¬ (k : Int) < 0 := by omega
      have e3 : ¬ (nc : Int) ≤ (k : Int) := by omega
      have e4 : ¬ (np : Int) ≤ (k : Int) := by omega
      have e7 : (k : Int) < (nc : Int) := by omega
      have e8 : (k : Int) < (np : Int) := by omega
      have e9 : (0 : Int) ≤ (k : Int) := by omega
      by_cases h7 : p < 0
      · clear h6
        go_quiet (fail)
        go_wp2
        go_ret
        exact ⟨ret_bool HBF.out.symm, below_drewN' LL.out _⟩
      · have h8 : (nl : Int) ≤ p := by omega
        have h9 : 0 ≤ p := by omega
        clear h6
        obtain ⟨j, rfl⟩ : ∃ j : Nat, p = (j : Int) := ⟨p.toNat, by omega⟩
        have h10 : nl ≤ j := by omega
        have h11 : ¬ (j : Int) < 0 := by omega
        clear h7
        go_quiet (fail)
        go_wp2
        go_ret
        exact ⟨ret_bool HBF.out.symm, below_drewN' LL.out _⟩
  · have HBF : Hid (q = false) := Lib.hid (by rw [← HQ.out]; unfold endedC; rw [if_neg (by rw [← HNC.out, ← HNP.out]; exact h1)])
    have h2 : t < 0 ∨ (nc : Int) ≤ t ∨ (np : Int) ≤ t := by omega
    clear h1 HQ
    go_enter Try.func20, Try.ntmps20
    go_wp2_with fail
    generalize (w.alloc _).alloc _ = w0 at LL KA KB ⊢
    have c3 : w0.cell? ⟨w.heap.size, 3, none⟩ = some (.slice xc nc cc) := KA.out.cell 3
    have d0 : w0.cell? ⟨w.heap.size + 1, 0, none⟩ = some (.slice yp np dp) := KB.out.cell 0
    have l1 := KA.out.lt
    have l2 := KB.out.lt
    by_cases g1 : t < 0
    · clear h2
      go_quiet (fail)
      go_wp2
      go_ret
      exact ⟨ret_bool HBF.out.symm, below_drewN' LL.out _⟩
    · by_cases g2 : (nc : Int) ≤ t
      · clear h2
        go_quiet (fail)
        go_wp2
        go_ret
        exact ⟨ret_bool HBF.out.symm, below_drewN' LL.out _⟩
      · have g3 : (np : Int) ≤ t := by omega
        clear h2
        go_quiet (fail)
        go_wp2
        go_ret
        exact ⟨ret_bool HBF.out.symm, below_drewN' LL.out _⟩

end Go.Proofs.Ytdklcjgoomdhkaa
