/- Layer 9: the reference's Same of configurations. -/
import Derived.Test.YtmkgijedchpgcaaUo
namespace Go.Proofs.Ytmkgijedchpgcaa
set_option linter.unusedSimpArgs false
set_option linter.unusedVariables false
open Go.RowKit

def eqL {α : Type} [DecidableEq α] : List (List α × Value) → List (List α × Value) → Bool
  | x :: r, y :: s => decide (x.1 = y.1) && eqL r s
  | _, _ => true
theorem eqL_at {α : Type} [DecidableEq α] (a b : List (List α × Value)) (k : Nat) (h1 : k < a.length) (h2 : k < b.length) : eqL (a.drop k) (b.drop k) = (decide (a[k].1 = b[k].1) && eqL (a.drop (k + 1)) (b.drop (k + 1))) := by
  rw [List.drop_eq_getElem_cons h1, List.drop_eq_getElem_cons h2]; rfl
theorem eqL_over {α : Type} [DecidableEq α] (a b : List (List α × Value)) (k : Nat) (h1 : ¬ k < a.length) : eqL (a.drop k) (b.drop k) = true := by
  rw [List.drop_eq_nil_of_le (by omega)]; rfl
def sameC (a b : Cf) : Bool := decide (a.pc = b.pc) && (decide (a.mem = b.mem) && (decide (a.regs.length = b.regs.length ∧ a.buf.length = b.buf.length) && (eqL a.regs b.regs && eqL a.buf b.buf)))

/-- Lists that are not too long to be read. -/
structure ShortC (c : Cf) : Prop where
  p : c.pc.length ≤ 100000
  r : c.regs.length ≤ 100000
  m : c.mem.length ≤ 100000
  b : c.buf.length ≤ 100000
  rr : ∀ x ∈ c.regs, x.1.length ≤ 100000
  bb : ∀ x ∈ c.buf, x.1.length ≤ 100000

set_option maxRecDepth 100000 in
set_option maxHeartbeats 8000000 in
theorem csame_any (a b : Cf) (ap ar am ab bp br bm bb : Value) (w : World) (ha : CfD w ap ar am ab a) (hb : CfD w bp br bm bb b) (hs : ShortC a) (q : Bool) (hq : sameC a b = q) :
    Calls Try.prog 17 #[.agg #[ap, ar, am, ab], .agg #[bp, br, bm, bb]] w fun e w' => e = .returned (.bool q) ∧ Below w.heap.size w w' := by
  have HA := Lib.hid ha
  have HB := Lib.hid hb
  have HS := Lib.hid hs
  have hr9 := hb.r.bd
  have hb9 := hb.b.bd
  have HIP := Lib.hid (fun (W : World) (h : Below w.heap.size w W) => ints_gen a.pc b.pc ap bp W (IntsD.below ha.p h) (IntsD.below hb.p h) hs.p _ rfl)
  have HIM := Lib.hid (fun (W : World) (h : Below w.heap.size w W) => ints_gen a.mem b.mem am bm W (IntsD.below ha.m h) (IntsD.below hb.m h) hs.m _ rfl)
  have HQ : Hid ((decide (a.pc = b.pc) && (decide (a.mem = b.mem) && (decide (a.regs.length = b.regs.length ∧ a.buf.length = b.buf.length) && (eqL a.regs b.regs && eqL a.buf b.buf)))) = q) := Lib.hid hq
  generalize decide (a.pc = b.pc) = q1 at HIP HQ
  generalize decide (a.mem = b.mem) = q2 at HIM HQ
  obtain ⟨xp, cp, rfl⟩ := ha.p.shape0
  obtain ⟨xr, cr, rfl⟩ := ha.r.shape0
  obtain ⟨xm, cm, rfl⟩ := ha.m.shape0
  obtain ⟨xb, cb, rfl⟩ := ha.b.shape0
  obtain ⟨yp, dp, rfl⟩ := hb.p.shape0
  obtain ⟨yr, dr, rfl⟩ := hb.r.shape0
  obtain ⟨ym, dm, rfl⟩ := hb.m.shape0
  obtain ⟨yb, db, rfl⟩ := hb.b.shape0
  obtain ⟨nr, hnr⟩ : ∃ n, n = a.regs.length := ⟨_, rfl⟩
  obtain ⟨nb, hnb⟩ : ∃ n, n = a.buf.length := ⟨_, rfl⟩
  obtain ⟨mr, hmr⟩ : ∃ n, n = b.regs.length := ⟨_, rfl⟩
  obtain ⟨mb, hmb⟩ : ∃ n, n = b.buf.length := ⟨_, rfl⟩
  have HNR := Lib.hid hnr
  have HNB := Lib.hid hnb
  have HMR := Lib.hid hmr
  have HMB := Lib.hid hmb
  have hlr := hs.r
  have hlb := hs.b
  rw [← hnr] at HA HQ hlr ⊢
  rw [← hnb] at HA HQ hlb ⊢
  rw [← hmr] at HB HQ hr9 ⊢
  rw [← hmb] at HB HQ hb9 ⊢
  generalize a.pc.length = na at HA HIP ⊢
  generalize a.mem.length = nm at HA HIM ⊢
  generalize b.pc.length = ma at HB HIP ⊢
  generalize b.mem.length = mm at HB HIM ⊢
  clear ha hb hs hq hnr hnb hmr hmb
  have T2 := Lib.hid (two_new w 29 29 #[.slice xp na cp, .slice xr nr cr, .slice xm nm cm, .slice xb nb cb] #[.slice yp ma dp, .slice yr mr dr, .slice ym mm dm, .slice yb mb db])
  go_enter Try.func17, Try.ntmps17
  go_wp2_with fail
  obtain ⟨L0, KA0, KB0⟩ := T2.out
  have LL := Lib.hid L0
  have KA := Lib.hid KA0
  have KB := Lib.hid KB0
  clear L0 KA0 KB0 T2
  generalize (w.alloc _).alloc _ = w0 at LL KA KB ⊢
  refine (HIP.out w0 LL.out).mono ?_
  rintro e w1 ⟨rfl, bn⟩
  replace KA := Lib.hid (KA.out.below bn)
  replace KB := Lib.hid (KB.out.below bn)
  replace LL := Lib.hid (LL.out.trans (bn.mono LL.out.size))
  clear bn
  have c1 : w1.cell? ⟨w.heap.size, 1, none⟩ = some (.slice xr nr cr) := KA.out.cell 1
  have c2 : w1.cell? ⟨w.heap.size, 2, none⟩ = some (.slice xm nm cm) := KA.out.cell 2
  have c3 : w1.cell? ⟨w.heap.size, 3, none⟩ = some (.slice xb nb cb) := KA.out.cell 3
  have d1 : w1.cell? ⟨w.heap.size + 1, 1, none⟩ = some (.slice yr mr dr) := KB.out.cell 1
  have d2 : w1.cell? ⟨w.heap.size + 1, 2, none⟩ = some (.slice ym mm dm) := KB.out.cell 2
  have d3 : w1.cell? ⟨w.heap.size + 1, 3, none⟩ = some (.slice yb mb db) := KB.out.cell 3
  have l1 := KA.out.lt
  have l2 := KB.out.lt
  cases q1 with
  | false =>
    go_wp2
    go_ret
    exact ⟨ret_bool (by rw [← HQ.out]; rfl), LL.out⟩
  | true =>
    go_wp2_with fail
    refine (HIM.out w1 LL.out).mono ?_
    rintro e w2 ⟨rfl, bn⟩
    clear c1 c2 c3 d1 d2 d3 l1 l2
    replace KA := Lib.hid (KA.out.below bn)
    replace KB := Lib.hid (KB.out.below bn)
    replace LL := Lib.hid (LL.out.trans (bn.mono LL.out.size))
    clear bn
    have c1 : w2.cell? ⟨w.heap.size, 1, none⟩ = some (.slice xr nr cr) := KA.out.cell 1
    have c2 : w2.cell? ⟨w.heap.size, 2, none⟩ = some (.slice xm nm cm) := KA.out.cell 2
    have c3 : w2.cell? ⟨w.heap.size, 3, none⟩ = some (.slice xb nb cb) := KA.out.cell 3
    have d1 : w2.cell? ⟨w.heap.size + 1, 1, none⟩ = some (.slice yr mr dr) := KB.out.cell 1
    have d2 : w2.cell? ⟨w.heap.size + 1, 2, none⟩ = some (.slice ym mm dm) := KB.out.cell 2
    have d3 : w2.cell? ⟨w.heap.size + 1, 3, none⟩ = some (.slice yb mb db) := KB.out.cell 3
    have l1 := KA.out.lt
    have l2 := KB.out.lt
    cases q2 with
    | false =>
      go_wp2
      go_ret
      exact ⟨ret_bool (by rw [← HQ.out]; rfl), LL.out⟩
    | true =>
      by_cases hl : nr = mr ∧ nb = mb
      · obtain ⟨h1, h2⟩ := hl
        subst h1
        subst h2
        have HQ2 : Hid ((eqL (a.regs.drop 0) (b.regs.drop 0) && eqL a.buf b.buf) = q) := Lib.hid (by
          have := HQ.out
          rw [decide_eq_true (show nr = nr ∧ nb = nb from ⟨rfl, rfl⟩)] at this
          simpa using this)
        clear HQ
        go_wp2_with fail
        clear c1 c2 c3 d1 d2 d3 l1 l2
        go_loopg [5] nr (fun fuel i' wi => ∃ (k : Nat), i' = .int .i64 k ∧ k ≤ nr ∧ nr - k ≤ fuel ∧ (eqL (a.regs.drop k) (b.regs.drop k) && eqL a.buf b.buf) = q ∧ Below w2.heap.size w2 wi)
        case atStart => exact ⟨0, rfl, Nat.zero_le _, Nat.le_refl _, HQ2.out, Below.refl _ _⟩
        case round =>
          obtain ⟨k, rfl, hk, hf, hak, hbk⟩ := hrel
          have HAK := Lib.hid hak
          have HBK := Lib.hid hbk
          have KA' := Lib.hid (KA.out.below hbk)
          have KB' := Lib.hid (KB.out.below hbk)
          have LL' := Lib.hid (LL.out.trans (hbk.mono LL.out.size))
          clear hak hbk
          have l1 := KA'.out.lt
          have l2 := KB'.out.lt
          by_cases hlt : k < nr
          · have hk1 : k < a.regs.length := by rw [← HNR.out]; exact hlt
            have hk2 : k < b.regs.length := by rw [← HMR.out]; exact hlt
            have HE := Lib.hid (eqL_at a.regs b.regs k hk1 hk2)
            obtain ⟨b1, o1, x1, m1, rfl, hb1, y1, z1⟩ := AllD.at2 (HA.out.below LL'.out).r k hk1
            obtain ⟨b2, o2, x2, m2, rfl, hb2, y2, z2⟩ := AllD.at2 (HB.out.below LL'.out).r k hk2
            have hs1 := HS.out.rr _ (List.getElem_mem hk1)
            have HC := Lib.hid (fun (W : World) (hw : Below wr.heap.size wr W) => ints_gen _ _ _ _ W (IntsD.below z1 hw) (IntsD.below z2 hw) hs1 _ rfl)
            have c1 : wr.cell? ⟨w.heap.size, 1, none⟩ = some (.slice (some ⟨b1, o1, none⟩) nr cr) := KA'.out.cell 1
            have d1 : wr.cell? ⟨w.heap.size + 1, 1, none⟩ = some (.slice (some ⟨b2, o2, none⟩) nr dr) := KB'.out.cell 1
            generalize decide ((a.regs[k]).1 = (b.regs[k]).1) = qq at HE HC
            generalize (a.regs[k]).1.length = n1 at y1 HC
            generalize (b.regs[k]).1.length = n2 at y2 HC
            have e1 : (0 : Int) ≤ (k : Int) := Int.natCast_nonneg _
            have e2 : (k : Int) < (nr : Int) := by omega
            clear z1 z2 hs1 hk1 hk2
            go_wp2_with fail
            go_still_tail 10, (by kernel_rfl)
            change wpList _ _ _ _ _ wr.drew
            go_wp2_with fail
            refine (HC.out _ (below_draws' wr)).mono ?_
            rintro e w5 ⟨rfl, b5⟩
            have BW := Lib.hid (HBK.out.drew.trans (b5.mono HBK.out.drew.size))
            clear b5 HC c1 d1
            cases qq with
            | false =>
              go_wp2
              go_ret
              exact ⟨ret_bool (by rw [← HAK.out, HE.out]; rfl), LL.out.trans (BW.out.mono LL.out.size)⟩
            | true =>
              go_wp2
              go_roundg (gk - 1)
              case measure => omega
              case rel => exact ⟨k + 1, by go_num, by omega, by omega, by have h2 := HAK.out; rw [HE.out] at h2; simpa using h2, BW.out⟩
          · have HQ3 : Hid (eqL (a.buf.drop 0) (b.buf.drop 0) = q) := Lib.hid (by
              have h2 := HAK.out
              rw [eqL_over a.regs b.regs k (by rw [← HNR.out]; exact hlt), Bool.true_and] at h2
              exact h2)
            have c1 : wr.cell? ⟨w.heap.size, 1, none⟩ = some (.slice xr nr cr) := KA'.out.cell 1
            obtain ⟨wo, hwo⟩ : ∃ x, x = wr := ⟨_, rfl⟩
            go_wp2_with fail
            rw [← hwo] at HBK KA' KB' LL'
            clear c1 l1 l2
            go_loopg [6] nb (fun fuel i' wi => ∃ (j : Nat), i' = .int .i64 j ∧ j ≤ nb ∧ nb - j ≤ fuel ∧ eqL (a.buf.drop j) (b.buf.drop j) = q ∧ Below wo.heap.size wo wi)
            case atStart => exact ⟨0, rfl, Nat.zero_le _, Nat.le_refl _, HQ3.out, by rw [hwo]; exact Below.refl _ _⟩
            case round =>
              clear hwo
              obtain ⟨j, rfl, hj, hfj, haj, hbj⟩ := hrel
              have HAJ := Lib.hid haj
              have HBJ := Lib.hid hbj
              have KAJ := Lib.hid (KA'.out.below hbj)
              have KBJ := Lib.hid (KB'.out.below hbj)
              have LLJ := Lib.hid (LL'.out.trans (hbj.mono LL'.out.size))
              clear haj hbj
              have l1 := KAJ.out.lt
              have l2 := KBJ.out.lt
              by_cases hjl : j < nb
              · have hk1 : j < a.buf.length := by rw [← HNB.out]; exact hjl
                have hk2 : j < b.buf.length := by rw [← HMB.out]; exact hjl
                have HE := Lib.hid (eqL_at a.buf b.buf j hk1 hk2)
                obtain ⟨b1, o1, x1, m1, rfl, hb1, y1, z1⟩ := BufsD.at2 (HA.out.below LLJ.out).b j hk1
                obtain ⟨b2, o2, x2, m2, rfl, hb2, y2, z2⟩ := BufsD.at2 (HB.out.below LLJ.out).b j hk2
                have hs1 := HS.out.bb _ (List.getElem_mem hk1)
                have HC := Lib.hid (fun (W : World) (hw : Below wr.heap.size wr W) => ents_gen _ _ _ _ W (EntsD.below z1 hw) (EntsD.below z2 hw) hs1 _ rfl)
                have c3 : wr.cell? ⟨w.heap.size, 3, none⟩ = some (.slice (some ⟨b1, o1, none⟩) nb cb) := KAJ.out.cell 3
                have d3 : wr.cell? ⟨w.heap.size + 1, 3, none⟩ = some (.slice (some ⟨b2, o2, none⟩) nb db) := KBJ.out.cell 3
                generalize decide ((a.buf[j]).1 = (b.buf[j]).1) = qq at HE HC
                generalize (a.buf[j]).1.length = n1 at y1 HC
                generalize (b.buf[j]).1.length = n2 at y2 HC
                have e1 : (0 : Int) ≤ (j : Int) := Int.natCast_nonneg _
                have e2 : (j : Int) < (nb : Int) := by omega
                clear z1 z2 hs1 hk1 hk2
                go_wp2_with fail
                go_still_tail 10, (by kernel_rfl)
                change wpList _ _ _ _ _ wr.drew
                go_wp2_with fail
                refine (HC.out _ (below_draws' wr)).mono ?_
                rintro e w5 ⟨rfl, b5⟩
                have BW := Lib.hid (HBJ.out.drew.trans (b5.mono HBJ.out.drew.size))
                clear b5 HC c3 d3
                cases qq with
                | false =>
                  go_wp2
                  go_ret
                  exact ⟨ret_bool (by rw [← HAJ.out, HE.out]; rfl), LL'.out.trans (BW.out.mono LL'.out.size)⟩
                | true =>
                  go_wp2
                  go_roundg (gk - 1)
                  case measure => omega
                  case rel => exact ⟨j + 1, by go_num, by omega, by omega, by have h2 := HAJ.out; rw [HE.out] at h2; simpa using h2, BW.out⟩
              · have c3 : wr.cell? ⟨w.heap.size, 3, none⟩ = some (.slice xb nb cb) := KAJ.out.cell 3
                go_wp2
                go_ret
                exact ⟨ret_bool (by rw [← HAJ.out, eqL_over a.buf b.buf j (by rw [← HNB.out]; exact hjl)]), LLJ.out⟩
      · have HBF : Hid (q = false) := Lib.hid (by rw [← HQ.out, decide_eq_false hl]; rfl)
        have hl2 : ((nr : Int) == (mr : Int)) = false ∨ ((nb : Int) == (mb : Int)) = false := by
          by_cases h1 : nr = mr
          · right; have : ¬ nb = mb := fun h => hl ⟨h1, h⟩
            simp; omega
          · left; simp; omega
        clear hl HQ
        rcases hl2 with h | h
        all_goals
          go_wp2
          all_goals
            go_ret
            exact ⟨ret_bool HBF.out.symm, LL.out⟩

end Go.Proofs.Ytmkgijedchpgcaa
