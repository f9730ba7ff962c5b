/- Layer 9: the reference's Final. -/
import Derived.Test.YtdklcjgoomdhkaaUq
namespace Go.Proofs.Ytdklcjgoomdhkaa
set_option linter.unusedSimpArgs false
set_option linter.unusedVariables false
open Go.RowKit

def finF (u : Un) (c : Cf) : Nat → Nat → Bool
  | 0, _ => true
  | f + 1, k => endedC u c k && finF u c f (k + 1)
def finalC (u : Un) (c : Cf) : Bool := finF u c u.code.length 0 && quietC c
theorem finF_at (u : Un) (c : Cf) (n k : Nat) (h : k < n) : finF u c (n - k) k = (endedC u c k && finF u c (n - (k + 1)) (k + 1)) := by
  obtain ⟨f, hf⟩ : ∃ f, n - k = f + 1 := ⟨n - k - 1, by omega⟩
  rw [hf, show n - (k + 1) = f by omega]; rfl

set_option maxRecDepth 100000 in
set_option maxHeartbeats 4000000 in
theorem final_any (u : Un) (c : Cf) (vi vr vc ap ar am ab : Value) (w : World) (hu : UnD w vi vr vc u) (hc : CfD w ap ar am ab c) (hn : u.code.length ≤ 100000) (hb : c.buf.length ≤ 100000) (q : Bool) (hq : finalC u c = q) :
    Calls Try.prog 18 #[.agg #[.int .i64 u.mod, vi, vr, vc], .agg #[ap, ar, am, ab]] w fun e w' => e = .returned (.bool q) ∧ Below w.heap.size w w' := by
  have HED := Lib.hid (fun (t : Int) (W : World) (h : Below w.heap.size w W) => ended_any u c t vi vr vc ap ar am ab W (hu.below h) (hc.below h) _ rfl)
  have HQU := Lib.hid (fun (W : World) (h : Below w.heap.size w W) => quiet_any c ap ar am ab W (hc.below h) hb _ rfl)
  have HQ0 : Hid ((finF u c (u.code.length - 0) 0 && quietC c) = q) := Lib.hid hq
  generalize quietC c = qz at HQU HQ0
  obtain ⟨xi, ci, rfl⟩ := hu.i.shape0
  obtain ⟨xr, cr, rfl⟩ := hu.r.shape0
  obtain ⟨xc, cc, rfl⟩ := hu.c.shape0
  obtain ⟨yp, dp, rfl⟩ := hc.p.shape0
  obtain ⟨yr, dr, rfl⟩ := hc.r.shape0
  obtain ⟨ym, dm, rfl⟩ := hc.m.shape0
  obtain ⟨yb, db, rfl⟩ := hc.b.shape0
  generalize u.mod = m at HED ⊢
  generalize u.code.length = nc at HED hn HQ0 ⊢
  generalize u.init.length = ni at HED ⊢
  generalize u.regs.length = nr at HED ⊢
  generalize c.pc.length = np at HED HQU ⊢
  generalize c.regs.length = mr at HED HQU ⊢
  generalize c.mem.length = mm at HED HQU ⊢
  generalize c.buf.length = mb at HED HQU hb ⊢
  have T2 := Lib.hid (two_new w 25 31 #[.int .i64 m, .slice xi ni ci, .slice xr nr cr, .slice xc nc cc] #[.slice yp np dp, .slice yr mr dr, .slice ym mm dm, .slice yb mb db])
  clear hu hc hq hb
  obtain ⟨L0, KA0, KB0⟩ := T2.out
  have LL := Lib.hid L0
  have KA := Lib.hid KA0
  have KB := Lib.hid KB0
  clear L0 KA0 KB0 T2
  go_enter Try.func18, Try.ntmps18
  go_wp2_with fail
  generalize (w.alloc _).alloc _ = w0 at LL KA KB ⊢
  go_loopg [5] nc (fun fuel i' wr => ∃ (k : Nat), i' = .int .i64 k ∧ k ≤ nc ∧ nc - k ≤ fuel ∧ (finF u c (nc - k) k && qz) = q ∧ Below w0.heap.size w0 wr)
  case atStart => exact ⟨0, rfl, Nat.zero_le _, Nat.le_refl _, HQ0.out, Below.refl _ _⟩
  case round =>
    obtain ⟨k, rfl, hk, hf, ha, hb⟩ := hrel
    have HA := Lib.hid ha
    have HB := Lib.hid hb
    have KAR := Lib.hid (KA.out.below hb)
    have KBR := Lib.hid (KB.out.below hb)
    have LR := Lib.hid (LL.out.trans (hb.mono LL.out.size))
    clear ha hb
    have c0 : wr.cell? ⟨w.heap.size, 0, none⟩ = some (.int .i64 m) := KAR.out.cell 0
    have c1 : wr.cell? ⟨w.heap.size, 1, none⟩ = some (.slice xi ni ci) := KAR.out.cell 1
    have c2 : wr.cell? ⟨w.heap.size, 2, none⟩ = some (.slice xr nr cr) := KAR.out.cell 2
    have c3 : wr.cell? ⟨w.heap.size, 3, none⟩ = some (.slice xc nc cc) := KAR.out.cell 3
    have d0 : wr.cell? ⟨w.heap.size + 1, 0, none⟩ = some (.slice yp np dp) := KBR.out.cell 0
    have d1 : wr.cell? ⟨w.heap.size + 1, 1, none⟩ = some (.slice yr mr dr) := KBR.out.cell 1
    have d2 : wr.cell? ⟨w.heap.size + 1, 2, none⟩ = some (.slice ym mm dm) := KBR.out.cell 2
    have d3 : wr.cell? ⟨w.heap.size + 1, 3, none⟩ = some (.slice yb mb db) := KBR.out.cell 3
    have l1 := KAR.out.lt
    have l2 := KBR.out.lt
    by_cases hlt : k < nc
    · have HE := Lib.hid (finF_at u c nc k hlt)
      have HEK := Lib.hid (HED.out (k : Int))
      generalize endedC u c (k : Int) = qe at HE HEK
      cases qe with
      | false =>
        go_wp2_with fail
        refine (HEK.out _ LR.out).mono ?_
        rintro e w5 ⟨rfl, b5⟩
        go_wp2
        go_ret
        exact ⟨ret_bool (by rw [← HA.out, HE.out]; rfl), LR.out.trans (b5.mono LR.out.size)⟩
      | true =>
        go_wp2_with fail
        refine (HEK.out _ LR.out).mono ?_
        rintro e w5 ⟨rfl, b5⟩
        go_wp2
        go_roundg (gk - 1)
        case measure => omega
        case rel => exact ⟨k + 1, by go_num, by omega, by omega, by have h2 := HA.out; rw [HE.out] at h2; simpa using h2, HB.out.trans (b5.mono HB.out.size)⟩
    · have hkn : k = nc := by omega
      have HZ : Hid (qz = q) := Lib.hid (by have h2 := HA.out; rw [hkn, Nat.sub_self] at h2; exact h2)
      clear hkn
      go_wp2_with fail
      refine (HQU.out _ LR.out).mono ?_
      rintro e w5 ⟨rfl, b5⟩
      go_wp2
      go_ret
      exact ⟨ret_bool HZ.out, LR.out.trans (b5.mono LR.out.size)⟩

end Go.Proofs.Ytdklcjgoomdhkaa
