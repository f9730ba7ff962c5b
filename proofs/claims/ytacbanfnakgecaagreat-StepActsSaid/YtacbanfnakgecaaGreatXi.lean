/- Layer 6: code.Value. -/
import Derived.Test.YtacbanfnakgecaaGreatXh
namespace Go.Proofs.YtacbanfnakgecaaGreat
set_option linter.unusedSimpArgs false
set_option linter.unusedVariables false
open Go.RowKit

theorem lenI_of {rs : List (List Int × Value)} {all : List (List Int)} (h : rs.map (·.1) = all) : lenI rs = all.map fun x => (x.length : Int) := by
  rw [← h, List.map_map]; rfl

theorem valO_no {l : List Opn} {s : Nbs} (h : (rightN s && rightO l (s.all.map fun x => (x.length : Int)) s.own.length s.mem.length) = false) : valO l s = (0, false) := by
  unfold valO; rw [h]; rfl
theorem valO_yes {l : List Opn} {s : Nbs} (h : (rightN s && rightO l (s.all.map fun x => (x.length : Int)) s.own.length s.mem.length) = true) : valO l s = ((runO s l []).getD 0 0, true) := by
  unfold valO; rw [h]; rfl

theorem intV_flat (l : List Int) : intV l = l.flatMap fun x => [Value.int .i64 x] := by
  induction l with
  | nil => rfl
  | cons a r ih => simp only [intV, List.map_cons, List.flatMap_cons, List.singleton_append] at ih ⊢; rw [ih]
theorem intsD_intV {w : World} {B : Nat} {v : Value} {l : List Int} (h : w.ownsRow B 3 1 v l.length (intV l)) : IntsD w v l := by
  rw [intV_flat] at h
  exact intsD_of_own h

theorem lengths_ints (rs : List (List Int × Value)) (v : Value) (w : World) (hv : AllD w v rs) (hn : rs.length ≤ 100000) (hn2 : ∀ x ∈ rs, x.1.length ≤ 100000) :
    Calls Tryz.prog 127 #[v] w fun e w' => ∃ z, e = .returned z ∧ IntsD w' z (lenI rs) ∧ Below w.heap.size w w' := by
  refine (lengths_any rs v w hv hn hn2).mono ?_
  rintro e w' ⟨z, h1, h2, h3⟩
  rw [show rs.length = (lenI rs).length by simp [lenI]] at h2
  exact ⟨z, h1, intsD_intV h2, h3⟩

set_option maxRecDepth 100000 in
set_option maxHeartbeats 4000000 in
theorem value_code (l : List Opn) (s : Nbs) (rs : List (List Int × Value)) (ov av mv v : Value) (w : World) (hd : NbD w ov av mv rs s) (hv : OpsD w v l) (hn : l.length ≤ 100000) (z : Int) (b : Bool) (hz : valO l s = (z, b)) :
    Calls Tryz.prog 118 #[v, .int .i64 s.mod, ov, av, mv] w fun e w' => e = .returned (.tuple #[.int .i64 z, .bool b]) ∧ Below w.heap.size w w' := by
  have HD := Lib.hid hd
  have HV := Lib.hid hv
  have HZ := Lib.hid hz
  obtain ⟨q1, hq1⟩ : ∃ q, rightN s = q := ⟨_, rfl⟩
  obtain ⟨q2, hq2⟩ : ∃ q, rightO l (lenI rs) s.own.length s.mem.length = q := ⟨_, rfl⟩
  have HNR := Lib.hid (fun (W : World) (h : Below w.heap.size w W) => vright_any s rs ov av mv W (hd.below h) q1 hq1)
  have HLE := Lib.hid (fun (W : World) (h : Below w.heap.size w W) => lengths_ints rs av W (AllD.below hd.a h) hd.la hd.lr)
  have HRC := Lib.hid (fun (W : World) (h : Below w.heap.size w W) (rv : Value) (hr : IntsD W rv (lenI rs)) => right_code l (lenI rs) v rv s.own.length s.mem.length W (OpsD.below hv h) hr hn q2 hq2)
  have HVA := Lib.hid (fun (W : World) (h : Below w.heap.size w W) (h1 : rightN s = true) (h2 : rightO l (lenI rs) s.own.length s.mem.length = true) (y : Int) (hy : (runO s l []).getD 0 0 = y) => cvalue_any s rs ov av mv l v W (hd.below h) (OpsD.below hv h) hn h1 h2 y hy)
  have HQ1 := Lib.hid hq1
  have HQ2 := Lib.hid hq2
  have HLI := Lib.hid (lenI_of hd.e)
  have hlo := hd.lo
  have hlm := hd.lm
  obtain ⟨m, hM⟩ : ∃ m, m = s.mod := ⟨_, rfl⟩
  rw [← hM] at HNR HVA ⊢
  obtain ⟨ad, cap, rfl⟩ := hv.shape0
  obtain ⟨ado, capo, hov⟩ := hd.o.shape0
  obtain ⟨ada, capa, hav⟩ := hd.a.shape0
  obtain ⟨adm, capm, hmv⟩ := hd.m.shape0
  obtain ⟨no, hno⟩ : ∃ n, n = s.own.length := ⟨_, rfl⟩
  obtain ⟨nm, hnm⟩ : ∃ n, n = s.mem.length := ⟨_, rfl⟩
  rw [← hno] at hov HRC hlo
  rw [← hnm] at hmv HRC hlm
  generalize rs.length = na at hav HLE
  subst hov hav hmv
  generalize l.length = n at HV HNR HLE HRC HVA ⊢
  have KB := Lib.hid (Bk.new w 147 #[.int .i64 m, .slice ado no capo, .slice ada na capa, .slice adm nm capm])
  have BB : Hid (Below w.heap.size w (w.alloc (.cells #[.int .i64 m, .slice ado no capo, .slice ada na capa, .slice adm nm capm] 147))) := (Below.refl _ _).alloc (Nat.le_refl _) _
  clear hd hv hn hz hq1 hq2 hM hno hnm
  cases q1 with
  | false =>
    go_enter Tryz.func118, Tryz.ntmps118
    go_wp2_with fail
    refine (HNR.out _ BB.out).mono ?_
    rintro e w2 ⟨rfl, b2⟩
    have B2 := Lib.hid (BB.out.trans (b2.mono BB.out.size))
    clear b2
    go_wp2
    have hz := HZ.out
    rw [valO_no (by rw [HQ1.out]; rfl)] at hz
    obtain ⟨rfl, rfl⟩ := Prod.mk.inj hz
    go_ret2
    exact ⟨rfl, B2.out⟩
  | true =>
    go_enter Tryz.func118, Tryz.ntmps118
    go_wp2_with fail
    refine (HNR.out _ BB.out).mono ?_
    rintro e w2 ⟨rfl, b2⟩
    have B2 := Lib.hid (BB.out.trans (b2.mono BB.out.size))
    have K2 := Lib.hid (KB.out.below b2)
    clear b2
    go_wp2_with fail
    refine (HLE.out _ B2.out).mono ?_
    rintro e w3 ⟨y3, rfl, o3, b3⟩
    have B3 := Lib.hid (B2.out.trans (b3.mono B2.out.size))
    have K3 := Lib.hid (K2.out.below b3)
    obtain ⟨ad3, cap3, rfl⟩ := o3.shape0
    have HR3 := Lib.hid (HRC.out _ B3.out _ o3)
    generalize (lenI rs).length = n3 at HR3 ⊢
    clear b3 o3
    go_wp2_with fail
    refine HR3.out.mono ?_
    rintro e w4 ⟨rfl, b4⟩
    have B4 := Lib.hid (B3.out.trans (b4.mono B3.out.size))
    have K4 := K3.out.below b4
    have hz := HZ.out
    clear b4 HR3
    cases q2 with
    | false =>
      rw [valO_no (by rw [HQ1.out, ← HLI.out, HQ2.out]; rfl)] at hz
      obtain ⟨rfl, rfl⟩ := Prod.mk.inj hz
      clear K4
      go_wp2
      go_ret2
      exact ⟨rfl, B4.out⟩
    | true =>
      rw [valO_yes (by rw [HQ1.out, ← HLI.out, HQ2.out]; rfl)] at hz
      obtain ⟨hz1, rfl⟩ := Prod.mk.inj hz
      have HV4 := Lib.hid (HVA.out _ B4.out HQ1.out HQ2.out z hz1)
      have d0 := K4.cell 0
      have d1 := K4.cell 1
      have d2 := K4.cell 2
      have d3 := K4.cell 3
      have dl := K4.lt
      clear K4 hz hz1
      go_wp2_with fail
      refine HV4.out.mono ?_
      rintro e w5 ⟨rfl, b5⟩
      go_wp2
      go_ret2
      exact ⟨rfl, B4.out.trans (b5.mono B4.out.size)⟩

end Go.Proofs.YtacbanfnakgecaaGreat
