/- Layer 12, the code: how many bytes. -/
import Derived.Test.YtmkgijedchpgcaaEg
namespace Go.Proofs.Ytmkgijedchpgcaa
set_option linter.unusedSimpArgs false
set_option linter.unusedVariables false
open Go.RowKit

set_option maxRecDepth 100000 in
set_option maxHeartbeats 4000000 in
theorem psize_any (c : Cf) (xp xr xm xb : Value) (w : World) (hc : CfD w xp xr xm xb c) (hs : ShortC c) :
    Calls Try.prog 12 #[.agg #[xp, xr, xm, xb]] w fun e w' => e = .returned (.int .i64 (sizeP c.pf)) ∧ Below w.heap.size w w' := by
  have HS := Lib.hid hs
  have HC := Lib.hid hc
  have hp := hs.p
  have hr := hs.r
  have hm := hs.m
  have hb := hs.b
  have HR : Hid (∀ k, k < c.regs.length → regF c k ≤ 100000) := Lib.hid (fun k hk => by unfold regF; rw [List.getD_eq_getElem?_getD, List.getElem?_eq_getElem hk]; exact hs.rr _ (List.getElem_mem hk))
  have HB : Hid (∀ k, k < c.buf.length → bufF c k ≤ 200000) := Lib.hid (fun k hk => by unfold bufF; rw [List.getD_eq_getElem?_getD, List.getElem?_eq_getElem hk]; have := hs.bb _ (List.getElem_mem hk); show 2 * _ ≤ _; simp only [Option.getD_some]; omega)
  have HRS := Lib.hid (sumF_le (regF c) 100000 c.regs.length HR.out)
  have HBS := Lib.hid (sumF_le (bufF c) 200000 c.buf.length HB.out)
  have HRM := Lib.hid (fun k hk => sumF_mono (regF c) c.regs.length k hk)
  have HBM := Lib.hid (fun k hk => sumF_mono (bufF c) c.buf.length k hk)
  rw [size_cf]
  obtain ⟨ap, cp, rfl⟩ := hc.p.shape0
  obtain ⟨ar, cr, rfl⟩ := hc.r.shape0
  obtain ⟨am, cm, rfl⟩ := hc.m.shape0
  obtain ⟨ab, cb, rfl⟩ := hc.b.shape0
  have HRA := Lib.hid (fun (W : World) (h : Below w.heap.size w W) (k : Nat) (hk : k < c.regs.length) => AllD.at2 (hc.below h).r k hk)
  have HBA := Lib.hid (fun (W : World) (h : Below w.heap.size w W) (k : Nat) (hk : k < c.buf.length) => BufsD.at2 (hc.below h).b k hk)
  have HRL : Hid (∀ k (hk : k < c.regs.length), (c.regs[k]).1.length = regF c k) := Lib.hid (fun k hk => by unfold regF; rw [List.getD_eq_getElem?_getD, List.getElem?_eq_getElem hk]; rfl)
  have HBL : Hid (∀ k (hk : k < c.buf.length), 2 * (c.buf[k]).1.length = bufF c k) := Lib.hid (fun k hk => by unfold bufF; rw [List.getD_eq_getElem?_getD, List.getElem?_eq_getElem hk]; rfl)
  clear hs hc
  have K := Lib.hid (Bk.new w 29 #[.slice ap c.pc.length cp, .slice ar c.regs.length cr, .slice am c.mem.length cm, .slice ab c.buf.length cb])
  have B : Hid (Below w.heap.size w (World.alloc w (.cells #[.slice ap c.pc.length cp, .slice ar c.regs.length cr, .slice am c.mem.length cm, .slice ab c.buf.length cb] 29))) := Lib.hid (bal (Below.refl _ _) _)
  obtain ⟨np, hnp⟩ : ∃ n, n = c.pc.length := ⟨_, rfl⟩
  obtain ⟨nr, hnr⟩ : ∃ n, n = c.regs.length := ⟨_, rfl⟩
  obtain ⟨nm, hnm⟩ : ∃ n, n = c.mem.length := ⟨_, rfl⟩
  obtain ⟨nb, hnb⟩ : ∃ n, n = c.buf.length := ⟨_, rfl⟩
  rw [← hnp, ← hnr, ← hnm, ← hnb] at K B ⊢
  rw [← hnr] at HRS HRM hr
  rw [← hnb] at HBS HBM hb
  rw [← hnp] at hp
  rw [← hnm] at hm
  replace hnp := Lib.hid hnp
  replace hnr := Lib.hid hnr
  replace hnm := Lib.hid hnm
  replace hnb := Lib.hid hnb
  clear HS HC HR HB
  have hb9 : nr * 100000 ≤ 10000000000 ∧ nb * 200000 ≤ 20000000000 := by omega
  have hRS := HRS.out
  have hBS := HBS.out
  have wp1 : IntKind.i64.wrap (3 * (np : Int)) = 3 * (np : Int) := IntWalk.i64_in _ (by omega)
  have wp2 : IntKind.i64.wrap (3 * (np : Int) + (nm : Int)) = 3 * (np : Int) + (nm : Int) := IntWalk.i64_in _ (by omega)
  obtain ⟨base, hbase⟩ : ∃ z : Nat, z = 3 * np + nm := ⟨_, rfl⟩
  have ebase : 3 * (np : Int) + (nm : Int) = (base : Int) := by omega
  have hbl : base ≤ 400000 := by omega
  rw [ebase] at wp2
  replace wp2 : IntKind.i64.wrap (3 * (np : Int) + (nm : Int)) = (base : Int) := by rw [ebase]; exact wp2
  replace ebase := Lib.hid ebase
  replace hbase := Lib.hid hbase
  rw [show 3 * np + nm = base from hbase.out.symm]
  go_enter Try.func12, Try.ntmps12
  go_wp2_with fail
  generalize World.alloc w _ = w1 at K B ⊢

  go_loopg [3, 19] nr (fun fuel s' i' wr => ∃ (k : Nat), i' = .int .i64 k ∧ k ≤ nr ∧ nr - k ≤ fuel ∧ s' = .int .i64 ((base + sumF (regF c) k : Nat) : Int) ∧ wr = w1)
  case atStart => exact ⟨0, rfl, Nat.zero_le _, Nat.le_refl _, rfl, rfl⟩
  case round =>
    obtain ⟨k, rfl, hk, hf, rfl, rfl⟩ := hrel
    obtain ⟨c0, c1, c2, c3, cl⟩ : wr.cell? ⟨w.heap.size, 0, none⟩ = some (.slice ap np cp) ∧ wr.cell? ⟨w.heap.size, 1, none⟩ = some (.slice ar nr cr) ∧ wr.cell? ⟨w.heap.size, 2, none⟩ = some (.slice am nm cm) ∧ wr.cell? ⟨w.heap.size, 3, none⟩ = some (.slice ab nb cb) ∧ w.heap.size < wr.heap.size := ⟨K.out.cell 0, K.out.cell 1, K.out.cell 2, K.out.cell 3, K.out.lt⟩
    have hm1 := HRM.out k hk
    by_cases hlt : k < nr
    · have hlt' : k < c.regs.length := by rw [← hnr.out]; exact hlt
      obtain ⟨b1, o1, a1, m1, rfl, l1, y1, _⟩ := HRA.out wr B.out k hlt'
      rw [HRL.out k hlt'] at y1
      have hm2 := HRM.out (k + 1) (by omega)
      have hs2 : sumF (regF c) (k + 1) = sumF (regF c) k + regF c k := rfl
      generalize hL : regF c k = L at y1 hs2
      replace hL := Lib.hid hL
      generalize sumF (regF c) (k + 1) = S2 at hm2 hs2
      subst hs2
      have wr1 : IntKind.i64.wrap (((base + sumF (regF c) k : Nat) : Int) + (L : Int)) = ((base + (sumF (regF c) k + L) : Nat) : Int) := by rw [IntWalk.i64_in _ (by omega)]; omega
      have e1 : (0 : Int) ≤ (k : Int) := by omega
      have e2 : (k : Int) < (nr : Int) := by omega
      go_wp2_with fail
      go_roundg (gk - 1)
      case measure => omega
      case rel => exact ⟨k + 1, by go_num, by omega, by omega, congrArg _ (by show _ = ((base + (sumF (regF c) k + regF c k) : Nat) : Int); rw [hL.out]; omega), rfl⟩
    · obtain rfl : k = nr := by omega
      clear hlt hf hk hm1
      go_wp2_with fail
      obtain ⟨base2, hbase2⟩ : ∃ z : Nat, z = base + sumF (regF c) k := ⟨_, rfl⟩
      rw [← hbase2]
      have hbl2 : base2 ≤ 10000400000 := by omega
      clear c0 c1 c2 c3 cl
      go_loopg [3, 31] nb (fun fuel s' i' wr2 => ∃ (j : Nat), i' = .int .i64 j ∧ j ≤ nb ∧ nb - j ≤ fuel ∧ s' = .int .i64 ((base2 + sumF (bufF c) j : Nat) : Int) ∧ wr2 = wr)
      case atStart => exact ⟨0, rfl, Nat.zero_le _, Nat.le_refl _, rfl, rfl⟩
      case round =>
        obtain ⟨j, rfl, hj, hf, rfl, rfl⟩ := hrel
        obtain ⟨c0, c1, c2, c3, cl⟩ : wr.cell? ⟨w.heap.size, 0, none⟩ = some (.slice ap np cp) ∧ wr.cell? ⟨w.heap.size, 1, none⟩ = some (.slice ar k cr) ∧ wr.cell? ⟨w.heap.size, 2, none⟩ = some (.slice am nm cm) ∧ wr.cell? ⟨w.heap.size, 3, none⟩ = some (.slice ab nb cb) ∧ w.heap.size < wr.heap.size := ⟨K.out.cell 0, K.out.cell 1, K.out.cell 2, K.out.cell 3, K.out.lt⟩
        have hm1 := HBM.out j hj
        by_cases hlt : j < nb
        · have hlt' : j < c.buf.length := by rw [← hnb.out]; exact hlt
          obtain ⟨b1, o1, a1, m1, rfl, l1, y1, _⟩ := HBA.out wr B.out j hlt'
          have hbe := HBL.out j hlt'
          generalize (c.buf[j]).1.length = L at y1 hbe
          have hm2 := HBM.out (j + 1) (by omega)
          have hs2 : sumF (bufF c) (j + 1) = sumF (bufF c) j + bufF c j := rfl
          rw [← hbe] at hs2
          have HBE := Lib.hid hbe
          clear hbe
          generalize sumF (bufF c) (j + 1) = S2 at hm2 hs2
          subst hs2
          have wr0 : IntKind.i64.wrap (2 * (L : Int)) = 2 * (L : Int) := IntWalk.i64_in _ (by omega)
          have wr1 : IntKind.i64.wrap (((base2 + sumF (bufF c) j : Nat) : Int) + 2 * (L : Int)) = ((base2 + (sumF (bufF c) j + 2 * L) : Nat) : Int) := by rw [IntWalk.i64_in _ (by omega)]; omega
          have e1 : (0 : Int) ≤ (j : Int) := by omega
          have e2 : (j : Int) < (nb : Int) := by omega
          replace hbase2 := Lib.hid hbase2
          go_wp2_with fail
          go_roundg (gk - 1)
          case measure => omega
          case rel => exact ⟨j + 1, by go_num, by omega, by omega, congrArg _ (by show _ = ((base2 + (sumF (bufF c) j + bufF c j) : Nat) : Int); rw [← HBE.out]; have := hbase2.out; omega), rfl⟩
        · obtain rfl : j = nb := by omega
          go_wp2_with fail
          go_ret
          exact ⟨ret_int (by rw [hbase2]), B.out⟩

end Go.Proofs.Ytmkgijedchpgcaa
