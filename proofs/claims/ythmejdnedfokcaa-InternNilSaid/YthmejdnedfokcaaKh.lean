/- Layer 13: the landed table: Get, At, Len, Slots. -/
import Derived.Test.YthmejdnedfokcaaKf
namespace Go.Proofs.Ythmejdnedfokcaa
set_option linter.unusedSimpArgs false
set_option linter.unusedVariables false
open Go.RowKit

attribute [local go_sem ↓] Go.wp_at_zero Go.wp_at_succ
set_option maxRecDepth 100000 in
set_option maxHeartbeats 4000000 in
theorem get_any {w : World} {t : Value} {L : List ByteArray} {F : Nat → Prop} (s : ByteArray) (ht : TBt w t L F) (hfw : Few L) (hs : s.size ≤ 300) :
    Calls Try.prog 12 #[t, .string s] w fun e w' => e = .returned (.tuple #[.int .i64 (getN L s), .bool (hasT L s)]) ∧ Below w.heap.size w w' := by
  obtain ⟨g, sl, n, vt, val, rfl, hb, hr, hn, hF⟩ := ht
  have hN := hfw.1
  have hge := slotsN_ge (n := L.length) (by omega)
  rw [← hn] at hge
  have HVL := Lib.hid (valid_yes g vt _ hb.bk)
  have HSL := Lib.hid fun (W : World) (hT : Tb W g sl n vt L val) => slot_any (w := W) s hT hr.bound (hr.room (by omega) _) hs (by omega)
  have HT := Lib.hid hb
  have HR := Lib.hid hr
  have HN := Lib.hid hN
  clear hb hr hn hF hfw hs hN hge
  go_enter Try.func12, Try.ntmps12
  go_wp2_with fail
  refine HVL.out.mono ?_
  rintro e w1 ⟨rfl, b1⟩
  have T1 := Lib.hid (HT.out.below b1)
  have B1 := Lib.hid b1
  have c2 := T1.out.cells.2.2
  have HLP : Hid (∀ (j : Nat), j < L.length → wrap64 (j : Int) = (j : Int)) := Lib.hid fun j hj => IntWalk.wrap64_in _ (by have := HN.out; omega)
  clear b1
  go_wp2_with fail
  go_region_law (go_simp; go_at_call 21; (refine Calls.mono (HSL.out _ (T1.out.below (below_drewN (Below.refl _ _) 1))) ?_); rintro e wn ⟨d, a, fd, rfl, bn⟩; have TN := Lib.hid ((T1.out.below (below_drewN (Below.refl _ _) 1)).below bn); have ON := Lib.hid (B1.out.trans (((below_drewN (Below.refl w1.heap.size w1) 1).trans (bn.mono (Nat.le_refl _))).mono B1.out.size)); have FD := Lib.hid fd; have hal := fd.al; have hal0 : (0 : Int) ≤ (a : Int) := Int.natCast_nonneg a; have hal1 : (a : Int) < (n : Int) := Int.ofNat_lt.2 hal; have c2n := TN.out.cells.2.2; have c3n := TN.out.slot hal)
  all_goals
    rcases HR.out.found FD.out with ⟨hq, hv⟩ | ⟨hq, hv⟩
    · have hj := HR.out.bound a _ FD.out.al hv
      have h64 := HLP.out _ hj
      obtain ⟨j, hjj⟩ : ∃ j, j = posT L s := ⟨_, rfl⟩
      rw [← hjj] at hv h64 hj
      have HG : Hid (getN L s = j) := Lib.hid (by unfold getN; rw [hq, hjj]; rfl)
      have HQ := Lib.hid hq
      rw [hv]
      have e3 : ((j : Int) + 1 == 0) = false := by rw [beq_eq_false_iff_ne]; omega
      unfold encV
      clear c3n c2n hv hq FD hal hal0 hal1 TN hj hjj
      go_wp2_with fail
      go_ret2
      exact ⟨by (show Ending.returned (.tuple #[.int .i64 (wrap64 j), .bool true]) = _); rw [h64, HG.out, HQ.out], ON.out⟩
    · have HG : Hid (getN L s = 0) := Lib.hid (by unfold getN; rw [hq]; rfl)
      have HQ := Lib.hid hq
      rw [hv]
      unfold encV
      clear c3n c2n hv hq FD hal hal0 hal1 TN
      go_wp2_with fail
      go_ret2
      exact ⟨by rw [HG.out, HQ.out]; rfl, ON.out⟩

set_option maxRecDepth 100000 in
set_option maxHeartbeats 4000000 in
theorem len_any {w : World} {t : Value} {L : List ByteArray} {F : Nat → Prop} (ht : TBt w t L F) :
    Calls Try.prog 14 #[t] w fun e w' => e = .returned (.int .i64 L.length) ∧ Below w.heap.size w w' := by
  obtain ⟨g, sl, n, vt, val, rfl, hb, hr, hn, hF⟩ := ht
  obtain ⟨ad, cap, rfl⟩ := hb.shape
  have HVL := Lib.hid (valid_yes g _ _ hb.bk)
  have HT := Lib.hid hb
  clear hb hr hn hF
  go_enter Try.func14, Try.ntmps14
  go_wp2_with fail
  refine HVL.out.mono ?_
  rintro e w1 ⟨rfl, b1⟩
  have T1 := HT.out.below b1
  have B1 := Lib.hid b1
  have c1 := T1.cells.2.1
  clear b1
  go_wp2_with fail
  go_ret
  exact ⟨rfl, B1.out⟩

set_option maxRecDepth 100000 in
set_option maxHeartbeats 4000000 in
theorem slots_any {w : World} {t : Value} {L : List ByteArray} {F : Nat → Prop} (ht : TBt w t L F) :
    Calls Try.prog 15 #[t] w fun e w' => e = .returned (.int .i64 (slotsN L.length)) ∧ Below w.heap.size w w' := by
  obtain ⟨g, sl, n, vt, val, rfl, hb, hr, hn, hF⟩ := ht
  have HVL := Lib.hid (valid_yes g _ _ hb.bk)
  have HT := Lib.hid hb
  rw [← hn]
  clear hb hr hn hF
  go_enter Try.func15, Try.ntmps15
  go_wp2_with fail
  refine HVL.out.mono ?_
  rintro e w1 ⟨rfl, b1⟩
  have T1 := HT.out.below b1
  have B1 := Lib.hid b1
  have c1 := T1.cells.2.2
  clear b1
  go_wp2_with fail
  go_ret
  exact ⟨rfl, B1.out⟩

set_option maxRecDepth 100000 in
set_option maxHeartbeats 4000000 in
theorem at_any {w : World} {t : Value} {L : List ByteArray} {F : Nat → Prop} (i : Int) (ht : TBt w t L F) :
    Calls Try.prog 18 #[t, .int .i64 i] w fun e w' => e = .returned (.tuple #[.string (atS L i), .bool (atB L i)]) ∧ Below w.heap.size w w' := by
  obtain ⟨g, sl, n, vt, val, rfl, hb, hr, hn, hF⟩ := ht
  obtain ⟨ad, cap, rfl⟩ := hb.shape
  have HVL := Lib.hid (valid_yes g _ _ hb.bk)
  have HT := Lib.hid hb
  obtain ⟨N, hN⟩ : ∃ N, N = L.length := ⟨_, rfl⟩
  rw [← hN] at HT
  have HN := Lib.hid hN
  clear hb hr hn hF hN
  go_enter Try.func18, Try.ntmps18
  go_wp2_with fail
  refine HVL.out.mono ?_
  rintro e w1 ⟨rfl, b1⟩
  have T1 := Lib.hid (HT.out.below b1)
  have B1 := Lib.hid b1
  have c1 := T1.out.cells.2.1
  clear b1
  by_cases h0 : i < 0
  · have hB : atB L i = false := decide_eq_false (by omega)
    have HS : Hid (atS L i = emptyT) := Lib.hid (by unfold atS; rw [hB]; rfl)
    have HB := Lib.hid hB
    clear hB
    go_wp2_with fail
    go_ret2
    exact ⟨by rw [HS.out, HB.out]; rfl, B1.out⟩
  · by_cases h1 : i < (N : Int)
    · obtain ⟨k, rfl⟩ : ∃ k : Nat, i = (k : Int) := ⟨i.toNat, by omega⟩
      have hk : k < L.length := by rw [← HN.out]; omega
      have hB : atB L k = true := decide_eq_true (by omega)
      obtain ⟨b, off, rfl, hbl, y⟩ := StrsD.at2 (strsD_of_own (by have := T1.out.own; rwa [HN.out] at this)) k hk
      have HS : Hid (atS L k = L[k]) := Lib.hid (by unfold atS; rw [hB, if_pos rfl, Int.toNat_natCast, List.getD_eq_getElem?_getD, List.getElem?_eq_getElem hk]; rfl)
      have HB := Lib.hid hB
      generalize L[k] = x at y HS
      have e1 : ¬ (N : Int) ≤ (k : Int) := by omega
      have e2 : (0 : Int) ≤ (k : Int) := by omega
      clear hB hk
      go_wp2_with fail
      go_ret2
      exact ⟨by rw [HS.out, HB.out]; rfl, B1.out⟩
    · have hB : atB L i = false := decide_eq_false (by rw [← HN.out]; omega)
      have HS : Hid (atS L i = emptyT) := Lib.hid (by unfold atS; rw [hB]; rfl)
      have HB := Lib.hid hB
      have e1 : (N : Int) ≤ i := by omega
      clear hB h1
      go_wp2_with fail
      go_ret2
      exact ⟨by rw [HS.out, HB.out]; rfl, B1.out⟩

end Go.Proofs.Ythmejdnedfokcaa
