/- Layer 13's law: known, by what a table's methods do. -/
import Derived.Test.YthmejdnedfokcaaJc
namespace Go.Proofs.Ythmejdnedfokcaa
set_option linter.unusedSimpArgs false
set_option linter.unusedVariables false
open Go.RowKit

theorem TabOK.below {TB : World → Value → List ByteArray → (Nat → Prop) → Prop} (H : TabOK TB) {w w' : World} {t : Value} {L : List ByteArray} {F : Nat → Prop} (h : TB w t L F) (hb : Below w.heap.size w w') : TB w' t L F :=
  H.frame h hb.size fun g hg => hb.block g (H.lt h g hg)
theorem few_small {L : List ByteArray} (h : L.length ≤ 3) (h2 : ∀ x ∈ L, x.size ≤ 1) : Few L := ⟨by omega, fun x hx => by have := h2 x hx; omega⟩

abbrev tA : ByteArray := ⟨#[97]⟩
abbrev tB : ByteArray := ⟨#[98]⟩
abbrev tC : ByteArray := ⟨#[99]⟩
theorem k1 : putL [] tA = [tA] ∧ putN [] tA = 0 ∧ hasT [] tA = false := by decide +kernel
theorem k2 : putL [tA] tB = [tA, tB] ∧ putN [tA] tB = 1 ∧ hasT [tA] tB = false := by decide +kernel
theorem k3 : putL [tA, tB] tA = [tA, tB] ∧ putN [tA, tB] tA = 0 ∧ hasT [tA, tB] tA = true := by decide +kernel
theorem k4 : getN [tA, tB] tB = 1 ∧ hasT [tA, tB] tB = true ∧ hasT [tA, tB] tC = false := by decide +kernel
theorem k5 : atS [tA, tB] 1 = tB ∧ atB [tA, tB] 1 = true ∧ slotsN 2 = 16 := by decide +kernel
theorem few0 : Few [] := few_small (by decide) (by simp)
theorem few1 : Few [tA] := few_small (by decide) (by decide)
theorem few2 : Few [tA, tB] := few_small (by decide) (by decide)

attribute [local go_sem ↓] Go.wp_at_zero Go.wp_at_succ
set_option maxRecDepth 100000 in
set_option maxHeartbeats 8000000 in
theorem known13_in {TB : World → Value → List ByteArray → (Nat → Prop) → Prop} (H0 : TabOK TB) (w : World) :
    Calls Try.prog 8 #[] w fun e w' => e = .returned (.bool true) ∧ Below w.heap.size w w' := by
  have H := Lib.hid H0
  clear H0
  go_enter Try.func8, Try.ntmps8
  go_wp2_with fail
  refine (H.out.new w).mono ?_
  rintro e w1 ⟨a, F0, rfl, t1, hF0, b1⟩
  have T1 := Lib.hid t1
  have HF := Lib.hid hF0
  have B := Lib.hid b1
  clear t1 hF0 b1
  go_wp2_with fail
  refine (H.out.put tA T1.out few0 (by decide)).mono ?_
  rw [k1.1, k1.2.1, k1.2.2]
  rintro e w2 ⟨rfl, F1, t2, hF1, o2⟩
  have T2 := Lib.hid t2
  have HF1 : Hid (∀ g, F1 g → w.heap.size ≤ g) := Lib.hid (fun g hg => (hF1 g hg).elim (HF.out g) (fun h => Nat.le_trans B.out.size h))
  replace B := Lib.hid (B.out.trans (o2.below HF.out B.out.size))
  clear T1 HF t2 hF1 o2
  go_wp2_with fail
  refine (H.out.put tB T2.out few1 (by decide)).mono ?_
  rw [k2.1, k2.2.1, k2.2.2]
  rintro e w3 ⟨rfl, F2, t3, hF2, o3⟩
  have T3 := Lib.hid t3
  have HF2 : Hid (∀ g, F2 g → w.heap.size ≤ g) := Lib.hid (fun g hg => (hF2 g hg).elim (HF1.out g) (fun h => Nat.le_trans B.out.size h))
  replace B := Lib.hid (B.out.trans (o3.below HF1.out B.out.size))
  clear T2 HF1 t3 hF2 o3
  go_wp2_with fail
  refine (H.out.put tA T3.out few2 (by decide)).mono ?_
  rw [k3.1, k3.2.1, k3.2.2]
  rintro e w4 ⟨rfl, F3, t4, hF3, o4⟩
  have T4 := Lib.hid t4
  replace B := Lib.hid (B.out.trans (o4.below HF2.out B.out.size))
  clear T3 HF2 t4 hF3 o4
  go_wp2_with fail
  refine (H.out.get tB T4.out few2 (by decide)).mono ?_
  rw [k4.1, k4.2.1]
  rintro e w5 ⟨rfl, b⟩
  replace T4 := Lib.hid (H.out.below T4.out b)
  replace B := Lib.hid (B.out.trans (b.mono B.out.size))
  clear b
  go_wp2_with fail
  refine (H.out.get tC T4.out few2 (by decide)).mono ?_
  rw [k4.2.2]
  generalize (getN [tA, tB] tC : Int) = gc
  rintro e w6 ⟨rfl, b⟩
  replace T4 := Lib.hid (H.out.below T4.out b)
  replace B := Lib.hid (B.out.trans (b.mono B.out.size))
  clear b
  go_wp2_with fail
  refine (H.out.at' 1 T4.out few2).mono ?_
  rw [k5.1, k5.2.1]
  rintro e w7 ⟨rfl, b⟩
  replace T4 := Lib.hid (H.out.below T4.out b)
  replace B := Lib.hid (B.out.trans (b.mono B.out.size))
  clear b
  go_wp2_with fail
  refine (H.out.len T4.out few2).mono ?_
  rintro e w8 ⟨rfl, b⟩
  replace T4 := Lib.hid (H.out.below T4.out b)
  replace B := Lib.hid (B.out.trans (b.mono B.out.size))
  clear b
  go_wp2_with fail
  refine (H.out.slots T4.out few2).mono ?_
  rw [show slotsN ([tA, tB] : List ByteArray).length = 16 from k5.2.2]
  rintro e w9 ⟨rfl, b⟩
  replace T4 := Lib.hid (H.out.below T4.out b)
  replace B := Lib.hid (B.out.trans (b.mono B.out.size))
  clear b
  go_wp2_with fail
  refine (H.out.all T4.out few2).mono ?_
  rintro e wa ⟨v, rfl, ho, b⟩
  obtain ⟨ad, cap, rfl, _⟩ := OwnT.shape ho
  replace B := Lib.hid (B.out.trans (b.mono B.out.size))
  clear b ho
  go_wp2_with fail
  go_ret
  exact ⟨rfl, B.out⟩

end Go.Proofs.Ythmejdnedfokcaa
