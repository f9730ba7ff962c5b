/- Layer 7: the reference's Right of one instruction. -/
import Derived.Test.YtmkgijedchpgcaaUi
namespace Go.Proofs.Ytmkgijedchpgcaa
set_option linter.unusedSimpArgs false
set_option linter.unusedVariables false
open Go.RowKit

set_option maxRecDepth 100000 in
set_option maxHeartbeats 8000000 in
theorem one_core (op reg loc to own locs n : Int) (ne : Bool) (ae af : Option Addr) (ne1 nf1 ce cf : Nat) (P : ByteArray) (h1 h2 h3 h4 h5 h6 b1 b2 b3 b4 b5 b : Bool) (w : World) (hcm : cmbB h1 h2 h3 h4 h5 h6 = true)
    (HP : Hid (∀ W : World, Calls Try.prog 53 #[.int .i64 op] W fun e w' => e = .returned (.tuple #[.string P, .bool true]) ∧ W = w'))
    (HR : Hid (∀ W : World, Calls Try.prog 54 #[.string P, .int .u8 114] W fun e w' => e = .returned (.bool h1) ∧ W = w'))
    (HL : Hid (∀ W : World, Calls Try.prog 54 #[.string P, .int .u8 108] W fun e w' => e = .returned (.bool h2) ∧ W = w'))
    (HE : Hid (∀ W : World, Calls Try.prog 54 #[.string P, .int .u8 101] W fun e w' => e = .returned (.bool h3) ∧ W = w'))
    (HF : Hid (∀ W : World, Calls Try.prog 54 #[.string P, .int .u8 102] W fun e w' => e = .returned (.bool h4) ∧ W = w'))
    (HN : Hid (∀ W : World, Calls Try.prog 54 #[.string P, .int .u8 110] W fun e w' => e = .returned (.bool h5) ∧ W = w'))
    (HT : Hid (∀ W : World, Calls Try.prog 54 #[.string P, .int .u8 116] W fun e w' => e = .returned (.bool h6) ∧ W = w'))
    (I1 : h1 = true → ∀ W : World, Calls Try.prog 55 #[.int .i64 reg, .int .i64 own] W fun e w' => e = .returned (.bool b1) ∧ W = w')
    (I2 : h2 = true → ∀ W : World, Calls Try.prog 55 #[.int .i64 loc, .int .i64 locs] W fun e w' => e = .returned (.bool b2) ∧ W = w')
    (I3 : h6 = true → ∀ W : World, Calls Try.prog 55 #[.int .i64 to, .int .i64 n] W fun e w' => e = .returned (.bool b3) ∧ W = w')
    (Z1 : h1 = false → (b1 = true ↔ reg = 0)) (Z2 : h2 = false → (b2 = true ↔ loc = 0)) (Z3 : h6 = false → (b3 = true ↔ to = 0))
    (C4 : h3 = true → ∀ W : World, Below w.heap.size w W → Calls Try.prog 56 #[.slice ae ne1 ce, .slice none 0 0, .int .i64 own, .int .i64 0] W fun e w' => e = .returned (.bool b4) ∧ Below W.heap.size W w')
    (C5 : h4 = true → ∀ W : World, Below w.heap.size w W → Calls Try.prog 56 #[.slice af nf1 cf, .slice none 0 0, .int .i64 own, .int .i64 0] W fun e w' => e = .returned (.bool b5) ∧ Below W.heap.size W w')
    (Y4 : h3 = false → (b4 = true ↔ ne1 = 0)) (Y5 : h4 = false → (b5 = true ↔ nf1 = 0))
    (HBB : Hid ((b1 && (b2 && (b3 && (b4 && (b5 && (h5 || !ne)))))) = b)) :
    Calls Try.prog 41 #[.agg #[.int .i64 op, .int .i64 reg, .int .i64 loc, .slice ae ne1 ce, .slice af nf1 cf, .bool ne, .int .i64 to], .int .i64 own, .int .i64 locs, .int .i64 n] w fun e w' => e = .returned (.bool b) ∧ Below w.heap.size w w' := by
  have K1 := Lib.hid (Bk.new w 53 #[.int .i64 op, .int .i64 reg, .int .i64 loc, .slice ae ne1 ce, .slice af nf1 cf, .bool ne, .int .i64 to])
  have L1 : Hid (Below w.heap.size w (w.alloc (.cells #[.int .i64 op, .int .i64 reg, .int .i64 loc, .slice ae ne1 ce, .slice af nf1 cf, .bool ne, .int .i64 to] 53))) := (Below.refl _ _).alloc (Nat.le_refl _) _
  cases h1 <;> cases h2 <;> cases h3 <;> cases h4 <;> cases h5 <;> cases h6
  all_goals first
    | (exact absurd hcm (by decide))
    | skip
  all_goals clear hcm
  all_goals
    (try have J1 := Lib.hid (I1 rfl))
    (try have J2 := Lib.hid (I2 rfl))
    (try have J3 := Lib.hid (I3 rfl))
    (try have J4 := Lib.hid (C4 rfl))
    (try have J5 := Lib.hid (C5 rfl))
    (try have z1 := Z1 rfl)
    (try have z2 := Z2 rfl)
    (try have z3 := Z3 rfl)
    (try have y4 := Y4 rfl)
    (try have y5 := Y5 rfl)
    clear I1 I2 I3 C4 C5 Z1 Z2 Z3 Y4 Y5
    go_enter Try.func41, Try.ntmps41
    go_wp2_with fail
    generalize w.alloc _ = w1 at K1 L1 ⊢
    have c0 : w1.cell? ⟨w.heap.size, 0, none⟩ = some (.int .i64 op) := K1.out.cell 0; have c1 : w1.cell? ⟨w.heap.size, 1, none⟩ = some (.int .i64 reg) := K1.out.cell 1; have c2 : w1.cell? ⟨w.heap.size, 2, none⟩ = some (.int .i64 loc) := K1.out.cell 2; have c3 : w1.cell? ⟨w.heap.size, 3, none⟩ = some (.slice ae ne1 ce) := K1.out.cell 3; have c4 : w1.cell? ⟨w.heap.size, 4, none⟩ = some (.slice af nf1 cf) := K1.out.cell 4; have c5 : w1.cell? ⟨w.heap.size, 5, none⟩ = some (.bool ne) := K1.out.cell 5; have c6 : w1.cell? ⟨w.heap.size, 6, none⟩ = some (.int .i64 to) := K1.out.cell 6; have hl1 := K1.out.lt
    refine (HP.out _).mono ?_
    rintro e wx ⟨rfl, rfl⟩
    clear HP
    go_wp2_with (first
        | (go_at_call 54; (first | (with_reducible refine (HR.out _).mono ?_) | (with_reducible refine (HL.out _).mono ?_) | (with_reducible refine (HE.out _).mono ?_) | (with_reducible refine (HF.out _).mono ?_) | (with_reducible refine (HN.out _).mono ?_) | (with_reducible refine (HT.out _).mono ?_)); rintro e wx ⟨rfl, rfl⟩)
        | (go_at_call 55; (first | (with_reducible refine (J1.out _).mono ?_) | (with_reducible refine (J2.out _).mono ?_) | (with_reducible refine (J3.out _).mono ?_)); rintro e wx ⟨rfl, rfl⟩)
        | (go_at_call 56; (first | (with_reducible refine (J4.out _ L1.out).mono ?_) | (with_reducible refine (J5.out _ L1.out).mono ?_)); rintro e wn ⟨rfl, bn⟩; replace K1 := Lib.hid (K1.out.below bn); replace L1 := Lib.hid (L1.out.trans (bn.mono L1.out.size)); clear c0 c1 c2 c3 c4 c5 c6 hl1 bn; have c0 : wn.cell? ⟨w.heap.size, 0, none⟩ = some (.int .i64 op) := K1.out.cell 0; have c1 : wn.cell? ⟨w.heap.size, 1, none⟩ = some (.int .i64 reg) := K1.out.cell 1; have c2 : wn.cell? ⟨w.heap.size, 2, none⟩ = some (.int .i64 loc) := K1.out.cell 2; have c3 : wn.cell? ⟨w.heap.size, 3, none⟩ = some (.slice ae ne1 ce) := K1.out.cell 3; have c4 : wn.cell? ⟨w.heap.size, 4, none⟩ = some (.slice af nf1 cf) := K1.out.cell 4; have c5 : wn.cell? ⟨w.heap.size, 5, none⟩ = some (.bool ne) := K1.out.cell 5; have c6 : wn.cell? ⟨w.heap.size, 6, none⟩ = some (.int .i64 to) := K1.out.cell 6; have hl1 := K1.out.lt))
    all_goals
      go_ret
      refine ⟨ret_bool ?_, L1.out⟩
      rw [← HBB.out]
      clear HR HL HE HF HN HT K1 L1 c0 c1 c2 c3 c4 c5 c6 HBB
      first | (simp_all; done) | (simp_all; intro h; omega) | (cases b5 <;> simp_all <;> omega)

end Go.Proofs.Ytmkgijedchpgcaa
