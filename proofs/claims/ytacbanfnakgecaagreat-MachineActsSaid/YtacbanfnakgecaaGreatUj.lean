/- Layer 7: the reference's Right of one instruction. Layer 7: the reference's Right of a unit. -/
import Derived.Test.YtacbanfnakgecaaGreatUi
namespace Go.Proofs.YtacbanfnakgecaaGreat
set_option linter.unusedSimpArgs false
set_option linter.unusedVariables false
open Go.RowKit
set_option maxRecDepth 100000 in
set_option maxHeartbeats 8000000 in
theorem one_core (op reg loc to own locs n : Int) (ne : Bool) (ae af : Option Addr) (ne1 nf1 ce cf : Nat) (P : ByteArray) (h1 h2 h3 h4 h5 h6 b1 b2 b3 b4 b5 b : Bool) (w : World) (hcm : cmbB h1 h2 h3 h4 h5 h6 = true)
    (HP : Hid (∀ W : World, Calls Tryz.prog 99 #[.int .i64 op] W fun e w' => e = .returned (.tuple #[.string P, .bool true]) ∧ W = w'))
    (HR : Hid (∀ W : World, Calls Tryz.prog 100 #[.string P, .int .u8 114] W fun e w' => e = .returned (.bool h1) ∧ W = w'))
    (HL : Hid (∀ W : World, Calls Tryz.prog 100 #[.string P, .int .u8 108] W fun e w' => e = .returned (.bool h2) ∧ W = w'))
    (HE : Hid (∀ W : World, Calls Tryz.prog 100 #[.string P, .int .u8 101] W fun e w' => e = .returned (.bool h3) ∧ W = w'))
    (HF : Hid (∀ W : World, Calls Tryz.prog 100 #[.string P, .int .u8 102] W fun e w' => e = .returned (.bool h4) ∧ W = w'))
    (HN : Hid (∀ W : World, Calls Tryz.prog 100 #[.string P, .int .u8 110] W fun e w' => e = .returned (.bool h5) ∧ W = w'))
    (HT : Hid (∀ W : World, Calls Tryz.prog 100 #[.string P, .int .u8 116] W fun e w' => e = .returned (.bool h6) ∧ W = w'))
    (I1 : h1 = true → ∀ W : World, Calls Tryz.prog 101 #[.int .i64 reg, .int .i64 own] W fun e w' => e = .returned (.bool b1) ∧ W = w')
    (I2 : h2 = true → ∀ W : World, Calls Tryz.prog 101 #[.int .i64 loc, .int .i64 locs] W fun e w' => e = .returned (.bool b2) ∧ W = w')
    (I3 : h6 = true → ∀ W : World, Calls Tryz.prog 101 #[.int .i64 to, .int .i64 n] W fun e w' => e = .returned (.bool b3) ∧ W = w')
    (Z1 : h1 = false → (b1 = true ↔ reg = 0)) (Z2 : h2 = false → (b2 = true ↔ loc = 0)) (Z3 : h6 = false → (b3 = true ↔ to = 0))
    (C4 : h3 = true → ∀ W : World, Below w.heap.size w W → Calls Tryz.prog 89 #[.slice ae ne1 ce, .slice none 0 0, .int .i64 own, .int .i64 0] W fun e w' => e = .returned (.bool b4) ∧ Below W.heap.size W w')
    (C5 : h4 = true → ∀ W : World, Below w.heap.size w W → Calls Tryz.prog 89 #[.slice af nf1 cf, .slice none 0 0, .int .i64 own, .int .i64 0] W fun e w' => e = .returned (.bool b5) ∧ Below W.heap.size W w')
    (Y4 : h3 = false → (b4 = true ↔ ne1 = 0)) (Y5 : h4 = false → (b5 = true ↔ nf1 = 0))
    (HBB : Hid ((b1 && (b2 && (b3 && (b4 && (b5 && (h5 || !ne)))))) = b)) :
    Calls Tryz.prog 71 #[.agg #[.int .i64 op, .int .i64 reg, .int .i64 loc, .slice ae ne1 ce, .slice af nf1 cf, .bool ne, .int .i64 to], .int .i64 own, .int .i64 locs, .int .i64 n] w fun e w' => e = .returned (.bool b) ∧ Below w.heap.size w w' := by
  have K1 := Lib.hid (Bk.new w 57 #[.int .i64 op, .int .i64 reg, .int .i64 loc, .slice ae ne1 ce, .slice af nf1 cf, .bool ne, .int .i64 to])
  have L1 : Hid (Below w.heap.size w (w.alloc (.cells #[.int .i64 op, .int .i64 reg, .int .i64 loc, .slice ae ne1 ce, .slice af nf1 cf, .bool ne, .int .i64 to] 57))) := (Below.refl _ _).alloc (Nat.le_refl _) _
  cases h1 <;> cases h2 <;> cases h3 <;> cases h4 <;> cases h5 <;> cases h6
  all_goals first
    | (exact absurd hcm (by decide))
    | skip
  all_goals clear hcm
  all_goals
    (try have J1 := Lib.hid (I1 rfl))
    (try have J2 := Lib.hid (I2 rfl))
    (try have J3 := Lib.hid (I3 rfl))
    (try have J4 := Lib.hid (C4 rfl))
    (try have J5 := Lib.hid (C5 rfl))
    (try have z1 := Z1 rfl)
    (try have z2 := Z2 rfl)
    (try have z3 := Z3 rfl)
    (try have y4 := Y4 rfl)
    (try have y5 := Y5 rfl)
    clear I1 I2 I3 C4 C5 Z1 Z2 Z3 Y4 Y5
    go_enter Tryz.func71, Tryz.ntmps71
    go_wp2_with fail
    generalize w.alloc _ = w1 at K1 L1 ⊢
    have c0 : w1.cell? ⟨w.heap.size, 0, none⟩ = some (.int .i64 op) := K1.out.cell 0; have c1 : w1.cell? ⟨w.heap.size, 1, none⟩ = some (.int .i64 reg) := K1.out.cell 1; have c2 : w1.cell? ⟨w.heap.size, 2, none⟩ = some (.int .i64 loc) := K1.out.cell 2; have c3 : w1.cell? ⟨w.heap.size, 3, none⟩ = some (.slice ae ne1 ce) := K1.out.cell 3; have c4 : w1.cell? ⟨w.heap.size, 4, none⟩ = some (.slice af nf1 cf) := K1.out.cell 4; have c5 : w1.cell? ⟨w.heap.size, 5, none⟩ = some (.bool ne) := K1.out.cell 5; have c6 : w1.cell? ⟨w.heap.size, 6, none⟩ = some (.int .i64 to) := K1.out.cell 6; have hl1 := K1.out.lt
    refine (HP.out _).mono ?_
    rintro e wx ⟨rfl, rfl⟩
    clear HP
    go_wp2_with (first
        | (go_at_call 100; (first | (with_reducible refine (HR.out _).mono ?_) | (with_reducible refine (HL.out _).mono ?_) | (with_reducible refine (HE.out _).mono ?_) | (with_reducible refine (HF.out _).mono ?_) | (with_reducible refine (HN.out _).mono ?_) | (with_reducible refine (HT.out _).mono ?_)); rintro e wx ⟨rfl, rfl⟩)
        | (go_at_call 101; (first | (with_reducible refine (J1.out _).mono ?_) | (with_reducible refine (J2.out _).mono ?_) | (with_reducible refine (J3.out _).mono ?_)); rintro e wx ⟨rfl, rfl⟩)
        | (go_at_call 89; (first | (with_reducible refine (J4.out _ L1.out).mono ?_) | (with_reducible refine (J5.out _ L1.out).mono ?_)); rintro e wn ⟨rfl, bn⟩; replace K1 := Lib.hid (K1.out.below bn); replace L1 := Lib.hid (L1.out.trans (bn.mono L1.out.size)); clear c0 c1 c2 c3 c4 c5 c6 hl1 bn; have c0 : wn.cell? ⟨w.heap.size, 0, none⟩ = some (.int .i64 op) := K1.out.cell 0; have c1 : wn.cell? ⟨w.heap.size, 1, none⟩ = some (.int .i64 reg) := K1.out.cell 1; have c2 : wn.cell? ⟨w.heap.size, 2, none⟩ = some (.int .i64 loc) := K1.out.cell 2; have c3 : wn.cell? ⟨w.heap.size, 3, none⟩ = some (.slice ae ne1 ce) := K1.out.cell 3; have c4 : wn.cell? ⟨w.heap.size, 4, none⟩ = some (.slice af nf1 cf) := K1.out.cell 4; have c5 : wn.cell? ⟨w.heap.size, 5, none⟩ = some (.bool ne) := K1.out.cell 5; have c6 : wn.cell? ⟨w.heap.size, 6, none⟩ = some (.int .i64 to) := K1.out.cell 6; have hl1 := K1.out.lt))
    all_goals
      go_ret
      refine ⟨ret_bool ?_, L1.out⟩
      rw [← HBB.out]
      clear HR HL HE HF HN HT K1 L1 c0 c1 c2 c3 c4 c5 c6 HBB
      first | (simp_all; done) | (simp_all; intro h; omega) | (cases b5 <;> simp_all <;> omega)
end Go.Proofs.YtacbanfnakgecaaGreat

namespace Go.Proofs.YtacbanfnakgecaaGreat
set_option linter.unusedSimpArgs false
set_option linter.unusedVariables false
open Go.RowKit
def oneB (x : Ins) (own locs n : Int) : Bool := isK2 x.op && insB x own locs n
theorem idxB_zero (i n : Int) (h : Bool) (hf : h = false) : (idxB i h n = true ↔ i = 0) := by subst hf; simp [idxB]
theorem codB_zero (l : List Opn) (own : Int) (h : Bool) (hf : h = false) : (codB l h own = true ↔ l.length = 0) := by subst hf; simp [codB]
set_option maxRecDepth 100000 in
set_option maxHeartbeats 2000000 in
theorem one_no (op : Int) (ae af : Option Addr) (ne1 nf1 ce cf : Nat) (reg loc to own locs n : Int) (ne : Bool) (w : World) (h : isK2 op = false) :
    Calls Tryz.prog 71 #[.agg #[.int .i64 op, .int .i64 reg, .int .i64 loc, .slice ae ne1 ce, .slice af nf1 cf, .bool ne, .int .i64 to], .int .i64 own, .int .i64 locs, .int .i64 n] w fun e w' => e = .returned (.bool false) ∧ Below w.heap.size w w' := by
  have HP := Lib.hid (fun W => rparts_any op W)
  rw [h] at HP
  have L1 : Hid (Below w.heap.size w (w.alloc (.cells #[.int .i64 op, .int .i64 reg, .int .i64 loc, .slice ae ne1 ce, .slice af nf1 cf, .bool ne, .int .i64 to] 57))) := (Below.refl _ _).alloc (Nat.le_refl _) _
  clear h
  go_enter Tryz.func71, Tryz.ntmps71
  go_wp2_with fail
  refine (HP.out _).mono ?_
  rintro e wx ⟨rfl, rfl⟩
  go_wp2
  go_ret
  exact ⟨rfl, L1.out⟩
def doneB (x : Ins) : Bool := decide (x.op = 22) && (decide (x.reg = 0) && (decide (x.loc = 0) && (decide (x.e.length = 0) && (decide (x.f.length = 0) && (!x.ne && decide (x.to = 0))))))
set_option maxRecDepth 100000 in
set_option maxHeartbeats 2000000 in
theorem done_lit (op reg loc : Int) (le lf : List Opn) (ne : Bool) (to : Int) (ev fv : Value) (w : World) (he : OpsD w ev le) (hf : OpsD w fv lf) (b : Bool) (hb : doneB ⟨op, reg, loc, le, lf, ne, to⟩ = b) :
    Calls Tryz.prog 70 #[.agg #[.int .i64 op, .int .i64 reg, .int .i64 loc, ev, fv, .bool ne, .int .i64 to]] w fun e w' => e = .returned (.bool b) ∧ Below w.heap.size w w' := by
  obtain ⟨ae, ce, rfl⟩ := he.shape0
  obtain ⟨af, cf, rfl⟩ := hf.shape0
  have hb2 : (decide (op = 22) && (decide (reg = 0) && (decide (loc = 0) && (decide (le.length = 0) && (decide (lf.length = 0) && (!ne && decide (to = 0))))))) = b := hb
  have HB := Lib.hid hb2
  generalize le.length = ne1 at HB ⊢
  generalize lf.length = nf1 at HB ⊢
  clear hb hb2 he hf
  go_enter Tryz.func70, Tryz.ntmps70
  go_wp2
  all_goals
    go_ret
    refine ⟨ret_bool ?_, (Below.refl _ _).alloc (Nat.le_refl _) _⟩
    rw [← HB.out]
    clear HB
    first | (simp_all; done) | (simp_all; rfl) | (simp_all; omega)
theorem done_eq (x : Ins) (own locs n : Int) : ((decide (x.op = 22) == true) && insB x own locs n) = doneB x := by
  unfold doneB
  by_cases ho : x.op = 22
  · unfold insB idxB codB hasR hasL hasE hasF hasN hasT isK
    rw [ho]
    rw [Bool.eq_iff_iff]
    simp
    intro _ _
    exact ⟨fun ⟨h3, h4, h5, h6⟩ => ⟨h4, h5, h6, h3⟩, fun ⟨h4, h5, h6, h3⟩ => ⟨h3, h4, h5, h6⟩⟩
  · rw [decide_eq_false ho]; rfl
theorem one_eq (x : Ins) (own locs n : Int) : ((decide (x.op = 22) == false) && insB x own locs n) = oneB x own locs n := by
  unfold oneB
  by_cases ho : x.op = 22
  · have : isK2 x.op = false := by unfold isK2; exact decide_eq_false (by omega)
    rw [this, decide_eq_true ho]; rfl
  · rw [decide_eq_false ho]
    cases hk2 : isK2 x.op with
    | true => simp
    | false =>
      have : isK x.op = false := by
        have := of_decide_eq_false hk2
        unfold isK; exact decide_eq_false (by omega)
      have h3 : insB x own locs n = false := by unfold insB; rw [this]; rfl
      rw [h3]; rfl
theorem seq_ref (own locs n : Int) (l : List II) : ∀ k : Nat, (k : Int) + l.length = n → (h : l ≠ []) → seqF own locs n l k = ((l.dropLast.all fun t => oneB t.x own locs n) && doneB (l.getLast h).x) := by
  induction l with
  | nil => intro k hk h; exact absurd rfl h
  | cons a r ih =>
    intro k hk h
    cases r with
    | nil =>
      simp only [List.length_cons, List.length_nil] at hk
      show ((decide (a.x.op = 22) == decide ((k : Int) = n - 1) && insB a.x own locs n) && true) = (true && doneB a.x)
      rw [decide_eq_true (show (k : Int) = n - 1 by omega), Bool.and_true, Bool.true_and]
      exact done_eq a.x own locs n
    | cons c s =>
      have h2 := ih (k + 1) (by simp only [List.length_cons] at hk ⊢; omega) (by simp)
      simp only [List.length_cons] at hk
      show ((decide (a.x.op = 22) == decide ((k : Int) = n - 1) && insB a.x own locs n) && seqF own locs n (c :: s) (k + 1)) = ((oneB a.x own locs n && ((c :: s).dropLast.all fun t => oneB t.x own locs n)) && doneB ((c :: s).getLast (by simp)).x)
      rw [h2, decide_eq_false (show ¬ (k : Int) = n - 1 by omega), one_eq, Bool.and_assoc]
theorem one_lit (op reg loc : Int) (le lf : List Opn) (ne : Bool) (to : Int) (ev fv : Value) (own locs n : Int) (w : World) (he : OpsD w ev le) (hf : OpsD w fv lf) (hn : le.length ≤ 100000 ∧ lf.length ≤ 100000) (b : Bool) (hb : oneB ⟨op, reg, loc, le, lf, ne, to⟩ own locs n = b) :
    Calls Tryz.prog 71 #[.agg #[.int .i64 op, .int .i64 reg, .int .i64 loc, ev, fv, .bool ne, .int .i64 to], .int .i64 own, .int .i64 locs, .int .i64 n] w fun e w' => e = .returned (.bool b) ∧ Below w.heap.size w w' := by
  obtain ⟨ae, ce, rfl⟩ := he.shape0
  obtain ⟨af, cf, rfl⟩ := hf.shape0
  cases hk : isK2 op with
  | false =>
    have : b = false := by rw [← hb]; unfold oneB; rw [hk]; rfl
    subst this
    exact one_no op ae af _ _ ce cf reg loc to own locs n ne w hk
  | true =>
    have hK : isK op = true := by
      have := of_decide_eq_true hk
      exact decide_eq_true (by omega)
    have hb2 : (idxB reg (hasR op) own && (idxB loc (hasL op) locs && (idxB to (hasT op) n && (codB le (hasE op) own && (codB lf (hasF op) own && (hasN op || !ne)))))) = b := by
      rw [← hb]; unfold oneB insB; rw [hk, hK]; rfl
    obtain ⟨q1, q2, q3, q4, q5, q6, q7⟩ := has_of op hk
    exact one_core op reg loc to own locs n ne ae af le.length lf.length ce cf (prtS op) (hasR op) (hasL op) (hasE op) (hasF op) (hasN op) (hasT op) _ _ _ _ _ b w (cmb_of op hk)
      (Lib.hid fun W => by have := rparts_any op W; rw [hk] at this; exact this)
      (Lib.hid fun W => has_any _ 114 _ rfl q7 _ q1 W) (Lib.hid fun W => has_any _ 108 _ rfl q7 _ q2 W) (Lib.hid fun W => has_any _ 101 _ rfl q7 _ q3 W) (Lib.hid fun W => has_any _ 102 _ rfl q7 _ q4 W) (Lib.hid fun W => has_any _ 110 _ rfl q7 _ q5 W) (Lib.hid fun W => has_any _ 116 _ rfl q7 _ q6 W)
      (fun h W => rin7_is reg own _ (by rw [h]; rfl) W) (fun h W => rin7_is loc locs _ (by rw [h]; rfl) W) (fun h W => rin7_is to n _ (by rw [h]; rfl) W)
      (idxB_zero _ _ _) (idxB_zero _ _ _) (idxB_zero _ _ _)
      (fun h W hb => rright_code le [] _ _ own 0 W (OpsD.below he hb) SlD.nil hn.1 _ (by rw [h]; rfl)) (fun h W hb => rright_code lf [] _ _ own 0 W (OpsD.below hf hb) SlD.nil hn.2 _ (by rw [h]; rfl))
      (codB_zero _ _ _) (codB_zero _ _ _) (Lib.hid hb2)
end Go.Proofs.YtacbanfnakgecaaGreat
