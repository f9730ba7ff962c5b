/- Layer 7: the reference's Right of a unit. -/
import Derived.Test.YtmkgijedchpgcaaUj
namespace Go.Proofs.Ytmkgijedchpgcaa
set_option linter.unusedSimpArgs false
set_option linter.unusedVariables false
open Go.RowKit

/-- An instruction that is not Done, rightly. -/
def oneB (x : Ins) (own locs n : Int) : Bool := isK2 x.op && insB x own locs n

theorem idxB_zero (i n : Int) (h : Bool) (hf : h = false) : (idxB i h n = true ↔ i = 0) := by subst hf; simp [idxB]
theorem codB_zero (l : List Opn) (own : Int) (h : Bool) (hf : h = false) : (codB l h own = true ↔ l.length = 0) := by subst hf; simp [codB]

set_option maxRecDepth 100000 in
set_option maxHeartbeats 2000000 in
theorem one_no (op : Int) (ae af : Option Addr) (ne1 nf1 ce cf : Nat) (reg loc to own locs n : Int) (ne : Bool) (w : World) (h : isK2 op = false) :
    Calls Try.prog 41 #[.agg #[.int .i64 op, .int .i64 reg, .int .i64 loc, .slice ae ne1 ce, .slice af nf1 cf, .bool ne, .int .i64 to], .int .i64 own, .int .i64 locs, .int .i64 n] w fun e w' => e = .returned (.bool false) ∧ Below w.heap.size w w' := by
  have HP := Lib.hid (fun W => rparts_any op W)
  rw [h] at HP
  have L1 : Hid (Below w.heap.size w (w.alloc (.cells #[.int .i64 op, .int .i64 reg, .int .i64 loc, .slice ae ne1 ce, .slice af nf1 cf, .bool ne, .int .i64 to] 53))) := (Below.refl _ _).alloc (Nat.le_refl _) _
  clear h
  go_enter Try.func41, Try.ntmps41
  go_wp2_with fail
  refine (HP.out _).mono ?_
  rintro e wx ⟨rfl, rfl⟩
  go_wp2
  go_ret
  exact ⟨rfl, L1.out⟩

/-- Done, with nothing. -/
def doneB (x : Ins) : Bool := decide (x.op = 22) && (decide (x.reg = 0) && (decide (x.loc = 0) && (decide (x.e.length = 0) && (decide (x.f.length = 0) && (!x.ne && decide (x.to = 0))))))
set_option maxRecDepth 100000 in
set_option maxHeartbeats 2000000 in
theorem done_lit (op reg loc : Int) (le lf : List Opn) (ne : Bool) (to : Int) (ev fv : Value) (w : World) (he : OpsD w ev le) (hf : OpsD w fv lf) (b : Bool) (hb : doneB ⟨op, reg, loc, le, lf, ne, to⟩ = b) :
    Calls Try.prog 40 #[.agg #[.int .i64 op, .int .i64 reg, .int .i64 loc, ev, fv, .bool ne, .int .i64 to]] w fun e w' => e = .returned (.bool b) ∧ Below w.heap.size w w' := by
  obtain ⟨ae, ce, rfl⟩ := he.shape0
  obtain ⟨af, cf, rfl⟩ := hf.shape0
  have hb2 : (decide (op = 22) && (decide (reg = 0) && (decide (loc = 0) && (decide (le.length = 0) && (decide (lf.length = 0) && (!ne && decide (to = 0))))))) = b := hb
  have HB := Lib.hid hb2
  generalize le.length = ne1 at HB ⊢
  generalize lf.length = nf1 at HB ⊢
  clear hb hb2 he hf
  go_enter Try.func40, Try.ntmps40
  go_wp2
  all_goals
    go_ret
    refine ⟨ret_bool ?_, (Below.refl _ _).alloc (Nat.le_refl _) _⟩
    rw [← HB.out]
    clear HB
    first | (simp_all; done) | (simp_all; rfl) | (simp_all; omega)

theorem done_eq (x : Ins) (own locs n : Int) : ((decide (x.op = 22) == true) && insB x own locs n) = doneB x := by
  unfold doneB
  by_cases ho : x.op = 22
  · unfold insB idxB codB hasR hasL hasE hasF hasN hasT isK
    rw [ho]
    rw [Bool.eq_iff_iff]
    simp
    intro _ _
    exact ⟨fun ⟨h3, h4, h5, h6⟩ => ⟨h4, h5, h6, h3⟩, fun ⟨h4, h5, h6, h3⟩ => ⟨h3, h4, h5, h6⟩⟩
  · rw [decide_eq_false ho]; rfl
theorem one_eq (x : Ins) (own locs n : Int) : ((decide (x.op = 22) == false) && insB x own locs n) = oneB x own locs n := by
  unfold oneB
  by_cases ho : x.op = 22
  · have : isK2 x.op = false := by unfold isK2; exact decide_eq_false (by omega)
    rw [this, decide_eq_true ho]; rfl
  · rw [decide_eq_false ho]
    cases hk2 : isK2 x.op with
    | true => simp
    | false =>
      have : isK x.op = false := by
        have := of_decide_eq_false hk2
        unfold isK; exact decide_eq_false (by omega)
      have h3 : insB x own locs n = false := by unfold insB; rw [this]; rfl
      rw [h3]; rfl
theorem seq_ref (own locs n : Int) (l : List II) : ∀ k : Nat, (k : Int) + l.length = n → (h : l ≠ []) → seqF own locs n l k = ((l.dropLast.all fun t => oneB t.x own locs n) && doneB (l.getLast h).x) := by
  induction l with
  | nil => intro k hk h; exact absurd rfl h
  | cons a r ih =>
    intro k hk h
    cases r with
    | nil =>
      simp only [List.length_cons, List.length_nil] at hk
      show ((decide (a.x.op = 22) == decide ((k : Int) = n - 1) && insB a.x own locs n) && true) = (true && doneB a.x)
      rw [decide_eq_true (show (k : Int) = n - 1 by omega), Bool.and_true, Bool.true_and]
      exact done_eq a.x own locs n
    | cons c s =>
      have h2 := ih (k + 1) (by simp only [List.length_cons] at hk ⊢; omega) (by simp)
      simp only [List.length_cons] at hk
      show ((decide (a.x.op = 22) == decide ((k : Int) = n - 1) && insB a.x own locs n) && seqF own locs n (c :: s) (k + 1)) = ((oneB a.x own locs n && ((c :: s).dropLast.all fun t => oneB t.x own locs n)) && doneB ((c :: s).getLast (by simp)).x)
      rw [h2, decide_eq_false (show ¬ (k : Int) = n - 1 by omega), one_eq, Bool.and_assoc]

theorem one_lit (op reg loc : Int) (le lf : List Opn) (ne : Bool) (to : Int) (ev fv : Value) (own locs n : Int) (w : World) (he : OpsD w ev le) (hf : OpsD w fv lf) (hn : le.length ≤ 100000 ∧ lf.length ≤ 100000) (b : Bool) (hb : oneB ⟨op, reg, loc, le, lf, ne, to⟩ own locs n = b) :
    Calls Try.prog 41 #[.agg #[.int .i64 op, .int .i64 reg, .int .i64 loc, ev, fv, .bool ne, .int .i64 to], .int .i64 own, .int .i64 locs, .int .i64 n] w fun e w' => e = .returned (.bool b) ∧ Below w.heap.size w w' := by
  obtain ⟨ae, ce, rfl⟩ := he.shape0
  obtain ⟨af, cf, rfl⟩ := hf.shape0
  cases hk : isK2 op with
  | false =>
    have : b = false := by rw [← hb]; unfold oneB; rw [hk]; rfl
    subst this
    exact one_no op ae af _ _ ce cf reg loc to own locs n ne w hk
  | true =>
    have hK : isK op = true := by
      have := of_decide_eq_true hk
      exact decide_eq_true (by omega)
    have hb2 : (idxB reg (hasR op) own && (idxB loc (hasL op) locs && (idxB to (hasT op) n && (codB le (hasE op) own && (codB lf (hasF op) own && (hasN op || !ne)))))) = b := by
      rw [← hb]; unfold oneB insB; rw [hk, hK]; rfl
    obtain ⟨q1, q2, q3, q4, q5, q6, q7⟩ := has_of op hk
    exact one_core op reg loc to own locs n ne ae af le.length lf.length ce cf (prtS op) (hasR op) (hasL op) (hasE op) (hasF op) (hasN op) (hasT op) _ _ _ _ _ b w (cmb_of op hk)
      (Lib.hid fun W => by have := rparts_any op W; rw [hk] at this; exact this)
      (Lib.hid fun W => has_any _ 114 _ rfl q7 _ q1 W) (Lib.hid fun W => has_any _ 108 _ rfl q7 _ q2 W) (Lib.hid fun W => has_any _ 101 _ rfl q7 _ q3 W) (Lib.hid fun W => has_any _ 102 _ rfl q7 _ q4 W) (Lib.hid fun W => has_any _ 110 _ rfl q7 _ q5 W) (Lib.hid fun W => has_any _ 116 _ rfl q7 _ q6 W)
      (fun h W => rin7_is reg own _ (by rw [h]; rfl) W) (fun h W => rin7_is loc locs _ (by rw [h]; rfl) W) (fun h W => rin7_is to n _ (by rw [h]; rfl) W)
      (idxB_zero _ _ _) (idxB_zero _ _ _) (idxB_zero _ _ _)
      (fun h W hb => rright_code le [] _ _ own 0 W (OpsD.below he hb) SlD.nil hn.1 _ (by rw [h]; rfl)) (fun h W hb => rright_code lf [] _ _ own 0 W (OpsD.below hf hb) SlD.nil hn.2 _ (by rw [h]; rfl))
      (codB_zero _ _ _) (codB_zero _ _ _) (Lib.hid hb2)

end Go.Proofs.Ytmkgijedchpgcaa
