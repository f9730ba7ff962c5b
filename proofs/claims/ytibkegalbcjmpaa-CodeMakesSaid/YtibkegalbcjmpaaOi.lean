/- Layer 6: what operators make. -/
import Derived.Test.YtibkegalbcjmpaaOh
import Derived.BigQuiet
namespace Go.Proofs.Ytibkegalbcjmpaa
open Go.RowKit

/-- What an operator's function makes of two numbers. -/
def rawO (op a b : Int) : Int :=
  if op = 6 then a + b else if op = 7 then a - b else if op = 8 then a * b else if op = 9 then tru (decide (a = b)) else if op = 10 then tru (decide (a ≠ b))
  else if op = 11 then tru (decide (a < b)) else if op = 12 then tru (decide (a ≤ b)) else if op = 13 then tru (decide (a ≠ 0 ∧ b ≠ 0)) else tru (decide (a ≠ 0 ∨ b ≠ 0))

/-- The function of an operator. -/
def fnF (op : Int) : Nat :=
  if op = 5 then 71 else if op = 6 then 73 else if op = 7 then 74 else if op = 8 then 75
  else if op = 9 then 76 else if op = 10 then 77 else if op = 11 then 78 else if op = 12 then 79
  else if op = 13 then 80 else 81

theorem op_cases (op : Int) (h1 : 6 ≤ op) (h2 : op ≤ 14) : op = 6 ∨ op = 7 ∨ op = 8 ∨ op = 9 ∨ op = 10 ∨ op = 11 ∨ op = 12 ∨ op = 13 ∨ op = 14 := by omega

theorem fnO_of (op : Int) (h1 : 5 ≤ op) (h2 : op ≤ 14) : fnO op = .func (.func (fnF op)) #[] #[] := by
  by_cases h : op = 5
  · subst h; rfl
  · rcases op_cases op (by omega) h2 with rfl | rfl | rfl | rfl | rfl | rfl | rfl | rfl | rfl <;> rfl

theorem truth_q (b : Bool) (w : World) (k : Nat) : Calls Try.prog 72 #[.bool b] (w.drewN k) fun e w' => e = .returned (.int .i64 (tru b)) ∧ ∃ m, w' = w.drewN m :=
  (truth_any b _).mono fun _ _ ⟨e, k⟩ => ⟨e, _, k.symm⟩

def QAns (z : Int) (w : World) (e : Ending) (w' : World) : Prop := e = .returned (.int .i64 z) ∧ ∃ m, w' = w.drewN m

theorem op1_any (g o c : Nat) (a : Int) (w : World) (h : w.cell? ⟨g, o, none⟩ = some (.int .i64 a)) :
    Calls Try.prog 71 #[.slice (some ⟨g, o, none⟩) 1 c] w (QAns (tru (decide (a = 0))) w) := by
  go_enter Try.func71, Try.ntmps71
  go_wp2_with (go_at_call 72; refine (truth_any _ _).mono ?_; rintro e w2 ⟨rfl, rfl⟩)
  go_ret
  exact ⟨rfl, 0, rfl⟩

set_option maxRecDepth 100000 in
set_option maxHeartbeats 1000000 in
theorem op6_any (g o c : Nat) (a b : Int) (w : World) (ha : 0 ≤ a ∧ a ≤ 15) (hb : 0 ≤ b ∧ b ≤ 15) (h : w.cell? ⟨g, o, none⟩ = some (.int .i64 a)) (h2 : w.cell? ⟨g, o + 1, none⟩ = some (.int .i64 b)) :
    Calls Try.prog 73 #[.slice (some ⟨g, o, none⟩) 2 c] w (QAns (rawO 6 a b) w) := by
  obtain ⟨ha1, ha2⟩ := ha
  obtain ⟨hb1, hb2⟩ := hb
  have hw : IntKind.i64.wrap (a + b) = a + b := IntWalk.i64_in _ (by omega)
  have HW := Lib.hid hw
  go_enter Try.func73, Try.ntmps73
  go_wp2
  go_quiet (fail)
  go_wp2
  go_ret
  exact ⟨ret_int (by first | rfl | exact HW.out), _, rfl⟩

set_option maxRecDepth 100000 in
set_option maxHeartbeats 1000000 in
theorem op7_any (g o c : Nat) (a b : Int) (w : World) (ha : 0 ≤ a ∧ a ≤ 15) (hb : 0 ≤ b ∧ b ≤ 15) (h : w.cell? ⟨g, o, none⟩ = some (.int .i64 a)) (h2 : w.cell? ⟨g, o + 1, none⟩ = some (.int .i64 b)) :
    Calls Try.prog 74 #[.slice (some ⟨g, o, none⟩) 2 c] w (QAns (rawO 7 a b) w) := by
  obtain ⟨ha1, ha2⟩ := ha
  obtain ⟨hb1, hb2⟩ := hb
  have hw : IntKind.i64.wrap (a - b) = a - b := IntWalk.i64_in _ (by omega)
  have HW := Lib.hid hw
  go_enter Try.func74, Try.ntmps74
  go_wp2
  go_quiet (fail)
  go_wp2
  go_ret
  exact ⟨ret_int (by first | rfl | exact HW.out), _, rfl⟩

set_option maxRecDepth 100000 in
set_option maxHeartbeats 1000000 in
theorem op8_any (g o c : Nat) (a b : Int) (w : World) (ha : 0 ≤ a ∧ a ≤ 15) (hb : 0 ≤ b ∧ b ≤ 15) (h : w.cell? ⟨g, o, none⟩ = some (.int .i64 a)) (h2 : w.cell? ⟨g, o + 1, none⟩ = some (.int .i64 b)) :
    Calls Try.prog 75 #[.slice (some ⟨g, o, none⟩) 2 c] w (QAns (rawO 8 a b) w) := by
  obtain ⟨ha1, ha2⟩ := ha
  obtain ⟨hb1, hb2⟩ := hb
  have hm1 : 0 ≤ a * b := Int.mul_nonneg ha1 hb1
  have hm2 : a * b ≤ 15 * 15 := Int.mul_le_mul ha2 hb2 hb1 (by omega)
  have hw : IntKind.i64.wrap (a * b) = a * b := IntWalk.i64_in _ (by omega)
  have HW := Lib.hid hw
  go_enter Try.func75, Try.ntmps75
  go_wp2
  go_quiet (fail)
  go_wp2
  go_ret
  exact ⟨ret_int (by first | rfl | exact HW.out), _, rfl⟩

set_option maxRecDepth 100000 in
set_option maxHeartbeats 1000000 in
theorem op9_any (g o c : Nat) (a b : Int) (w : World) (ha : 0 ≤ a ∧ a ≤ 15) (hb : 0 ≤ b ∧ b ≤ 15) (h : w.cell? ⟨g, o, none⟩ = some (.int .i64 a)) (h2 : w.cell? ⟨g, o + 1, none⟩ = some (.int .i64 b)) :
    Calls Try.prog 76 #[.slice (some ⟨g, o, none⟩) 2 c] w (QAns (rawO 9 a b) w) := by
  obtain ⟨ha1, ha2⟩ := ha
  obtain ⟨hb1, hb2⟩ := hb
  have HT := Lib.hid truth_q
  go_enter Try.func76, Try.ntmps76
  go_wp2
  go_quiet ((go_at_call 72; with_reducible exact HT.out _ _ _))
  go_wp2
  go_ret
  exact ⟨ret_int (by unfold rawO; simp <;> rfl), _, rfl⟩

set_option maxRecDepth 100000 in
set_option maxHeartbeats 1000000 in
theorem op10_any (g o c : Nat) (a b : Int) (w : World) (ha : 0 ≤ a ∧ a ≤ 15) (hb : 0 ≤ b ∧ b ≤ 15) (h : w.cell? ⟨g, o, none⟩ = some (.int .i64 a)) (h2 : w.cell? ⟨g, o + 1, none⟩ = some (.int .i64 b)) :
    Calls Try.prog 77 #[.slice (some ⟨g, o, none⟩) 2 c] w (QAns (rawO 10 a b) w) := by
  obtain ⟨ha1, ha2⟩ := ha
  obtain ⟨hb1, hb2⟩ := hb
  have HT := Lib.hid truth_q
  go_enter Try.func77, Try.ntmps77
  go_wp2
  go_quiet ((go_at_call 72; with_reducible exact HT.out _ _ _))
  go_wp2
  go_ret
  exact ⟨ret_int (by unfold rawO; simp <;> rfl), _, rfl⟩

set_option maxRecDepth 100000 in
set_option maxHeartbeats 1000000 in
theorem op11_any (g o c : Nat) (a b : Int) (w : World) (ha : 0 ≤ a ∧ a ≤ 15) (hb : 0 ≤ b ∧ b ≤ 15) (h : w.cell? ⟨g, o, none⟩ = some (.int .i64 a)) (h2 : w.cell? ⟨g, o + 1, none⟩ = some (.int .i64 b)) :
    Calls Try.prog 78 #[.slice (some ⟨g, o, none⟩) 2 c] w (QAns (rawO 11 a b) w) := by
  obtain ⟨ha1, ha2⟩ := ha
  obtain ⟨hb1, hb2⟩ := hb
  have HT := Lib.hid truth_q
  go_enter Try.func78, Try.ntmps78
  go_wp2
  go_quiet ((go_at_call 72; with_reducible exact HT.out _ _ _))
  go_wp2
  go_ret
  exact ⟨ret_int (by unfold rawO; simp <;> rfl), _, rfl⟩

set_option maxRecDepth 100000 in
set_option maxHeartbeats 1000000 in
theorem op12_any (g o c : Nat) (a b : Int) (w : World) (ha : 0 ≤ a ∧ a ≤ 15) (hb : 0 ≤ b ∧ b ≤ 15) (h : w.cell? ⟨g, o, none⟩ = some (.int .i64 a)) (h2 : w.cell? ⟨g, o + 1, none⟩ = some (.int .i64 b)) :
    Calls Try.prog 79 #[.slice (some ⟨g, o, none⟩) 2 c] w (QAns (rawO 12 a b) w) := by
  obtain ⟨ha1, ha2⟩ := ha
  obtain ⟨hb1, hb2⟩ := hb
  have HT := Lib.hid truth_q
  go_enter Try.func79, Try.ntmps79
  go_wp2
  go_quiet ((go_at_call 72; with_reducible exact HT.out _ _ _))
  go_wp2
  go_ret
  exact ⟨ret_int (by unfold rawO; simp <;> rfl), _, rfl⟩

set_option maxRecDepth 100000 in
set_option maxHeartbeats 1000000 in
theorem op13_any (g o c : Nat) (a b : Int) (w : World) (ha : 0 ≤ a ∧ a ≤ 15) (hb : 0 ≤ b ∧ b ≤ 15) (h : w.cell? ⟨g, o, none⟩ = some (.int .i64 a)) (h2 : w.cell? ⟨g, o + 1, none⟩ = some (.int .i64 b)) :
    Calls Try.prog 80 #[.slice (some ⟨g, o, none⟩) 2 c] w (QAns (rawO 13 a b) w) := by
  obtain ⟨ha1, ha2⟩ := ha
  obtain ⟨hb1, hb2⟩ := hb
  have HT := Lib.hid truth_any
  by_cases h3 : a = 0
  · subst h3
    go_enter Try.func80, Try.ntmps80
    go_wp2_with (go_at_call 72; refine (HT.out _ _).mono ?_; rintro e w2 ⟨rfl, rfl⟩)
    all_goals
      go_ret
      exact ⟨ret_int (by unfold rawO; simp <;> rfl), 0, rfl⟩
  · have h4 : (a == 0) = false := by simpa using h3
    have h5 : (a != 0) = true := by simpa using h3
    have H3 := Lib.hid h3
    clear h3
    go_enter Try.func80, Try.ntmps80
    go_wp2_with (go_at_call 72; refine (HT.out _ _).mono ?_; rintro e w2 ⟨rfl, rfl⟩)
    all_goals
      go_ret
      exact ⟨ret_int (by have := H3.out; unfold rawO; simp [this] <;> rfl), 0, rfl⟩

set_option maxRecDepth 100000 in
set_option maxHeartbeats 1000000 in
theorem op14_any (g o c : Nat) (a b : Int) (w : World) (ha : 0 ≤ a ∧ a ≤ 15) (hb : 0 ≤ b ∧ b ≤ 15) (h : w.cell? ⟨g, o, none⟩ = some (.int .i64 a)) (h2 : w.cell? ⟨g, o + 1, none⟩ = some (.int .i64 b)) :
    Calls Try.prog 81 #[.slice (some ⟨g, o, none⟩) 2 c] w (QAns (rawO 14 a b) w) := by
  obtain ⟨ha1, ha2⟩ := ha
  obtain ⟨hb1, hb2⟩ := hb
  have HT := Lib.hid truth_any
  by_cases h3 : a = 0
  · subst h3
    go_enter Try.func81, Try.ntmps81
    go_wp2_with (go_at_call 72; refine (HT.out _ _).mono ?_; rintro e w2 ⟨rfl, rfl⟩)
    all_goals
      go_ret
      exact ⟨ret_int (by unfold rawO; simp <;> rfl), 0, rfl⟩
  · have h4 : (a == 0) = false := by simpa using h3
    have h5 : (a != 0) = true := by simpa using h3
    have H3 := Lib.hid h3
    clear h3
    go_enter Try.func81, Try.ntmps81
    go_wp2_with (go_at_call 72; refine (HT.out _ _).mono ?_; rintro e w2 ⟨rfl, rfl⟩)
    all_goals
      go_ret
      exact ⟨ret_int (by have := H3.out; unfold rawO; simp [this] <;> rfl), 0, rfl⟩

theorem opF_any (op : Int) (h1 : 6 ≤ op) (h2 : op ≤ 14) (g o c : Nat) (a b : Int) (w : World) (ha : 0 ≤ a ∧ a ≤ 15) (hb : 0 ≤ b ∧ b ≤ 15) (h : w.cell? ⟨g, o, none⟩ = some (.int .i64 a)) (h3 : w.cell? ⟨g, o + 1, none⟩ = some (.int .i64 b)) :
    Calls Try.prog (fnF op) #[.slice (some ⟨g, o, none⟩) 2 c] w (QAns (rawO op a b) w) := by
  rcases op_cases op h1 h2 with rfl | rfl | rfl | rfl | rfl | rfl | rfl | rfl | rfl
  · exact op6_any g o c a b w ha hb h h3
  · exact op7_any g o c a b w ha hb h h3
  · exact op8_any g o c a b w ha hb h h3
  · exact op9_any g o c a b w ha hb h h3
  · exact op10_any g o c a b w ha hb h h3
  · exact op11_any g o c a b w ha hb h h3
  · exact op12_any g o c a b w ha hb h h3
  · exact op13_any g o c a b w ha hb h h3
  · exact op14_any g o c a b w ha hb h h3

theorem callF (op : Int) (h1 : 6 ≤ op) (h2 : op ≤ 14) (a : Value) (W : World) : Sem.run Try.prog (callFunc (fnF op) #[a]) W = .ok (.enter (fnF op) #[a]) W := by
  rcases op_cases op h1 h2 with rfl | rfl | rfl | rfl | rfl | rfl | rfl | rfl | rfl <;> kernel_rfl

end Go.Proofs.Ytibkegalbcjmpaa
