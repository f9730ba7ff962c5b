/- Layer 11, the code: names. Layer 11, the code: an agent's name. -/
import Derived.Test.YtacbanfnakgecaaGreatCc
namespace Go.Proofs.YtacbanfnakgecaaGreat
set_option linter.unusedSimpArgs false
set_option linter.unusedVariables false
open Go.RowKit
def dgS (n : Int) : ByteArray := ⟨#[UInt8.ofNat (48 + n.toNat)]⟩
theorem itoa_0 (w : World) : Calls Tryz.prog 170 #[.int .i64 0] w fun e w' => e = .returned (.string (dgS 0)) ∧ Below w.heap.size w w' := by
  go_enter Tryz.func170, Tryz.ntmps170
  go_wp2
  go_ret
  exact ⟨by kernel_rfl, Below.refl _ _⟩
theorem itoa_1 (w : World) : Calls Tryz.prog 170 #[.int .i64 1] w fun e w' => e = .returned (.string (dgS 1)) ∧ Below w.heap.size w w' := by
  go_enter Tryz.func170, Tryz.ntmps170
  go_wp2
  go_ret
  exact ⟨by kernel_rfl, Below.refl _ _⟩
theorem itoa_2 (w : World) : Calls Tryz.prog 170 #[.int .i64 2] w fun e w' => e = .returned (.string (dgS 2)) ∧ Below w.heap.size w w' := by
  go_enter Tryz.func170, Tryz.ntmps170
  go_wp2
  go_ret
  exact ⟨by kernel_rfl, Below.refl _ _⟩
theorem itoa_3 (w : World) : Calls Tryz.prog 170 #[.int .i64 3] w fun e w' => e = .returned (.string (dgS 3)) ∧ Below w.heap.size w w' := by
  go_enter Tryz.func170, Tryz.ntmps170
  go_wp2
  go_ret
  exact ⟨by kernel_rfl, Below.refl _ _⟩
theorem itoa_4 (w : World) : Calls Tryz.prog 170 #[.int .i64 4] w fun e w' => e = .returned (.string (dgS 4)) ∧ Below w.heap.size w w' := by
  go_enter Tryz.func170, Tryz.ntmps170
  go_wp2
  go_ret
  exact ⟨by kernel_rfl, Below.refl _ _⟩
theorem itoa_5 (w : World) : Calls Tryz.prog 170 #[.int .i64 5] w fun e w' => e = .returned (.string (dgS 5)) ∧ Below w.heap.size w w' := by
  go_enter Tryz.func170, Tryz.ntmps170
  go_wp2
  go_ret
  exact ⟨by kernel_rfl, Below.refl _ _⟩
theorem itoa_any (n : Int) (w : World) (h0 : 0 ≤ n) (h5 : n ≤ 5) : Calls Tryz.prog 170 #[.int .i64 n] w fun e w' => e = .returned (.string (dgS n)) ∧ Below w.heap.size w w' := by
  have h : n = 0 ∨ n = 1 ∨ n = 2 ∨ n = 3 ∨ n = 4 ∨ n = 5 := by omega
  rcases h with rfl | rfl | rfl | rfl | rfl | rfl
  · exact itoa_0 w
  · exact itoa_1 w
  · exact itoa_2 w
  · exact itoa_3 w
  · exact itoa_4 w
  · exact itoa_5 w
end Go.Proofs.YtacbanfnakgecaaGreat

namespace Go.Proofs.YtacbanfnakgecaaGreat
set_option linter.unusedSimpArgs false
set_option linter.unusedVariables false
open Go.RowKit
def byT : ByteArray := ⟨#[116]⟩
def byF : ByteArray := ⟨#[102]⟩
def byP : ByteArray := ⟨#[46]⟩
def nmG : Ag → ByteArray
  | .no => ⟨#[]⟩
  | .thr t => byT ++ dgS t
  | .fl t loc => if loc = -1 then byF ++ dgS t else byF ++ dgS t ++ byP ++ dgS loc
theorem dg_size (n : Int) : (dgS n).size = 1 := rfl
theorem ret_str {a b : ByteArray} (h : a = b) : Ending.returned (.string a) = .returned (.string b) := by rw [h]
set_option maxRecDepth 100000 in
set_option maxHeartbeats 2000000 in
theorem thr_na (m model t : Int) (vi vr vc : Value) (w : World) (h0 : 0 ≤ t) (h5 : t ≤ 5) :
    Calls Tryz.prog 169 #[.agg #[.int .i64 m, vi, vr, vc, .int .i64 model, .int .i64 t]] w fun e w' => e = .returned (.string (nmG (.thr t))) ∧ Below w.heap.size w w' := by
  have HI := Lib.hid (fun W => itoa_any t W h0 h5)
  have L0 : Hid (Below w.heap.size w (w.alloc (.cells #[.int .i64 m, vi, vr, vc, .int .i64 model, .int .i64 t] 103))) := (Below.refl _ _).alloc (Nat.le_refl _) _
  have HD : (dgS t).size = 1 := dg_size t
  show Calls _ _ _ _ fun e w' => e = .returned (.string (byT ++ dgS t)) ∧ _
  generalize dgS t = D at HI HD ⊢
  go_enter Tryz.func169, Tryz.ntmps169
  go_wp2_with fail
  generalize World.alloc w _ = w1 at L0 ⊢
  refine (HI.out w1).mono ?_
  rintro e w2 ⟨rfl, b⟩
  go_wp2_with fail
  go_ret
  exact ⟨rfl, L0.out.trans (b.mono L0.out.size)⟩
set_option maxRecDepth 100000 in
set_option maxHeartbeats 2000000 in
theorem fl_na (model t loc : Int) (w : World) (h0 : 0 ≤ t) (h5 : t ≤ 5) (l0 : -1 ≤ loc) (l5 : loc ≤ 5) :
    Calls Tryz.prog 186 #[.agg #[.int .i64 model, .int .i64 t, .int .i64 loc]] w fun e w' => e = .returned (.string (nmG (.fl t loc))) ∧ Below w.heap.size w w' := by
  have HI := Lib.hid (fun W => itoa_any t W h0 h5)
  have HL := Lib.hid (fun (h : 0 ≤ loc) W => itoa_any loc W h l5)
  have L0 : Hid (Below w.heap.size w (w.alloc (.cells #[.int .i64 model, .int .i64 t, .int .i64 loc] 105))) := (Below.refl _ _).alloc (Nat.le_refl _) _
  have KF := Lib.hid (Bk.new w 105 #[.int .i64 model, .int .i64 t, .int .i64 loc])
  have HD : (dgS t).size = 1 := dg_size t
  have HE : (dgS loc).size = 1 := dg_size loc
  show Calls _ _ _ _ fun e w' => e = .returned (.string (if loc = -1 then byF ++ dgS t else byF ++ dgS t ++ byP ++ dgS loc)) ∧ _
  generalize dgS t = D at HI HD ⊢
  generalize dgS loc = E at HL HE ⊢
  by_cases hl : loc = -1
  · subst hl
    rw [if_pos rfl]
    go_enter Tryz.func186, Tryz.ntmps186
    go_wp2_with fail
    generalize World.alloc w _ = w1 at L0 KF ⊢
    refine (HI.out w1).mono ?_
    rintro e w2 ⟨rfl, b⟩
    have KF2 := Lib.hid (KF.out.below b)
    obtain ⟨f0, f1, f2, fl⟩ : w2.cell? ⟨w.heap.size, 0, none⟩ = some (.int .i64 model) ∧ w2.cell? ⟨w.heap.size, 1, none⟩ = some (.int .i64 t) ∧ w2.cell? ⟨w.heap.size, 2, none⟩ = some (.int .i64 (-1)) ∧ w.heap.size < w2.heap.size := ⟨KF2.out.cell 0, KF2.out.cell 1, KF2.out.cell 2, KF2.out.lt⟩
    go_wp2_with fail
    go_ret
    exact ⟨rfl, L0.out.trans (b.mono L0.out.size)⟩
  · rw [if_neg hl]
    have HL := Lib.hid (HL.out (by omega))
    have hl' : (loc == -1) = false := by simpa using hl
    replace hl := Lib.hid hl
    go_enter Tryz.func186, Tryz.ntmps186
    go_wp2_with fail
    generalize World.alloc w _ = w1 at L0 KF ⊢
    refine (HI.out w1).mono ?_
    rintro e w2 ⟨rfl, b⟩
    have B2 := Lib.hid (L0.out.trans (b.mono L0.out.size))
    have KF2 := Lib.hid (KF.out.below b)
    clear b L0 KF
    obtain ⟨f0, f1, f2, fl⟩ : w2.cell? ⟨w.heap.size, 0, none⟩ = some (.int .i64 model) ∧ w2.cell? ⟨w.heap.size, 1, none⟩ = some (.int .i64 t) ∧ w2.cell? ⟨w.heap.size, 2, none⟩ = some (.int .i64 loc) ∧ w.heap.size < w2.heap.size := ⟨KF2.out.cell 0, KF2.out.cell 1, KF2.out.cell 2, KF2.out.lt⟩
    go_wp2_with fail
    refine (HL.out w2).mono ?_
    rintro e w3 ⟨rfl, b⟩
    go_wp2_with fail
    go_ret
    exact ⟨rfl, B2.out.trans (b.mono B2.out.size)⟩
end Go.Proofs.YtacbanfnakgecaaGreat
