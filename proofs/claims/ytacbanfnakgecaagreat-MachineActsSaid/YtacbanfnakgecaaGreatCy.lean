/- Layer 11: which agent a number is. Layer 11, the code: which agent a number is. -/
import Derived.Test.YtacbanfnakgecaaGreatUe
namespace Go.Proofs.YtacbanfnakgecaaGreat
set_option linter.unusedSimpArgs false
set_option linter.unusedVariables false
open Go.RowKit
def agN (n l : Nat) (model : Int) : Nat := if model = 1 then n else if model = 2 then n + n else if model = 3 then n + n * l else 0
inductive Ag where
  | no
  | thr (t : Int)
  | fl (t loc : Int)
def agOf (n l : Nat) (model a : Int) : Ag :=
  if 0 ≤ a ∧ a < agN n l model then
    (if a < n then .thr a else if model = 2 then .fl (a - n) (-1) else .fl ((a - n) / (l : Int)) ((a - n) % (l : Int)))
  else .no
def mvG (en : Int → Bool) : Nat → List Int
  | 0 => []
  | a + 1 => if en a = true then mvG en a ++ [(a : Int)] else mvG en a
theorem mvG_len (en : Int → Bool) : ∀ a : Nat, (mvG en a).length ≤ a
  | 0 => Nat.le_refl _
  | a + 1 => by
    have ih := mvG_len en a
    show (if _ then _ else _ : List Int).length ≤ _
    split
    · simp; exact ih
    · omega
end Go.Proofs.YtacbanfnakgecaaGreat

namespace Go.Proofs.YtacbanfnakgecaaGreat
set_option linter.unusedSimpArgs false
set_option linter.unusedVariables false
open Go.RowKit
def agV (m : Int) (vi vr vc : Value) (model : Int) : Ag → Value
  | .no => .nilIface
  | .thr t => .iface 103 (.agg #[.int .i64 m, vi, vr, vc, .int .i64 model, .int .i64 t])
  | .fl t loc => .iface 105 (.agg #[.int .i64 model, .int .i64 t, .int .i64 loc])
def agB : Ag → Bool
  | .no => false
  | _ => true
structure LtU (u : Un) : Prop where
  c : u.code.length ≤ 20
  i : u.init.length ≤ 20
theorem agN_400 {u : Un} (h : LtU u) (model : Int) : agN u.code.length u.init.length model ≤ 420 := by
  unfold agN
  have h1 := h.c
  have h2 := h.i
  have : u.code.length * u.init.length ≤ 20 * 20 := Nat.mul_le_mul h1 h2
  split
  · omega
  · split
    · omega
    · split
      · omega
      · omega
set_option maxRecDepth 100000 in
set_option maxHeartbeats 2000000 in
theorem mcount_any (u : Un) (model : Int) (vi vr vc : Value) (w : World) (hu : UnD w vi vr vc u) (hl : LtU u) (n : Int) (hn : (agN u.code.length u.init.length model : Int) = n) :
    Calls Tryz.prog 45 #[.agg #[.int .i64 u.mod, vi, vr, vc], .int .i64 model] w fun e w' => e = .returned (.int .i64 n) ∧ Below w.heap.size w w' := by
  obtain ⟨ai, ci, rfl⟩ := hu.i.shape0
  obtain ⟨ac, cc, rfl⟩ := hu.c.shape0
  have h1 := hl.c
  have h2 := hl.i
  clear hu hl
  have hmul : u.code.length * u.init.length ≤ 20 * 20 := Nat.mul_le_mul h1 h2
  generalize u.code.length = nc at *
  generalize u.init.length = ni at *
  have h3 : ((nc * ni : Nat) : Int) = (nc : Int) * (ni : Int) := Int.natCast_mul nc ni
  have L0 : Hid (Below w.heap.size w (w.alloc (.cells #[.int .i64 u.mod, .slice ai ni ci, vr, .slice ac nc cc] 25))) := (Below.refl _ _).alloc (Nat.le_refl _) _
  subst hn
  have w1 : IntKind.i64.wrap ((nc : Int) + (nc : Int)) = (nc : Int) + (nc : Int) := IntWalk.i64_in _ (by omega)
  have w2 : IntKind.i64.wrap ((nc : Int) * (ni : Int)) = (nc : Int) * (ni : Int) := IntWalk.i64_in _ (by omega)
  have w3 : IntKind.i64.wrap ((nc : Int) + (nc : Int) * (ni : Int)) = (nc : Int) + (nc : Int) * (ni : Int) := IntWalk.i64_in _ (by omega)
  by_cases m1 : model = 1
  · subst m1
    go_enter Tryz.func45, Tryz.ntmps45
    go_wp2_with fail
    go_quiet (fail)
    go_wp2
    go_ret
    exact ⟨ret_int (by unfold agN; rw [if_pos rfl]), below_drewN' L0.out _⟩
  by_cases m2 : model = 2
  · subst m2
    go_enter Tryz.func45, Tryz.ntmps45
    go_wp2_with fail
    go_quiet (fail)
    go_wp2
    go_ret
    exact ⟨ret_int (by unfold agN; simp), below_drewN' L0.out _⟩
  by_cases m3 : model = 3
  · subst m3
    go_enter Tryz.func45, Tryz.ntmps45
    go_wp2_with fail
    go_quiet (fail)
    go_wp2
    go_ret
    exact ⟨ret_int (by unfold agN; simp), below_drewN' L0.out _⟩
  · go_enter Tryz.func45, Tryz.ntmps45
    go_wp2_with fail
    go_quiet (fail)
    go_wp2
    go_ret
    exact ⟨ret_int (by unfold agN; rw [if_neg m1, if_neg m2, if_neg m3]; rfl), below_drewN' L0.out _⟩
set_option maxRecDepth 100000 in
set_option maxHeartbeats 4000000 in
theorem agentOf_any (u : Un) (model a : Int) (vi vr vc : Value) (w : World) (hu : UnD w vi vr vc u) (hl : LtU u) (g : Ag) (hg : agOf u.code.length u.init.length model a = g) :
    Calls Tryz.prog 42 #[.agg #[.int .i64 u.mod, vi, vr, vc], .int .i64 model, .int .i64 a] w fun e w' => e = .returned (.tuple #[agV u.mod vi vr vc model g, .bool (agB g)]) ∧ Below w.heap.size w w' := by
  have HCN := Lib.hid (fun (W : World) (h : Below w.heap.size w W) => mcount_any u model vi vr vc W (hu.below h) hl _ rfl)
  obtain ⟨ai, ci, rfl⟩ := hu.i.shape0
  obtain ⟨ac, cc, rfl⟩ := hu.c.shape0
  have h1 := hl.c
  have h2 := hl.i
  have hN4 := agN_400 hl model
  clear hu hl
  generalize u.code.length = nc at *
  generalize u.init.length = ni at *
  have HN4 := Lib.hid hN4
  have HG := Lib.hid hg
  clear hN4 hg
  have L0 : Hid (Below w.heap.size w (w.alloc (.cells #[.int .i64 u.mod, .slice ai ni ci, vr, .slice ac nc cc] 25))) := (Below.refl _ _).alloc (Nat.le_refl _) _
  have KU := Lib.hid (Bk.new w 25 #[.int .i64 u.mod, .slice ai ni ci, vr, .slice ac nc cc])
  by_cases a0 : 0 ≤ a
  case neg =>
    have a0' : a < 0 := by omega
    obtain rfl : g = .no := by rw [← HG.out]; unfold agOf; rw [if_neg (by omega)]
    go_enter Tryz.func42, Tryz.ntmps42
    go_wp2_with fail
    refine bodyPost_ret (v := .tuple #[agV u.mod (.slice ai ni ci) vr (.slice ac nc cc) model .no, .bool false]) (by simp [results, Tryz.results42, go_sem, agV]) rfl ⟨rfl, L0.out⟩
  have a0' : ¬ a < 0 := by omega
  obtain ⟨N, hN⟩ : ∃ N, agN nc ni model = N := ⟨_, rfl⟩
  rw [hN] at HCN
  have HCN := Lib.hid (HCN.out _ L0.out)
  by_cases aN : a < N
  case neg =>
    have aN' : (N : Int) ≤ a := by omega
    obtain rfl : g = .no := by rw [← HG.out]; unfold agOf; rw [if_neg (by rw [hN]; omega)]
    go_enter Tryz.func42, Tryz.ntmps42
    go_wp2_with fail
    generalize World.alloc w (.cells #[.int .i64 u.mod, .slice ai ni ci, vr, .slice ac nc cc] 25) = w1 at L0 KU HCN ⊢
    refine HCN.out.mono ?_
    rintro e w2 ⟨rfl, b⟩
    have B2 := Lib.hid (L0.out.trans (b.mono L0.out.size))
    have KU2 := Lib.hid (KU.out.below b)
    clear b HCN L0 KU
    obtain ⟨c0, c1, c2, c3, cl⟩ : w2.cell? ⟨w.heap.size, 0, none⟩ = some (.int .i64 u.mod) ∧ w2.cell? ⟨w.heap.size, 1, none⟩ = some (.slice ai ni ci) ∧ w2.cell? ⟨w.heap.size, 2, none⟩ = some vr ∧ w2.cell? ⟨w.heap.size, 3, none⟩ = some (.slice ac nc cc) ∧ w.heap.size < w2.heap.size := ⟨KU2.out.cell 0, KU2.out.cell 1, KU2.out.cell 2, KU2.out.cell 3, KU2.out.lt⟩
    go_wp2_with fail
    refine bodyPost_ret (v := .tuple #[agV u.mod (.slice ai ni ci) vr (.slice ac nc cc) model .no, .bool false]) (by simp [results, Tryz.results42, go_sem, agV]) rfl ⟨rfl, B2.out⟩
  have aN' : ¬ (N : Int) ≤ a := by omega
  by_cases an : a < nc
  · obtain rfl : g = .thr a := by rw [← HG.out]; unfold agOf; rw [if_pos (by rw [hN]; omega), if_pos an]
    go_enter Tryz.func42, Tryz.ntmps42
    go_wp2_with fail
    generalize World.alloc w (.cells #[.int .i64 u.mod, .slice ai ni ci, vr, .slice ac nc cc] 25) = w1 at L0 KU HCN ⊢
    refine HCN.out.mono ?_
    rintro e w2 ⟨rfl, b⟩
    have B2 := Lib.hid (L0.out.trans (b.mono L0.out.size))
    have KU2 := Lib.hid (KU.out.below b)
    clear b HCN L0 KU
    obtain ⟨c0, c1, c2, c3, cl⟩ : w2.cell? ⟨w.heap.size, 0, none⟩ = some (.int .i64 u.mod) ∧ w2.cell? ⟨w.heap.size, 1, none⟩ = some (.slice ai ni ci) ∧ w2.cell? ⟨w.heap.size, 2, none⟩ = some vr ∧ w2.cell? ⟨w.heap.size, 3, none⟩ = some (.slice ac nc cc) ∧ w.heap.size < w2.heap.size := ⟨KU2.out.cell 0, KU2.out.cell 1, KU2.out.cell 2, KU2.out.cell 3, KU2.out.lt⟩
    go_wp2_with fail
    go_quiet (fail)
    go_wp2_with fail
    refine bodyPost_ret (v := .tuple #[agV u.mod (.slice ai ni ci) vr (.slice ac nc cc) model (.thr a), .bool true]) (by simp [results, Tryz.results42, go_sem, agV]) rfl ⟨rfl, below_drewN' B2.out _⟩
  have an' : ¬ a < nc := an
  obtain ⟨d, hd⟩ : ∃ d : Nat, a - nc = (d : Int) := ⟨(a - nc).toNat, by omega⟩
  have hw : IntKind.i64.wrap (a - (nc : Int)) = (d : Int) := by rw [IntWalk.i64_in _ (by have := HN4.out; omega), hd]
  by_cases m2 : model = 2
  · obtain rfl : g = .fl (d : Int) (-1) := by rw [← HG.out]; unfold agOf; rw [if_pos (by rw [hN]; omega), if_neg an, if_pos m2, hd]
    subst m2
    clear hd
    go_enter Tryz.func42, Tryz.ntmps42
    go_wp2_with fail
    generalize World.alloc w (.cells #[.int .i64 u.mod, .slice ai ni ci, vr, .slice ac nc cc] 25) = w1 at L0 KU HCN ⊢
    refine HCN.out.mono ?_
    rintro e w2 ⟨rfl, b⟩
    have B2 := Lib.hid (L0.out.trans (b.mono L0.out.size))
    have KU2 := Lib.hid (KU.out.below b)
    clear b HCN L0 KU
    obtain ⟨c0, c1, c2, c3, cl⟩ : w2.cell? ⟨w.heap.size, 0, none⟩ = some (.int .i64 u.mod) ∧ w2.cell? ⟨w.heap.size, 1, none⟩ = some (.slice ai ni ci) ∧ w2.cell? ⟨w.heap.size, 2, none⟩ = some vr ∧ w2.cell? ⟨w.heap.size, 3, none⟩ = some (.slice ac nc cc) ∧ w.heap.size < w2.heap.size := ⟨KU2.out.cell 0, KU2.out.cell 1, KU2.out.cell 2, KU2.out.cell 3, KU2.out.lt⟩
    go_wp2_with fail
    go_quiet (fail)
    go_wp2_with fail
    refine bodyPost_ret (v := .tuple #[agV u.mod (.slice ai ni ci) vr (.slice ac nc cc) 2 (.fl (d : Int) (-1)), .bool true]) (by simp [results, Tryz.results42, go_sem, agV]) rfl ⟨rfl, below_drewN' B2.out _⟩
  have m3 : model = 3 := by
    have h9 := hN
    unfold agN at h9
    by_cases h1' : model = 1
    · rw [if_pos h1'] at h9; omega
    · rw [if_neg h1', if_neg m2] at h9
      by_cases h3' : model = 3
      · exact h3'
      · rw [if_neg h3'] at h9; omega
  have hni : 0 < ni := by
    have h9 := hN
    unfold agN at h9
    rw [if_neg (by omega), if_neg (by omega), if_pos m3] at h9
    rcases Nat.eq_zero_or_pos ni with h0 | h0
    · subst h0; rw [Nat.mul_zero] at h9; omega
    · exact h0
  obtain rfl : g = .fl ((d / ni : Nat) : Int) ((d % ni : Nat) : Int) := by
    rw [← HG.out]; unfold agOf; rw [if_pos (by rw [hN]; omega), if_neg an, if_neg m2, hd, Int.natCast_ediv, Int.natCast_emod]
  have hq : (d : Int).tdiv (ni : Int) = ((d / ni : Nat) : Int) := by rw [Int.tdiv_eq_ediv_of_nonneg (by omega), Int.natCast_ediv]
  have hr : (d : Int).tmod (ni : Int) = ((d % ni : Nat) : Int) := by rw [Int.tmod_eq_emod_of_nonneg (by omega), Int.natCast_emod]
  have hdN : d ≤ 420 := by have := HN4.out; omega
  have hqd : d / ni ≤ 420 := Nat.le_trans (Nat.div_le_self _ _) hdN
  have hrd : d % ni ≤ 420 := Nat.le_trans (Nat.mod_le _ _) hdN
  clear HG
  generalize d / ni = q at *
  generalize d % ni = r at *
  have hqw : IntKind.i64.wrap (q : Int) = (q : Int) := IntWalk.i64_in _ (by omega)
  have hrw : IntKind.i64.wrap (r : Int) = (r : Int) := IntWalk.i64_in _ (by omega)
  have hnz : ¬ (ni : Int) = 0 := by omega
  subst m3
  clear hd
  · go_enter Tryz.func42, Tryz.ntmps42
    go_wp2_with fail
    generalize World.alloc w (.cells #[.int .i64 u.mod, .slice ai ni ci, vr, .slice ac nc cc] 25) = w1 at L0 KU HCN ⊢
    refine HCN.out.mono ?_
    rintro e w2 ⟨rfl, b⟩
    have B2 := Lib.hid (L0.out.trans (b.mono L0.out.size))
    have KU2 := Lib.hid (KU.out.below b)
    clear b HCN L0 KU
    obtain ⟨c0, c1, c2, c3, cl⟩ : w2.cell? ⟨w.heap.size, 0, none⟩ = some (.int .i64 u.mod) ∧ w2.cell? ⟨w.heap.size, 1, none⟩ = some (.slice ai ni ci) ∧ w2.cell? ⟨w.heap.size, 2, none⟩ = some vr ∧ w2.cell? ⟨w.heap.size, 3, none⟩ = some (.slice ac nc cc) ∧ w.heap.size < w2.heap.size := ⟨KU2.out.cell 0, KU2.out.cell 1, KU2.out.cell 2, KU2.out.cell 3, KU2.out.lt⟩
    go_wp2_with fail
    go_quiet (fail)
    go_wp2_with fail
    go_quiet (fail)
    go_wp2_with fail
    refine bodyPost_ret (v := .tuple #[agV u.mod (.slice ai ni ci) vr (.slice ac nc cc) 3 (.fl (q : Int) (r : Int)), .bool true]) (by simp [results, Tryz.results42, go_sem, agV]) rfl ⟨rfl, below_drewN' (below_drewN' B2.out _) _⟩
end Go.Proofs.YtacbanfnakgecaaGreat
