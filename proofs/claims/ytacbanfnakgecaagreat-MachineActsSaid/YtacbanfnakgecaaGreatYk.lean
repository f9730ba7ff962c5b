/- Layer 10, the code: a thread's turn: what it exchanges; where it goes. -/
import Derived.Test.YtacbanfnakgecaaGreatYg
namespace Go.Proofs.YtacbanfnakgecaaGreat
set_option linter.unusedSimpArgs false
set_option linter.unusedVariables false
open Go.RowKit
def Cf.setR (c : Cf) (k i : Nat) (n : Int) : Cf := { c with regs := c.regs.set k ((c.regs.getD k ([], undef)).1.set i n, (c.regs.getD k ([], undef)).2) }
theorem setR_eq (c : Cf) (k i : Nat) (n : Int) (hk : k < c.regs.length) : ({ c with regs := c.regs.set k ((c.regs[k]).1.set i n, (c.regs[k]).2) } : Cf) = c.setR k i n := by
  have hg : c.regs.getD k ([], undef) = c.regs[k] := by rw [List.getD_eq_getElem?_getD, List.getElem?_eq_getElem hk]; rfl
  unfold Cf.setR
  rw [hg]
theorem tsetR {B N : Nat} (c : Cf) (m model room : Int) (xp xr xm xb f1 f2 : Value) (k : Nat) (x : II) (w : World) (hS : St B N w xp xr xm xb c) (hk : k < c.regs.length) (i : Nat) (hi : i < (c.regs[k]).1.length) (hx : x.x.reg = i) (n : Int) :
    Calls Tryz.prog 106 #[.agg (turnA m model room xp xr xm xb k x f1 f2), .int .i64 n] w fun e w' => e = .returned (.tuple #[]) ∧ St B N w' xp xr xm xb (c.setR k i n) ∧ Fr B N w w' := by
  rw [← setR_eq c k i n hk]
  exact tsetReg_any c m model room xp xr xm xb f1 f2 k x w hS hk i hi hx n
def Cf.setM (c : Cf) (j : Nat) (n : Int) : Cf := { c with mem := c.mem.set j n }
theorem putM {B N : Nat} {w : World} {xp xr xm xb : Value} {c : Cf} (hS : St B N w xp xr xm xb c) (j : Nat) (hj : j < c.mem.length) (n : Int) :
    Calls Tryz.prog 53 #[xm, .int .i64 j, .int .i64 n] w fun e w' => e = .returned (.tuple #[]) ∧ St B N w' xp xr xm xb (c.setM j n) ∧ Fr B N w w' := by
  obtain ⟨g, cap, hv, _, h2, h3, h4, h5⟩ := hS.memAt j hj
  subst hv
  refine (put_any w g c.mem.length cap j n _ hj h3 h4).mono ?_
  rintro e w' ⟨h6, rfl⟩
  exact ⟨h6, (h5 n).1, (h5 n).2⟩
set_option maxRecDepth 100000 in
set_option maxHeartbeats 4000000 in
theorem texchange_any {B N : Nat} (c : Cf) (m model room : Int) (xp xr xm xb f1 f2 : Value) (k : Nat) (x : II) (w : World) (hS : St B N w xp xr xm xb c) (hk : k < c.regs.length) (i : Nat) (hi : i < (c.regs[k]).1.length) (hx : x.x.reg = i) (j : Nat) (hj : j < c.mem.length) (hy : x.x.loc = j) (n1 n2 : Int) :
    Calls Tryz.prog 111 #[.agg (turnA m model room xp xr xm xb k x f1 f2), .int .i64 n1, .int .i64 n2] w fun e w' => e = .returned (.tuple #[]) ∧ St B N w' xp xr xm xb ((c.setR k i n1).setM j n2) ∧ Fr B N w w' := by
  have KA := Lib.hid (Bk.new w 63 (turnA m model room xp xr xm xb k x f1 f2))
  have L0 : Hid (Below w.heap.size w (w.alloc (.cells (turnA m model room xp xr xm xb k x f1 f2) 63))) := (Below.refl _ _).alloc (Nat.le_refl _) _
  generalize hW : World.alloc w _ = W at L0 KA
  have HF0 : Hid (Fr B N w W) := Lib.hid (Fr.below L0.out (Nat.le_trans hS.bn hS.n))
  have HN := Lib.hid hS.n
  have H1 := Lib.hid (tsetR c m model room xp xr xm xb f1 f2 k x W (hS.below L0.out) hk i hi hx n1)
  have H2 := Lib.hid (fun (W1 : World) (h : St B N W1 xp xr xm xb (c.setR k i n1)) => putM h j hj n2)
  obtain ⟨c0, c1, c2, c3, c4, c5, c6, c7, c8, c9, c10, c11, c12, c13, c14, c15, c16, l0⟩ := turn_cells KA.out
  have HY := Lib.hid hy
  clear hi hx hy hS
  unfold turnA at hW H1 ⊢
  go_enter Tryz.func111, Tryz.ntmps111
  go_wp2_with fail
  refine H1.out.mono ?_
  rintro e w2 ⟨rfl, st2, fr2⟩
  have F2 := Lib.hid (HF0.out.trans fr2)
  have K2 := Lib.hid (fr2.bk HN.out KA.out)
  have S2 := Lib.hid st2
  clear c0 c1 c2 c3 c4 c5 c6 c7 c8 c9 c10 c11 c12 c13 c14 c15 c16 l0 st2 fr2 hW
  obtain ⟨c0, c1, c2, c3, c4, c5, c6, c7, c8, c9, c10, c11, c12, c13, c14, c15, c16, l0⟩ := turn_cells K2.out
  rw [HY.out] at c10
  go_wp2_with fail
  refine (H2.out _ S2.out).mono ?_
  rintro e w3 ⟨rfl, st3, fr3⟩
  go_wp2
  exact bodyPost_end (v := .tuple #[]) (by simp [results, Tryz.results111, go_sem]) rfl ⟨rfl, st3, F2.out.trans fr3⟩
end Go.Proofs.YtacbanfnakgecaaGreat
