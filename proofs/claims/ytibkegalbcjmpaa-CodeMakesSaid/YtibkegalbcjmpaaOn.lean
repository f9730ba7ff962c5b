/- Layer 6: steps of names, of a thread. -/
import Derived.Test.YtibkegalbcjmpaaOm
namespace Go.Proofs.Ytibkegalbcjmpaa
open Go.RowKit

def nodV (x : Nd) : Value := .agg #[.int .i64 x.op, .int .i64 x.n, .string x.nm, .string x.inn, .int .i64 x.pl]
def opnV (o : Opn) : Value := .agg #[.int .i64 o.op, .int .i64 o.n, .int .i64 o.t]

/-- The step of a register's name, and whether there is one. -/
def rsvT (regs : List ByteArray) (x : Nd) : Opn × Bool := (⟨2, ixL regs x.nm 0, 0⟩, decide (x.op = 2) && decide (0 ≤ ixL regs x.nm 0))

/-- What a resolver gives. -/
def RAns (o : Opn) (b : Bool) (w : World) (e : Ending) (w' : World) : Prop := e = .returned (.tuple #[.agg #[.int .i64 o.op, .int .i64 o.n, .int .i64 o.t], .bool b]) ∧ Below w.heap.size w w'

set_option maxRecDepth 100000 in
set_option maxHeartbeats 1000000 in
theorem thr1_any (regs : List ByteArray) (rv : Value) (xo xn : Int) (xm xi : ByteArray) (xp : Int) (p : Nat) (w : World) (hr : StrsD w rv regs) (hn : regs.length ≤ 100000) (hp : w.cell? ⟨p, 0, none⟩ = some rv) (o : Opn) (b : Bool) (ho : rsvT regs ⟨xo, xn, xm, xi, xp⟩ = (o, b)) :
    Calls Try.prog 27 #[.agg #[.int .i64 xo, .int .i64 xn, .string xm, .string xi, .int .i64 xp], .pointer (some ⟨p, 0, none⟩)] w (RAns o b w) := by
  obtain ⟨z, hz⟩ : ∃ z, ixL regs xm 0 = z := ⟨_, rfl⟩
  obtain ⟨rfl, hb⟩ : o = ⟨2, z, 0⟩ ∧ (decide (xo = 2) && decide (0 ≤ z)) = b := by
    unfold rsvT at ho
    simp only [hz] at ho
    obtain ⟨h1, h2⟩ := Prod.mk.inj ho
    exact ⟨h1.symm, h2⟩
  have hl := World.block_lt_of_cell? w ⟨p, 0, none⟩ hp
  simp only [] at hl
  have HI := Lib.hid (fun (W : World) (h : Below w.heap.size w W) => index_any regs rv xm W (StrsD.below hr h) hn z hz)
  obtain ⟨ad, cap, rfl⟩ := hr.shape
  generalize regs.length = n at hp HI
  have HB := Lib.hid (two_new w 57 53 #[.int .i64 xo, .int .i64 xn, .string xm, .string xi, .int .i64 xp] #[.int .i64 0, .int .i64 0, .int .i64 0])
  clear hr hn hz ho
  by_cases h2 : xo = 2
  · subst h2
    obtain rfl : b = decide (0 ≤ z) := by rw [← hb]; rfl
    clear hb
    go_enter Try.func27, Try.ntmps27
    go_wp2_with fail
    refine (HI.out _ HB.out.1).mono ?_
    rintro e w2 ⟨rfl, rfl⟩
    go_wp2
    all_goals
      exact bodyPost_ret (v := .tuple #[.agg #[.int .i64 2, .int .i64 z, .int .i64 0], .bool (decide (0 ≤ z))]) (by simp [results, Try.results27, go_sem]) rfl ⟨rfl, (two_new _ _ _ _ _).1⟩
  · obtain rfl : b = false := by rw [← hb, decide_eq_false h2]; rfl
    have h3 : (xo == 2) = false := by simpa using h2
    clear hb h2
    go_enter Try.func27, Try.ntmps27
    go_wp2_with fail
    refine (HI.out _ HB.out.1).mono ?_
    rintro e w2 ⟨rfl, rfl⟩
    go_wp2
    all_goals
      exact bodyPost_ret (v := .tuple #[.agg #[.int .i64 2, .int .i64 z, .int .i64 0], .bool false]) (by simp [results, Try.results27, go_sem]) rfl ⟨rfl, (two_new _ _ _ _ _).1⟩

/-- The steps that a node becomes, and whether it is one. -/
def stpL (rsv : Nd → Opn × Bool) (x : Nd) : Opn × Bool := if x.op = 2 ∨ x.op = 3 ∨ x.op = 4 then rsv x else (⟨x.op, x.n, 0⟩, true)

def codeE (rsv : Nd → Opn × Bool) : Ex → List Opn
  | .leaf x => [(stpL rsv x).1]
  | .un x a => codeE rsv a ++ [(stpL rsv x).1]
  | .bin x a b => codeE rsv a ++ codeE rsv b ++ [(stpL rsv x).1]
def okE (rsv : Nd → Opn × Bool) : Ex → Bool
  | .leaf x => (stpL rsv x).2
  | .un x a => okE rsv a && (stpL rsv x).2
  | .bin x a b => okE rsv a && okE rsv b && (stpL rsv x).2
theorem codeE_kids (rsv : Nd → Opn × Bool) (e : Ex) : codeE rsv e = (kidsL e).flatMap (codeE rsv) ++ [(stpL rsv (hdN e)).1] := by cases e <;> simp [codeE, kidsL, hdN]
theorem okE_kids (rsv : Nd → Opn × Bool) (e : Ex) : okE rsv e = ((kidsL e).all (okE rsv) && (stpL rsv (hdN e)).2) := by cases e <;> simp [okE, kidsL, hdN]

end Go.Proofs.Ytibkegalbcjmpaa
