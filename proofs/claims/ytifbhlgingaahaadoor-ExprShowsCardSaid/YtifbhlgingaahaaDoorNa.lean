/- Nodes as they lie in memory; what operands, kids, number and both End do. -/
import Derived.Test.YtifbhlgingaahaaDoorK
import Derived.Deep.QuietTactic
import Derived.BigQuiet
import Derived.IntWalk
namespace Go.Proofs.YtifbhlgingaahaaDoor
open Go.RowKit

/-- A node: its operator, its number, its name, its other name, its place. -/
structure Nd where
  op : Int
  n : Int
  nm : ByteArray
  inn : ByteArray
  pl : Int

def Nd.cells (x : Nd) : List Value := [.int .i64 x.op, .int .i64 x.n, .string x.nm, .string x.inn, .int .i64 x.pl]
def rowN (l : List Nd) : List Value := l.flatMap Nd.cells

def NdAt (w : World) (b o : Nat) (x : Nd) : Prop :=
  w.cell? ⟨b, o, none⟩ = some (.int .i64 x.op) ∧ w.cell? ⟨b, o + 1, none⟩ = some (.int .i64 x.n) ∧ w.cell? ⟨b, o + 2, none⟩ = some (.string x.nm) ∧ w.cell? ⟨b, o + 3, none⟩ = some (.string x.inn) ∧ w.cell? ⟨b, o + 4, none⟩ = some (.int .i64 x.pl)

/-- A slice of nodes as it lies in memory. -/
def Nds (w : World) (v : Value) (l : List Nd) : Prop :=
  (l = [] ∧ ∃ ad cap, v = .slice ad 0 cap) ∨
  ∃ b off cap, v = .slice (some ⟨b, off, none⟩) l.length cap ∧ b < w.heap.size ∧ ∀ i, (h : i < l.length) → NdAt w b (off + i * 5) l[i]

theorem NdAt.below {w w' : World} {B b o : Nat} {x : Nd} (h : NdAt w b o x) (hb : Below B w w') (hlt : b < B) : NdAt w' b o x := by
  obtain ⟨k0, k1, k2, k3, k4⟩ := h
  exact ⟨(hb.cell (p := ⟨b, _, none⟩) hlt).trans k0, (hb.cell (p := ⟨b, _, none⟩) hlt).trans k1, (hb.cell (p := ⟨b, _, none⟩) hlt).trans k2, (hb.cell (p := ⟨b, _, none⟩) hlt).trans k3, (hb.cell (p := ⟨b, _, none⟩) hlt).trans k4⟩

theorem Nds.below {w w' : World} {v : Value} {l : List Nd} (h : Nds w v l) (hb : Below w.heap.size w w') : Nds w' v l := by
  rcases h with h | ⟨b, off, cap, hv, hlt, hc⟩
  · exact .inl h
  · exact .inr ⟨b, off, cap, hv, Nat.lt_of_lt_of_le hlt hb.size, fun i hi => (hc i hi).below hb hlt⟩

/-- The value of a slice of nodes, as the walk takes it apart. -/
theorem Nds.cases {w : World} {v : Value} {l : List Nd} (h : Nds w v l) : ∃ ad cap, v = .slice ad l.length cap ∧ ∀ i, (hi : i < l.length) → ∃ b off, ad = some ⟨b, off, none⟩ ∧ b < w.heap.size ∧ NdAt w b (off + i * 5) l[i] := by
  rcases h with ⟨rfl, ad, cap, rfl⟩ | ⟨b, off, cap, hv, hlt, hc⟩
  · exact ⟨ad, cap, rfl, fun i hi => absurd hi (Nat.not_lt_zero _)⟩
  · exact ⟨_, cap, hv, fun i hi => ⟨b, off, rfl, hlt, hc i hi⟩⟩

/-- How many operands an operator has. -/
def ar (op : Int) : Int := if 1 ≤ op ∧ op ≤ 4 then 0 else if op = 5 then 1 else if 6 ≤ op ∧ op ≤ 14 then 2 else -1

theorem ar_cases (op : Int) : ar op = -1 ∨ ar op = 0 ∨ ar op = 1 ∨ ar op = 2 := by
  unfold ar; repeat' split
  all_goals omega

set_option maxHeartbeats 400000 in
theorem operands_any (op : Int) (w : World) :
    Calls Tryd.prog 26 #[.int .i64 op] w fun e w' => e = .returned (.int .i64 (ar op)) ∧ w = w' := by
  go_enter Tryd.func26, Tryd.ntmps26
  go_wp2
  all_goals
    go_ret
    exact ⟨ret_int (by simp_all [ar]; try omega), rfl⟩

set_option maxHeartbeats 400000 in
theorem kids_any (op : Int) (w : World) :
    Calls Tryd.prog 27 #[.int .i64 op] w fun e w' => e = .returned (.int .i64 (ar op)) ∧ w = w' := by
  go_enter Tryd.func27, Tryd.ntmps27
  go_wp2
  all_goals
    go_ret
    exact ⟨ret_int (by unfold ar; repeat' split
                       all_goals first | omega | (simp_all; try omega)), rfl⟩

def numB (n : Int) : Bool := decide (0 ≤ n ∧ n ≤ 9999)

set_option maxHeartbeats 400000 in
theorem number_any (n : Int) (w : World) :
    Calls Tryd.prog 33 #[.int .i64 n] w fun e w' => e = .returned (.bool (numB n)) ∧ w = w' := by
  go_enter Tryd.func33, Tryd.ntmps33
  go_wp2
  all_goals
    go_ret
    exact ⟨ret_bool (by rw [Bool.eq_iff_iff]; simp [numB]; try omega), rfl⟩

end Go.Proofs.YtifbhlgingaahaaDoor
