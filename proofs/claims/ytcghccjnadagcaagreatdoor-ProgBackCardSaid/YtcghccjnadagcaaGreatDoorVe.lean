/- Facts. -/
import Derived.Test.YtcghccjnadagcaaGreatDoorVr
import Derived.Deep.RegionWith
import Derived.Deep.DeepCutAuto
import Derived.Test.YtcghccjnadagcaaGreatDoorNl
import Derived.Test.YtcghccjnadagcaaGreatDoorNh
set_option maxRecDepth 100000
set_option maxHeartbeats 32000000
namespace Go.Proofs.YtcghccjnadagcaaGreatDoor
open Go.RowKit
def ParseOut' (L i : Nat) : Res → Prop
 | .ok e j => Fit e ∧ e.depth ≤ 30 ∧ e.size ≤ 200 ∧ i < j ∧ j ≤ L
 | .err k _ => k ≠ 0
theorem parse_out' (l : List Tok) (i : Nat) (hi : i ≤ l.length) (hp : ∀ i,(tokO l i).2.2.2 + (tokO l i).2.1.length ≤ 200000) : ParseOut' l.length i (parseR l i):=by
 obtain ⟨r,hr,_⟩:=run_total l (7 * l.length + 6) (.lv 0) 0 i hi (fun n h => by cases h; omega) (fun n e h => by cases h) (by simp only [need]; omega)
 rw [parse_of l i _ r hi hr]
 have h1:=run_good (N:=200000) hp _ _ _ _ _ (fun n e h => by cases h) hr
 have h2:=run_fit _ (.lv 0) 0 i r 0 hi (fun n h => rfl) (fun n e h => by cases h) hr
 cases r with
 | err k a => exact h1.1
 | ok x j =>
  rw [finR_ok]
  by_cases hd : 30 < x.depth
  ·rw [if_pos hd]; show 7 ≠ 0; decide
  ·rw [if_neg hd]
   by_cases hs : 200 < x.size
   ·rw [if_pos hs]; show 2 ≠ 0; decide
   ·rw [if_neg hs]
    exact ⟨h1,by omega,by omega,h2.2 0 x j rfl rfl,h2.1.2.1⟩
def regsB (l : List Nd) : Bool:=(namesL l).all fun x => decide (x.op = 2)
noncomputable def plainR (l : List Tok) (i : Nat) : Res:=match parseR l i with
 | .err k a => .err k a
 | .ok e j => if regsB e.flat then .ok e j else .err 5 (plc l i)
def blkB (k : Nat) : Bool:=decide (k = 10 ∨ k = 11 ∨ k = 12)
def formL (k : Nat) : List UInt8:=
 if k = 2 then [114,61,101,59] else if k = 3 then [114,61,108,59] else if k = 4 then [108,61,101,59] else if k = 5 then [114,61,108,44,101,44,102,59]
 else if k = 6 ∨ k = 7 then [114,61,108,44,101,59] else if k = 9 then [108,113,101,59] else if k = 10 ∨ k = 11 then [101] else if k = 12 then [] else [59]
def kwds : List (List UInt8):=[[],[115,107,105,112],[115,101,116],[108,111,97,100],[115,116,111,114,101],[99,97,115],[102,97,100,100],[120,99,104,103],[102,101,110,99,101],[97,119,97,105,116],[105,102],[119,104,105,108,101],[108,111,111,112],[98,114,101,97,107]]
def kindF (t : List UInt8) (k : Nat) : Nat → Nat
 | 0 => 0
 | f + 1 => if t = kwds.getD k [] then k else kindF t (k + 1) f
def kindL (l : List Tok) (i : Nat) : Nat:=if i < l.length ∧ (tokO l i).1 = 1 then kindF (tokO l i).2.1 1 13 else 0
theorem kindF_le (t : List UInt8) : ∀ f k,kindF t k f = 0 ∨ (k ≤ kindF t k f ∧ kindF t k f < k + f):=by
 intro f
 induction f with
 | zero => intro k; exact .inl rfl
 | succ f ih =>
  intro k
  rw [kindF]
  split
  ·exact .inr ⟨Nat.le_refl _,by omega⟩
  ·rcases ih (k + 1) with h | h
   ·exact .inl h
   ·exact .inr ⟨by omega,by omega⟩
theorem kindL_le (l : List Tok) (i : Nat) : kindL l i ≤ 13:=by
 unfold kindL
 split
 ·rcases kindF_le (tokO l i).2.1 13 1 with h | h <;> omega
 ·omega
end Go.Proofs.YtcghccjnadagcaaGreatDoor
