/- Layer 10, the code: a thread's turn: whether what it awaits has come. Layer 10, the code: a thread's turn: what it sets and loads. -/
import Derived.Test.YtacbanfnakgecaaGreatYg
import Derived.Test.YtacbanfnakgecaaGreatYk
namespace Go.Proofs.YtacbanfnakgecaaGreat
set_option linter.unusedSimpArgs false
set_option linter.unusedVariables false
open Go.RowKit
set_option maxRecDepth 100000 in
set_option maxHeartbeats 4000000 in
theorem tmet_any (u : Un) (c : Cf) (model room : Int) (xp xr xm xb f1 f2 : Value) (k : Nat) (x : II) (w : World) (hc : CfD w xp xr xm xb c) (hk : k < c.regs.length) (hr : ∀ r ∈ c.regs, r.1.length ≤ 100000) (hs : ∀ r ∈ c.buf, r.1.length ≤ 100000) (hl : OpsD w x.ev x.x.e) (hn : x.x.e.length ≤ 100000)
    (b : Bool) (hb : ((decide (readsC c k x.x.loc = valC u c k x.x.e)) != x.x.ne) = b) :
    Calls Tryz.prog 86 #[.agg (turnA u.mod model room xp xr xm xb k x f1 f2)] w fun e w' => e = .returned (.bool b) ∧ Below w.heap.size w w' := by
  have KA := Lib.hid (Bk.new w 63 (turnA u.mod model room xp xr xm xb k x f1 f2))
  have L0 : Hid (Below w.heap.size w (w.alloc (.cells (turnA u.mod model room xp xr xm xb k x f1 f2) 63))) := (Below.refl _ _).alloc (Nat.le_refl _) _
  obtain ⟨q1, hq1⟩ : ∃ q, readsC c k x.x.loc = q := ⟨_, rfl⟩
  obtain ⟨q2, hq2⟩ : ∃ q, valC u c k x.x.e = q := ⟨_, rfl⟩
  have HR := Lib.hid (fun (W : World) (h : Below w.heap.size w W) => tread_any c k u.mod model room xp xr xm xb f1 f2 x W (hc.below h) hs q1 hq1)
  have HV := Lib.hid (fun (W : World) (h : Below w.heap.size w W) => tvalue_any u c k x.x.e model room xp xr xm xb x.ev f1 f2 x W (hc.below h) hk hr (OpsD.below hl h) hn q2 hq2)
  rw [hq1, hq2] at hb
  have HB := Lib.hid hb
  generalize u.mod = m at KA L0 HR HV ⊢
  clear hc hb hs hq1 hq2 hr hl hn hk
  generalize hW : World.alloc w _ = W at L0 KA
  have KK := Lib.hid (fun W1 (hb : Below W.heap.size W W1) => (⟨(KA.out.below hb).cell 0, (KA.out.below hb).cell 1, (KA.out.below hb).cell 2, (KA.out.below hb).cell 3, (KA.out.below hb).cell 4, (KA.out.below hb).cell 5, (KA.out.below hb).cell 6, (KA.out.below hb).cell 7, (KA.out.below hb).cell 8, (KA.out.below hb).cell 9, (KA.out.below hb).cell 10, (KA.out.below hb).cell 11, (KA.out.below hb).cell 12, (KA.out.below hb).cell 13, (KA.out.below hb).cell 14, (KA.out.below hb).cell 15, (KA.out.below hb).cell 16, (KA.out.below hb).lt, L0.out.trans (hb.mono L0.out.size)⟩ : W1.cell? ⟨w.heap.size, 0, none⟩ = some (.int .i64 m) ∧ W1.cell? ⟨w.heap.size, 1, none⟩ = some (.int .i64 model) ∧ W1.cell? ⟨w.heap.size, 2, none⟩ = some (.int .i64 room) ∧ W1.cell? ⟨w.heap.size, 3, none⟩ = some xp ∧ W1.cell? ⟨w.heap.size, 4, none⟩ = some xr ∧ W1.cell? ⟨w.heap.size, 5, none⟩ = some xm ∧ W1.cell? ⟨w.heap.size, 6, none⟩ = some xb ∧ W1.cell? ⟨w.heap.size, 7, none⟩ = some (.int .i64 k) ∧ W1.cell? ⟨w.heap.size, 8, none⟩ = some (.int .i64 x.x.op) ∧ W1.cell? ⟨w.heap.size, 9, none⟩ = some (.int .i64 x.x.reg) ∧ W1.cell? ⟨w.heap.size, 10, none⟩ = some (.int .i64 x.x.loc) ∧ W1.cell? ⟨w.heap.size, 11, none⟩ = some x.ev ∧ W1.cell? ⟨w.heap.size, 12, none⟩ = some x.fv ∧ W1.cell? ⟨w.heap.size, 13, none⟩ = some (.bool x.x.ne) ∧ W1.cell? ⟨w.heap.size, 14, none⟩ = some (.int .i64 x.x.to) ∧ W1.cell? ⟨w.heap.size, 15, none⟩ = some f1 ∧ W1.cell? ⟨w.heap.size, 16, none⟩ = some f2 ∧ w.heap.size < W1.heap.size ∧ Below w.heap.size w W1))
  unfold turnA at hW HR HV ⊢
  go_enter Tryz.func86, Tryz.ntmps86
  go_wp2_with fail
  clear hW KA
  have bb : Below W.heap.size W W.drew := below_draws' W
  have bw : Below W.heap.size W W := Below.refl _ _
  go_region_held3 (fun W1 => W1.cell? ⟨w.heap.size, 0, none⟩ = some (.int .i64 m) ∧ W1.cell? ⟨w.heap.size, 1, none⟩ = some (.int .i64 model) ∧ W1.cell? ⟨w.heap.size, 2, none⟩ = some (.int .i64 room) ∧ W1.cell? ⟨w.heap.size, 3, none⟩ = some xp ∧ W1.cell? ⟨w.heap.size, 4, none⟩ = some xr ∧ W1.cell? ⟨w.heap.size, 5, none⟩ = some xm ∧ W1.cell? ⟨w.heap.size, 6, none⟩ = some xb ∧ W1.cell? ⟨w.heap.size, 7, none⟩ = some (.int .i64 k) ∧ W1.cell? ⟨w.heap.size, 8, none⟩ = some (.int .i64 x.x.op) ∧ W1.cell? ⟨w.heap.size, 9, none⟩ = some (.int .i64 x.x.reg) ∧ W1.cell? ⟨w.heap.size, 10, none⟩ = some (.int .i64 x.x.loc) ∧ W1.cell? ⟨w.heap.size, 11, none⟩ = some x.ev ∧ W1.cell? ⟨w.heap.size, 12, none⟩ = some x.fv ∧ W1.cell? ⟨w.heap.size, 13, none⟩ = some (.bool x.x.ne) ∧ W1.cell? ⟨w.heap.size, 14, none⟩ = some (.int .i64 x.x.to) ∧ W1.cell? ⟨w.heap.size, 15, none⟩ = some f1 ∧ W1.cell? ⟨w.heap.size, 16, none⟩ = some f2 ∧ w.heap.size < W1.heap.size ∧ Below w.heap.size w W1)
    (first | with_reducible assumption | with_reducible exact KK.out _ bb | with_reducible exact KK.out _ bw | (go_split_ands; with_reducible exact KK.out _ (by assumption)))
    ((first
      | (go_at_call 108; go_split_ands; (with_reducible refine Calls.mono (HR.out _ (by assumption)) ?_); rintro e w2 ⟨rfl, b2⟩; have b2 : Below W.heap.size W w2 := Below.trans (by assumption) (b2.mono (Below.size (by assumption))); have bb := b2)
      | (go_at_call 107; go_split_ands; (with_reducible refine Calls.mono (HV.out _ (by assumption)) ?_); rintro e w3 ⟨rfl, b3⟩; have bb : Below W.heap.size W w3 := Below.trans b2 (b3.mono (Below.size (by assumption))); have B3 := Lib.hid (L0.out.trans (bb.mono L0.out.size)); clear HR HV)))
  all_goals
    clear KK
    go_wp2
    go_ret
    refine ⟨ret_bool ?_, B3.out⟩
    rw [← HB.out]
    first | rfl | (cases x.x.ne <;> simp) | (simp [bne])
end Go.Proofs.YtacbanfnakgecaaGreat

namespace Go.Proofs.YtacbanfnakgecaaGreat
set_option linter.unusedSimpArgs false
set_option linter.unusedVariables false
open Go.RowKit
set_option maxRecDepth 100000 in
set_option maxHeartbeats 8000000 in
theorem tset_any {B N : Nat} (u : Un) (c : Cf) (model room : Int) (xp xr xm xb f1 f2 : Value) (k : Nat) (x : II) (w : World) (hS : St B N w xp xr xm xb c) (hk : k < c.regs.length) (i : Nat) (hi : i < (c.regs[k]).1.length) (hx : x.x.reg = i) (hl : OpsD w x.ev x.x.e) (hn : x.x.e.length ≤ 100000) (hr : ∀ r ∈ c.regs, r.1.length ≤ 100000) (q : Int) (hq : valC u c k x.x.e = q) :
    Calls Tryz.prog 77 #[.agg (turnA u.mod model room xp xr xm xb k x f1 f2)] w fun e w' => e = .returned (.tuple #[]) ∧ St B N w' xp xr xm xb (c.setR k i q) ∧ Fr B N w w' := by
  have KA := Lib.hid (Bk.new w 63 (turnA u.mod model room xp xr xm xb k x f1 f2))
  have L0 : Hid (Below w.heap.size w (w.alloc (.cells (turnA u.mod model room xp xr xm xb k x f1 f2) 63))) := (Below.refl _ _).alloc (Nat.le_refl _) _
  generalize hW : World.alloc w _ = W at L0 KA
  have HN := Lib.hid hS.n
  have HBN := Lib.hid (Nat.le_trans hS.bn hS.n)
  have FD : Hid (Fr B N W W.drew) := Lib.hid (Fr.below (below_draws' W) (Nat.le_trans HBN.out L0.out.size))
  have F0 : Hid (Fr B N w W) := Lib.hid (Fr.below L0.out HBN.out)
  have HV := Lib.hid (fun (W : World) (h : Below w.heap.size w W) => tvalue_any u c k x.x.e model room xp xr xm xb x.ev f1 f2 x W (hS.data.below h) hk hr (OpsD.below hl h) hn q hq)
  have HS := Lib.hid (fun (W : World) (h : Below w.heap.size w W) => tsetR c u.mod model room xp xr xm xb f1 f2 k x W (hS.below h) hk i hi hx q)
  generalize u.mod = m at hW KA L0 HS HV ⊢
  have KK := Lib.hid (fun W1 (hb : Fr B N W W1) => (turn_cells (hb.bk HN.out KA.out) : W1.cell? ⟨w.heap.size, 0, none⟩ = some (.int .i64 m) ∧ W1.cell? ⟨w.heap.size, 1, none⟩ = some (.int .i64 model) ∧ W1.cell? ⟨w.heap.size, 2, none⟩ = some (.int .i64 room) ∧ W1.cell? ⟨w.heap.size, 3, none⟩ = some xp ∧ W1.cell? ⟨w.heap.size, 4, none⟩ = some xr ∧ W1.cell? ⟨w.heap.size, 5, none⟩ = some xm ∧ W1.cell? ⟨w.heap.size, 6, none⟩ = some xb ∧ W1.cell? ⟨w.heap.size, 7, none⟩ = some (.int .i64 k) ∧ W1.cell? ⟨w.heap.size, 8, none⟩ = some (.int .i64 x.x.op) ∧ W1.cell? ⟨w.heap.size, 9, none⟩ = some (.int .i64 x.x.reg) ∧ W1.cell? ⟨w.heap.size, 10, none⟩ = some (.int .i64 x.x.loc) ∧ W1.cell? ⟨w.heap.size, 11, none⟩ = some x.ev ∧ W1.cell? ⟨w.heap.size, 12, none⟩ = some x.fv ∧ W1.cell? ⟨w.heap.size, 13, none⟩ = some (.bool x.x.ne) ∧ W1.cell? ⟨w.heap.size, 14, none⟩ = some (.int .i64 x.x.to) ∧ W1.cell? ⟨w.heap.size, 15, none⟩ = some f1 ∧ W1.cell? ⟨w.heap.size, 16, none⟩ = some f2 ∧ w.heap.size < W1.heap.size))
  unfold turnA at hW HS HV ⊢
  clear hS hk hi hx hq hl hn hr
  go_enter Tryz.func77, Tryz.ntmps77
  go_wp2_with fail
  first | rw [hW] | skip
  clear hW KA
  have bb : Fr B N W W.drew := FD.out
  have bz : Below w.heap.size w W.drew := L0.out.drew
  go_region_held3 (fun W1 => W1.cell? ⟨w.heap.size, 0, none⟩ = some (.int .i64 m) ∧ W1.cell? ⟨w.heap.size, 1, none⟩ = some (.int .i64 model) ∧ W1.cell? ⟨w.heap.size, 2, none⟩ = some (.int .i64 room) ∧ W1.cell? ⟨w.heap.size, 3, none⟩ = some xp ∧ W1.cell? ⟨w.heap.size, 4, none⟩ = some xr ∧ W1.cell? ⟨w.heap.size, 5, none⟩ = some xm ∧ W1.cell? ⟨w.heap.size, 6, none⟩ = some xb ∧ W1.cell? ⟨w.heap.size, 7, none⟩ = some (.int .i64 k) ∧ W1.cell? ⟨w.heap.size, 8, none⟩ = some (.int .i64 x.x.op) ∧ W1.cell? ⟨w.heap.size, 9, none⟩ = some (.int .i64 x.x.reg) ∧ W1.cell? ⟨w.heap.size, 10, none⟩ = some (.int .i64 x.x.loc) ∧ W1.cell? ⟨w.heap.size, 11, none⟩ = some x.ev ∧ W1.cell? ⟨w.heap.size, 12, none⟩ = some x.fv ∧ W1.cell? ⟨w.heap.size, 13, none⟩ = some (.bool x.x.ne) ∧ W1.cell? ⟨w.heap.size, 14, none⟩ = some (.int .i64 x.x.to) ∧ W1.cell? ⟨w.heap.size, 15, none⟩ = some f1 ∧ W1.cell? ⟨w.heap.size, 16, none⟩ = some f2 ∧ w.heap.size < W1.heap.size)
    (first | with_reducible assumption | with_reducible exact KK.out _ bb)
    ((first
      | (go_at_call 107; go_split_ands; (with_reducible refine Calls.mono (HV.out _ bz) ?_); rintro e wv ⟨rfl, b2⟩; have b3 : Fr B N W wv := Fr.trans bb (Fr.belowN b2 (Below.size bz) HBN.out); have b4 : Below w.heap.size w wv := Below.trans bz (b2.mono (Below.size bz)); clear bb bz; have bb := b3; have bz := b4; clear b2 b3 b4)
      | (go_at_call 106; go_split_ands; (with_reducible refine Calls.mono (HS.out _ bz) ?_); rintro e w9 ⟨rfl, st9, fr9⟩; have b3 : Fr B N W w9 := Fr.trans bb fr9; clear bb bz; have bb := b3; clear b3)))
  all_goals
    clear KK
    go_wp2
    exact bodyPost_end (v := .tuple #[]) (by simp [results, Tryz.results77, go_sem]) rfl ⟨rfl, st9, F0.out.trans bb⟩
set_option maxRecDepth 100000 in
set_option maxHeartbeats 8000000 in
theorem tload_any {B N : Nat} (u : Un) (c : Cf) (model room : Int) (xp xr xm xb f1 f2 : Value) (k : Nat) (x : II) (w : World) (hS : St B N w xp xr xm xb c) (hk : k < c.regs.length) (i : Nat) (hi : i < (c.regs[k]).1.length) (hx : x.x.reg = i) (hb : ∀ r ∈ c.buf, r.1.length ≤ 100000) (q : Int) (hq : readsC c k x.x.loc = q) :
    Calls Tryz.prog 78 #[.agg (turnA u.mod model room xp xr xm xb k x f1 f2)] w fun e w' => e = .returned (.tuple #[]) ∧ St B N w' xp xr xm xb (c.setR k i q) ∧ Fr B N w w' := by
  have KA := Lib.hid (Bk.new w 63 (turnA u.mod model room xp xr xm xb k x f1 f2))
  have L0 : Hid (Below w.heap.size w (w.alloc (.cells (turnA u.mod model room xp xr xm xb k x f1 f2) 63))) := (Below.refl _ _).alloc (Nat.le_refl _) _
  generalize hW : World.alloc w _ = W at L0 KA
  have HN := Lib.hid hS.n
  have HBN := Lib.hid (Nat.le_trans hS.bn hS.n)
  have FD : Hid (Fr B N W W.drew) := Lib.hid (Fr.below (below_draws' W) (Nat.le_trans HBN.out L0.out.size))
  have F0 : Hid (Fr B N w W) := Lib.hid (Fr.below L0.out HBN.out)
  have HR := Lib.hid (fun (W : World) (h : Below w.heap.size w W) => tread_any c k u.mod model room xp xr xm xb f1 f2 x W (hS.data.below h) hb q hq)
  have HS := Lib.hid (fun (W : World) (h : Below w.heap.size w W) => tsetR c u.mod model room xp xr xm xb f1 f2 k x W (hS.below h) hk i hi hx q)
  generalize u.mod = m at hW KA L0 HS HR ⊢
  have KK := Lib.hid (fun W1 (hb : Fr B N W W1) => (turn_cells (hb.bk HN.out KA.out) : W1.cell? ⟨w.heap.size, 0, none⟩ = some (.int .i64 m) ∧ W1.cell? ⟨w.heap.size, 1, none⟩ = some (.int .i64 model) ∧ W1.cell? ⟨w.heap.size, 2, none⟩ = some (.int .i64 room) ∧ W1.cell? ⟨w.heap.size, 3, none⟩ = some xp ∧ W1.cell? ⟨w.heap.size, 4, none⟩ = some xr ∧ W1.cell? ⟨w.heap.size, 5, none⟩ = some xm ∧ W1.cell? ⟨w.heap.size, 6, none⟩ = some xb ∧ W1.cell? ⟨w.heap.size, 7, none⟩ = some (.int .i64 k) ∧ W1.cell? ⟨w.heap.size, 8, none⟩ = some (.int .i64 x.x.op) ∧ W1.cell? ⟨w.heap.size, 9, none⟩ = some (.int .i64 x.x.reg) ∧ W1.cell? ⟨w.heap.size, 10, none⟩ = some (.int .i64 x.x.loc) ∧ W1.cell? ⟨w.heap.size, 11, none⟩ = some x.ev ∧ W1.cell? ⟨w.heap.size, 12, none⟩ = some x.fv ∧ W1.cell? ⟨w.heap.size, 13, none⟩ = some (.bool x.x.ne) ∧ W1.cell? ⟨w.heap.size, 14, none⟩ = some (.int .i64 x.x.to) ∧ W1.cell? ⟨w.heap.size, 15, none⟩ = some f1 ∧ W1.cell? ⟨w.heap.size, 16, none⟩ = some f2 ∧ w.heap.size < W1.heap.size))
  unfold turnA at hW HS HR ⊢
  clear hS hk hi hx hq hb
  go_enter Tryz.func78, Tryz.ntmps78
  go_wp2_with fail
  first | rw [hW] | skip
  clear hW KA
  have bb : Fr B N W W.drew := FD.out
  have bz : Below w.heap.size w W.drew := L0.out.drew
  go_region_held3 (fun W1 => W1.cell? ⟨w.heap.size, 0, none⟩ = some (.int .i64 m) ∧ W1.cell? ⟨w.heap.size, 1, none⟩ = some (.int .i64 model) ∧ W1.cell? ⟨w.heap.size, 2, none⟩ = some (.int .i64 room) ∧ W1.cell? ⟨w.heap.size, 3, none⟩ = some xp ∧ W1.cell? ⟨w.heap.size, 4, none⟩ = some xr ∧ W1.cell? ⟨w.heap.size, 5, none⟩ = some xm ∧ W1.cell? ⟨w.heap.size, 6, none⟩ = some xb ∧ W1.cell? ⟨w.heap.size, 7, none⟩ = some (.int .i64 k) ∧ W1.cell? ⟨w.heap.size, 8, none⟩ = some (.int .i64 x.x.op) ∧ W1.cell? ⟨w.heap.size, 9, none⟩ = some (.int .i64 x.x.reg) ∧ W1.cell? ⟨w.heap.size, 10, none⟩ = some (.int .i64 x.x.loc) ∧ W1.cell? ⟨w.heap.size, 11, none⟩ = some x.ev ∧ W1.cell? ⟨w.heap.size, 12, none⟩ = some x.fv ∧ W1.cell? ⟨w.heap.size, 13, none⟩ = some (.bool x.x.ne) ∧ W1.cell? ⟨w.heap.size, 14, none⟩ = some (.int .i64 x.x.to) ∧ W1.cell? ⟨w.heap.size, 15, none⟩ = some f1 ∧ W1.cell? ⟨w.heap.size, 16, none⟩ = some f2 ∧ w.heap.size < W1.heap.size)
    (first | with_reducible assumption | with_reducible exact KK.out _ bb)
    ((first
      | (go_at_call 108; go_split_ands; (with_reducible refine Calls.mono (HR.out _ bz) ?_); rintro e wr ⟨rfl, b2⟩; have b3 : Fr B N W wr := Fr.trans bb (Fr.belowN b2 (Below.size bz) HBN.out); have b4 : Below w.heap.size w wr := Below.trans bz (b2.mono (Below.size bz)); clear bb bz; have bb := b3; have bz := b4; clear b2 b3 b4)
      | (go_at_call 106; go_split_ands; (with_reducible refine Calls.mono (HS.out _ bz) ?_); rintro e w9 ⟨rfl, st9, fr9⟩; have b3 : Fr B N W w9 := Fr.trans bb fr9; clear bb bz; have bb := b3; clear b3)))
  all_goals
    clear KK
    go_wp2
    exact bodyPost_end (v := .tuple #[]) (by simp [results, Tryz.results78, go_sem]) rfl ⟨rfl, st9, F0.out.trans bb⟩
end Go.Proofs.YtacbanfnakgecaaGreat
