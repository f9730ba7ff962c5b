/- Layer 10, the code: a thread's turn: compare and swap. Layer 10, the code: a thread's turn: exchange. Layer 10, the code: Enabled. -/
import Derived.Test.YtacbanfnakgecaaGreatYk
import Derived.Deep.RegionHeld3
import Derived.Test.YtacbanfnakgecaaGreatYs
namespace Go.Proofs.YtacbanfnakgecaaGreat
set_option linter.unusedSimpArgs false
set_option linter.unusedVariables false
open Go.RowKit
theorem i_turn : (Tryz.prog.info? 63).map (·.size) = some 17 := by kernel_rfl
set_option maxRecDepth 100000 in
set_option maxHeartbeats 8000000 in
theorem tcas_any {B N : Nat} (u : Un) (c : Cf) (model room : Int) (xp xr xm xb f1 f2 : Value) (k : Nat) (x : II) (w : World) (hS : St B N w xp xr xm xb c) (hk : k < c.regs.length) (i : Nat) (hi : i < (c.regs[k]).1.length) (hx : x.x.reg = i) (j : Nat) (hj : j < c.mem.length) (hy : x.x.loc = j) (hl : OpsD w x.ev x.x.e) (hn : x.x.e.length ≤ 100000) (hr : ∀ r ∈ c.regs, r.1.length ≤ 100000) (hl2 : OpsD w x.fv x.x.f) (hn2 : x.x.f.length ≤ 100000) (hb : ∀ r ∈ c.buf, r.1.length ≤ 100000) (old : Int) (hold : readsC c k x.x.loc = old) (z : Int) (hz : (if old = valC u c k x.x.e then valC u c k x.x.f else old) = z) :
    Calls Tryz.prog 82 #[.agg (turnA u.mod model room xp xr xm xb k x f1 f2)] w fun e w' => e = .returned (.tuple #[]) ∧ St B N w' xp xr xm xb ((c.setR k i old).setM j z) ∧ Fr B N w w' := by
  have KA := Lib.hid (Bk.new w 63 (turnA u.mod model room xp xr xm xb k x f1 f2))
  have L0 : Hid (Below w.heap.size w (w.alloc (.cells (turnA u.mod model room xp xr xm xb k x f1 f2) 63))) := (Below.refl _ _).alloc (Nat.le_refl _) _
  generalize hW : World.alloc w _ = W at L0 KA
  have HBN := Lib.hid (Nat.le_trans hS.bn hS.n)
  have HN := Lib.hid hS.n
  have F0 : Hid (Fr B N w W) := Lib.hid (Fr.below L0.out HBN.out)
  obtain ⟨v1, hv1⟩ : ∃ v, valC u c k x.x.e = v := ⟨_, rfl⟩
  obtain ⟨v2, hv2⟩ : ∃ v, valC u c k x.x.f = v := ⟨_, rfl⟩
  rw [hv1, hv2] at hz
  have HR := Lib.hid (fun (W : World) (h : Below w.heap.size w W) => tread_any c k u.mod model room xp xr xm xb f1 f2 x W (hS.data.below h) hb old hold)
  have HV := Lib.hid (fun (W : World) (h : Below w.heap.size w W) => tvalue_any u c k x.x.e model room xp xr xm xb x.ev f1 f2 x W (hS.data.below h) hk hr (OpsD.below hl h) hn v1 hv1)
  have HV2 := Lib.hid (fun (W : World) (h : Below w.heap.size w W) => tvalue_any u c k x.x.f model room xp xr xm xb x.fv f1 f2 x W (hS.data.below h) hk hr (OpsD.below hl2 h) hn2 v2 hv2)
  have HE := Lib.hid (fun (W : World) (h : Below w.heap.size w W) (z : Int) => texchange_any c u.mod model room xp xr xm xb f1 f2 k x W (hS.below h) hk i hi hx j hj hy old z)
  have HZ := Lib.hid hz
  have KK := Lib.hid (fun W1 (hb : Below W.heap.size W W1) => turn_cells (KA.out.below hb))
  generalize u.mod = m at hW KA L0 F0 HR HV HV2 HE KK ⊢
  obtain ⟨c0, c1, c2, c3, c4, c5, c6, c7, c8, c9, c10, c11, c12, c13, c14, c15, c16, l0⟩ := KK.out W (Below.refl _ _)
  clear hS hk hi hx hj hy hl hn hl2 hn2 hr hb hold hz hv1 hv2
  have HTS : (turnA m model room xp xr xm xb k x f1 f2).size = 17 := rfl
  generalize turnA m model room xp xr xm xb k x f1 f2 = ta at hW KA HR HV HV2 HE HTS ⊢
  have HI : (Tryz.prog.info? 63).map (·.size) = some ta.size := by rw [HTS]; exact i_turn
  have KB := Lib.hid (fun W1 (hb : Below W.heap.size W W1) => (KA.out.below hb : Bk W1 w.heap.size 63 ta))
  have KW : Hid (Bk W w.heap.size 63 ta) := KA
  clear KA HTS
  go_enter Tryz.func82, Tryz.ntmps82
  go_wp2_with (refine wpList_load_row (P := Tryz.prog) rfl 63 (.tmp 1) rfl w.heap.size rfl 63 ta (0, 0) _ KW.out Tryz.underlying63 rfl HI ?_)
  clear hW
  refine (HR.out _ L0.out).mono ?_
  rintro e w2 ⟨rfl, b2⟩
  have BB := Lib.hid b2
  have LL := Lib.hid (L0.out.trans (b2.mono L0.out.size))
  clear c0 c1 c2 c3 c4 c5 c6 c7 c8 c9 c10 c11 c12 c13 c14 c15 c16 l0 KW
  obtain ⟨c0, c1, c2, c3, c4, c5, c6, c7, c8, c9, c10, c11, c12, c13, c14, c15, c16, l0⟩ := KK.out w2 BB.out
  have KW := Lib.hid (KB.out w2 BB.out)
  go_wp2_with (refine wpList_load_row (P := Tryz.prog) rfl 63 (.tmp 1) rfl w.heap.size rfl 63 ta (0, 0) _ KW.out Tryz.underlying63 rfl HI ?_)
  refine (HV.out _ LL.out).mono ?_
  rintro e w3 ⟨rfl, b3⟩
  have BB := Lib.hid (BB.out.trans (b3.mono BB.out.size))
  have LL := Lib.hid (LL.out.trans (b3.mono LL.out.size))
  clear c0 c1 c2 c3 c4 c5 c6 c7 c8 c9 c10 c11 c12 c13 c14 c15 c16 l0 KW
  obtain ⟨c0, c1, c2, c3, c4, c5, c6, c7, c8, c9, c10, c11, c12, c13, c14, c15, c16, l0⟩ := KK.out w3 BB.out
  have KW := Lib.hid (KB.out w3 BB.out)
  by_cases h1 : old = v1
  · have HZ2 : Hid (z = v2) := Lib.hid (by rw [← HZ.out, if_pos h1])
    have h1' : (old == v1) = true := by simpa using h1
    clear h1
    go_wp2_with (refine wpList_load_row (P := Tryz.prog) rfl 63 (.tmp 1) rfl w.heap.size rfl 63 ta (0, 0) _ KW.out Tryz.underlying63 rfl HI ?_)
    refine (HV2.out _ LL.out).mono ?_
    rintro e w4 ⟨rfl, b4⟩
    have BB := Lib.hid (BB.out.trans (b4.mono BB.out.size))
    have LL := Lib.hid (LL.out.trans (b4.mono LL.out.size))
    clear c0 c1 c2 c3 c4 c5 c6 c7 c8 c9 c10 c11 c12 c13 c14 c15 c16 l0 KW
    obtain ⟨c0, c1, c2, c3, c4, c5, c6, c7, c8, c9, c10, c11, c12, c13, c14, c15, c16, l0⟩ := KK.out w4 BB.out
    have KW := Lib.hid (KB.out w4 BB.out)
    go_wp2_with (refine wpList_load_row (P := Tryz.prog) rfl 63 (.tmp 1) rfl w.heap.size rfl 63 ta (0, 0) _ KW.out Tryz.underlying63 rfl HI ?_)
    refine (HE.out _ LL.out _).mono ?_
    rintro e w9 ⟨rfl, st9, fr9⟩
    go_wp2
    exact bodyPost_end (v := .tuple #[]) (by simp [results, Tryz.results82, go_sem]) rfl ⟨rfl, (by rw [HZ2.out]; exact st9), (Fr.belowN LL.out (Nat.le_refl _) HBN.out).trans fr9⟩
  · have HZ2 : Hid (z = old) := Lib.hid (by rw [← HZ.out, if_neg h1])
    have h1' : (old == v1) = false := by simpa using h1
    clear h1
    go_wp2_with (refine wpList_load_row (P := Tryz.prog) rfl 63 (.tmp 1) rfl w.heap.size rfl 63 ta (0, 0) _ KW.out Tryz.underlying63 rfl HI ?_)
    refine (HE.out _ LL.out _).mono ?_
    rintro e w9 ⟨rfl, st9, fr9⟩
    go_wp2
    exact bodyPost_end (v := .tuple #[]) (by simp [results, Tryz.results82, go_sem]) rfl ⟨rfl, (by rw [HZ2.out]; exact st9), (Fr.belowN LL.out (Nat.le_refl _) HBN.out).trans fr9⟩
end Go.Proofs.YtacbanfnakgecaaGreat

namespace Go.Proofs.YtacbanfnakgecaaGreat
set_option linter.unusedSimpArgs false
set_option linter.unusedVariables false
open Go.RowKit
theorem yl_row {ops : Array Oper} {S : World → Prop} {op : Oper} {a : Act} (hw : Region.wanted op (yielded ops a.tmps) = true) (x : Operand) (ho : op.op = .load 63 x)
    (b : Nat) (hx : a.eval x = .pointer (some ⟨b, 0, none⟩)) (ta : Array Value) (hS : ∀ w, S w → Bk w b 63 ta) (hs : ta.size = 17) : YieldsIf Tryz.prog ops S op (.agg ta) a :=
  .inl ⟨hw, fun w hw' => by
    unfold execOp
    simp only [ho, hx, Instr.loadAt, Instr.sureAddr, Sem.run_bind, Sem.run_pure, Result.andThen_ok, run_loadVar_row (P := Tryz.prog) w b 63 63 ta (0, 0) _ (hS w hw') Tryz.underlying63 rfl (by rw [hs]; exact i_turn)]⟩
set_option maxRecDepth 100000 in
set_option maxHeartbeats 8000000 in
theorem txchg_any {B N : Nat} (u : Un) (c : Cf) (model room : Int) (xp xr xm xb f1 f2 : Value) (k : Nat) (x : II) (w : World) (hS : St B N w xp xr xm xb c) (hk : k < c.regs.length) (i : Nat) (hi : i < (c.regs[k]).1.length) (hx : x.x.reg = i) (j : Nat) (hj : j < c.mem.length) (hy : x.x.loc = j) (hl : OpsD w x.ev x.x.e) (hn : x.x.e.length ≤ 100000) (hr : ∀ r ∈ c.regs, r.1.length ≤ 100000) (hb : ∀ r ∈ c.buf, r.1.length ≤ 100000) (old : Int) (hold : readsC c k x.x.loc = old) (v1 : Int) (hv1 : valC u c k x.x.e = v1) :
    Calls Tryz.prog 84 #[.agg (turnA u.mod model room xp xr xm xb k x f1 f2)] w fun e w' => e = .returned (.tuple #[]) ∧ St B N w' xp xr xm xb ((c.setR k i old).setM j v1) ∧ Fr B N w w' := by
  have KA := Lib.hid (Bk.new w 63 (turnA u.mod model room xp xr xm xb k x f1 f2))
  have L0 : Hid (Below w.heap.size w (w.alloc (.cells (turnA u.mod model room xp xr xm xb k x f1 f2) 63))) := (Below.refl _ _).alloc (Nat.le_refl _) _
  generalize hW : World.alloc w _ = W at L0 KA
  have HBN := Lib.hid (Nat.le_trans hS.bn hS.n)
  have HN := Lib.hid hS.n
  have F0 : Hid (Fr B N w W) := Lib.hid (Fr.below L0.out HBN.out)
  have HR := Lib.hid (fun (W : World) (h : Below w.heap.size w W) => tread_any c k u.mod model room xp xr xm xb f1 f2 x W (hS.data.below h) hb old hold)
  have HV := Lib.hid (fun (W : World) (h : Below w.heap.size w W) => tvalue_any u c k x.x.e model room xp xr xm xb x.ev f1 f2 x W (hS.data.below h) hk hr (OpsD.below hl h) hn v1 hv1)
  have HE := Lib.hid (fun (W : World) (h : Below w.heap.size w W) => texchange_any c u.mod model room xp xr xm xb f1 f2 k x W (hS.below h) hk i hi hx j hj hy old v1)
  have FD : Hid (Fr B N W W.drew) := Lib.hid (Fr.below (below_draws' W) (Nat.le_trans HBN.out L0.out.size))
  have HTS : (turnA u.mod model room xp xr xm xb k x f1 f2).size = 17 := rfl
  have HC := Lib.hid (fun W1 (hb : Fr B N W W1) => (⟨hb.bk hS.n KA.out, (hb.bk hS.n KA.out).cell 11, hb⟩ : Bk W1 w.heap.size 63 (turnA u.mod model room xp xr xm xb k x f1 f2) ∧ W1.cell? ⟨w.heap.size, 11, none⟩ = some x.ev ∧ Fr B N W W1))
  generalize turnA u.mod model room xp xr xm xb k x f1 f2 = ta at hW KA HR HV HE HTS HC L0 ⊢
  clear hS hk hi hx hj hy hl hn hr hb hold hv1
  go_enter Tryz.func84, Tryz.ntmps84
  go_wp2_with fail
  first | rw [hW] | skip
  obtain ⟨pb, hpb⟩ : ∃ n, n = w.heap.size := ⟨_, rfl⟩
  rw [← hpb] at HC ⊢
  clear hW KA hpb
  have bz : Below w.heap.size w W.drew := L0.out.drew
  refine wp_region_held_drew (S := fun W1 => Bk W1 pb 63 ta ∧ W1.cell? ⟨pb, 11, none⟩ = some x.ev ∧ Fr B N W W1) (by kernel_rfl) (HC.out _ FD.out) (fun hS => ?_)
  refine wpAnyH_take (i := 0) (v := .agg ta) rfl (by kernel_rfl) (by kernel_rfl) (by kernel_rfl) (fun _ _ _ h => h) (yl_row (by rfl) (.tmp 1) rfl pb rfl ta (fun w h => h.1) HTS) hS ?_
  simp only [Act.put, List.setIfInBounds_toArray, List.set_cons_zero, List.set_cons_succ]
  refine wpAnyH_take (i := 1) (v := .agg ta) rfl (by kernel_rfl) (by kernel_rfl) (by kernel_rfl) (fun _ _ _ h => h) (yl_row (by rfl) (.tmp 1) rfl pb rfl ta (fun w h => h.1) HTS) hS ?_
  simp only [Act.put, List.setIfInBounds_toArray, List.set_cons_zero, List.set_cons_succ]
  refine wpAnyH_take (i := 3) (v := .agg ta) rfl (by kernel_rfl) (by kernel_rfl) (by kernel_rfl) (fun _ _ _ h => h) (yl_row (by rfl) (.tmp 1) rfl pb rfl ta (fun w h => h.1) HTS) hS ?_
  simp only [Act.put, List.setIfInBounds_toArray, List.set_cons_zero, List.set_cons_succ]
  refine wpAnyH_take (i := 4) (v := .pointer (some ⟨pb, 8, none⟩)) rfl (by kernel_rfl) (by kernel_rfl) (by kernel_rfl) (fun _ _ _ h => h) (Or.inl ⟨by rfl, fun w hSw => by obtain ⟨_, hs2, _⟩ := hSw; first | (go_simp; done) | (go_simp; with_reducible rfl)⟩) hS ?_
  simp only [Act.put, List.setIfInBounds_toArray, List.set_cons_zero, List.set_cons_succ]
  refine wpAnyH_take (i := 5) (v := .pointer (some ⟨pb, 11, none⟩)) rfl (by kernel_rfl) (by kernel_rfl) (by kernel_rfl) (fun _ _ _ h => h) (Or.inl ⟨by rfl, fun w hSw => by obtain ⟨_, hs2, _⟩ := hSw; first | (go_simp; done) | (go_simp; with_reducible rfl)⟩) hS ?_
  simp only [Act.put, List.setIfInBounds_toArray, List.set_cons_zero, List.set_cons_succ]
  refine wpAnyH_take (i := 6) (v := x.ev) rfl (by kernel_rfl) (by kernel_rfl) (by kernel_rfl) (fun _ _ _ h => h) (Or.inl ⟨by rfl, fun w hSw => by obtain ⟨_, hs2, _⟩ := hSw; first | (go_simp; done) | (go_simp; with_reducible rfl)⟩) hS ?_
  simp only [Act.put, List.setIfInBounds_toArray, List.set_cons_zero, List.set_cons_succ]
  refine wpAnyH_ready (rs := [2]) (by kernel_rfl) (by simp) ?_
  refine AllReadyH.cons rfl (fun K hK => ?_) AllReadyH.nil
  go_simp
  go_wp2_with (fail)
  refine (HR.out _ bz).mono ?_
  rintro e wr ⟨rfl, b2⟩
  have b3 : Fr B N W wr := Fr.trans FD.out (Fr.belowN b2 (Below.size bz) HBN.out)
  have b4 : Below w.heap.size w wr := Below.trans bz (b2.mono (Below.size bz))
  go_wp2_with (fail)
  refine hK.out _ _ (HC.out _ b3) (fun hS => ?_)
  clear hK K
  refine wpAnyH_ready (rs := [7]) (by kernel_rfl) (by simp) ?_
  refine AllReadyH.cons rfl (fun K hK => ?_) AllReadyH.nil
  go_simp
  go_wp2_with (fail)
  refine (HV.out _ b4).mono ?_
  rintro e wv ⟨rfl, c2⟩
  have b5 : Fr B N W wv := Fr.trans b3 (Fr.belowN c2 (Below.size b4) HBN.out)
  have b6 : Below w.heap.size w wv := Below.trans b4 (c2.mono (Below.size b4))
  go_wp2_with (fail)
  refine hK.out _ _ (HC.out _ b5) (fun hS => ?_)
  clear hK K
  refine wpAnyH_ready (rs := [8]) (by kernel_rfl) (by simp) ?_
  refine AllReadyH.cons rfl (fun K hK => ?_) AllReadyH.nil
  go_simp
  go_wp2_with (fail)
  refine (HE.out _ b6).mono ?_
  rintro e w9 ⟨rfl, st9, fr9⟩
  go_wp2_with (fail)
  refine hK.out _ _ (HC.out _ (Fr.trans b5 fr9)) (fun hS => ?_)
  clear hK K
  refine wpAnyH_done (by kernel_rfl) ?_ _
  go_wp2
  exact bodyPost_end (v := .tuple #[]) (by simp [results, Tryz.results84, go_sem]) rfl ⟨rfl, st9, F0.out.trans (b5.trans fr9)⟩
end Go.Proofs.YtacbanfnakgecaaGreat

namespace Go.Proofs.YtacbanfnakgecaaGreat
set_option linter.unusedSimpArgs false
set_option linter.unusedVariables false
open Go.RowKit
theorem load_turnG {ops : Array Oper} {rest : List Oper} {o : Oper} {a : Act} {w : World} {Q : Exit → Act → World → Prop} (hw : Region.wanted o (yielded ops a.tmps) = true) (x : Operand) (ho : o.op = .load 63 x)
    (g : Nat) (hx : a.eval x = .pointer (some ⟨g, 0, none⟩)) (ta : Array Value) (hg : Bk w g 63 ta) (hs : ta.size = 17) (h : wpList Tryz.prog ops Q rest (a.put o.dst (.agg ta)) w) : wpList Tryz.prog ops Q (o :: rest) a w := by
  show if Region.wanted o (yielded ops a.tmps) = true then _ else _
  rw [if_pos hw]
  exact .inl (wp_load_row 63 x ho g hx 63 ta (0, 0) _ hg Tryz.underlying63 rfl (by rw [hs]; exact i_turn') h)
set_option maxRecDepth 100000 in
set_option maxHeartbeats 8000000 in
theorem enabled_of (u0 u1 u2 u3 c0 c1 c2 c3 : Value) (model room t : Int) (w : World) (ta : Array Value) (q b : Bool) (hs : ta.size = 17) (h1 : ta.all (·.oneCell') = true)
    (hto : ∀ W : World, Below w.heap.size w W → Calls Tryz.prog 32 #[.agg #[u0, u1, u2, u3], .agg #[c0, c1, c2, c3], .int .i64 model, .int .i64 room, .int .i64 t] W fun e w' => e = .returned (.tuple #[.agg ta, .bool q]) ∧ Below W.heap.size W w')
    (F : Nat) (hq : (q = false ∧ b = false) ∨ (q = true ∧ ta[15]? = some (.func (.func F) #[] #[]) ∧ (∀ W, Sem.run Tryz.prog (callFunc F #[.agg ta]) W = .ok (.enter F #[.agg ta]) W) ∧ ∀ W : World, Below w.heap.size w W → Calls Tryz.prog F #[.agg ta] W fun e w' => e = .returned (.bool b) ∧ Below W.heap.size W w')) :
    Calls Tryz.prog 11 #[.agg #[u0, u1, u2, u3], .agg #[c0, c1, c2, c3], .int .i64 model, .int .i64 room, .int .i64 t] w fun e w' => e = .returned (.bool b) ∧ Below w.heap.size w w' := by
  have HTO := Lib.hid hto
  have T2 := Lib.hid (two_new w 25 29 #[u0, u1, u2, u3] #[c0, c1, c2, c3])
  clear hto
  go_enter Tryz.func11, Tryz.ntmps11
  go_wp2_with fail
  obtain ⟨L0, _, _⟩ := T2.out
  generalize World.alloc (World.alloc w _) _ = W at L0 ⊢
  have LL := Lib.hid L0
  clear L0 T2
  refine (HTO.out _ LL.out).mono ?_
  rintro e w2 ⟨rfl, b2⟩
  have L2 := Lib.hid (LL.out.trans (b2.mono LL.out.size))
  have KZ := Lib.hid (Bk.new w2 63 zeroT)
  have LZ := Lib.hid (bal (Below.refl w2.heap.size w2) (.cells zeroT 63))
  have HI : (Tryz.prog.info? 63).map (·.size) = some ta.size := by rw [hs]; exact i_turn'
  have HZS : zeroT.size = ta.size := by rw [hs]; rfl
  have KR := Lib.hid (setRow_heap _ _ _ ta _ _ KZ.out)
  have BR := Lib.hid (below_setRow LZ.out (Nat.le_refl w2.heap.size) ta)
  have LR := Lib.hid (L2.out.trans (BR.out.mono L2.out.size))
  clear b2 HTO
  rcases hq with ⟨rfl, rfl⟩ | ⟨rfl, h15, hcall, hF⟩
  · go_wp2_with (refine wpList_store_row (P := Tryz.prog) rfl 63 (.tmp 11) _ rfl w2.heap.size ta rfl rfl 63 zeroT KZ.out HI HZS h1 ?_)
    go_ret
    exact ⟨rfl, LR.out⟩
  · have HF := Lib.hid (hF _ LR.out)
    have h15' := (Bk.cell KR.out 15).trans h15
    have hlt := Bk.lt KR.out
    have KW := Lib.hid KR.out
    unfold zeroT at h15' hlt
    clear hF LZ
    go_wp2_with (first
      | refine wpList_store_row (P := Tryz.prog) rfl 63 (.tmp 11) _ rfl w2.heap.size ta rfl rfl 63 zeroT KZ.out HI HZS h1 ?_
      | refine load_turnG (by rfl) (.tmp 11) rfl w2.heap.size rfl ta KW.out hs ?_)
    first
      | (rw [hcall]; go_wp2_with fail)
      | skip
    refine HF.out.mono ?_
    rintro e w9 ⟨rfl, b9⟩
    have L9 := Lib.hid (LR.out.trans (b9.mono LR.out.size))
    clear b9
    go_wp2
    go_ret
    exact ⟨rfl, L9.out⟩
end Go.Proofs.YtacbanfnakgecaaGreat
