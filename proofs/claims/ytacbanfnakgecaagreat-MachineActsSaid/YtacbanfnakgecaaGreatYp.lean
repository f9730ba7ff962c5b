/- Layer 10, the code: a thread's turn: where it goes. Layer 10, the code: a thread's turn: fetch and add. -/
import Derived.Test.YtacbanfnakgecaaGreatYm
namespace Go.Proofs.YtacbanfnakgecaaGreat
set_option linter.unusedSimpArgs false
set_option linter.unusedVariables false
open Go.RowKit
def Cf.setP (c : Cf) (k : Nat) (n : Int) : Cf := { c with pc := c.pc.set k n }
set_option maxRecDepth 100000 in
set_option maxHeartbeats 8000000 in
theorem tjump_any {B N : Nat} (u : Un) (c : Cf) (model room : Int) (xp xr xm xb f1 f2 : Value) (k : Nat) (x : II) (w : World) (hS : St B N w xp xr xm xb c) (hk : k < c.regs.length) (hp : k < c.pc.length) :
    Calls Tryz.prog 87 #[.agg (turnA u.mod model room xp xr xm xb k x f1 f2)] w fun e w' => e = .returned (.tuple #[]) ∧ St B N w' xp xr xm xb (c.setP k x.x.to) ∧ Fr B N w w' := by
  have KA := Lib.hid (Bk.new w 63 (turnA u.mod model room xp xr xm xb k x f1 f2))
  have L0 : Hid (Below w.heap.size w (w.alloc (.cells (turnA u.mod model room xp xr xm xb k x f1 f2) 63))) := (Below.refl _ _).alloc (Nat.le_refl _) _
  generalize hW : World.alloc w _ = W at L0 KA
  have HBN := Lib.hid (Nat.le_trans hS.bn hS.n)
  have HN := Lib.hid hS.n
  have F0 : Hid (Fr B N w W) := Lib.hid (Fr.below L0.out HBN.out)
  have HS := Lib.hid (hS.below L0.out)
  have KK := Lib.hid (fun W1 (hb : Below W.heap.size W W1) => turn_cells (KA.out.below hb))
  obtain ⟨c0, c1, c2, c3, c4, c5, c6, c7, c8, c9, c10, c11, c12, c13, c14, c15, c16, l0⟩ := KK.out W (Below.refl _ _)
  obtain ⟨g, cap, rfl, hg, hl, h3, h4, h5⟩ := HS.out.pcAt k hp
  have HS5 := Lib.hid (h5 x.x.to)
  obtain ⟨n, hn⟩ : ∃ n, n = c.pc.length := ⟨_, rfl⟩
  have HNN := Lib.hid hn
  rw [← hn] at hW KA hp c3 ⊢
  have e1 : (0 : Int) ≤ (k : Int) := by omega
  have e2 : (k : Int) < (n : Int) := by omega
  clear hS hk KK h5 hn
  generalize u.mod = m at hW KA L0 F0 ⊢
  generalize turnA m model room _ xr xm xb k x f1 f2 = ta at hW KA ⊢
  go_enter Tryz.func87, Tryz.ntmps87
  go_wp2
  refine bodyPost_end (v := .tuple #[]) (by simp [results, Tryz.results87, go_sem]) rfl (by rw [HNN.out]; exact ⟨rfl, HS5.out.1, F0.out.trans HS5.out.2⟩)
set_option maxRecDepth 100000 in
set_option maxHeartbeats 8000000 in
theorem tbranch_any {B N : Nat} (u : Un) (c : Cf) (model room : Int) (xp xr xm xb f1 f2 : Value) (k : Nat) (x : II) (w : World) (hS : St B N w xp xr xm xb c) (hk : k < c.regs.length) (hp : k < c.pc.length) (hl : OpsD w x.ev x.x.e) (hn : x.x.e.length ≤ 100000) (hr : ∀ r ∈ c.regs, r.1.length ≤ 100000) (v1 : Int) (hv1 : valC u c k x.x.e = v1) :
    Calls Tryz.prog 88 #[.agg (turnA u.mod model room xp xr xm xb k x f1 f2)] w fun e w' => e = .returned (.tuple #[]) ∧ St B N w' xp xr xm xb (if v1 = 0 then c.setP k x.x.to else c) ∧ Fr B N w w' := by
  have KA := Lib.hid (Bk.new w 63 (turnA u.mod model room xp xr xm xb k x f1 f2))
  have L0 : Hid (Below w.heap.size w (w.alloc (.cells (turnA u.mod model room xp xr xm xb k x f1 f2) 63))) := (Below.refl _ _).alloc (Nat.le_refl _) _
  generalize hW : World.alloc w _ = W at L0 KA
  have HBN := Lib.hid (Nat.le_trans hS.bn hS.n)
  have HN := Lib.hid hS.n
  have F0 : Hid (Fr B N w W) := Lib.hid (Fr.below L0.out HBN.out)
  have HV := Lib.hid (fun (W : World) (h : Below w.heap.size w W) => tvalue_any u c k x.x.e model room xp xr xm xb x.ev f1 f2 x W (hS.data.below h) hk hr (OpsD.below hl h) hn v1 hv1)
  have HJ := Lib.hid (fun (W : World) (h : Below w.heap.size w W) => tjump_any u c model room xp xr xm xb f1 f2 k x W (hS.below h) hk hp)
  have HS := Lib.hid (fun (W : World) (h : Below w.heap.size w W) => hS.below h)
  have KK := Lib.hid (fun W1 (hb : Below W.heap.size W W1) => turn_cells (KA.out.below hb))
  generalize u.mod = m at hW KA L0 F0 HV HJ KK ⊢
  obtain ⟨c0, c1, c2, c3, c4, c5, c6, c7, c8, c9, c10, c11, c12, c13, c14, c15, c16, l0⟩ := KK.out W (Below.refl _ _)
  clear hS hk hl hn hr hv1 hp
  have HTS : (turnA m model room xp xr xm xb k x f1 f2).size = 17 := rfl
  generalize turnA m model room xp xr xm xb k x f1 f2 = ta at hW KA HV HJ HTS ⊢
  have HI : (Tryz.prog.info? 63).map (·.size) = some ta.size := by rw [HTS]; exact i_turn
  have KB := Lib.hid (fun W1 (hb : Below W.heap.size W W1) => (KA.out.below hb : Bk W1 w.heap.size 63 ta))
  have KW : Hid (Bk W w.heap.size 63 ta) := KA
  clear KA HTS
  go_enter Tryz.func88, Tryz.ntmps88
  go_wp2_with (refine wpList_load_row (P := Tryz.prog) rfl 63 (.tmp 1) rfl w.heap.size rfl 63 ta (0, 0) _ KW.out Tryz.underlying63 rfl HI ?_)
  clear hW
  refine (HV.out _ L0.out).mono ?_
  rintro e w2 ⟨rfl, b2⟩
  have BB := Lib.hid b2
  have LL := Lib.hid (L0.out.trans (b2.mono L0.out.size))
  clear c0 c1 c2 c3 c4 c5 c6 c7 c8 c9 c10 c11 c12 c13 c14 c15 c16 l0 KW
  obtain ⟨c0, c1, c2, c3, c4, c5, c6, c7, c8, c9, c10, c11, c12, c13, c14, c15, c16, l0⟩ := KK.out w2 BB.out
  have KW := Lib.hid (KB.out w2 BB.out)
  by_cases h1 : v1 = 0
  · subst h1
    go_wp2_with (refine wpList_load_row (P := Tryz.prog) rfl 63 (.tmp 1) rfl w.heap.size rfl 63 ta (0, 0) _ KW.out Tryz.underlying63 rfl HI ?_)
    refine (HJ.out _ LL.out).mono ?_
    rintro e w9 ⟨rfl, st9, fr9⟩
    go_wp2
    exact bodyPost_end (v := .tuple #[]) (by simp [results, Tryz.results88, go_sem]) rfl ⟨rfl, (by first | exact st9 | (rw [if_pos rfl]; exact st9)), (Fr.belowN LL.out (Nat.le_refl _) HBN.out).trans fr9⟩
  · have H1 := Lib.hid h1
    have h1' : (v1 == 0) = false := by simpa using h1
    clear h1
    have ST := Lib.hid (HS.out _ LL.out)
    go_wp2
    exact bodyPost_end (v := .tuple #[]) (by simp [results, Tryz.results88, go_sem]) rfl ⟨rfl, (by first | exact ST.out | (rw [if_neg H1.out]; exact ST.out)), (Fr.belowN LL.out (Nat.le_refl _) HBN.out)⟩
end Go.Proofs.YtacbanfnakgecaaGreat

namespace Go.Proofs.YtacbanfnakgecaaGreat
set_option linter.unusedSimpArgs false
set_option linter.unusedVariables false
open Go.RowKit
set_option maxRecDepth 100000 in
set_option maxHeartbeats 8000000 in
theorem tfadd_any {B N : Nat} (u : Un) (c : Cf) (model room : Int) (xp xr xm xb f1 f2 : Value) (k : Nat) (x : II) (w : World) (hS : St B N w xp xr xm xb c) (hk : k < c.regs.length) (i : Nat) (hi : i < (c.regs[k]).1.length) (hx : x.x.reg = i) (j : Nat) (hj : j < c.mem.length) (hy : x.x.loc = j) (hl : OpsD w x.ev x.x.e) (hn : x.x.e.length ≤ 100000) (hr : ∀ r ∈ c.regs, r.1.length ≤ 100000) (hb : ∀ r ∈ c.buf, r.1.length ≤ 100000) (old : Int) (hold : readsC c k x.x.loc = old) (v1 : Int) (hv1 : valC u c k x.x.e = v1) (ho : 0 ≤ old ∧ old < u.mod) (hv : 0 ≤ v1 ∧ v1 < u.mod) (hm : u.mod ≤ 16) :
    Calls Tryz.prog 83 #[.agg (turnA u.mod model room xp xr xm xb k x f1 f2)] w fun e w' => e = .returned (.tuple #[]) ∧ St B N w' xp xr xm xb ((c.setR k i old).setM j ((old + v1) % u.mod)) ∧ Fr B N w w' := by
  have KA := Lib.hid (Bk.new w 63 (turnA u.mod model room xp xr xm xb k x f1 f2))
  have L0 : Hid (Below w.heap.size w (w.alloc (.cells (turnA u.mod model room xp xr xm xb k x f1 f2) 63))) := (Below.refl _ _).alloc (Nat.le_refl _) _
  generalize hW : World.alloc w _ = W at L0 KA
  have HBN := Lib.hid (Nat.le_trans hS.bn hS.n)
  have HN := Lib.hid hS.n
  have F0 : Hid (Fr B N w W) := Lib.hid (Fr.below L0.out HBN.out)
  have HR := Lib.hid (fun (W : World) (h : Below w.heap.size w W) => tread_any c k u.mod model room xp xr xm xb f1 f2 x W (hS.data.below h) hb old hold)
  have HV := Lib.hid (fun (W : World) (h : Below w.heap.size w W) => tvalue_any u c k x.x.e model room xp xr xm xb x.ev f1 f2 x W (hS.data.below h) hk hr (OpsD.below hl h) hn v1 hv1)
  have HE := Lib.hid (fun (W : World) (h : Below w.heap.size w W) (z : Int) => texchange_any c u.mod model room xp xr xm xb f1 f2 k x W (hS.below h) hk i hi hx j hj hy old z)
  obtain ⟨z, hz⟩ : ∃ z, (old + v1) % u.mod = z := ⟨_, rfl⟩
  rw [hz]
  have HZ : Hid ((old + v1 ≥ u.mod → z = old + v1 - u.mod) ∧ (¬ old + v1 ≥ u.mod → z = old + v1)) := Lib.hid (by
    subst hz
    refine ⟨fun h => ?_, fun h => Int.emod_eq_of_lt (by omega) (by omega)⟩
    rw [← Int.sub_emod_right]
    exact Int.emod_eq_of_lt (by omega) (by omega))
  have hob : 0 ≤ old ∧ old ≤ 15 := by omega
  have hvb : 0 ≤ v1 ∧ v1 ≤ 15 := by omega
  have hmb : 0 ≤ u.mod ∧ u.mod ≤ 16 := by omega
  have KK := Lib.hid (fun W1 (hb : Below W.heap.size W W1) => turn_cells (KA.out.below hb))
  generalize u.mod = m at hW KA L0 F0 HR HV HE HZ hmb KK ⊢
  obtain ⟨c0, c1, c2, c3, c4, c5, c6, c7, c8, c9, c10, c11, c12, c13, c14, c15, c16, l0⟩ := KK.out W (Below.refl _ _)
  clear hS hk hi hx hj hy hl hn hr hb hold hv1 ho hv hm hz
  have HTS : (turnA m model room xp xr xm xb k x f1 f2).size = 17 := rfl
  generalize turnA m model room xp xr xm xb k x f1 f2 = ta at hW KA HR HV HE HZ hmb HTS ⊢
  have HI : (Tryz.prog.info? 63).map (·.size) = some ta.size := by rw [HTS]; exact i_turn
  have KB := Lib.hid (fun W1 (hb : Below W.heap.size W W1) => (KA.out.below hb : Bk W1 w.heap.size 63 ta))
  have KW : Hid (Bk W w.heap.size 63 ta) := KA
  clear KA HTS
  go_enter Tryz.func83, Tryz.ntmps83
  go_wp2_with (refine wpList_load_row (P := Tryz.prog) rfl 63 (.tmp 1) rfl w.heap.size rfl 63 ta (0, 0) _ KW.out Tryz.underlying63 rfl HI ?_)
  clear hW
  refine (HR.out _ L0.out).mono ?_
  rintro e w2 ⟨rfl, b2⟩
  have BB := Lib.hid b2
  have LL := Lib.hid (L0.out.trans (b2.mono L0.out.size))
  clear c0 c1 c2 c3 c4 c5 c6 c7 c8 c9 c10 c11 c12 c13 c14 c15 c16 l0 KW
  obtain ⟨c0, c1, c2, c3, c4, c5, c6, c7, c8, c9, c10, c11, c12, c13, c14, c15, c16, l0⟩ := KK.out w2 BB.out
  have KW := Lib.hid (KB.out w2 BB.out)
  go_wp2_with (refine wpList_load_row (P := Tryz.prog) rfl 63 (.tmp 1) rfl w.heap.size rfl 63 ta (0, 0) _ KW.out Tryz.underlying63 rfl HI ?_)
  refine (HV.out _ LL.out).mono ?_
  rintro e w3 ⟨rfl, b3⟩
  have BB := Lib.hid (BB.out.trans (b3.mono BB.out.size))
  have LL := Lib.hid (LL.out.trans (b3.mono LL.out.size))
  clear c0 c1 c2 c3 c4 c5 c6 c7 c8 c9 c10 c11 c12 c13 c14 c15 c16 l0 KW
  obtain ⟨c0, c1, c2, c3, c4, c5, c6, c7, c8, c9, c10, c11, c12, c13, c14, c15, c16, l0⟩ := KK.out w3 BB.out
  have KW := Lib.hid (KB.out w3 BB.out)
  have ew : IntKind.i64.wrap (old + v1) = old + v1 := IntWalk.i64_in _ (by omega)
  have ew2 : IntKind.i64.wrap (old + v1 - m) = old + v1 - m := IntWalk.i64_in _ (by omega)
  clear hob hvb hmb
  by_cases h1 : m ≤ old + v1
  · have HZ2 : Hid (z = old + v1 - m) := Lib.hid (HZ.out.1 h1)
    go_wp2_with (refine wpList_load_row (P := Tryz.prog) rfl 63 (.tmp 1) rfl w.heap.size rfl 63 ta (0, 0) _ KW.out Tryz.underlying63 rfl HI ?_)
    refine (HE.out _ LL.out _).mono ?_
    rintro e w9 ⟨rfl, st9, fr9⟩
    go_wp2
    exact bodyPost_end (v := .tuple #[]) (by simp [results, Tryz.results83, go_sem]) rfl ⟨rfl, (by rw [HZ2.out]; exact st9), (Fr.belowN LL.out (Nat.le_refl _) HBN.out).trans fr9⟩
  · have HZ2 : Hid (z = old + v1) := Lib.hid (HZ.out.2 (by omega))
    go_wp2_with (refine wpList_load_row (P := Tryz.prog) rfl 63 (.tmp 1) rfl w.heap.size rfl 63 ta (0, 0) _ KW.out Tryz.underlying63 rfl HI ?_)
    refine (HE.out _ LL.out _).mono ?_
    rintro e w9 ⟨rfl, st9, fr9⟩
    go_wp2
    exact bodyPost_end (v := .tuple #[]) (by simp [results, Tryz.results83, go_sem]) rfl ⟨rfl, (by rw [HZ2.out]; exact st9), (Fr.belowN LL.out (Nat.le_refl _) HBN.out).trans fr9⟩
end Go.Proofs.YtacbanfnakgecaaGreat
