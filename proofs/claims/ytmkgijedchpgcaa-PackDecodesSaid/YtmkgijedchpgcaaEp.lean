/- Writing to a configuration of one's own: what is left, by what it holds. -/
import Derived.Test.YtmkgijedchpgcaaYg
import Derived.Test.YtmkgijedchpgcaaEz
namespace Go.Proofs.Ytmkgijedchpgcaa
set_option linter.unusedSimpArgs false
set_option linter.unusedVariables false
open Go.RowKit

theorem bk4 {W : World} {p T : Nat} {a b c d : Value} (h : Bk W p T #[a, b, c, d]) : W.cell? ⟨p, 0, none⟩ = some a ∧ W.cell? ⟨p, 1, none⟩ = some b ∧ W.cell? ⟨p, 2, none⟩ = some c ∧ W.cell? ⟨p, 3, none⟩ = some d ∧ p < W.heap.size := ⟨h.cell 0, h.cell 1, h.cell 2, h.cell 3, h.lt⟩
theorem bk7 {W : World} {p T : Nat} {a b c d e f g : Value} (h : Bk W p T #[a, b, c, d, e, f, g]) : W.cell? ⟨p, 0, none⟩ = some a ∧ W.cell? ⟨p, 1, none⟩ = some b ∧ W.cell? ⟨p, 2, none⟩ = some c ∧ W.cell? ⟨p, 3, none⟩ = some d ∧ W.cell? ⟨p, 4, none⟩ = some e ∧ W.cell? ⟨p, 5, none⟩ = some f ∧ W.cell? ⟨p, 6, none⟩ = some g ∧ p < W.heap.size := ⟨h.cell 0, h.cell 1, h.cell 2, h.cell 3, h.cell 4, h.cell 5, h.cell 6, h.lt⟩
theorem bkf4 {W : World} {p T : Nat} {a b c d : Value} (h : Bk W p T #[a, b, c, d]) : W.frozen? ⟨p, 0, none⟩ = false ∧ W.frozen? ⟨p, 1, none⟩ = false ∧ W.frozen? ⟨p, 2, none⟩ = false ∧ W.frozen? ⟨p, 3, none⟩ = false := ⟨h.fz 0, h.fz 1, h.fz 2, h.fz 3⟩
theorem St.putPc {B N : Nat} {w : World} {a0 : Option Addr} {m0 n0 : Nat} {xr xm xb : Value} {c : Cf} (h : St B N w (.slice a0 m0 n0) xr xm xb c) (k : Nat) (hk : k < c.pf.pc.length) :
    ∃ g u, a0 = some ⟨g, 0, none⟩ ∧ k < m0 ∧ B ≤ g ∧ g < N ∧ g < w.heap.size ∧ w.cell? ⟨g, k, none⟩ = some u ∧ w.frozen? ⟨g, k, none⟩ = false ∧ (∀ q, xm.ownBlock = some q → ¬ g = q) ∧
      ∀ v : Int, ∃ c' : Cf, c'.pf = { c.pf with pc := c.pf.pc.set k v } ∧ St B N (w.setCell ⟨g, k, none⟩ (.int .i64 v)) (.slice a0 m0 n0) xr xm xb c' ∧ Fr B N w (w.setCell ⟨g, k, none⟩ (.int .i64 v)) := by
  obtain ⟨g, cap, hv, h1, h2, h3, h4, h5⟩ := h.pcAt k hk
  injection hv with e1 e2 e3
  exact ⟨g, _, e1, by rw [e2]; exact hk, (h.o.p.lt g (by rw [e1]; rfl)).1, h1, h2, h3, h4, (fun q hq e => h.d.pm g (by rw [e1]; rfl) (by rw [hq, e])), fun v => ⟨_, rfl, (h5 v).1, (h5 v).2⟩⟩
theorem St.putMem {B N : Nat} {w : World} {a0 : Option Addr} {m0 n0 : Nat} {xp xr xb : Value} {c : Cf} (h : St B N w xp xr (.slice a0 m0 n0) xb c) (k : Nat) (hk : k < c.pf.mem.length) :
    ∃ g u, a0 = some ⟨g, 0, none⟩ ∧ k < m0 ∧ B ≤ g ∧ g < N ∧ g < w.heap.size ∧ w.cell? ⟨g, k, none⟩ = some u ∧ w.frozen? ⟨g, k, none⟩ = false ∧
      ∀ v : Int, ∃ c' : Cf, c'.pf = { c.pf with mem := c.pf.mem.set k v } ∧ St B N (w.setCell ⟨g, k, none⟩ (.int .i64 v)) xp xr (.slice a0 m0 n0) xb c' ∧ Fr B N w (w.setCell ⟨g, k, none⟩ (.int .i64 v)) := by
  obtain ⟨g, cap, hv, h1, h2, h3, h4, h5⟩ := h.memAt k hk
  injection hv with e1 e2 e3
  exact ⟨g, _, e1, by rw [e2]; exact hk, (h.o.m.lt g (by rw [e1]; rfl)).1, h1, h2, h3, h4, fun v => ⟨_, rfl, (h5 v).1, (h5 v).2⟩⟩
theorem St.putBuf {B N : Nat} {w : World} {a0 : Option Addr} {m0 n0 : Nat} {xp xr xm : Value} {c : Cf} (h : St B N w xp xr xm (.slice a0 m0 n0) c) (k : Nat) (hk : k < c.pf.buf.length) :
    ∃ g u, a0 = some ⟨g, 0, none⟩ ∧ k < m0 ∧ B ≤ g ∧ g < N ∧ g < w.heap.size ∧ w.cell? ⟨g, k, none⟩ = some u ∧ w.frozen? ⟨g, k, none⟩ = false ∧
      ∀ (l : List Ent) (v : Value), OwnE w B v l → ∃ c' : Cf, c'.pf = { c.pf with buf := c.pf.buf.set k l } ∧ St B N (w.setCell ⟨g, k, none⟩ v) xp xr xm (.slice a0 m0 n0) c' ∧ Fr B N w (w.setCell ⟨g, k, none⟩ v) := by
  have hk' : k < c.buf.length := by have : c.pf.buf.length = c.buf.length := by simp [Cf.pf]
                                    omega
  obtain ⟨g, cap, hv, h1, h2, h3, h4, h5⟩ := h.bufAt k hk'
  injection hv with e1 e2 e3
  refine ⟨g, _, e1, by rw [e2]; exact hk', (h.o.b.h.lt g (by rw [e1]; rfl)).1, h1, h2, h3, h4, fun l v hl => ⟨_, ?_, (h5 l v hl).1, (h5 l v hl).2⟩⟩
  simp [Cf.pf, List.map_set]
theorem St.putReg {B N : Nat} {w : World} {a0 : Option Addr} {m0 n0 : Nat} {xp xm xb : Value} {c : Cf} (h : St B N w xp (.slice a0 m0 n0) xm xb c) (k : Nat) (hk : k < c.pf.regs.length) (i : Nat) (hi : i < (c.pf.regs.getD k []).length) :
    ∃ g1 g mr cr u, a0 = some ⟨g1, 0, none⟩ ∧ k < m0 ∧ g1 < w.heap.size ∧ w.cell? ⟨g1, k, none⟩ = some (.slice (some ⟨g, 0, none⟩) mr cr) ∧ i < mr ∧ B ≤ g ∧ g < N ∧ g < w.heap.size ∧ w.cell? ⟨g, i, none⟩ = some u ∧ w.frozen? ⟨g, i, none⟩ = false ∧ (∀ q, xm.ownBlock = some q → ¬ g = q) ∧
      ∀ v : Int, ∃ c' : Cf, c'.pf = { c.pf with regs := setI c.pf.regs k i v } ∧ St B N (w.setCell ⟨g, i, none⟩ (.int .i64 v)) xp (.slice a0 m0 n0) xm xb c' ∧ Fr B N w (w.setCell ⟨g, i, none⟩ (.int .i64 v)) := by
  have hk' : k < c.regs.length := by have : c.pf.regs.length = c.regs.length := by simp [Cf.pf]
                                     omega
  have hr : c.pf.regs.getD k [] = (c.regs[k]).1 := by
    show (c.regs.map (·.1)).getD k [] = _
    rw [getD_map, List.getD_eq_getElem?_getD, List.getElem?_eq_getElem hk']; rfl
  rw [hr] at hi
  obtain ⟨g1, cp1, hv1, _, hl1, hc1⟩ := h.o.regRow k hk'
  obtain ⟨g, cap, hv, h1, h2, h3, h4, h5⟩ := h.regAt k hk' i hi
  rw [hv] at hc1
  injection hv1 with e1 e2 e3
  refine ⟨g1, g, _, _, _, e1, by rw [e2]; exact hk', hl1, hc1, hi, ((h.o.r.r _ (List.getElem_mem hk')).lt g (by rw [hv]; rfl)).1, h1, h2, h3, h4, (fun q hq e => h.d.mr _ (List.getElem_mem hk') q hq (by rw [hv, ← e]; rfl)), fun v => ⟨_, ?_, (h5 v).1, (h5 v).2⟩⟩
  unfold setI
  rw [hr]
  simp [Cf.pf, List.map_set]
theorem St.putReg2 {B N : Nat} {w : World} {a0 : Option Addr} {m0 n0 : Nat} {xp xm xb : Value} {c : Cf} (h : St B N w xp (.slice a0 m0 n0) xm xb c) (k : Nat) (hk : k < c.pf.regs.length) (i : Nat) (hi : i < (c.pf.regs.getD k []).length) :
    ∃ g1 g mr cr, a0 = some ⟨g1, 0, none⟩ ∧ k < m0 ∧ g1 < w.heap.size ∧ w.cell? ⟨g1, k, none⟩ = some (.slice (some ⟨g, 0, none⟩) mr cr) ∧ i < mr ∧ B ≤ g ∧ g < N ∧ ¬ g = g1 ∧ ∀ W : World, Below w.heap.size w W → ∃ u, g < W.heap.size ∧ W.cell? ⟨g, i, none⟩ = some u ∧ W.frozen? ⟨g, i, none⟩ = false ∧
      ∀ v : Int, ∃ c' : Cf, c'.pf = { c.pf with regs := setI c.pf.regs k i v } ∧ St B N (W.setCell ⟨g, i, none⟩ (.int .i64 v)) xp (.slice a0 m0 n0) xm xb c' ∧ Fr B N W (W.setCell ⟨g, i, none⟩ (.int .i64 v)) := by
  obtain ⟨g1, g, mr, cr, u, e1, h2, h3, h4, h5, h6, h7, h8, h9, h10, _, _⟩ := h.putReg k hk i hi
  have hk' : k < c.regs.length := by have : c.pf.regs.length = c.regs.length := by simp [Cf.pf]
                                     omega
  have hne : ¬ g = g1 := by
    intro e
    have h4' := h4
    obtain ⟨g1', cp1, hv1, _, _, hc1⟩ := h.o.regRow k hk'
    rw [e1] at hv1
    injection hv1 with q1 q2 q3
    injection q1 with q1
    injection q1 with q1 _ _
    subst q1
    rw [hc1] at h4'
    injection h4' with h4'
    exact apart_types h.o.r.h (h.o.r.r _ (List.getElem_mem hk')) (by decide) g1 (by rw [e1]; rfl) (by rw [h4', e]; rfl)
  refine ⟨g1, g, mr, cr, e1, h2, h3, h4, h5, h6, h7, hne, fun W hW => ?_⟩
  obtain ⟨g1', g', mr', cr', u', e1', _, _, k4, _, _, _, k8, k9, k10, _, k12⟩ := (h.below hW).putReg k hk i hi
  rw [e1] at e1'
  injection e1' with e1'
  injection e1' with e1' _ _
  subst e1'
  have hh := (hW.cell (p := ⟨g1, k, none⟩) h3).trans h4
  rw [hh] at k4
  injection k4 with k4
  injection k4 with k4 _ _
  injection k4 with k4
  injection k4 with k4 _ _
  subst k4
  exact ⟨u', k8, k9, k10, k12⟩

end Go.Proofs.Ytmkgijedchpgcaa
