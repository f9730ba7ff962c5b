/- Layer 10: a configuration of one's own, and what writing to it leaves alone. -/
import Derived.Test.YtmkgijedchpgcaaYc
namespace Go.Proofs.Ytmkgijedchpgcaa
set_option linter.unusedSimpArgs false
set_option linter.unusedVariables false
open Go.RowKit

/-- What may be written lies below a number. -/
structure LtC (N : Nat) (xp xm xb : Value) (l : List (List Int × Value)) : Prop where
  p : ∀ g, xp.ownBlock = some g → g < N
  m : ∀ g, xm.ownBlock = some g → g < N
  b : ∀ g, xb.ownBlock = some g → g < N
  r : ∀ x ∈ l, ∀ g, x.2.ownBlock = some g → g < N
/-- A configuration of one's own, in blocks from B on; what is written to lies below N. -/
structure St (B N : Nat) (w : World) (xp xr xm xb : Value) (c : Cf) : Prop where
  o : OwnC w B xp xr xm xb c
  d : DjC xp xm c.regs
  l : LtC N xp xm xb c.regs
  n : N ≤ w.heap.size
  bn : B ≤ N
/-- What stays: all below B, all from N on. -/
structure Fr (B N : Nat) (w w' : World) : Prop where
  b : Below B w w'
  k : Kp N w w'
theorem Fr.refl (B N : Nat) (w : World) : Fr B N w w := ⟨Below.refl _ _, Kp.refl _ _⟩
theorem Fr.trans {B N : Nat} {w w1 w2 : World} (h : Fr B N w w1) (h2 : Fr B N w1 w2) : Fr B N w w2 := ⟨h.b.trans h2.b, h.k.trans h2.k⟩
theorem Fr.below {B N : Nat} {w w' : World} (h : Below w.heap.size w w') (hB : B ≤ w.heap.size) : Fr B N w w' := ⟨h.mono hB, ⟨h.size, fun g _ h4 => h.block g h4⟩⟩
theorem Fr.belowN {B N n : Nat} {w w' : World} (h : Below w.heap.size w w') (h1 : n ≤ w.heap.size) (h2 : B ≤ n) : Fr B N w w' := Fr.below h (Nat.le_trans h2 h1)
theorem Fr.at {B N : Nat} {w w' : World} (h : Fr B N w w') {g : Nat} (hg : N ≤ g) (hl : g < w.heap.size) : w'.heap[g]? = w.heap[g]? := h.k.2 g hg hl
theorem Fr.bk {B N : Nat} {w w' : World} (h : Fr B N w w') {g T : Nat} {cs : Array Value} (hg : N ≤ g) (hb : Bk w g T cs) : Bk w' g T cs := (h.at hg hb.lt).trans hb
theorem Fr.set {B N : Nat} {w : World} {g k : Nat} {u : Value} (hB : B ≤ g) (hN : g < N) : Fr B N w (w.setCell ⟨g, k, none⟩ u) :=
  ⟨Below.setCell (p := ⟨g, k, none⟩) (Below.refl _ _) hB _, ⟨by simp, fun j hj _ => heap_setCell_other w ⟨g, k, none⟩ j u (by simp; omega)⟩⟩

section
variable {w : World} {B N : Nat} {xp xr xm xb : Value} {c : Cf}
theorem St.of {w' : World} (o : OwnC w' B xp xr xm xb c) (d : DjC xp xm c.regs) (hb : B ≤ w'.heap.size) : St B w'.heap.size w' xp xr xm xb c :=
  ⟨o, d, ⟨fun g h => (o.p.lt g h).2, fun g h => (o.m.lt g h).2, fun g h => (o.b.h.lt g h).2, fun x hx g h => ((o.r.r x hx).lt g h).2⟩, Nat.le_refl _, hb⟩
theorem St.below {w' : World} (h : St B N w xp xr xm xb c) (hb : Below w.heap.size w w') : St B N w' xp xr xm xb c := ⟨h.o.below hb, h.d, h.l, Nat.le_trans h.n hb.size, h.bn⟩
theorem St.data (h : St B N w xp xr xm xb c) : CfD w xp xr xm xb c := h.o.data

theorem St.pcAt (h : St B N w xp xr xm xb c) (k : Nat) (hk : k < c.pc.length) :
    ∃ g cap, xp = .slice (some ⟨g, 0, none⟩) c.pc.length cap ∧ g < N ∧ g < w.heap.size ∧ w.cell? ⟨g, k, none⟩ = some (.int .i64 (c.pc.getD k 0)) ∧ w.frozen? ⟨g, k, none⟩ = false ∧
      ∀ v : Int, St B N (w.setCell ⟨g, k, none⟩ (.int .i64 v)) xp xr xm xb { c with pc := c.pc.set k v } ∧ Fr B N w (w.setCell ⟨g, k, none⟩ (.int .i64 v)) := by
  obtain ⟨g, cap, hv, h1, h2, h3, h4, h5⟩ := h.o.pcAt h.d k hk
  have hg := h.l.p g (by rw [hv]; rfl)
  exact ⟨g, cap, hv, hg, h2, h3, h4, fun v => ⟨⟨h5 v, h.d, h.l, by rw [setCell_size]; exact h.n, h.bn⟩, Fr.set h1 hg⟩⟩
theorem St.memAt (h : St B N w xp xr xm xb c) (k : Nat) (hk : k < c.mem.length) :
    ∃ g cap, xm = .slice (some ⟨g, 0, none⟩) c.mem.length cap ∧ g < N ∧ g < w.heap.size ∧ w.cell? ⟨g, k, none⟩ = some (.int .i64 (c.mem.getD k 0)) ∧ w.frozen? ⟨g, k, none⟩ = false ∧
      ∀ v : Int, St B N (w.setCell ⟨g, k, none⟩ (.int .i64 v)) xp xr xm xb { c with mem := c.mem.set k v } ∧ Fr B N w (w.setCell ⟨g, k, none⟩ (.int .i64 v)) := by
  obtain ⟨g, cap, hv, h1, h2, h3, h4, h5⟩ := h.o.memAt h.d k hk
  have hg := h.l.m g (by rw [hv]; rfl)
  exact ⟨g, cap, hv, hg, h2, h3, h4, fun v => ⟨⟨h5 v, h.d, h.l, by rw [setCell_size]; exact h.n, h.bn⟩, Fr.set h1 hg⟩⟩
theorem St.regAt (h : St B N w xp xr xm xb c) (k : Nat) (hk : k < c.regs.length) (i : Nat) (hi : i < (c.regs[k]).1.length) :
    ∃ g cap, (c.regs[k]).2 = .slice (some ⟨g, 0, none⟩) (c.regs[k]).1.length cap ∧ g < N ∧ g < w.heap.size ∧ w.cell? ⟨g, i, none⟩ = some (.int .i64 ((c.regs[k]).1.getD i 0)) ∧ w.frozen? ⟨g, i, none⟩ = false ∧
      ∀ v : Int, St B N (w.setCell ⟨g, i, none⟩ (.int .i64 v)) xp xr xm xb { c with regs := c.regs.set k ((c.regs[k]).1.set i v, (c.regs[k]).2) } ∧ Fr B N w (w.setCell ⟨g, i, none⟩ (.int .i64 v)) := by
  obtain ⟨g, cap, hv, h1, h2, h3, h4, h5⟩ := h.o.regAt h.d k hk i hi
  have hg := h.l.r _ (List.getElem_mem hk) g (by rw [hv]; rfl)
  refine ⟨g, cap, hv, hg, h2, h3, h4, fun v => ⟨⟨h5 v, h.d.same (set_snd _ k hk _), ⟨h.l.p, h.l.m, h.l.b, fun x hx g' hg' => ?_⟩, by rw [setCell_size]; exact h.n, h.bn⟩, Fr.set h1 hg⟩⟩
  have : x.2 ∈ c.regs.map (·.2) := set_snd c.regs k hk ((c.regs[k]).1.set i v) ▸ List.mem_map_of_mem hx
  obtain ⟨y, hy, e⟩ := List.mem_map.1 this
  exact h.l.r y hy g' (by rw [e]; exact hg')
theorem St.bufAt (h : St B N w xp xr xm xb c) (k : Nat) (hk : k < c.buf.length) :
    ∃ g cap, xb = .slice (some ⟨g, 0, none⟩) c.buf.length cap ∧ g < N ∧ g < w.heap.size ∧ w.cell? ⟨g, k, none⟩ = some (c.buf[k]).2 ∧ w.frozen? ⟨g, k, none⟩ = false ∧
      ∀ (l : List Ent) (v : Value), OwnE w B v l → St B N (w.setCell ⟨g, k, none⟩ v) xp xr xm xb { c with buf := c.buf.set k (l, v) } ∧ Fr B N w (w.setCell ⟨g, k, none⟩ v) := by
  obtain ⟨g, cap, hv, h1, h2, h3, h4, h5⟩ := h.o.bufAt k hk
  have hg := h.l.b g (by rw [hv]; rfl)
  exact ⟨g, cap, hv, hg, h2, h3, h4, fun l v hl => ⟨⟨h5 l v hl, h.d, h.l, by rw [setCell_size]; exact h.n, h.bn⟩, Fr.set h1 hg⟩⟩
theorem St.short (h : St B N w xp xr xm xb c) {c' : Cf} (hp : c'.pf = c.pf) : c'.pf = c.pf := hp
end

end Go.Proofs.Ytmkgijedchpgcaa
