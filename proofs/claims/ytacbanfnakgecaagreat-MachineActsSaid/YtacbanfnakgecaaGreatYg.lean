/- Layer 10: a configuration of one's own, and what writing to it leaves alone. Layer 10, the code: a thread's turn: whether it can go on, what it writes. Layer 10, the code: a thread's turn: what it writes. -/
import Derived.Test.YtacbanfnakgecaaGreatYc
import Derived.Deep.RegionHeld3
import Derived.StillTailTactics
namespace Go.Proofs.YtacbanfnakgecaaGreat
set_option linter.unusedSimpArgs false
set_option linter.unusedVariables false
open Go.RowKit
structure LtC (N : Nat) (xp xm xb : Value) (l : List (List Int × Value)) : Prop where
  p : ∀ g, xp.ownBlock = some g → g < N
  m : ∀ g, xm.ownBlock = some g → g < N
  b : ∀ g, xb.ownBlock = some g → g < N
  r : ∀ x ∈ l, ∀ g, x.2.ownBlock = some g → g < N
structure St (B N : Nat) (w : World) (xp xr xm xb : Value) (c : Cf) : Prop where
  o : OwnC w B xp xr xm xb c
  d : DjC xp xm c.regs
  l : LtC N xp xm xb c.regs
  n : N ≤ w.heap.size
  bn : B ≤ N
structure Fr (B N : Nat) (w w' : World) : Prop where
  b : Below B w w'
  k : Kp N w w'
theorem Fr.refl (B N : Nat) (w : World) : Fr B N w w := ⟨Below.refl _ _, Kp.refl _ _⟩
theorem Fr.trans {B N : Nat} {w w1 w2 : World} (h : Fr B N w w1) (h2 : Fr B N w1 w2) : Fr B N w w2 := ⟨h.b.trans h2.b, h.k.trans h2.k⟩
theorem Fr.below {B N : Nat} {w w' : World} (h : Below w.heap.size w w') (hB : B ≤ w.heap.size) : Fr B N w w' := ⟨h.mono hB, ⟨h.size, fun g _ h4 => h.block g h4⟩⟩
theorem Fr.belowN {B N n : Nat} {w w' : World} (h : Below w.heap.size w w') (h1 : n ≤ w.heap.size) (h2 : B ≤ n) : Fr B N w w' := Fr.below h (Nat.le_trans h2 h1)
theorem Fr.at {B N : Nat} {w w' : World} (h : Fr B N w w') {g : Nat} (hg : N ≤ g) (hl : g < w.heap.size) : w'.heap[g]? = w.heap[g]? := h.k.2 g hg hl
theorem Fr.bk {B N : Nat} {w w' : World} (h : Fr B N w w') {g T : Nat} {cs : Array Value} (hg : N ≤ g) (hb : Bk w g T cs) : Bk w' g T cs := (h.at hg hb.lt).trans hb
theorem Fr.set {B N : Nat} {w : World} {g k : Nat} {u : Value} (hB : B ≤ g) (hN : g < N) : Fr B N w (w.setCell ⟨g, k, none⟩ u) :=
  ⟨Below.setCell (p := ⟨g, k, none⟩) (Below.refl _ _) hB _, ⟨by simp, fun j hj _ => heap_setCell_other w ⟨g, k, none⟩ j u (by simp; omega)⟩⟩
section
variable {w : World} {B N : Nat} {xp xr xm xb : Value} {c : Cf}
theorem St.of {w' : World} (o : OwnC w' B xp xr xm xb c) (d : DjC xp xm c.regs) (hb : B ≤ w'.heap.size) : St B w'.heap.size w' xp xr xm xb c :=
  ⟨o, d, ⟨fun g h => (o.p.lt g h).2, fun g h => (o.m.lt g h).2, fun g h => (o.b.h.lt g h).2, fun x hx g h => ((o.r.r x hx).lt g h).2⟩, Nat.le_refl _, hb⟩
theorem St.below {w' : World} (h : St B N w xp xr xm xb c) (hb : Below w.heap.size w w') : St B N w' xp xr xm xb c := ⟨h.o.below hb, h.d, h.l, Nat.le_trans h.n hb.size, h.bn⟩
theorem St.data (h : St B N w xp xr xm xb c) : CfD w xp xr xm xb c := h.o.data
theorem St.pcAt (h : St B N w xp xr xm xb c) (k : Nat) (hk : k < c.pc.length) :
    ∃ g cap, xp = .slice (some ⟨g, 0, none⟩) c.pc.length cap ∧ g < N ∧ g < w.heap.size ∧ w.cell? ⟨g, k, none⟩ = some (.int .i64 (c.pc.getD k 0)) ∧ w.frozen? ⟨g, k, none⟩ = false ∧
      ∀ v : Int, St B N (w.setCell ⟨g, k, none⟩ (.int .i64 v)) xp xr xm xb { c with pc := c.pc.set k v } ∧ Fr B N w (w.setCell ⟨g, k, none⟩ (.int .i64 v)) := by
  obtain ⟨g, cap, hv, h1, h2, h3, h4, h5⟩ := h.o.pcAt h.d k hk
  have hg := h.l.p g (by rw [hv]; rfl)
  exact ⟨g, cap, hv, hg, h2, h3, h4, fun v => ⟨⟨h5 v, h.d, h.l, by rw [setCell_size]; exact h.n, h.bn⟩, Fr.set h1 hg⟩⟩
theorem St.memAt (h : St B N w xp xr xm xb c) (k : Nat) (hk : k < c.mem.length) :
    ∃ g cap, xm = .slice (some ⟨g, 0, none⟩) c.mem.length cap ∧ g < N ∧ g < w.heap.size ∧ w.cell? ⟨g, k, none⟩ = some (.int .i64 (c.mem.getD k 0)) ∧ w.frozen? ⟨g, k, none⟩ = false ∧
      ∀ v : Int, St B N (w.setCell ⟨g, k, none⟩ (.int .i64 v)) xp xr xm xb { c with mem := c.mem.set k v } ∧ Fr B N w (w.setCell ⟨g, k, none⟩ (.int .i64 v)) := by
  obtain ⟨g, cap, hv, h1, h2, h3, h4, h5⟩ := h.o.memAt h.d k hk
  have hg := h.l.m g (by rw [hv]; rfl)
  exact ⟨g, cap, hv, hg, h2, h3, h4, fun v => ⟨⟨h5 v, h.d, h.l, by rw [setCell_size]; exact h.n, h.bn⟩, Fr.set h1 hg⟩⟩
theorem St.regAt (h : St B N w xp xr xm xb c) (k : Nat) (hk : k < c.regs.length) (i : Nat) (hi : i < (c.regs[k]).1.length) :
    ∃ g cap, (c.regs[k]).2 = .slice (some ⟨g, 0, none⟩) (c.regs[k]).1.length cap ∧ g < N ∧ g < w.heap.size ∧ w.cell? ⟨g, i, none⟩ = some (.int .i64 ((c.regs[k]).1.getD i 0)) ∧ w.frozen? ⟨g, i, none⟩ = false ∧
      ∀ v : Int, St B N (w.setCell ⟨g, i, none⟩ (.int .i64 v)) xp xr xm xb { c with regs := c.regs.set k ((c.regs[k]).1.set i v, (c.regs[k]).2) } ∧ Fr B N w (w.setCell ⟨g, i, none⟩ (.int .i64 v)) := by
  obtain ⟨g, cap, hv, h1, h2, h3, h4, h5⟩ := h.o.regAt h.d k hk i hi
  have hg := h.l.r _ (List.getElem_mem hk) g (by rw [hv]; rfl)
  refine ⟨g, cap, hv, hg, h2, h3, h4, fun v => ⟨⟨h5 v, h.d.same (set_snd _ k hk _), ⟨h.l.p, h.l.m, h.l.b, fun x hx g' hg' => ?_⟩, by rw [setCell_size]; exact h.n, h.bn⟩, Fr.set h1 hg⟩⟩
  have : x.2 ∈ c.regs.map (·.2) := set_snd c.regs k hk ((c.regs[k]).1.set i v) ▸ List.mem_map_of_mem hx
  obtain ⟨y, hy, e⟩ := List.mem_map.1 this
  exact h.l.r y hy g' (by rw [e]; exact hg')
theorem St.bufAt (h : St B N w xp xr xm xb c) (k : Nat) (hk : k < c.buf.length) :
    ∃ g cap, xb = .slice (some ⟨g, 0, none⟩) c.buf.length cap ∧ g < N ∧ g < w.heap.size ∧ w.cell? ⟨g, k, none⟩ = some (c.buf[k]).2 ∧ w.frozen? ⟨g, k, none⟩ = false ∧
      ∀ (l : List Ent) (v : Value), OwnE w B v l → St B N (w.setCell ⟨g, k, none⟩ v) xp xr xm xb { c with buf := c.buf.set k (l, v) } ∧ Fr B N w (w.setCell ⟨g, k, none⟩ v) := by
  obtain ⟨g, cap, hv, h1, h2, h3, h4, h5⟩ := h.o.bufAt k hk
  have hg := h.l.b g (by rw [hv]; rfl)
  exact ⟨g, cap, hv, hg, h2, h3, h4, fun l v hl => ⟨⟨h5 l v hl, h.d, h.l, by rw [setCell_size]; exact h.n, h.bn⟩, Fr.set h1 hg⟩⟩
end
end Go.Proofs.YtacbanfnakgecaaGreat

namespace Go.Proofs.YtacbanfnakgecaaGreat
set_option linter.unusedSimpArgs false
set_option linter.unusedVariables false
open Go.RowKit
theorem turn_cells {W : World} {b : Nat} {m model room : Int} {xp xr xm xb : Value} {k : Nat} {x : II} {f1 f2 : Value} (h : Bk W b 63 (turnA m model room xp xr xm xb k x f1 f2)) :
    W.cell? ⟨b, 0, none⟩ = some (.int .i64 m) ∧ W.cell? ⟨b, 1, none⟩ = some (.int .i64 model) ∧ W.cell? ⟨b, 2, none⟩ = some (.int .i64 room) ∧ W.cell? ⟨b, 3, none⟩ = some xp ∧ W.cell? ⟨b, 4, none⟩ = some xr ∧ W.cell? ⟨b, 5, none⟩ = some xm ∧ W.cell? ⟨b, 6, none⟩ = some xb ∧ W.cell? ⟨b, 7, none⟩ = some (.int .i64 k) ∧ W.cell? ⟨b, 8, none⟩ = some (.int .i64 x.x.op) ∧ W.cell? ⟨b, 9, none⟩ = some (.int .i64 x.x.reg) ∧ W.cell? ⟨b, 10, none⟩ = some (.int .i64 x.x.loc) ∧ W.cell? ⟨b, 11, none⟩ = some x.ev ∧ W.cell? ⟨b, 12, none⟩ = some x.fv ∧ W.cell? ⟨b, 13, none⟩ = some (.bool x.x.ne) ∧ W.cell? ⟨b, 14, none⟩ = some (.int .i64 x.x.to) ∧ W.cell? ⟨b, 15, none⟩ = some f1 ∧ W.cell? ⟨b, 16, none⟩ = some f2 ∧ b < W.heap.size :=
  ⟨h.cell 0, h.cell 1, h.cell 2, h.cell 3, h.cell 4, h.cell 5, h.cell 6, h.cell 7, h.cell 8, h.cell 9, h.cell 10, h.cell 11, h.cell 12, h.cell 13, h.cell 14, h.cell 15, h.cell 16, h.lt⟩
set_option maxRecDepth 100000 in
set_option maxHeartbeats 4000000 in
theorem troomy_any (c : Cf) (m model room : Int) (xp xr xm xb f1 f2 : Value) (k : Nat) (x : II) (w : World) (hc : CfD w xp xr xm xb c) (hk : k < c.buf.length) (hs : ∀ r ∈ c.buf, r.1.length ≤ 100000) (b : Bool) (hb : (decide (model = 1) || roomL (c.buf[k]).1 model room x.x.loc) = b) :
    Calls Tryz.prog 79 #[.agg (turnA m model room xp xr xm xb k x f1 f2)] w fun e w' => e = .returned (.bool b) ∧ Below w.heap.size w w' := by
  obtain ⟨yb, db, rfl⟩ := hc.b.shape0
  obtain ⟨b1, o1, a1, m1, rfl, hb1, hx1, hx2⟩ := BufsD.at2 hc.b k hk
  obtain ⟨mb, hmb⟩ : ∃ n, n = c.buf.length := ⟨_, rfl⟩
  have hlen := hs _ (List.getElem_mem hk)
  obtain ⟨q, hq⟩ : ∃ q, roomL (c.buf[k]).1 model room x.x.loc = q := ⟨_, rfl⟩
  rw [hq] at hb
  have HR := Lib.hid (fun (W : World) (h : Below w.heap.size w W) => room_any (c.buf[k]).1 _ model room x.x.loc W (EntsD.below hx2 h) hlen q hq)
  have HB := Lib.hid hb
  rw [← hmb] at hk ⊢
  generalize (c.buf[k]'(by rw [← hmb]; exact hk)).1.length = nb at hx1 HR
  have KA := Lib.hid (Bk.new w 63 (turnA m model room xp xr xm (.slice (some ⟨b1, o1, none⟩) mb db) k x f1 f2))
  have L0 : Hid (Below w.heap.size w (w.alloc (.cells (turnA m model room xp xr xm (.slice (some ⟨b1, o1, none⟩) mb db) k x f1 f2) 63))) := (Below.refl _ _).alloc (Nat.le_refl _) _
  clear hc hb hmb hs hx2 hlen hq
  have e1 : (0 : Int) ≤ (k : Int) := by omega
  have e2 : (k : Int) < (mb : Int) := by omega
  generalize hW : World.alloc w _ = W at L0 KA
  have x1 : W.cell? ⟨b1, o1 + k, none⟩ = some (.slice a1 nb m1) := (L0.out.cell (p := ⟨b1, _, none⟩) hb1).trans hx1
  have hb3 : b1 < W.heap.size := Nat.lt_of_lt_of_le hb1 L0.out.size
  obtain ⟨c0, c1, c2, c3, c4, c5, c6, c7, c8, c9, c10, c11, c12, c13, c14, c15, c16, l0⟩ := turn_cells KA.out
  have KK := Lib.hid (fun W1 (hb : Below W.heap.size W W1) => (⟨(KA.out.below hb).cell 1, (KA.out.below hb).cell 2, (KA.out.below hb).cell 6, (KA.out.below hb).cell 7, (KA.out.below hb).cell 10, (hb.cell (p := ⟨b1, _, none⟩) hb3).trans x1, (KA.out.below hb).lt, L0.out.trans (hb.mono L0.out.size)⟩ : W1.cell? ⟨w.heap.size, 1, none⟩ = some (.int .i64 model) ∧ W1.cell? ⟨w.heap.size, 2, none⟩ = some (.int .i64 room) ∧ W1.cell? ⟨w.heap.size, 6, none⟩ = some (.slice (some ⟨b1, o1, none⟩) mb db) ∧ W1.cell? ⟨w.heap.size, 7, none⟩ = some (.int .i64 k) ∧ W1.cell? ⟨w.heap.size, 10, none⟩ = some (.int .i64 x.x.loc) ∧ W1.cell? ⟨b1, o1 + k, none⟩ = some (.slice a1 nb m1) ∧ w.heap.size < W1.heap.size ∧ Below w.heap.size w W1))
  clear hx1 c0 c1 c2 c3 c4 c5 c6 c7 c8 c9 c10 c11 c12 c13 c14 c15 c16 x1
  unfold turnA at hW ⊢
  by_cases h1 : model = 1
  · have h1' : (model == 1) = true := by simpa using h1
    have H1 := Lib.hid h1
    clear h1
    go_enter Tryz.func79, Tryz.ntmps79
    go_wp2_with fail
    obtain ⟨c1, c2, c6, c7, c10, x1, l1, _⟩ := KK.out W (Below.refl _ _)
    go_region
    all_goals
      go_wp2
      go_ret
      exact ⟨ret_bool (by rw [← HB.out, decide_eq_true H1.out, Bool.true_or]), L0.out.drew⟩
  · have h1' : (model == 1) = false := by simpa using h1
    have H1 := Lib.hid h1
    clear h1
    go_enter Tryz.func79, Tryz.ntmps79
    go_wp2_with fail
    have bb : Below W.heap.size W W.drew := below_draws' W
    have bw : Below W.heap.size W W := Below.refl _ _
    go_region_held3 (fun W1 => W1.cell? ⟨w.heap.size, 1, none⟩ = some (.int .i64 model) ∧ W1.cell? ⟨w.heap.size, 2, none⟩ = some (.int .i64 room) ∧ W1.cell? ⟨w.heap.size, 6, none⟩ = some (.slice (some ⟨b1, o1, none⟩) mb db) ∧ W1.cell? ⟨w.heap.size, 7, none⟩ = some (.int .i64 k) ∧ W1.cell? ⟨w.heap.size, 10, none⟩ = some (.int .i64 x.x.loc) ∧ W1.cell? ⟨b1, o1 + k, none⟩ = some (.slice a1 nb m1) ∧ w.heap.size < W1.heap.size ∧ Below w.heap.size w W1)
      (first | with_reducible assumption | with_reducible exact KK.out _ bb | with_reducible exact KK.out _ bw | (go_split_ands; with_reducible exact KK.out _ (by assumption)))
      ((first
        | (go_at_call 109; go_split_ands; (with_reducible refine Calls.mono (HR.out _ (by assumption)) ?_); rintro e w2 ⟨rfl, b2⟩; have bb : Below W.heap.size W w2 := Below.trans (by assumption) (b2.mono (Below.size (by assumption))))))
    all_goals
      go_split_ands
      go_wp2
      go_ret
      exact ⟨ret_bool (by rw [← HB.out, decide_eq_false H1.out, Bool.false_or]), by assumption⟩
end Go.Proofs.YtacbanfnakgecaaGreat

namespace Go.Proofs.YtacbanfnakgecaaGreat
set_option linter.unusedSimpArgs false
set_option linter.unusedVariables false
open Go.RowKit
set_option maxRecDepth 100000 in
set_option maxHeartbeats 4000000 in
theorem tsetReg_any {B N : Nat} (c : Cf) (m model room : Int) (xp xr xm xb f1 f2 : Value) (k : Nat) (x : II) (w : World) (hS : St B N w xp xr xm xb c) (hk : k < c.regs.length) (i : Nat) (hi : i < (c.regs[k]).1.length) (hx : x.x.reg = i) (n : Int) :
    Calls Tryz.prog 106 #[.agg (turnA m model room xp xr xm xb k x f1 f2), .int .i64 n] w fun e w' => e = .returned (.tuple #[]) ∧ St B N w' xp xr xm xb { c with regs := c.regs.set k ((c.regs[k]).1.set i n, (c.regs[k]).2) } ∧ Fr B N w w' := by
  have KA := Lib.hid (Bk.new w 63 (turnA m model room xp xr xm xb k x f1 f2))
  have L0 : Hid (Below w.heap.size w (w.alloc (.cells (turnA m model room xp xr xm xb k x f1 f2) 63))) := (Below.refl _ _).alloc (Nat.le_refl _) _
  generalize hW : World.alloc w _ = W at L0 KA
  have HS := Lib.hid ((hS.below L0.out).below (below_draws' W))
  have HF0 : Hid (Fr B N w W.drew) := Lib.hid (Fr.below L0.out.drew (Nat.le_trans hS.bn hS.n))
  obtain ⟨g1, cp1, hv1, _, hl1, hc1⟩ := HS.out.o.regRow k hk
  obtain ⟨g2, cp2, hv2, _, hl2, hc2, hf2, hst⟩ := HS.out.regAt k hk i hi
  rw [hv2] at hc1
  subst hv1
  have HST := Lib.hid (hst n)
  obtain ⟨mr, hmr⟩ : ∃ n, n = c.regs.length := ⟨_, rfl⟩
  obtain ⟨nr, hnr⟩ : ∃ n, n = (c.regs[k]).1.length := ⟨_, rfl⟩
  have HPU := Lib.hid (put_any W.drew g2 (c.regs[k]).1.length cp2 i n _ hi hc2 hf2)
  rw [← hnr] at hc1 HPU
  have HMR := Lib.hid hmr
  rw [← hmr] at hk KA hW ⊢
  have e1 : (0 : Int) ≤ (k : Int) := by omega
  have e2 : (k : Int) < (mr : Int) := by omega
  obtain ⟨c0, c1, c2, c3, c4, c5, c6, c7, c8, c9, c10, c11, c12, c13, c14, c15, c16, l0⟩ := turn_cells KA.out
  rw [hx] at c9
  have hc1' : W.cell? ⟨g1, k, none⟩ = some (.slice (some ⟨g2, 0, none⟩) nr cp2) := hc1
  have hl1' : g1 < W.heap.size := hl1
  clear hmr hnr hx hc1 hl1 hst HS hi hS
  unfold turnA at hW ⊢
  go_enter Tryz.func106, Tryz.ntmps106
  go_wp2_with fail
  first | rw [hW] | skip
  go_still_tail 11, (by kernel_rfl)
  change wpList _ _ _ _ _ W.drew
  go_wp2_with fail
  refine HPU.out.mono ?_
  rintro e w2 ⟨rfl, rfl⟩
  go_wp2
  refine bodyPost_end (v := .tuple #[]) (by simp [results, Tryz.results106, go_sem]) rfl (by rw [HMR.out]; exact ⟨rfl, HST.out.1, HF0.out.trans HST.out.2⟩)
end Go.Proofs.YtacbanfnakgecaaGreat
