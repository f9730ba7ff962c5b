/- Layer 10: a configuration of one's own is written to. -/
import Derived.Test.YtmkgijedchpgcaaVg
import Derived.OneCell
namespace Go.Proofs.Ytmkgijedchpgcaa
set_option linter.unusedSimpArgs false
set_option linter.unusedVariables false
open Go.RowKit

theorem own_put {w : World} {B T n k : Nat} {v : Value} {xs : List Value} (h : w.ownsRow B T 1 v n xs) (hk : k < n) :
    ∃ g cap, v = .slice (some ⟨g, 0, none⟩) n cap ∧ B ≤ g ∧ g < w.heap.size ∧ w.cell? ⟨g, k, none⟩ = xs[k]? ∧ w.frozen? ⟨g, k, none⟩ = false ∧ ∀ u, (w.setCell ⟨g, k, none⟩ u).ownsRow B T 1 v n (xs.set k u) := by
  obtain ⟨h1, h2⟩ := h
  rcases h2 with ⟨_, h2⟩ | ⟨g, cap, cur, rfl, hB, hg, hle, hm, hcs, ht⟩
  · omega
  · have hb : Bk w g T cur := hg
    refine ⟨g, cap, rfl, hB, hb.lt, ?_, hb.fz k, fun u => ⟨by rw [List.length_set, h1], .inr ⟨g, cap, cur.setIfInBounds k u, rfl, hB, heap_setCell_same w g k cur T u hg, hle, hm, by rw [Array.size_setIfInBounds, hcs], ?_⟩⟩⟩
    · rw [hb.cell k, ← ht, List.getElem?_take_of_lt (by omega), Array.getElem?_toList]
    · rw [Array.toList_setIfInBounds, List.take_set, ht]

theorem own_else {w : World} {B T S n g k : Nat} {v x u : Value} {xs : List Value} (h : w.ownsRow B T S v n xs) (hx : x.ownBlock = some g) (ha : Apart x v) : (w.setCell ⟨g, k, none⟩ u).ownsRow B T S v n xs :=
  ownsRow_setCell_other h (a := ⟨g, k, none⟩) (ha g hx) u
theorem apart_types {w : World} {B B' T T' S S' n n' : Nat} {v v' : Value} {xs xs' : List Value} (h : w.ownsRow B T S v n xs) (h' : w.ownsRow B' T' S' v' n' xs') (hT : T ≠ T') : Apart v v' := fun g h1 h2 => by
  rcases own_types h h' hT with e | e
  · rw [e] at h1; cases h1
  · exact e (h1.trans h2.symm)

theorem rowI_set (l : List Int) (k : Nat) (v : Int) : rowI (l.set k v) = (rowI l).set k (.int .i64 v) := by
  rw [rowI_eq, rowI_eq, List.map_set]
theorem rowI_at (l : List Int) (k : Nat) (h : k < l.length) : (rowI l)[k]? = some (.int .i64 (l.getD k 0)) := by
  rw [rowI_eq, List.getElem?_map, List.getD_eq_getElem?_getD, List.getElem?_eq_getElem h]; rfl

section
variable {w : World} {B : Nat} {xp xr xm xb : Value} {c : Cf}

theorem OwnC.pcAt (O : OwnC w B xp xr xm xb c) (D : DjC xp xm c.regs) (k : Nat) (hk : k < c.pc.length) :
    ∃ g cap, xp = .slice (some ⟨g, 0, none⟩) c.pc.length cap ∧ B ≤ g ∧ g < w.heap.size ∧ w.cell? ⟨g, k, none⟩ = some (.int .i64 (c.pc.getD k 0)) ∧ w.frozen? ⟨g, k, none⟩ = false ∧
      ∀ v : Int, OwnC (w.setCell ⟨g, k, none⟩ (.int .i64 v)) B xp xr xm xb { c with pc := c.pc.set k v } := by
  obtain ⟨g, cap, hv, h1, h2, h3, h4, h5⟩ := own_put O.p hk
  rw [rowI_at _ _ hk] at h3
  have hx : xp.ownBlock = some g := by rw [hv]; rfl
  refine ⟨g, cap, hv, h1, h2, h3, h4, fun v => ⟨?_, ⟨?_, fun x hx' => ?_⟩, ?_, ⟨?_, fun x hx' => ?_⟩⟩⟩
  · show World.ownsRow _ _ _ _ _ (c.pc.set k v).length (rowI (c.pc.set k v))
    rw [List.length_set, rowI_set]
    exact h5 _
  · exact own_else O.r.h hx (apart_types O.p O.r.h (by decide))
  · exact own_else (O.r.r x hx') hx (D.pr x hx')
  · exact own_else O.m hx D.pm
  · exact own_else O.b.h hx (apart_types O.p O.b.h (by decide))
  · exact own_else (O.b.r x hx') hx (apart_types O.p (O.b.r x hx') (by decide))

theorem OwnC.memAt (O : OwnC w B xp xr xm xb c) (D : DjC xp xm c.regs) (k : Nat) (hk : k < c.mem.length) :
    ∃ g cap, xm = .slice (some ⟨g, 0, none⟩) c.mem.length cap ∧ B ≤ g ∧ g < w.heap.size ∧ w.cell? ⟨g, k, none⟩ = some (.int .i64 (c.mem.getD k 0)) ∧ w.frozen? ⟨g, k, none⟩ = false ∧
      ∀ v : Int, OwnC (w.setCell ⟨g, k, none⟩ (.int .i64 v)) B xp xr xm xb { c with mem := c.mem.set k v } := by
  obtain ⟨g, cap, hv, h1, h2, h3, h4, h5⟩ := own_put O.m hk
  rw [rowI_at _ _ hk] at h3
  have hx : xm.ownBlock = some g := by rw [hv]; rfl
  refine ⟨g, cap, hv, h1, h2, h3, h4, fun v => ⟨?_, ⟨?_, fun x hx' => ?_⟩, ?_, ⟨?_, fun x hx' => ?_⟩⟩⟩
  · exact own_else O.p hx D.pm.symm
  · exact own_else O.r.h hx (apart_types O.m O.r.h (by decide))
  · exact own_else (O.r.r x hx') hx (D.mr x hx')
  · show World.ownsRow _ _ _ _ _ (c.mem.set k v).length (rowI (c.mem.set k v))
    rw [List.length_set, rowI_set]
    exact h5 _
  · exact own_else O.b.h hx (apart_types O.m O.b.h (by decide))
  · exact own_else (O.b.r x hx') hx (apart_types O.m (O.b.r x hx') (by decide))

theorem OwnC.regRow (O : OwnC w B xp xr xm xb c) (k : Nat) (hk : k < c.regs.length) :
    ∃ g cap, xr = .slice (some ⟨g, 0, none⟩) c.regs.length cap ∧ B ≤ g ∧ g < w.heap.size ∧ w.cell? ⟨g, k, none⟩ = some (c.regs[k]).2 := by
  obtain ⟨g, cap, hv, h1, h2, h3, h4, h5⟩ := own_put O.r.h hk
  refine ⟨g, cap, hv, h1, h2, ?_⟩
  rw [h3, List.getElem?_map, List.getElem?_eq_getElem hk]; rfl

theorem OwnC.regAt (O : OwnC w B xp xr xm xb c) (D : DjC xp xm c.regs) (k : Nat) (hk : k < c.regs.length) (i : Nat) (hi : i < (c.regs[k]).1.length) :
    ∃ g cap, (c.regs[k]).2 = .slice (some ⟨g, 0, none⟩) (c.regs[k]).1.length cap ∧ B ≤ g ∧ g < w.heap.size ∧ w.cell? ⟨g, i, none⟩ = some (.int .i64 ((c.regs[k]).1.getD i 0)) ∧ w.frozen? ⟨g, i, none⟩ = false ∧
      ∀ v : Int, OwnC (w.setCell ⟨g, i, none⟩ (.int .i64 v)) B xp xr xm xb { c with regs := c.regs.set k ((c.regs[k]).1.set i v, (c.regs[k]).2) } := by
  have hmem : c.regs[k] ∈ c.regs := List.getElem_mem hk
  obtain ⟨g, cap, hv, h1, h2, h3, h4, h5⟩ := own_put (O.r.r _ hmem) hi
  rw [rowI_at _ _ hi] at h3
  have hx : (c.regs[k]).2.ownBlock = some g := by rw [hv]; rfl
  refine ⟨g, cap, hv, h1, h2, h3, h4, fun v => ⟨?_, ⟨?_, fun x hx' => ?_⟩, ?_, ⟨?_, fun x hx' => ?_⟩⟩⟩
  · exact own_else O.p hx (D.pr _ hmem).symm
  · show World.ownsRow _ _ _ _ _ (c.regs.set k _).length ((c.regs.set k _).map (·.2))
    have e : (c.regs.set k ((c.regs[k]).1.set i v, (c.regs[k]).2)).map (·.2) = c.regs.map (·.2) := by
      rw [List.map_set]
      apply List.ext_getElem?
      intro j
      rw [List.getElem?_set]
      split
      · rename_i he; subst he
        rw [if_pos (by rw [List.length_map]; exact hk), List.getElem?_map, List.getElem?_eq_getElem hk]; rfl
      · rfl
    rw [e, List.length_set]
    exact own_else O.r.h hx (apart_types (O.r.r _ hmem) O.r.h (by decide))
  · obtain ⟨j, hj, rfl⟩ := List.mem_iff_getElem.1 hx'
    have hj' : j < c.regs.length := by rw [List.length_set] at hj; exact hj
    rw [List.getElem_set]
    split
    · show World.ownsRow _ _ _ _ _ ((c.regs[k]).1.set i v).length (rowI ((c.regs[k]).1.set i v))
      rw [List.length_set, rowI_set]
      exact h5 _
    · rename_i hne
      refine own_else (O.r.r _ (List.getElem_mem hj')) hx ?_
      have hp := List.pairwise_iff_getElem.1 D.rr
      rcases Nat.lt_or_gt_of_ne hne with hl | hl
      · exact hp k j hk hj' hl
      · exact (hp j k hj' hk hl).symm
  · exact own_else O.m hx (D.mr _ hmem).symm
  · exact own_else O.b.h hx (apart_types (O.r.r _ hmem) O.b.h (by decide))
  · exact own_else (O.b.r x hx') hx (apart_types (O.r.r _ hmem) (O.b.r x hx') (by decide))

theorem OwnC.bufAt (O : OwnC w B xp xr xm xb c) (k : Nat) (hk : k < c.buf.length) :
    ∃ g cap, xb = .slice (some ⟨g, 0, none⟩) c.buf.length cap ∧ B ≤ g ∧ g < w.heap.size ∧ w.cell? ⟨g, k, none⟩ = some (c.buf[k]).2 ∧ w.frozen? ⟨g, k, none⟩ = false ∧
      ∀ (l : List Ent) (v : Value), OwnE w B v l → OwnC (w.setCell ⟨g, k, none⟩ v) B xp xr xm xb { c with buf := c.buf.set k (l, v) } := by
  obtain ⟨g, cap, hv, h1, h2, h3, h4, h5⟩ := own_put O.b.h hk
  rw [List.getElem?_map, List.getElem?_eq_getElem hk] at h3
  have hx : xb.ownBlock = some g := by rw [hv]; rfl
  refine ⟨g, cap, hv, h1, h2, h3, h4, fun l v hv' => ⟨?_, ⟨?_, fun x hx' => ?_⟩, ?_, ⟨?_, fun x hx' => ?_⟩⟩⟩
  · exact own_else O.p hx (apart_types O.b.h O.p (by decide))
  · exact own_else O.r.h hx (apart_types O.b.h O.r.h (by decide))
  · exact own_else (O.r.r x hx') hx (apart_types O.b.h (O.r.r x hx') (by decide))
  · exact own_else O.m hx (apart_types O.b.h O.m (by decide))
  · show World.ownsRow _ _ _ _ _ (c.buf.set k (l, v)).length ((c.buf.set k (l, v)).map (·.2))
    rw [List.length_set, List.map_set]
    exact h5 _
  · rcases List.mem_or_eq_of_mem_set hx' with hx' | rfl
    · exact own_else (O.b.r x hx') hx (apart_types O.b.h (O.b.r x hx') (by decide))
    · exact own_else hv' hx (apart_types O.b.h hv' (by decide))
end

/-- Slices of registers stay where they are. -/
theorem DjC.same {vp vm : Value} {l l' : List (List Int × Value)} (h : DjC vp vm l) (he : l'.map (·.2) = l.map (·.2)) : DjC vp vm l' := by
  have key : ∀ x ∈ l', ∃ y ∈ l, y.2 = x.2 := fun x hx => by
    have : x.2 ∈ l.map (·.2) := he ▸ List.mem_map_of_mem hx
    obtain ⟨y, hy, e⟩ := List.mem_map.1 this
    exact ⟨y, hy, e⟩
  refine ⟨h.pm, fun x hx => ?_, fun x hx => ?_, ?_⟩
  · obtain ⟨y, hy, e⟩ := key x hx; rw [← e]; exact h.pr y hy
  · obtain ⟨y, hy, e⟩ := key x hx; rw [← e]; exact h.mr y hy
  · have h1 : (l.map (·.2)).Pairwise Apart := List.pairwise_map.2 h.rr
    rw [← he] at h1
    exact List.pairwise_map.1 h1
theorem set_snd (l : List (List Int × Value)) (k : Nat) (hk : k < l.length) (z : List Int) : (l.set k (z, (l[k]).2)).map (·.2) = l.map (·.2) := by
  rw [List.map_set]
  apply List.ext_getElem?
  intro j
  rw [List.getElem?_set]
  split
  · rename_i he; subst he
    rw [if_pos (by rw [List.length_map]; exact hk), List.getElem?_map, List.getElem?_eq_getElem hk]; rfl
  · rfl

end Go.Proofs.Ytmkgijedchpgcaa
