/- Layer 10: a configuration of one's own is written to. Layer 10, the code: what a thread reads, what an expression is worth, what goes out of a buffer. Layer 10, the code: a thread's turn: what it reads, what its expressions are worth, what it writes. -/
import Derived.Test.YtacbanfnakgecaaGreatVg
import Derived.OneCell
import Derived.Test.YtacbanfnakgecaaGreatXj
import Derived.Test.YtacbanfnakgecaaGreatXl
import Derived.Test.YtacbanfnakgecaaGreatXh
import Derived.Test.YtacbanfnakgecaaGreatXc
import Derived.Test.YtacbanfnakgecaaGreatXa
import Derived.Deep.DrawnRows
import Derived.Deep.RegionLaw
namespace Go.Proofs.YtacbanfnakgecaaGreat
set_option linter.unusedSimpArgs false
set_option linter.unusedVariables false
open Go.RowKit
theorem own_put {w : World} {B T n k : Nat} {v : Value} {xs : List Value} (h : w.ownsRow B T 1 v n xs) (hk : k < n) :
    ∃ g cap, v = .slice (some ⟨g, 0, none⟩) n cap ∧ B ≤ g ∧ g < w.heap.size ∧ w.cell? ⟨g, k, none⟩ = xs[k]? ∧ w.frozen? ⟨g, k, none⟩ = false ∧ ∀ u, (w.setCell ⟨g, k, none⟩ u).ownsRow B T 1 v n (xs.set k u) := by
  obtain ⟨h1, h2⟩ := h
  rcases h2 with ⟨_, h2⟩ | ⟨g, cap, cur, rfl, hB, hg, hle, hm, hcs, ht⟩
  · omega
  · have hb : Bk w g T cur := hg
    refine ⟨g, cap, rfl, hB, hb.lt, ?_, hb.fz k, fun u => ⟨by rw [List.length_set, h1], .inr ⟨g, cap, cur.setIfInBounds k u, rfl, hB, heap_setCell_same w g k cur T u hg, hle, hm, by rw [Array.size_setIfInBounds, hcs], ?_⟩⟩⟩
    · rw [hb.cell k, ← ht, List.getElem?_take_of_lt (by omega), Array.getElem?_toList]
    · rw [Array.toList_setIfInBounds, List.take_set, ht]
theorem own_else {w : World} {B T S n g k : Nat} {v x u : Value} {xs : List Value} (h : w.ownsRow B T S v n xs) (hx : x.ownBlock = some g) (ha : Apart x v) : (w.setCell ⟨g, k, none⟩ u).ownsRow B T S v n xs :=
  ownsRow_setCell_other h (a := ⟨g, k, none⟩) (ha g hx) u
theorem apart_types {w : World} {B B' T T' S S' n n' : Nat} {v v' : Value} {xs xs' : List Value} (h : w.ownsRow B T S v n xs) (h' : w.ownsRow B' T' S' v' n' xs') (hT : T ≠ T') : Apart v v' := fun g h1 h2 => by
  rcases own_types h h' hT with e | e
  · rw [e] at h1; cases h1
  · exact e (h1.trans h2.symm)
theorem rowI_set (l : List Int) (k : Nat) (v : Int) : rowI (l.set k v) = (rowI l).set k (.int .i64 v) := by
  rw [rowI_eq, rowI_eq, List.map_set]
theorem rowI_at (l : List Int) (k : Nat) (h : k < l.length) : (rowI l)[k]? = some (.int .i64 (l.getD k 0)) := by
  rw [rowI_eq, List.getElem?_map, List.getD_eq_getElem?_getD, List.getElem?_eq_getElem h]; rfl
section
variable {w : World} {B : Nat} {xp xr xm xb : Value} {c : Cf}
theorem OwnC.pcAt (O : OwnC w B xp xr xm xb c) (D : DjC xp xm c.regs) (k : Nat) (hk : k < c.pc.length) :
    ∃ g cap, xp = .slice (some ⟨g, 0, none⟩) c.pc.length cap ∧ B ≤ g ∧ g < w.heap.size ∧ w.cell? ⟨g, k, none⟩ = some (.int .i64 (c.pc.getD k 0)) ∧ w.frozen? ⟨g, k, none⟩ = false ∧
      ∀ v : Int, OwnC (w.setCell ⟨g, k, none⟩ (.int .i64 v)) B xp xr xm xb { c with pc := c.pc.set k v } := by
  obtain ⟨g, cap, hv, h1, h2, h3, h4, h5⟩ := own_put O.p hk
  rw [rowI_at _ _ hk] at h3
  have hx : xp.ownBlock = some g := by rw [hv]; rfl
  refine ⟨g, cap, hv, h1, h2, h3, h4, fun v => ⟨?_, ⟨?_, fun x hx' => ?_⟩, ?_, ⟨?_, fun x hx' => ?_⟩⟩⟩
  · show World.ownsRow _ _ _ _ _ (c.pc.set k v).length (rowI (c.pc.set k v))
    rw [List.length_set, rowI_set]
    exact h5 _
  · exact own_else O.r.h hx (apart_types O.p O.r.h (by decide))
  · exact own_else (O.r.r x hx') hx (D.pr x hx')
  · exact own_else O.m hx D.pm
  · exact own_else O.b.h hx (apart_types O.p O.b.h (by decide))
  · exact own_else (O.b.r x hx') hx (apart_types O.p (O.b.r x hx') (by decide))
theorem OwnC.memAt (O : OwnC w B xp xr xm xb c) (D : DjC xp xm c.regs) (k : Nat) (hk : k < c.mem.length) :
    ∃ g cap, xm = .slice (some ⟨g, 0, none⟩) c.mem.length cap ∧ B ≤ g ∧ g < w.heap.size ∧ w.cell? ⟨g, k, none⟩ = some (.int .i64 (c.mem.getD k 0)) ∧ w.frozen? ⟨g, k, none⟩ = false ∧
      ∀ v : Int, OwnC (w.setCell ⟨g, k, none⟩ (.int .i64 v)) B xp xr xm xb { c with mem := c.mem.set k v } := by
  obtain ⟨g, cap, hv, h1, h2, h3, h4, h5⟩ := own_put O.m hk
  rw [rowI_at _ _ hk] at h3
  have hx : xm.ownBlock = some g := by rw [hv]; rfl
  refine ⟨g, cap, hv, h1, h2, h3, h4, fun v => ⟨?_, ⟨?_, fun x hx' => ?_⟩, ?_, ⟨?_, fun x hx' => ?_⟩⟩⟩
  · exact own_else O.p hx D.pm.symm
  · exact own_else O.r.h hx (apart_types O.m O.r.h (by decide))
  · exact own_else (O.r.r x hx') hx (D.mr x hx')
  · show World.ownsRow _ _ _ _ _ (c.mem.set k v).length (rowI (c.mem.set k v))
    rw [List.length_set, rowI_set]
    exact h5 _
  · exact own_else O.b.h hx (apart_types O.m O.b.h (by decide))
  · exact own_else (O.b.r x hx') hx (apart_types O.m (O.b.r x hx') (by decide))
theorem OwnC.regRow (O : OwnC w B xp xr xm xb c) (k : Nat) (hk : k < c.regs.length) :
    ∃ g cap, xr = .slice (some ⟨g, 0, none⟩) c.regs.length cap ∧ B ≤ g ∧ g < w.heap.size ∧ w.cell? ⟨g, k, none⟩ = some (c.regs[k]).2 := by
  obtain ⟨g, cap, hv, h1, h2, h3, h4, h5⟩ := own_put O.r.h hk
  refine ⟨g, cap, hv, h1, h2, ?_⟩
  rw [h3, List.getElem?_map, List.getElem?_eq_getElem hk]; rfl
theorem OwnC.regAt (O : OwnC w B xp xr xm xb c) (D : DjC xp xm c.regs) (k : Nat) (hk : k < c.regs.length) (i : Nat) (hi : i < (c.regs[k]).1.length) :
    ∃ g cap, (c.regs[k]).2 = .slice (some ⟨g, 0, none⟩) (c.regs[k]).1.length cap ∧ B ≤ g ∧ g < w.heap.size ∧ w.cell? ⟨g, i, none⟩ = some (.int .i64 ((c.regs[k]).1.getD i 0)) ∧ w.frozen? ⟨g, i, none⟩ = false ∧
      ∀ v : Int, OwnC (w.setCell ⟨g, i, none⟩ (.int .i64 v)) B xp xr xm xb { c with regs := c.regs.set k ((c.regs[k]).1.set i v, (c.regs[k]).2) } := by
  have hmem : c.regs[k] ∈ c.regs := List.getElem_mem hk
  obtain ⟨g, cap, hv, h1, h2, h3, h4, h5⟩ := own_put (O.r.r _ hmem) hi
  rw [rowI_at _ _ hi] at h3
  have hx : (c.regs[k]).2.ownBlock = some g := by rw [hv]; rfl
  refine ⟨g, cap, hv, h1, h2, h3, h4, fun v => ⟨?_, ⟨?_, fun x hx' => ?_⟩, ?_, ⟨?_, fun x hx' => ?_⟩⟩⟩
  · exact own_else O.p hx (D.pr _ hmem).symm
  · show World.ownsRow _ _ _ _ _ (c.regs.set k _).length ((c.regs.set k _).map (·.2))
    have e : (c.regs.set k ((c.regs[k]).1.set i v, (c.regs[k]).2)).map (·.2) = c.regs.map (·.2) := by
      rw [List.map_set]
      apply List.ext_getElem?
      intro j
      rw [List.getElem?_set]
      split
      · rename_i he; subst he
        rw [if_pos (by rw [List.length_map]; exact hk), List.getElem?_map, List.getElem?_eq_getElem hk]; rfl
      · rfl
    rw [e, List.length_set]
    exact own_else O.r.h hx (apart_types (O.r.r _ hmem) O.r.h (by decide))
  · obtain ⟨j, hj, rfl⟩ := List.mem_iff_getElem.1 hx'
    have hj' : j < c.regs.length := by rw [List.length_set] at hj; exact hj
    rw [List.getElem_set]
    split
    · show World.ownsRow _ _ _ _ _ ((c.regs[k]).1.set i v).length (rowI ((c.regs[k]).1.set i v))
      rw [List.length_set, rowI_set]
      exact h5 _
    · rename_i hne
      refine own_else (O.r.r _ (List.getElem_mem hj')) hx ?_
      have hp := List.pairwise_iff_getElem.1 D.rr
      rcases Nat.lt_or_gt_of_ne hne with hl | hl
      · exact hp k j hk hj' hl
      · exact (hp j k hj' hk hl).symm
  · exact own_else O.m hx (D.mr _ hmem).symm
  · exact own_else O.b.h hx (apart_types (O.r.r _ hmem) O.b.h (by decide))
  · exact own_else (O.b.r x hx') hx (apart_types (O.r.r _ hmem) (O.b.r x hx') (by decide))
theorem OwnC.bufAt (O : OwnC w B xp xr xm xb c) (k : Nat) (hk : k < c.buf.length) :
    ∃ g cap, xb = .slice (some ⟨g, 0, none⟩) c.buf.length cap ∧ B ≤ g ∧ g < w.heap.size ∧ w.cell? ⟨g, k, none⟩ = some (c.buf[k]).2 ∧ w.frozen? ⟨g, k, none⟩ = false ∧
      ∀ (l : List Ent) (v : Value), OwnE w B v l → OwnC (w.setCell ⟨g, k, none⟩ v) B xp xr xm xb { c with buf := c.buf.set k (l, v) } := by
  obtain ⟨g, cap, hv, h1, h2, h3, h4, h5⟩ := own_put O.b.h hk
  rw [List.getElem?_map, List.getElem?_eq_getElem hk] at h3
  have hx : xb.ownBlock = some g := by rw [hv]; rfl
  refine ⟨g, cap, hv, h1, h2, h3, h4, fun l v hv' => ⟨?_, ⟨?_, fun x hx' => ?_⟩, ?_, ⟨?_, fun x hx' => ?_⟩⟩⟩
  · exact own_else O.p hx (apart_types O.b.h O.p (by decide))
  · exact own_else O.r.h hx (apart_types O.b.h O.r.h (by decide))
  · exact own_else (O.r.r x hx') hx (apart_types O.b.h (O.r.r x hx') (by decide))
  · exact own_else O.m hx (apart_types O.b.h O.m (by decide))
  · show World.ownsRow _ _ _ _ _ (c.buf.set k (l, v)).length ((c.buf.set k (l, v)).map (·.2))
    rw [List.length_set, List.map_set]
    exact h5 _
  · rcases List.mem_or_eq_of_mem_set hx' with hx' | rfl
    · exact own_else (O.b.r x hx') hx (apart_types O.b.h (O.b.r x hx') (by decide))
    · exact own_else hv' hx (apart_types O.b.h hv' (by decide))
end
theorem DjC.same {vp vm : Value} {l l' : List (List Int × Value)} (h : DjC vp vm l) (he : l'.map (·.2) = l.map (·.2)) : DjC vp vm l' := by
  have key : ∀ x ∈ l', ∃ y ∈ l, y.2 = x.2 := fun x hx => by
    have : x.2 ∈ l.map (·.2) := he ▸ List.mem_map_of_mem hx
    obtain ⟨y, hy, e⟩ := List.mem_map.1 this
    exact ⟨y, hy, e⟩
  refine ⟨h.pm, fun x hx => ?_, fun x hx => ?_, ?_⟩
  · obtain ⟨y, hy, e⟩ := key x hx; rw [← e]; exact h.pr y hy
  · obtain ⟨y, hy, e⟩ := key x hx; rw [← e]; exact h.mr y hy
  · have h1 : (l.map (·.2)).Pairwise Apart := List.pairwise_map.2 h.rr
    rw [← he] at h1
    exact List.pairwise_map.1 h1
theorem set_snd (l : List (List Int × Value)) (k : Nat) (hk : k < l.length) (z : List Int) : (l.set k (z, (l[k]).2)).map (·.2) = l.map (·.2) := by
  rw [List.map_set]
  apply List.ext_getElem?
  intro j
  rw [List.getElem?_set]
  split
  · rename_i he; subst he
    rw [if_pos (by rw [List.length_map]; exact hk), List.getElem?_map, List.getElem?_eq_getElem hk]; rfl
  · rfl
end Go.Proofs.YtacbanfnakgecaaGreat

namespace Go.Proofs.YtacbanfnakgecaaGreat
set_option linter.unusedSimpArgs false
set_option linter.unusedVariables false
open Go.RowKit
theorem below_step (i n : Int) (b : Bool) (hb : inB i n = b) (w : World) : Calls Tryz.prog 54 #[.int .i64 i, .int .i64 n] w fun e w' => e = .returned (.bool b) ∧ w = w' := by
  subst hb
  by_cases h0 : 0 ≤ i
  · go_enter Tryz.func54, Tryz.ntmps54
    go_wp2
    go_ret
    exact ⟨ret_bool (by unfold inB; rw [Bool.eq_iff_iff]; simp; omega), rfl⟩
  · go_enter Tryz.func54, Tryz.ntmps54
    go_wp2
    go_ret
    exact ⟨ret_bool (by unfold inB; rw [Bool.eq_iff_iff]; simp; omega), rfl⟩
theorem put_any (w : World) (g n cap i : Nat) (x : Int) (u : Value) (h : i < n) (h2 : w.cell? ⟨g, i, none⟩ = some u) (h3 : w.frozen? ⟨g, i, none⟩ = false) :
    Calls Tryz.prog 53 #[.slice (some ⟨g, 0, none⟩) n cap, .int .i64 i, .int .i64 x] w fun e w' => e = .returned (.tuple #[]) ∧ w' = w.setCell ⟨g, i, none⟩ (.int .i64 x) := by
  have H := Lib.hid (below_step i n true (decide_eq_true (by omega)))
  have e1 : (0 : Int) ≤ (i : Int) := by omega
  have e2 : (i : Int) < (n : Int) := by omega
  go_enter Tryz.func53, Tryz.ntmps53
  go_wp2_with fail
  refine (H.out _).mono ?_
  rintro e w2 ⟨rfl, rfl⟩
  go_wp2
  exact bodyPost_end (v := .tuple #[]) (by simp [results, Tryz.results53, go_sem]) rfl ⟨rfl, rfl⟩
set_option maxRecDepth 100000 in
set_option maxHeartbeats 4000000 in
theorem reads_any (c : Cf) (t loc : Int) (ap ar am ab : Value) (w : World) (hc : CfD w ap ar am ab c) (hb : ∀ r ∈ c.buf, r.1.length ≤ 100000) (q : Int) (hq : readsC c t loc = q) :
    Calls Tryz.prog 29 #[.agg #[ap, ar, am, ab], .int .i64 t, .int .i64 loc] w fun e w' => e = .returned (.int .i64 q) ∧ Below w.heap.size w w' := by
  have HC := Lib.hid hc
  have HB := Lib.hid hb
  obtain ⟨yp, dp, rfl⟩ := hc.p.shape0
  obtain ⟨yr, dr, rfl⟩ := hc.r.shape0
  obtain ⟨ym, dm, rfl⟩ := hc.m.shape0
  obtain ⟨yb, db, rfl⟩ := hc.b.shape0
  obtain ⟨mb, hmb⟩ : ∃ n, n = c.buf.length := ⟨_, rfl⟩
  obtain ⟨mm, hmm⟩ : ∃ n, n = c.mem.length := ⟨_, rfl⟩
  have HMB := Lib.hid hmb
  have HMM := Lib.hid hmm
  rw [← hmb, ← hmm] at HC ⊢
  generalize c.regs.length = mr at HC ⊢
  generalize c.pc.length = mp at HC ⊢
  have HQ := Lib.hid hq
  have KA := Lib.hid (Bk.new w 29 #[.slice yp mp dp, .slice yr mr dr, .slice ym mm dm, .slice yb mb db])
  have LL : Hid (Below w.heap.size w (w.alloc (.cells #[.slice yp mp dp, .slice yr mr dr, .slice ym mm dm, .slice yb mb db] 29))) := (Below.refl _ _).alloc (Nat.le_refl _) _
  clear hc hq hb hmb hmm
  obtain ⟨b1, hb1⟩ : ∃ b, inB t mb = b := ⟨_, rfl⟩
  have B1 := Lib.hid (below_step t mb b1 hb1)
  obtain ⟨b2, hb2⟩ : ∃ b, inB loc mm = b := ⟨_, rfl⟩
  have B2 := Lib.hid (below_step loc mm b2 hb2)
  have hZ : ¬ (b1 = true ∧ b2 = true) → q = 0 := by
    intro hn
    rw [← HQ.out]
    unfold readsC
    rw [if_neg]
    rintro ⟨h1, h2, h3, h4⟩
    exact hn ⟨by rw [← hb1]; exact decide_eq_true ⟨h1, by rw [HMB.out]; exact h2⟩, by rw [← hb2]; exact decide_eq_true ⟨h3, by rw [HMM.out]; exact h4⟩⟩
  cases b1 with
  | false =>
    have HZ := Lib.hid (hZ (by simp))
    clear hZ HQ hb1 hb2
    go_enter Tryz.func29, Tryz.ntmps29
    go_wp2_with fail
    refine (B1.out _).mono ?_
    rintro e w2 ⟨rfl, rfl⟩
    go_wp2
    go_ret
    exact ⟨ret_int HZ.out.symm, LL.out⟩
  | true =>
    cases b2 with
    | false =>
      have HZ := Lib.hid (hZ (by simp))
      clear hZ HQ hb1 hb2
      generalize hW : w.alloc _ = w1 at KA LL
      have c2 : w1.cell? ⟨w.heap.size, 2, none⟩ = some (.slice ym mm dm) := KA.out.cell 2
      have c3 : w1.cell? ⟨w.heap.size, 3, none⟩ = some (.slice yb mb db) := KA.out.cell 3
      have hlt := KA.out.lt
      go_enter Tryz.func29, Tryz.ntmps29
      go_wp2_with fail
      refine (B1.out _).mono ?_
      rintro e w2 ⟨rfl, rfl⟩
      go_wp2_with fail
      refine (B2.out _).mono ?_
      rintro e w2 ⟨rfl, rfl⟩
      go_wp2
      go_ret
      exact ⟨ret_int HZ.out.symm, LL.out⟩
    | true =>
      have h1 := of_decide_eq_true hb1
      have h2 := of_decide_eq_true hb2
      obtain ⟨k, rfl⟩ : ∃ k : Nat, t = (k : Int) := ⟨t.toNat, by omega⟩
      obtain ⟨j, rfl⟩ : ∃ j : Nat, loc = (j : Int) := ⟨loc.toNat, by omega⟩
      have hk1 : k < c.buf.length := by rw [← HMB.out]; omega
      have hk2 : j < c.mem.length := by rw [← HMM.out]; omega
      obtain ⟨b1, o1, rfl, hb1', y1⟩ := IntsD.at2 HC.out.m j hk2
      obtain ⟨b2, o2, rfl, hb2', hx⟩ := SlD.at HC.out.b k hk1
      obtain ⟨hx1, hx2⟩ := hx
      have hE : Hid (readsC c k j = (if (lastL (c.buf[k]).1 j).2 then (lastL (c.buf[k]).1 j).1 else c.mem[j])) := Lib.hid (by
        unfold readsC
        rw [if_pos (by rw [← HMB.out, ← HMM.out]; omega), Int.toNat_natCast, Int.toNat_natCast]
        have g1 : c.mem.getD j 0 = c.mem[j] := by rw [List.getD_eq_getElem?_getD, List.getElem?_eq_getElem hk2]; rfl
        have g2 : c.buf.getD k ([], undef) = c.buf[k] := by rw [List.getD_eq_getElem?_getD, List.getElem?_eq_getElem hk1]; rfl
        rw [g1, g2])
      have hlen : (c.buf[k]).1.length ≤ 100000 := HB.out _ (List.getElem_mem hk1)
      rw [HQ.out] at hE
      obtain ⟨x2, m2, hxv⟩ := hx2.shape0
      rw [hxv] at hx1 hx2
      obtain ⟨pl, ql, hl⟩ : ∃ p q, lastL (c.buf[k]).1 j = (p, q) := ⟨_, _, rfl⟩
      have HLA := Lib.hid (fun (W : World) (h : Below w.heap.size w W) => last_any (c.buf[k]).1 _ j W (EntsD.below hx2 h) hlen pl ql hl)
      rw [hl] at hE
      generalize (c.buf[k]).1.length = nb at hx1 HLA
      generalize c.mem[j] = p at y1 hE
      rw [Nat.mul_one] at hx1
      have HX1 := Lib.hid hx1
      have HY1 := Lib.hid y1
      have e5 : k < mb := by omega
      have e6 : j < mm := by omega
      have e1 : (0 : Int) ≤ (k : Int) := Int.natCast_nonneg _
      have e2 : (0 : Int) ≤ (j : Int) := Int.natCast_nonneg _
      have e3 : (k : Int) < (mb : Int) := by omega
      have e4 : (j : Int) < (mm : Int) := by omega
      clear hx1 hx2 hxv hlen hl hk1 hk2 hZ hb1 hb2 h1 h2 y1 HQ
      generalize hW : w.alloc _ = w1 at KA LL
      have c2 : w1.cell? ⟨w.heap.size, 2, none⟩ = some (.slice (some ⟨b1, o1, none⟩) mm dm) := KA.out.cell 2
      have c3 : w1.cell? ⟨w.heap.size, 3, none⟩ = some (.slice (some ⟨b2, o2, none⟩) mb db) := KA.out.cell 3
      have hlt := KA.out.lt
      have x1 : w1.cell? ⟨b2, o2 + k, none⟩ = some (.slice x2 nb m2) := (LL.out.cell (p := ⟨b2, _, none⟩) hb2').trans HX1.out
      have hb4 : b2 < w1.heap.size := Nat.lt_of_lt_of_le hb2' LL.out.size
      go_enter Tryz.func29, Tryz.ntmps29
      go_wp2_with fail
      refine (B1.out _).mono ?_
      rintro e w2 ⟨rfl, rfl⟩
      go_wp2_with fail
      refine (B2.out _).mono ?_
      rintro e w2 ⟨rfl, rfl⟩
      go_wp2_with fail
      refine (HLA.out _ LL.out).mono ?_
      rintro e w3 ⟨rfl, bn⟩
      replace KA := Lib.hid (KA.out.below bn)
      have LZ := Lib.hid (LL.out.trans (bn.mono LL.out.size))
      clear bn c2 c3 x1 hb4 hlt
      have c2 : w3.cell? ⟨w.heap.size, 2, none⟩ = some (.slice (some ⟨b1, o1, none⟩) mm dm) := KA.out.cell 2
      have hlt := KA.out.lt
      have y2 : w3.cell? ⟨b1, o1 + j, none⟩ = some (.int .i64 p) := (LZ.out.cell (p := ⟨b1, _, none⟩) hb1').trans HY1.out
      have hb3 : b1 < w3.heap.size := Nat.lt_of_lt_of_le hb1' LZ.out.size
      cases ql with
      | true =>
        have hE2 : Hid (q = pl) := Lib.hid (by have := hE.out; simpa using this)
        go_wp2
        go_ret
        exact ⟨ret_int hE2.out.symm, LZ.out⟩
      | false =>
        have hE2 : Hid (q = p) := Lib.hid (by have := hE.out; simpa using this)
        go_wp2
        go_ret
        exact ⟨ret_int hE2.out.symm, LZ.out⟩
end Go.Proofs.YtacbanfnakgecaaGreat

namespace Go.Proofs.YtacbanfnakgecaaGreat
set_option linter.unusedSimpArgs false
set_option linter.unusedVariables false
open Go.RowKit
def turnA (m model room : Int) (xp xr xm xb : Value) (k : Nat) (x : II) (f1 f2 : Value) : Array Value :=
  #[.int .i64 m, .int .i64 model, .int .i64 room, xp, xr, xm, xb, .int .i64 k, .int .i64 x.x.op, .int .i64 x.x.reg, .int .i64 x.x.loc, x.ev, x.fv, .bool x.x.ne, .int .i64 x.x.to, f1, f2]
set_option maxRecDepth 100000 in
set_option maxHeartbeats 4000000 in
theorem tvalue_any (u : Un) (c : Cf) (k : Nat) (l : List Opn) (model room : Int) (xp xr xm xb lv f1 f2 : Value) (x : II) (w : World) (hc : CfD w xp xr xm xb c) (hk : k < c.regs.length) (hr : ∀ r ∈ c.regs, r.1.length ≤ 100000) (hl : OpsD w lv l) (hn : l.length ≤ 100000) (q : Int) (hq : valC u c k l = q) :
    Calls Tryz.prog 107 #[.agg (turnA u.mod model room xp xr xm xb k x f1 f2), lv] w fun e w' => e = .returned (.int .i64 q) ∧ Below w.heap.size w w' := by
  have HC := Lib.hid hc
  obtain ⟨yr, dr, rfl⟩ := hc.r.shape0
  obtain ⟨yl, dl, rfl⟩ := hl.shape0
  obtain ⟨b1, o1, rfl, hb1, hx⟩ := SlD.at HC.out.r k hk
  obtain ⟨hx1, hx2⟩ := hx
  have hlen : (c.regs[k]).1.length ≤ 100000 := hr _ (List.getElem_mem hk)
  obtain ⟨x2, m2, hxv⟩ := hx2.shape0
  rw [hxv] at hx1 hx2
  rw [Nat.mul_one] at hx1
  have hg : c.regs.getD k ([], undef) = c.regs[k] := by rw [List.getD_eq_getElem?_getD, List.getElem?_eq_getElem hk]; rfl
  unfold valC at hq
  rw [hg] at hq
  obtain ⟨z1, z2, hz⟩ : ∃ a b, valO l ⟨u.mod, (c.regs[k]).1, [], []⟩ = (a, b) := ⟨_, _, rfl⟩
  rw [hz] at hq
  have hq : z1 = q := hq
  subst hq
  have HV := Lib.hid (fun (W : World) (h : Below w.heap.size w W) => value_code l ⟨u.mod, (c.regs[k]).1, [], []⟩ [] _ (.slice none 0 0) (.slice none 0 0) _ W ⟨IntsD.below hx2 h, SlD.nil, rfl, SlD.nil, hlen, by simp, by simp, by simp⟩ (OpsD.below hl h) hn z1 z2 hz)
  obtain ⟨mr, hmr⟩ : ∃ n, n = c.regs.length := ⟨_, rfl⟩
  rw [← hmr] at hk ⊢
  generalize (c.regs[k]'(by rw [← hmr]; exact hk)).1.length = nb at hx1 HV
  have KA := Lib.hid (Bk.new w 63 (turnA u.mod model room xp (.slice (some ⟨b1, o1, none⟩) mr dr) xm xb k x f1 f2))
  have L0 : Hid (Below w.heap.size w (w.alloc (.cells (turnA u.mod model room xp (.slice (some ⟨b1, o1, none⟩) mr dr) xm xb k x f1 f2) 63))) := (Below.refl _ _).alloc (Nat.le_refl _) _
  have HV : Hid (∀ W : World, Below w.heap.size w W → Calls Tryz.prog 118 #[.slice yl l.length dl, .int .i64 u.mod, .slice x2 nb m2, .slice none 0 0, .slice none 0 0] W fun e w' => e = .returned (.tuple #[.int .i64 z1, .bool z2]) ∧ Below W.heap.size W w') := HV
  generalize u.mod = m at HV KA L0 ⊢
  generalize l.length = nl at HV ⊢
  clear hc hl hr hx2 hxv hlen hz HC hg hmr
  have e1 : (0 : Int) ≤ (k : Int) := by omega
  have e2 : (k : Int) < (mr : Int) := by omega
  unfold turnA at KA L0 ⊢
  go_enter Tryz.func107, Tryz.ntmps107
  go_wp2_with fail
  clear hk
  generalize hW : World.alloc w _ = W at L0 KA ⊢
  have x1 : W.cell? ⟨b1, o1 + k, none⟩ = some (.slice x2 nb m2) := (L0.out.cell (p := ⟨b1, _, none⟩) hb1).trans hx1
  have hb3 : b1 < W.heap.size := Nat.lt_of_lt_of_le hb1 L0.out.size
  have c0 : W.cell? ⟨w.heap.size, 0, none⟩ = some (.int .i64 m) := KA.out.cell 0
  have c4 : W.cell? ⟨w.heap.size, 4, none⟩ = some (.slice (some ⟨b1, o1, none⟩) mr dr) := KA.out.cell 4
  have c7 : W.cell? ⟨w.heap.size, 7, none⟩ = some (.int .i64 k) := KA.out.cell 7
  have l0 := KA.out.lt
  clear hW hx1 KA
  go_region_law (go_simp; go_at_call 118; (refine Calls.mono (HV.out W.drew L0.out.drew) ?_); rintro e w2 ⟨rfl, b2⟩; have B2 := Lib.hid (L0.out.drew.trans (b2.mono L0.out.drew.size)))
  all_goals
    go_wp2
    go_ret
    exact ⟨rfl, B2.out⟩
theorem tread_any (c : Cf) (k : Nat) (m model room : Int) (xp xr xm xb f1 f2 : Value) (x : II) (w : World) (hc : CfD w xp xr xm xb c) (hb : ∀ r ∈ c.buf, r.1.length ≤ 100000) (q : Int) (hq : readsC c k x.x.loc = q) :
    Calls Tryz.prog 108 #[.agg (turnA m model room xp xr xm xb k x f1 f2)] w fun e w' => e = .returned (.int .i64 q) ∧ Below w.heap.size w w' := by
  have H := Lib.hid (fun (W : World) (h : Below w.heap.size w W) => reads_any c k x.x.loc xp xr xm xb W (hc.below h) hb q hq)
  have L0 : Hid (Below w.heap.size w (w.alloc (.cells (turnA m model room xp xr xm xb k x f1 f2) 63))) := (Below.refl _ _).alloc (Nat.le_refl _) _
  clear hc hq hb
  unfold turnA at L0 ⊢
  go_enter Tryz.func108, Tryz.ntmps108
  go_wp2_with fail
  refine (H.out _ L0.out).mono ?_
  rintro e w2 ⟨rfl, b2⟩
  go_wp2
  go_ret
  exact ⟨rfl, L0.out.trans (b2.mono L0.out.size)⟩
theorem talways_any (m model room : Int) (xp xr xm xb f1 f2 : Value) (k : Nat) (x : II) (w : World) :
    Calls Tryz.prog 76 #[.agg (turnA m model room xp xr xm xb k x f1 f2)] w fun e w' => e = .returned (.bool true) ∧ Below w.heap.size w w' := by
  unfold turnA
  go_enter Tryz.func76, Tryz.ntmps76
  go_wp2
  go_ret
  exact ⟨rfl, (Below.refl _ _).alloc (Nat.le_refl _) _⟩
theorem tpass_any (m model room : Int) (xp xr xm xb f1 f2 : Value) (k : Nat) (x : II) (w : World) :
    Calls Tryz.prog 85 #[.agg (turnA m model room xp xr xm xb k x f1 f2)] w fun e w' => e = .returned (.tuple #[]) ∧ Below w.heap.size w w' := by
  unfold turnA
  go_enter Tryz.func85, Tryz.ntmps85
  go_wp2
  exact bodyPost_end (v := .tuple #[]) (by simp [results, Tryz.results85, go_sem]) rfl ⟨rfl, (Below.refl _ _).alloc (Nat.le_refl _) _⟩
set_option maxRecDepth 100000 in
set_option maxHeartbeats 4000000 in
theorem tdrained_any (c : Cf) (m model room : Int) (xp xr xm xb f1 f2 : Value) (k : Nat) (x : II) (w : World) (hc : CfD w xp xr xm xb c) (hk : k < c.buf.length) (b : Bool) (hb : decide ((c.buf[k]).1.length = 0) = b) :
    Calls Tryz.prog 81 #[.agg (turnA m model room xp xr xm xb k x f1 f2)] w fun e w' => e = .returned (.bool b) ∧ Below w.heap.size w w' := by
  obtain ⟨yb, db, rfl⟩ := hc.b.shape0
  obtain ⟨b1, o1, a1, m1, rfl, hb1, hx1, _⟩ := BufsD.at2 hc.b k hk
  obtain ⟨mb, hmb⟩ : ∃ n, n = c.buf.length := ⟨_, rfl⟩
  have HB := Lib.hid hb
  rw [← hmb] at hk ⊢
  generalize (c.buf[k]'(by rw [← hmb]; exact hk)).1.length = nb at hx1 HB
  have KA := Lib.hid (Bk.new w 63 (turnA m model room xp xr xm (.slice (some ⟨b1, o1, none⟩) mb db) k x f1 f2))
  have L0 : Hid (Below w.heap.size w (w.alloc (.cells (turnA m model room xp xr xm (.slice (some ⟨b1, o1, none⟩) mb db) k x f1 f2) 63))) := (Below.refl _ _).alloc (Nat.le_refl _) _
  clear hc hb hmb
  have e1 : (0 : Int) ≤ (k : Int) := by omega
  have e2 : (k : Int) < (mb : Int) := by omega
  unfold turnA at KA L0 ⊢
  go_enter Tryz.func81, Tryz.ntmps81
  go_wp2_with fail
  generalize hW : World.alloc w _ = W at L0 KA ⊢
  have x1 : W.cell? ⟨b1, o1 + k, none⟩ = some (.slice a1 nb m1) := (L0.out.cell (p := ⟨b1, _, none⟩) hb1).trans hx1
  have hb3 : b1 < W.heap.size := Nat.lt_of_lt_of_le hb1 L0.out.size
  have c6 : W.cell? ⟨w.heap.size, 6, none⟩ = some (.slice (some ⟨b1, o1, none⟩) mb db) := KA.out.cell 6
  have c7 : W.cell? ⟨w.heap.size, 7, none⟩ = some (.int .i64 k) := KA.out.cell 7
  have l0 := KA.out.lt
  clear hW hx1 KA
  go_wp2
  go_ret
  refine ⟨ret_bool ?_, L0.out⟩
  rw [← HB.out, Bool.eq_iff_iff]
  simp
end Go.Proofs.YtacbanfnakgecaaGreat
