/- Layer 9, the code: Start. -/
import Derived.Test.YtacbanfnakgecaaGreatVa
import Derived.Test.YtacbanfnakgecaaGreatUe
import Derived.Deep.DrawnRows
import Derived.Deep.RegionLaw
namespace Go.Proofs.YtacbanfnakgecaaGreat
set_option linter.unusedSimpArgs false
set_option linter.unusedVariables false
open Go.RowKit
def startP (u : Un) : Pf := ⟨List.replicate u.code.length 0, u.regs.map fun n => List.replicate n.toNat 0, u.init, List.replicate u.code.length []⟩
theorem make_int (n : Nat) (hn : n ≤ 1000000) (W : World) : (Instr.makeSlice 22 (.int .i64 n) (.int .i64 n)).run Tryz.prog W = .ok (.slice (some ⟨W.heap.size, 0, none⟩) n n) (W.alloc (.cells (List.replicate n (.int .i64 0)).toArray 3)) := by
  obtain ⟨i0, hi, hz0, hz1, hz2⟩ := info_parts info_int
  have h := run_make (P := Tryz.prog) W 22 3 i0 _ Tryz.underlying22 hi hz0 .i64 .i64 n n (by omega) (Int.le_refl _) (by rw [hz2]; omega) (by omega)
  have e : madeCells (Value.int .i64 0).cells ((n : Int).toNat * i0.size) = (List.replicate n (Value.int .i64 0)).toArray := by
    rw [hz1, Int.toNat_natCast, Nat.mul_one]
    exact Array.toList_inj.1 (by rw [show (Value.int .i64 0).cells = #[Value.int .i64 0] from rfl, toList_madeCells_one])
  rw [e, Int.toNat_natCast] at h
  exact h
theorem drew_size (w : World) : w.drew.heap.size = w.heap.size := rfl
theorem bal {a w : World} (h : Below a.heap.size a w) (o : Obj) : Below a.heap.size a (w.alloc o) := h.alloc h.size o
theorem bdr {a w : World} (h : Below a.heap.size a w) : Below a.heap.size a w.drew := h.drew
theorem bk_alloc {w : World} {g T : Nat} {cs : Array Value} (h : Bk w g T cs) (o : Obj) : Bk (w.alloc o) g T cs := by
  have := h.lt
  unfold Bk at *
  rw [show (w.alloc o).heap = w.heap.push o from rfl, Array.getElem?_push_lt this, ← h, Array.getElem?_eq_getElem this]
theorem bk_drew {w : World} {g T : Nat} {cs : Array Value} (h : Bk w g T cs) : Bk w.drew g T cs := h
theorem bk_at {w : World} {g T : Nat} {cs : Array Value} (h : g = w.heap.size) : Bk (w.alloc (.cells cs T)) g T cs := h ▸ Bk.new w T cs
theorem bk_at2 (a : World) (o : Obj) (T : Nat) (cs : Array Value) : Bk ((a.alloc o).alloc (.cells cs T)) (a.heap.size + 1) T cs := bk_at (by rw [alloc_size])
theorem bk_at3 (a : World) (o p : Obj) (T : Nat) (cs : Array Value) : Bk (((a.alloc o).alloc p).alloc (.cells cs T)) (a.heap.size + 1 + 1) T cs := bk_at (by rw [alloc_size, alloc_size])
theorem setCell_size (w : World) (p : Addr) (u : Value) : (w.setCell p u).heap.size = w.heap.size := by simp
structure Made (w0 w : World) (n g1 g4 g5 : Nat) (Z1 Z2 : Array Value) (vm : Value) (init : List Int) : Prop where
  h1 : Bk w g1 3 Z1
  h4 : Bk w g4 51 Z2
  h5 : Bk w g5 29 #[.slice (some ⟨g1, 0, none⟩) n n, .slice none 0 0, vm, .slice (some ⟨g4, 0, none⟩) n n]
  o : OwnI w w0.heap.size vm init
  p1 : w0.heap.size ≤ g1
  p4 : w0.heap.size ≤ g4
  p5 : w0.heap.size ≤ g5
  b : Below w0.heap.size w0 w
theorem own_setT {w : World} {B T S n g5 T' j : Nat} {v u : Value} {xs : List Value} {cs : Array Value} (h : w.ownsRow B T S v n xs) (hb : Bk w g5 T' cs) (hT : T ≠ T') : (w.setCell ⟨g5, j, none⟩ u).ownsRow B T S v n xs := by
  obtain ⟨h1, h2⟩ := h
  refine ⟨h1, ?_⟩
  rcases h2 with h2 | ⟨g, cap, cur, hv, hg, hh, r⟩
  · exact .inl h2
  · have hne : g ≠ g5 := by
      intro e
      subst e
      have hb' : w.heap[g]? = _ := hb
      rw [hh] at hb'
      injection hb' with hb'
      injection hb' with _ e _
      exact hT e
    exact .inr ⟨g, cap, cur, hv, hg, (heap_setCell_other _ _ _ _ hne).trans hh, r⟩
theorem own_types {w : World} {B B' T T' S S' n n' : Nat} {v v' : Value} {xs xs' : List Value} (h : w.ownsRow B T S v n xs) (h' : w.ownsRow B' T' S' v' n' xs') (hT : T ≠ T') : v.ownBlock = none ∨ v.ownBlock ≠ v'.ownBlock := by
  rcases h.2 with ⟨rfl, _⟩ | ⟨g, cap, cur, rfl, _, hh, _⟩
  · exact .inl rfl
  · refine .inr fun e => ?_
    rcases h'.2 with ⟨rfl, _⟩ | ⟨g', cap', cur', rfl, _, hh', _⟩
    · cases e
    · have e' : g = g' := by simpa [Value.ownBlock] using e
      subst e'
      rw [hh] at hh'
      injection hh' with hh'
      injection hh' with _ e _
      exact hT e
theorem bk_set1 {w : World} {g T : Nat} {a0 a1 a2 a3 : Value} (u : Value) (h : Bk w g T #[a0, a1, a2, a3]) : Bk (w.setCell ⟨g, 1, none⟩ u) g T #[a0, u, a2, a3] := heap_setCell_same w g 1 _ T u h
theorem step_app1 {w : World} {ops : Array Oper} {o : Oper} {a : Act} {K : Act → World → Prop} {Q : Exit → Act → World → Prop} {E' : Prop} (hgd : o.guard = none) (s x : Operand) (T E : TypeId)
    (ho : o.op = .call { callee := .builtin .append, args := #[s, x], argTypes := #[T, T] }) (hu : Tryz.prog.underlying T = some (.slice E)) (hin : (Tryz.prog.info? E).map (fun i => (i.zero, i.size, i.bytes)) = some (some (.slice none 0 0), 1, 24))
    (base : Nat) (v : Value) (n : Nat) (xs : List Value) (hs : a.eval s = v) (hown : w.ownsRow base E 1 v n xs) (g : Nat) (u : Value) (hx : a.eval x = .slice (some ⟨g, 0, none⟩) 1 1) (hg : Bk w g E #[u]) (h1 : u.oneCell' = true) (hn : n ≤ 1000000) (hbase : base ≤ w.heap.size) (zs : List Value) (hz : xs ++ [u] = zs)
    (h : ∀ g' cap w', w'.ownsRow base E 1 (.slice (some ⟨g', 0, none⟩) (n + 1) cap) (n + 1) zs → Below base w w' → w.grownBy w' v.ownBlock → K (a.put o.dst (.slice (some ⟨g', 0, none⟩) (n + 1) cap)) w') :
    if Region.wanted o (yielded ops a.tmps) = true then Oper.wp Tryz.prog o a w K Q else E' := by
  obtain ⟨i0, hi, hz0, hz1, hz2⟩ := info_parts hin
  subst hz
  refine step_append_lies _ hgd s x T ho base E i0 (.slice none 0 0) 1 24 hu hi hz0 hz1 hz2 rfl (by decide) v n xs hs hown ⟨g, 0, none⟩ 1 1 [u] hx rfl (fun j y hy => World.news_of_block (show w.heap[g]? = some (.cells #[u] E (0, 0)) from hg) j y (by simpa using hy)) (by intro y hy; rw [List.mem_singleton.1 hy]; exact h1) (by decide) (by unfold maxLen; omega) (by omega) hbase _ rfl ?_
  intro g' cap w' h2 h3 _ _
  exact h g' cap w' h2 ((Below.refl base w).grown h3 hbase (fun k hk => (hown.lt k hk).1)) h3
structure StI (w1 w6 w : World) (g1 g4 g5 n k : Nat) (vm : Value) (regs : List Int) (ar : Option Addr) (kr : Nat) (rs : List (List Int × Value)) : Prop where
  h5 : Bk w g5 29 #[.slice (some ⟨g1, 0, none⟩) n n, .slice ar k kr, vm, .slice (some ⟨g4, 0, none⟩) n n]
  r : w.ownsRow w6.heap.size 22 1 (.slice ar k kr) k (rs.map (·.2))
  rr : ∀ x ∈ rs, OwnI w w6.heap.size x.2 x.1
  len : rs.length = k
  e : rs.map (·.1) = (regs.take k).map fun n => List.replicate n.toNat 0
  f : ∀ g, g < w6.heap.size → g ≠ g5 → w.heap[g]? = w6.heap[g]?
  sz : w6.heap.size ≤ w.heap.size
  b : Below w1.heap.size w1 w
theorem StI.step {w1 w6 w w7 : World} {g1 g4 g5 n k g' cap : Nat} {vm u : Value} {regs : List Int} {ar : Option Addr} {kr : Nat} {rs : List (List Int × Value)} (h : StI w1 w6 w g1 g4 g5 n k vm regs ar kr rs) (hk : k < regs.length) (hg : w1.heap.size ≤ g5) (hg6 : g5 < w6.heap.size)
    (wa : World) (ba : Below w.heap.size w wa) (hu : wa.ownsRow w6.heap.size 3 1 u regs[k].toNat (rowI (List.replicate regs[k].toNat 0)))
    (hr : w7.ownsRow w6.heap.size 22 1 (.slice (some ⟨g', 0, none⟩) (k + 1) cap) (k + 1) (rs.map (·.2) ++ [u])) (hb : Below w6.heap.size wa w7) (hgr : wa.grownBy w7 (Value.ownBlock (.slice ar k kr))) :
    StI w1 w6 (w7.setCell ⟨g5, 1, none⟩ (.slice (some ⟨g', 0, none⟩) (k + 1) cap)) g1 g4 g5 n (k + 1) vm regs (some ⟨g', 0, none⟩) cap (rs ++ [(List.replicate regs[k].toNat 0, u)]) := by
  have h57 : Bk w7 g5 29 _ := (hb.block g5 hg6).trans ((ba.block g5 (Nat.lt_of_lt_of_le hg6 h.sz)).trans h.h5)
  have hra : wa.ownsRow w6.heap.size 22 1 (.slice ar k kr) k (rs.map (·.2)) := own_below h.r ba
  refine ⟨bk_set1 _ h57, ?_, ?_, by rw [List.length_append, h.len]; rfl, ?_, ?_, ?_, ?_⟩
  · have := own_setT (j := 1) (u := .slice (some ⟨g', 0, none⟩) (k + 1) cap) hr h57 (by decide)
    simpa using this
  · intro x hx
    refine own_setT ?_ h57 (by decide)
    rcases List.mem_append.1 hx with hx | hx
    · exact World.ownsRow.kept (own_below (h.rr x hx) ba) hgr (own_types (own_below (h.rr x hx) ba) hra (by decide))
    · rw [List.mem_singleton.1 hx]
      have := World.ownsRow.kept hu hgr (own_types hu hra (by decide))
      simpa using this
  · rw [List.map_append, h.e, List.take_add_one, List.getElem?_eq_getElem hk, List.map_append]
    rfl
  · intro g h1 h2
    rw [heap_setCell_other _ _ _ _ h2, hb.block g h1, ba.block g (Nat.lt_of_lt_of_le h1 h.sz), h.f g h1 h2]
  · simp
    exact Nat.le_trans h.sz (Nat.le_trans ba.size hb.size)
  · have hw : w1.heap.size ≤ w6.heap.size := by omega
    exact Below.setCell (p := ⟨g5, 1, none⟩) (h.b.trans ((ba.mono h.b.size).trans (hb.mono hw))) hg _
theorem thrF_regs (locs : Int) : ∀ (rs : List Int) (cs : List (List II × Value)), rs.length = cs.length → thrF locs rs cs = true → ∀ x ∈ rs, 0 ≤ x ∧ x < 7
  | [], _, _, _, x, hx => absurd hx (by simp)
  | o :: r, c :: s, hl, h, x, hx => by
    unfold thrF at h
    rw [Bool.and_eq_true, Bool.and_eq_true] at h
    rcases List.mem_cons.1 hx with rfl | hx
    · exact of_decide_eq_true h.1.1
    · exact thrF_regs locs r s (by simpa using hl) h.2 x hx
theorem regs_bd {u : Un} (hr : rightU u = true) (k : Nat) (hk : k < u.regs.length) : 0 ≤ u.regs[k] ∧ u.regs[k] < 7 := by
  unfold rightU at hr
  rw [Bool.and_eq_true, Bool.and_eq_true] at hr
  have h1 := of_decide_eq_true hr.1
  exact thrF_regs _ _ _ h1.2.2.2.2.2.symm hr.2.2 _ (List.getElem_mem hk)
theorem own_new {w : World} {B T : Nat} {n : Nat} {cs : List Value} (hB : B ≤ w.heap.size) (hl : cs.length = n) (hn : n ≤ 1000000) : (w.alloc (.cells cs.toArray T)).ownsRow B T 1 (.slice (some ⟨w.heap.size, 0, none⟩) n n) n cs :=
  own_of_bk (Bk.new w T cs.toArray) rfl hB (by rw [hl, Nat.mul_one]) hn
attribute [local go_sem ↓] Go.wp_at_zero Go.wp_at_succ
end Go.Proofs.YtacbanfnakgecaaGreat
