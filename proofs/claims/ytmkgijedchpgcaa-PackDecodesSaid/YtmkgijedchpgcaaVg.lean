/- Layer 9, the code: Start. -/
import Derived.Test.YtmkgijedchpgcaaVd
import Derived.Test.YtmkgijedchpgcaaUh
import Derived.Deep.DrawnRows
import Derived.Deep.RegionLaw
namespace Go.Proofs.Ytmkgijedchpgcaa
set_option linter.unusedSimpArgs false
set_option linter.unusedVariables false
open Go.RowKit

/-- What a unit's start holds. -/
def startP (u : Un) : Pf := ⟨List.replicate u.code.length 0, u.regs.map fun n => List.replicate n.toNat 0, u.init, List.replicate u.code.length []⟩

set_option maxRecDepth 100000 in
set_option maxHeartbeats 4000000 in
theorem nstart_no (u : Un) (vi vr vc : Value) (w : World) (hu : UnD w vi vr vc u) (hs : ShortU u) (hr : rightU u = false) :
    Calls Try.prog 25 #[.agg #[.int .i64 u.mod, vi, vr, vc]] w fun e w' => e = .returned (.tuple #[.agg #[.slice none 0 0, .slice none 0 0, .slice none 0 0, .slice none 0 0], .int .i64 8]) ∧ Below w.heap.size w w' := by
  have HUR := Lib.hid (fun (W : World) (h : Below w.heap.size w W) => lright_any u vi vr vc W (hu.below h) hs _ hr)
  obtain ⟨xi, ci, rfl⟩ := hu.i.shape0
  obtain ⟨xr, cr, rfl⟩ := hu.r.shape0
  obtain ⟨xc, cc, rfl⟩ := hu.c.shape0
  generalize u.mod = m at HUR ⊢
  generalize u.init.length = ni at HUR ⊢
  generalize u.regs.length = nr at HUR ⊢
  generalize u.code.length = nc at HUR ⊢
  clear hu hs hr
  go_enter Try.func25, Try.ntmps25
  go_wp2_with fail
  have T2 := Lib.hid (two_new w 25 29 #[.int .i64 m, .slice xi ni ci, .slice xr nr cr, .slice xc nc cc] #[.slice none 0 0, .slice none 0 0, .slice none 0 0, .slice none 0 0])
  obtain ⟨L0, KA0, KB0⟩ := T2.out
  have LL := Lib.hid L0
  have KB := Lib.hid KB0
  clear L0 KA0 KB0 T2
  generalize (w.alloc _).alloc _ = w0 at LL KB ⊢
  refine (HUR.out _ LL.out).mono ?_
  rintro e w1 ⟨rfl, b1⟩
  have KC := Lib.hid (KB.out.below b1)
  have L1 := Lib.hid (LL.out.trans (b1.mono LL.out.size))
  have LT : w.heap.size ≤ w.heap.size + 1 := by omega
  clear b1
  have d0 : w1.cell? ⟨w.heap.size + 1, 0, none⟩ = some _ := KC.out.cell 0
  have d1 : w1.cell? ⟨w.heap.size + 1, 1, none⟩ = some _ := KC.out.cell 1
  have d2 : w1.cell? ⟨w.heap.size + 1, 2, none⟩ = some _ := KC.out.cell 2
  have d3 : w1.cell? ⟨w.heap.size + 1, 3, none⟩ = some _ := KC.out.cell 3
  have f0 : w1.frozen? ⟨w.heap.size + 1, 0, none⟩ = false := KC.out.fz 0
  have f1 : w1.frozen? ⟨w.heap.size + 1, 1, none⟩ = false := KC.out.fz 1
  have f2 : w1.frozen? ⟨w.heap.size + 1, 2, none⟩ = false := KC.out.fz 2
  have f3 : w1.frozen? ⟨w.heap.size + 1, 3, none⟩ = false := KC.out.fz 3
  have l1 := KC.out.lt
  go_wp2_with fail
  have KD := set4_bk (.slice none 0 0) (.slice none 0 0) (.slice none 0 0) (.slice none 0 0) KC.out
  have LD := set4_below (.slice none 0 0) (.slice none 0 0) (.slice none 0 0) (.slice none 0 0) L1.out LT
  generalize (((w1.setCell ⟨w.heap.size + 1, 0, none⟩ (.slice none 0 0)).setCell ⟨w.heap.size + 1, 1, none⟩ (.slice none 0 0)).setCell ⟨w.heap.size + 1, 2, none⟩ (.slice none 0 0)).setCell ⟨w.heap.size + 1, 3, none⟩ (.slice none 0 0) = w5 at *
  clear d0 d1 d2 d3
  have d0 : w5.cell? ⟨w.heap.size + 1, 0, none⟩ = some _ := KD.cell 0
  have d1 : w5.cell? ⟨w.heap.size + 1, 1, none⟩ = some _ := KD.cell 1
  have d2 : w5.cell? ⟨w.heap.size + 1, 2, none⟩ = some _ := KD.cell 2
  have d3 : w5.cell? ⟨w.heap.size + 1, 3, none⟩ = some _ := KD.cell 3
  refine bodyPost_ret (v := .tuple #[.agg #[.slice none 0 0, .slice none 0 0, .slice none 0 0, .slice none 0 0], .int .i64 8]) (by simp [results, Try.results25, go_sem, d0, d1, d2, d3]) rfl ?_
  exact ⟨rfl, LD⟩

theorem make_int (n : Nat) (hn : n ≤ 1000000) (W : World) : (Instr.makeSlice 22 (.int .i64 n) (.int .i64 n)).run Try.prog W = .ok (.slice (some ⟨W.heap.size, 0, none⟩) n n) (W.alloc (.cells (List.replicate n (.int .i64 0)).toArray 3)) := by
  obtain ⟨i0, hi, hz0, hz1, hz2⟩ := info_parts info_int
  have h := run_make (P := Try.prog) W 22 3 i0 _ Try.underlying22 hi hz0 .i64 .i64 n n (by omega) (Int.le_refl _) (by rw [hz2]; omega) (by omega)
  have e : madeCells (Value.int .i64 0).cells ((n : Int).toNat * i0.size) = (List.replicate n (Value.int .i64 0)).toArray := by
    rw [hz1, Int.toNat_natCast, Nat.mul_one]
    exact Array.toList_inj.1 (by rw [show (Value.int .i64 0).cells = #[Value.int .i64 0] from rfl, toList_madeCells_one])
  rw [e, Int.toNat_natCast] at h
  exact h
theorem make_bufs (n : Nat) (hn : n ≤ 1000000) (W : World) : (Instr.makeSlice 27 (.int .i64 n) (.int .i64 n)).run Try.prog W = .ok (.slice (some ⟨W.heap.size, 0, none⟩) n n) (W.alloc (.cells (List.replicate n (.slice none 0 0)).toArray 48)) := by
  obtain ⟨i0, hi, hz0, hz1, hz2⟩ := info_parts info_ents
  have h := run_make (P := Try.prog) W 27 48 i0 _ Try.underlying27 hi hz0 .i64 .i64 n n (by omega) (Int.le_refl _) (by rw [hz2]; omega) (by omega)
  have e : madeCells (Value.slice none 0 0).cells ((n : Int).toNat * i0.size) = (List.replicate n (Value.slice none 0 0)).toArray := by
    rw [hz1, Int.toNat_natCast, Nat.mul_one]
    exact Array.toList_inj.1 (by rw [show (Value.slice none 0 0).cells = #[Value.slice none 0 0] from rfl, toList_madeCells_one])
  rw [e, Int.toNat_natCast] at h
  exact h

theorem drew_size (w : World) : w.drew.heap.size = w.heap.size := rfl
theorem bal {a w : World} (h : Below a.heap.size a w) (o : Obj) : Below a.heap.size a (w.alloc o) := h.alloc h.size o
theorem bdr {a w : World} (h : Below a.heap.size a w) : Below a.heap.size a w.drew := h.drew
theorem nil4_at {W wn : World} (b1 : Below W.heap.size W wn) (g T : Nat) (h : Bk W g T #[.slice none 0 0, .slice none 0 0, .slice none 0 0, .slice none 0 0]) :
    wn.cell? ⟨g, 0, none⟩ = some (.slice none 0 0) ∧ wn.cell? ⟨g, 1, none⟩ = some (.slice none 0 0) ∧ wn.cell? ⟨g, 2, none⟩ = some (.slice none 0 0) ∧ wn.cell? ⟨g, 3, none⟩ = some (.slice none 0 0) ∧
    wn.frozen? ⟨g, 0, none⟩ = false ∧ wn.frozen? ⟨g, 1, none⟩ = false ∧ wn.frozen? ⟨g, 2, none⟩ = false ∧ wn.frozen? ⟨g, 3, none⟩ = false ∧ g < wn.heap.size :=
  have k := h.below b1
  ⟨k.cell 0, k.cell 1, k.cell 2, k.cell 3, k.fz 0, k.fz 1, k.fz 2, k.fz 3, k.lt⟩
theorem nil4_use {W wn : World} {P : Prop} (b1 : Below W.heap.size W wn) (g T : Nat) (h : Bk W g T #[.slice none 0 0, .slice none 0 0, .slice none 0 0, .slice none 0 0])
    (k : wn.cell? ⟨g, 0, none⟩ = some (.slice none 0 0) ∧ wn.cell? ⟨g, 1, none⟩ = some (.slice none 0 0) ∧ wn.cell? ⟨g, 2, none⟩ = some (.slice none 0 0) ∧ wn.cell? ⟨g, 3, none⟩ = some (.slice none 0 0) ∧
    wn.frozen? ⟨g, 0, none⟩ = false ∧ wn.frozen? ⟨g, 1, none⟩ = false ∧ wn.frozen? ⟨g, 2, none⟩ = false ∧ wn.frozen? ⟨g, 3, none⟩ = false ∧ g < wn.heap.size → P) : P := k (nil4_at b1 g T h)
theorem bk_alloc {w : World} {g T : Nat} {cs : Array Value} (h : Bk w g T cs) (o : Obj) : Bk (w.alloc o) g T cs := by
  have := h.lt
  unfold Bk at *
  rw [show (w.alloc o).heap = w.heap.push o from rfl, Array.getElem?_push_lt this, ← h, Array.getElem?_eq_getElem this]
theorem bk_drew {w : World} {g T : Nat} {cs : Array Value} (h : Bk w g T cs) : Bk w.drew g T cs := h
theorem bk_at {w : World} {g T : Nat} {cs : Array Value} (h : g = w.heap.size) : Bk (w.alloc (.cells cs T)) g T cs := h ▸ Bk.new w T cs
theorem bk_at2 (a : World) (o : Obj) (T : Nat) (cs : Array Value) : Bk ((a.alloc o).alloc (.cells cs T)) (a.heap.size + 1) T cs := bk_at (by rw [alloc_size])
theorem bk_at3 (a : World) (o p : Obj) (T : Nat) (cs : Array Value) : Bk (((a.alloc o).alloc p).alloc (.cells cs T)) (a.heap.size + 1 + 1) T cs := bk_at (by rw [alloc_size, alloc_size])
theorem set4_nil {w : World} {g T : Nat} {x0 x1 x2 x3 : Value} (h : Bk w g T #[.slice none 0 0, .slice none 0 0, .slice none 0 0, .slice none 0 0]) : Bk ((((w.setCell ⟨g, 0, none⟩ x0).setCell ⟨g, 1, none⟩ x1).setCell ⟨g, 2, none⟩ x2).setCell ⟨g, 3, none⟩ x3) g T #[x0, x1, x2, x3] := set4_bk x0 x1 x2 x3 h
theorem setCell_size (w : World) (p : Addr) (u : Value) : (w.setCell p u).heap.size = w.heap.size := by simp
theorem bk_set4 {w : World} {g g5 T : Nat} {cs : Array Value} {x0 x1 x2 x3 : Value} (hne : g ≠ g5) (h : Bk w g T cs) : Bk ((((w.setCell ⟨g5, 0, none⟩ x0).setCell ⟨g5, 1, none⟩ x1).setCell ⟨g5, 2, none⟩ x2).setCell ⟨g5, 3, none⟩ x3) g T cs :=
  ((set4_keep x0 x1 x2 x3).1 g hne).trans h
theorem bset4 {a w : World} {g : Nat} {x0 x1 x2 x3 : Value} (h : Below a.heap.size a w) (hg : a.heap.size ≤ g) : Below a.heap.size a ((((w.setCell ⟨g, 0, none⟩ x0).setCell ⟨g, 1, none⟩ x1).setCell ⟨g, 2, none⟩ x2).setCell ⟨g, 3, none⟩ x3) := set4_below _ _ _ _ h hg

/-- What a start's first statement has made. -/
structure Made (w0 w : World) (n g1 g4 g5 : Nat) (Z1 Z2 : Array Value) (vm : Value) (init : List Int) : Prop where
  h1 : Bk w g1 3 Z1
  h4 : Bk w g4 48 Z2
  h5 : Bk w g5 29 #[.slice (some ⟨g1, 0, none⟩) n n, .slice none 0 0, vm, .slice (some ⟨g4, 0, none⟩) n n]
  o : OwnI w w0.heap.size vm init
  p1 : w0.heap.size ≤ g1
  p4 : w0.heap.size ≤ g4
  p5 : w0.heap.size ≤ g5
  b : Below w0.heap.size w0 w
  dj : Apart (.slice (some ⟨g1, 0, none⟩) n n) vm

/-- A row of one type stands behind a store into a block of another. -/
theorem own_setT {w : World} {B T S n g5 T' j : Nat} {v u : Value} {xs : List Value} {cs : Array Value} (h : w.ownsRow B T S v n xs) (hb : Bk w g5 T' cs) (hT : T ≠ T') : (w.setCell ⟨g5, j, none⟩ u).ownsRow B T S v n xs := by
  obtain ⟨h1, h2⟩ := h
  refine ⟨h1, ?_⟩
  rcases h2 with h2 | ⟨g, cap, cur, hv, hg, hh, r⟩
  · exact .inl h2
  · have hne : g ≠ g5 := by
      intro e
      subst e
      have hb' : w.heap[g]? = _ := hb
      rw [hh] at hb'
      injection hb' with hb'
      injection hb' with _ e _
      exact hT e
    exact .inr ⟨g, cap, cur, hv, hg, (heap_setCell_other _ _ _ _ hne).trans hh, r⟩
theorem own_types {w : World} {B B' T T' S S' n n' : Nat} {v v' : Value} {xs xs' : List Value} (h : w.ownsRow B T S v n xs) (h' : w.ownsRow B' T' S' v' n' xs') (hT : T ≠ T') : v.ownBlock = none ∨ v.ownBlock ≠ v'.ownBlock := by
  rcases h.2 with ⟨rfl, _⟩ | ⟨g, cap, cur, rfl, _, hh, _⟩
  · exact .inl rfl
  · refine .inr fun e => ?_
    rcases h'.2 with ⟨rfl, _⟩ | ⟨g', cap', cur', rfl, _, hh', _⟩
    · cases e
    · have e' : g = g' := by simpa [Value.ownBlock] using e
      subst e'
      rw [hh] at hh'
      injection hh' with hh'
      injection hh' with _ e _
      exact hT e
theorem bk_set1 {w : World} {g T : Nat} {a0 a1 a2 a3 : Value} (u : Value) (h : Bk w g T #[a0, a1, a2, a3]) : Bk (w.setCell ⟨g, 1, none⟩ u) g T #[a0, u, a2, a3] := heap_setCell_same w g 1 _ T u h

/-- append of one slice to a row of slices, at a step of a region that draws. -/
theorem step_app1 {w : World} {ops : Array Oper} {o : Oper} {a : Act} {K : Act → World → Prop} {Q : Exit → Act → World → Prop} {E' : Prop} (hgd : o.guard = none) (s x : Operand) (T E : TypeId)
    (ho : o.op = .call { callee := .builtin .append, args := #[s, x], argTypes := #[T, T] }) (hu : Try.prog.underlying T = some (.slice E)) (hin : (Try.prog.info? E).map (fun i => (i.zero, i.size, i.bytes)) = some (some (.slice none 0 0), 1, 24))
    (base : Nat) (v : Value) (n : Nat) (xs : List Value) (hs : a.eval s = v) (hown : w.ownsRow base E 1 v n xs) (g : Nat) (u : Value) (hx : a.eval x = .slice (some ⟨g, 0, none⟩) 1 1) (hg : Bk w g E #[u]) (h1 : u.oneCell' = true) (hn : n ≤ 1000000) (hbase : base ≤ w.heap.size) (zs : List Value) (hz : xs ++ [u] = zs)
    (h : ∀ g' cap w', w'.ownsRow base E 1 (.slice (some ⟨g', 0, none⟩) (n + 1) cap) (n + 1) zs → Below base w w' → w.grownBy w' v.ownBlock → K (a.put o.dst (.slice (some ⟨g', 0, none⟩) (n + 1) cap)) w') :
    if Region.wanted o (yielded ops a.tmps) = true then Oper.wp Try.prog o a w K Q else E' := by
  obtain ⟨i0, hi, hz0, hz1, hz2⟩ := info_parts hin
  subst hz
  refine step_append_lies _ hgd s x T ho base E i0 (.slice none 0 0) 1 24 hu hi hz0 hz1 hz2 rfl (by decide) v n xs hs hown ⟨g, 0, none⟩ 1 1 [u] hx rfl (fun j y hy => World.news_of_block (show w.heap[g]? = some (.cells #[u] E (0, 0)) from hg) j y (by simpa using hy)) (by intro y hy; rw [List.mem_singleton.1 hy]; exact h1) (by decide) (by unfold maxLen; omega) (by omega) hbase _ rfl ?_
  intro g' cap w' h2 h3 _ _
  exact h g' cap w' h2 ((Below.refl base w).grown h3 hbase (fun k hk => (hown.lt k hk).1)) h3

/-- The round behind the first k threads: the registers' rows. -/
structure StI (w1 w6 w : World) (g1 g4 g5 n k : Nat) (vm : Value) (regs : List Int) (ar : Option Addr) (kr : Nat) (rs : List (List Int × Value)) : Prop where
  h5 : Bk w g5 29 #[.slice (some ⟨g1, 0, none⟩) n n, .slice ar k kr, vm, .slice (some ⟨g4, 0, none⟩) n n]
  r : w.ownsRow w6.heap.size 22 1 (.slice ar k kr) k (rs.map (·.2))
  rr : ∀ x ∈ rs, OwnI w w6.heap.size x.2 x.1
  len : rs.length = k
  e : rs.map (·.1) = (regs.take k).map fun n => List.replicate n.toNat 0
  f : ∀ g, g < w6.heap.size → g ≠ g5 → w.heap[g]? = w6.heap[g]?
  sz : w6.heap.size ≤ w.heap.size
  b : Below w1.heap.size w1 w
  pw : rs.Pairwise fun x y => Apart x.2 y.2
theorem StI.step {w1 w6 w w7 : World} {g1 g4 g5 n k g' cap : Nat} {vm u : Value} {regs : List Int} {ar : Option Addr} {kr : Nat} {rs : List (List Int × Value)} (h : StI w1 w6 w g1 g4 g5 n k vm regs ar kr rs) (hk : k < regs.length) (hg : w1.heap.size ≤ g5) (hg6 : g5 < w6.heap.size)
    (wa : World) (ba : Below w.heap.size w wa) (hu0 : wa.ownsRow w.heap.size 3 1 u regs[k].toNat (rowI (List.replicate regs[k].toNat 0)))
    (hr : w7.ownsRow w6.heap.size 22 1 (.slice (some ⟨g', 0, none⟩) (k + 1) cap) (k + 1) (rs.map (·.2) ++ [u])) (hb : Below w6.heap.size wa w7) (hgr : wa.grownBy w7 (Value.ownBlock (.slice ar k kr))) :
    StI w1 w6 (w7.setCell ⟨g5, 1, none⟩ (.slice (some ⟨g', 0, none⟩) (k + 1) cap)) g1 g4 g5 n (k + 1) vm regs (some ⟨g', 0, none⟩) cap (rs ++ [(List.replicate regs[k].toNat 0, u)]) := by
  have h57 : Bk w7 g5 29 _ := (hb.block g5 hg6).trans ((ba.block g5 (Nat.lt_of_lt_of_le hg6 h.sz)).trans h.h5)
  have hu : wa.ownsRow w6.heap.size 3 1 u regs[k].toNat (rowI (List.replicate regs[k].toNat 0)) := own_base hu0 h.sz
  have hra : wa.ownsRow w6.heap.size 22 1 (.slice ar k kr) k (rs.map (·.2)) := own_below h.r ba
  refine ⟨bk_set1 _ h57, ?_, ?_, by rw [List.length_append, h.len]; rfl, ?_, ?_, ?_, ?_, List.pairwise_append.2 ⟨h.pw, List.pairwise_singleton _ _, fun x hx y hy => by rw [List.mem_singleton.1 hy]; exact apart_own (h.rr x hx) hu0 (Nat.le_refl _)⟩⟩
  · have := own_setT (j := 1) (u := .slice (some ⟨g', 0, none⟩) (k + 1) cap) hr h57 (by decide)
    simpa using this
  · intro x hx
    refine own_setT ?_ h57 (by decide)
    rcases List.mem_append.1 hx with hx | hx
    · exact World.ownsRow.kept (own_below (h.rr x hx) ba) hgr (own_types (own_below (h.rr x hx) ba) hra (by decide))
    · rw [List.mem_singleton.1 hx]
      have := World.ownsRow.kept hu hgr (own_types hu hra (by decide))
      simpa using this
  · rw [List.map_append, h.e, List.take_add_one, List.getElem?_eq_getElem hk, List.map_append]
    rfl
  · intro g h1 h2
    rw [heap_setCell_other _ _ _ _ h2, hb.block g h1, ba.block g (Nat.lt_of_lt_of_le h1 h.sz), h.f g h1 h2]
  · simp
    exact Nat.le_trans h.sz (Nat.le_trans ba.size hb.size)
  · have hw : w1.heap.size ≤ w6.heap.size := by omega
    exact Below.setCell (p := ⟨g5, 1, none⟩) (h.b.trans ((ba.mono h.b.size).trans (hb.mono hw))) hg _

theorem thrF_regs (locs : Int) : ∀ (rs : List Int) (cs : List (List II × Value)), rs.length = cs.length → thrF locs rs cs = true → ∀ x ∈ rs, 0 ≤ x ∧ x < 7
  | [], _, _, _, x, hx => absurd hx (by simp)
  | o :: r, c :: s, hl, h, x, hx => by
    unfold thrF at h
    rw [Bool.and_eq_true, Bool.and_eq_true] at h
    rcases List.mem_cons.1 hx with rfl | hx
    · exact of_decide_eq_true h.1.1
    · exact thrF_regs locs r s (by simpa using hl) h.2 x hx
theorem regs_bd {u : Un} (hr : rightU u = true) (k : Nat) (hk : k < u.regs.length) : 0 ≤ u.regs[k] ∧ u.regs[k] < 7 := by
  unfold rightU at hr
  rw [Bool.and_eq_true, Bool.and_eq_true] at hr
  have h1 := of_decide_eq_true hr.1
  exact thrF_regs _ _ _ h1.2.2.2.2.2.symm hr.2.2 _ (List.getElem_mem hk)
theorem own_new {w : World} {B T : Nat} {n : Nat} {cs : List Value} (hB : B ≤ w.heap.size) (hl : cs.length = n) (hn : n ≤ 1000000) : (w.alloc (.cells cs.toArray T)).ownsRow B T 1 (.slice (some ⟨w.heap.size, 0, none⟩) n n) n cs :=
  own_of_bk (Bk.new w T cs.toArray) rfl hB (by rw [hl, Nat.mul_one]) hn

theorem StI.at7 {w1 w6 w wa w7 : World} {g1 g4 g5 n k : Nat} {vm : Value} {regs : List Int} {ar : Option Addr} {kr : Nat} {rs : List (List Int × Value)} (h : StI w1 w6 w g1 g4 g5 n k vm regs ar kr rs) (hg6 : g5 < w6.heap.size) (hw : w1.heap.size ≤ w6.heap.size) (ba : Below w.heap.size w wa) (hb : Below w6.heap.size wa w7) :
    w7.cell? ⟨g5, 1, none⟩ = some (.slice ar k kr) ∧ w7.frozen? ⟨g5, 1, none⟩ = false ∧ g5 < w7.heap.size ∧ Below w1.heap.size w1 w7 := by
  have h57 : Bk w7 g5 29 _ := (hb.block g5 hg6).trans ((ba.block g5 (Nat.lt_of_lt_of_le hg6 h.sz)).trans h.h5)
  exact ⟨h57.cell 1, h57.fz 1, h57.lt, h.b.trans ((ba.mono h.b.size).trans (hb.mono hw))⟩
theorem bset1 {a w : World} {g : Nat} {x : Value} (h : Below a.heap.size a w) (hg : a.heap.size ≤ g) : Below a.heap.size a (w.setCell ⟨g, 1, none⟩ x) := Below.setCell (p := ⟨g, 1, none⟩) h hg _

theorem own_frame {w w' : World} {B T S n g5 T' : Nat} {v : Value} {xs : List Value} {cs : Array Value} (h : w.ownsRow B T S v n xs) (f : ∀ g, g < w.heap.size → g ≠ g5 → w'.heap[g]? = w.heap[g]?) (hb : Bk w g5 T' cs) (hT : T ≠ T') : w'.ownsRow B T S v n xs := by
  obtain ⟨h1, h2⟩ := h
  refine ⟨h1, ?_⟩
  rcases h2 with h2 | ⟨g, cap, cur, hv, hg, hh, r⟩
  · exact .inl h2
  · have hne : g ≠ g5 := by
      intro e
      subst e
      have hb' : w.heap[g]? = _ := hb
      rw [hh] at hb'
      injection hb' with hb'
      injection hb' with _ e _
      exact hT e
    exact .inr ⟨g, cap, cur, hv, hg, (f g (Array.getElem?_eq_some_iff.1 hh).1 hne).trans hh, r⟩
theorem bk_frame {w w' : World} {g T g5 T' : Nat} {cs cs' : Array Value} (h : Bk w g T cs) (f : ∀ g, g < w.heap.size → g ≠ g5 → w'.heap[g]? = w.heap[g]?) (hb : Bk w g5 T' cs') (hT : T ≠ T') : Bk w' g T cs := by
  have hne : g ≠ g5 := by
    intro e
    subst e
    have h' : w.heap[g]? = _ := h
    rw [hb] at h'
    injection h' with h'
    injection h' with _ e _
    exact hT e.symm
  exact (f g h.lt hne).trans h

theorem start_own {w1 w6 wr w9 : World} {u : Un} {g1 g4 g5 nc nr B gr : Nat} {vm : Value} {ar : Option Addr} {kr : Nat} {rs : List (List Int × Value)} {Z1 Z2 : Array Value} (M : Made w1 w6 nc g1 g4 g5 Z1 Z2 vm u.init) (I : StI w1 w6 wr g1 g4 g5 nc nr vm u.regs ar kr rs)
    (h1 : nr = u.regs.length) (h2 : nc = u.code.length) (hz1 : Z1 = (List.replicate nc (Value.int .i64 0)).toArray) (hz2 : Z2 = (List.replicate nc (Value.slice none 0 0)).toArray) (hn : nc ≤ 1000000) (hB : B ≤ w1.heap.size) (hgr : gr < w1.heap.size)
    (kp : ∀ b, b ≠ gr → w9.heap[b]? = wr.heap[b]?) (hsz : w9.heap.size = wr.heap.size) :
    OwnC w9 B (.slice (some ⟨g1, 0, none⟩) nc nc) (.slice ar nr kr) vm (.slice (some ⟨g4, 0, none⟩) nc nc) ⟨List.replicate nc 0, rs, u.init, List.replicate nc ([], .slice none 0 0)⟩ ∧ (⟨List.replicate nc 0, rs, u.init, List.replicate nc ([], .slice none 0 0)⟩ : Cf).pf = startP u ∧ DjC (.slice (some ⟨g1, 0, none⟩) nc nc) vm rs := by
  have s16 : w1.heap.size ≤ w6.heap.size := M.b.size
  have p1 := M.p1
  have p4 := M.p4
  have k6 : Kp w6.heap.size wr w9 := ⟨Nat.le_of_eq hsz.symm, fun b hb _ => kp b (by omega)⟩
  have k1 : Kp w1.heap.size wr w9 := ⟨Nat.le_of_eq hsz.symm, fun b hb _ => kp b (by omega)⟩
  have b1 : Bk wr g1 _ _ := bk_frame M.h1 I.f M.h5 (by decide)
  have b4 : Bk wr g4 _ _ := bk_frame M.h4 I.f M.h5 (by decide)
  have b1' : Bk w9 g1 _ _ := (kp g1 (by omega)).trans b1
  have b4' : Bk w9 g4 _ _ := (kp g4 (by omega)).trans b4
  refine ⟨⟨?_, ⟨?_, fun x hx => own_base (own_kp (I.rr x hx) k6) (by omega)⟩, own_base (own_kp (own_frame M.o I.f M.h5 (by decide)) k1) hB, ⟨?_, fun x hx => ?_⟩⟩, ?_, ⟨M.dj, fun x hx g h4 h5 => ?_, fun x hx g h4 h5 => ?_, I.pw⟩⟩
  · rw [OwnI, List.length_replicate]
    exact own_of_bk b1' (by rw [hz1, rowI_eq, List.map_replicate]) (by omega) (by rw [rowI_len, List.length_replicate, Nat.mul_one]) hn
  · have := own_base (own_kp I.r k6) (B' := B) (by omega)
    rw [I.len]
    exact this
  · show World.ownsRow _ _ _ _ _ _ _
    simp only [List.length_replicate, List.map_replicate]
    exact own_of_bk b4' (by rw [hz2]) (by omega) (by rw [List.length_replicate, Nat.mul_one]) hn
  · rw [List.eq_of_mem_replicate hx]
    exact World.ownsRow_nil _ _ _ _
  · unfold Cf.pf startP
    simp only [List.map_replicate]
    rw [I.e, h1, List.take_length, h2]
  · have e : g1 = g := by simpa [Value.ownBlock] using h4
    have := ((I.rr x hx).lt g h5).1
    have := M.h1.lt
    omega
  · have := ((I.rr x hx).lt g h5).1
    have := (M.o.lt g h4).2
    omega

attribute [local go_sem ↓] Go.wp_at_zero Go.wp_at_succ
set_option maxRecDepth 100000 in
set_option maxHeartbeats 8000000 in
theorem nstart_dj (u : Un) (vi vr vc : Value) (w : World) (hu : UnD w vi vr vc u) (hs : ShortU u) (hr : rightU u = true) :
    Calls Try.prog 25 #[.agg #[.int .i64 u.mod, vi, vr, vc]] w fun e w' => ∃ (c : Cf) (xp xr xm xb : Value), e = .returned (.tuple #[.agg #[xp, xr, xm, xb], .int .i64 0]) ∧ OwnC w' w.heap.size xp xr xm xb c ∧ c.pf = startP u ∧ Below w.heap.size w w' ∧ DjC xp xm c.regs := by
  have HUR := Lib.hid (fun (W : World) (h : Below w.heap.size w W) => lright_any u vi vr vc W (hu.below h) hs _ hr)
  have HCO := Lib.hid (fun (W : World) (h : Below w.heap.size w W) => copiedI_any u.init vi W (IntsD.below hu.i h) hs.1)
  have HU := Lib.hid hu
  have HRG := Lib.hid (fun (k : Nat) (hk : k < u.regs.length) => regs_bd hr k hk)
  obtain ⟨xi, ci, rfl⟩ := hu.i.shape0
  obtain ⟨xr, cr, rfl⟩ := hu.r.shape0
  obtain ⟨xc, cc, rfl⟩ := hu.c.shape0
  have h6 : u.init.length ≤ 6 ∧ 1 ≤ u.regs.length ∧ u.regs.length ≤ 4 ∧ u.code.length = u.regs.length := by
    have h5 := hr
    unfold rightU at h5
    rw [Bool.and_eq_true] at h5
    have := of_decide_eq_true h5.1
    omega
  generalize u.mod = m at HUR ⊢
  obtain ⟨ni, hni⟩ : ∃ n, n = u.init.length := ⟨_, rfl⟩
  obtain ⟨nr, hnr⟩ : ∃ n, n = u.regs.length := ⟨_, rfl⟩
  obtain ⟨nc, hnc⟩ : ∃ n, n = u.code.length := ⟨_, rfl⟩
  have HNI := Lib.hid hni
  have HNR := Lib.hid hnr
  have HNC := Lib.hid hnc
  rw [← hni] at HUR HCO HU h6 ⊢
  rw [← hnr] at HUR HU h6 ⊢
  rw [← hnc] at HUR HU h6 ⊢
  have H6 := Lib.hid h6
  have mk1 := fun (W : World) => make_int nc (by omega) W
  have mk2 := fun (W : World) => make_bufs nc (by omega) W
  obtain ⟨Z1, hZ1⟩ : ∃ Z, Z = (List.replicate nc (Value.int .i64 0)).toArray := ⟨_, rfl⟩
  obtain ⟨Z2, hZ2⟩ : ∃ Z, Z = (List.replicate nc (Value.slice none 0 0)).toArray := ⟨_, rfl⟩
  rw [← hZ1] at mk1
  rw [← hZ2] at mk2
  have HZ1 := Lib.hid hZ1
  have HZ2 := Lib.hid hZ2
  clear hu hs hr h6 hni hnr hnc hZ1 hZ2
  go_enter Try.func25, Try.ntmps25
  go_wp2_with fail
  have T2 := Lib.hid (two_new w 25 29 #[.int .i64 m, .slice xi ni ci, .slice xr nr cr, .slice xc nc cc] #[.slice none 0 0, .slice none 0 0, .slice none 0 0, .slice none 0 0])
  obtain ⟨L0, KA0, KB0⟩ := T2.out
  have LL := Lib.hid L0
  have KA := Lib.hid KA0
  have KB := Lib.hid KB0
  clear L0 KA0 KB0 T2
  generalize (w.alloc _).alloc _ = w0 at LL KA KB ⊢
  refine (HUR.out _ LL.out).mono ?_
  rintro e w1 ⟨rfl, b1⟩
  have KA1 := Lib.hid (KA.out.below b1)
  have KB1 := Lib.hid (KB.out.below b1)
  have L1 := Lib.hid (LL.out.trans (b1.mono LL.out.size))
  clear b1 KA KB HUR
  have c1 : w1.cell? ⟨w.heap.size, 1, none⟩ = some (.slice xi ni ci) := KA1.out.cell 1
  have c3 : w1.cell? ⟨w.heap.size, 3, none⟩ = some (.slice xc nc cc) := KA1.out.cell 3
  have l1 := KA1.out.lt
  go_wp2_with fail
  have KS := Lib.hid (fun (W : World) (h : Below w1.heap.size w1 W) => (⟨(KA1.out.below h).cell 1, h⟩ : W.cell? ⟨w.heap.size, 1, none⟩ = some (.slice xi ni ci) ∧ Below w1.heap.size w1 W))
  have bb : Below w1.heap.size w1 w1.drew := below_draws' w1
  obtain ⟨R, hR⟩ : ∃ R : Exit → Act → World → Prop, R = (fun e a' w' => e = .normal ∧ ∃ (g1 g4 g5 : Nat) (am : Option Addr) (km : Nat), a' = ⟨#[.agg #[.int .i64 m, .slice xi ni ci, .slice xr nr cr, .slice xc nc cc], .pointer (some ⟨w.heap.size, 0, none⟩), .pointer (some ⟨w.heap.size + 1, 0, none⟩), .int .i64 0, .int .i64 nc, .pointer (some ⟨g5, 0, none⟩), undef, undef, .agg #[.int .i64 m, .slice xi ni ci, .slice xr nr cr, .slice xc nc cc], .bool true, .bool false, undef, .pointer (some ⟨w.heap.size, 3, none⟩), .slice xc nc cc, .int .i64 nc, .int .i64 nc, .slice (some ⟨g1, 0, none⟩) nc nc, .pointer (some ⟨w.heap.size, 1, none⟩), .slice xi ni ci, .slice am u.init.length km, .int .i64 nc, .slice (some ⟨g4, 0, none⟩) nc nc, .agg #[.slice (some ⟨g1, 0, none⟩) nc nc, .slice none 0 0, .slice am u.init.length km, .slice (some ⟨g4, 0, none⟩) nc nc], undef, undef, undef, undef, undef, undef, undef, undef, undef, undef, undef, undef, undef, undef, undef, undef], []⟩ ∧ Made w1 w' nc g1 g4 g5 Z1 Z2 (.slice am u.init.length km) u.init) := ⟨_, rfl⟩
  have HR := Lib.hid hR
  clear hR
  refine Code.wp_mono (Q := R) ?_ ?_
  · rintro e a w6 h
    rw [HR.out] at h
    rw [← HNI.out] at h
    obtain ⟨rfl, g1, g4, g5, am, km, rfl, M0⟩ := h
    have M := Lib.hid M0
    have LB := Lib.hid (L1.out.trans (M0.b.mono L1.out.size))
    have KA6 := Lib.hid (KA1.out.below M0.b)
    have KB6 := Lib.hid (KB1.out.below M0.b)
    have c2 : w6.cell? ⟨w.heap.size, 2, none⟩ = some (.slice xr nr cr) := KA6.out.cell 2
    have l6 := KA6.out.lt
    clear M0 c1 c3 HCO KS HR mk2 KA1 bb
    go_wp2_with fail
    obtain ⟨vr0, hvr0⟩ : ∃ v, v = Value.slice none 0 0 := ⟨_, rfl⟩
    have I0 : Hid (StI w1 w6 w6 g1 g4 g5 nc 0 (.slice am ni km) u.regs none 0 []) := Lib.hid ⟨M.out.h5, World.ownsRow_nil _ _ _ _, by simp, rfl, by simp, fun _ _ _ => rfl, Nat.le_refl _, M.out.b, List.Pairwise.nil⟩
    clear hvr0 vr0
    go_loopg [26] nr (fun fuel i' wr => ∃ (k : Nat) (ar : Option Addr) (kr : Nat) (rs : List (List Int × Value)), i' = .int .i64 k ∧ k ≤ nr ∧ nr - k ≤ fuel ∧ StI w1 w6 wr g1 g4 g5 nc k (.slice am ni km) u.regs ar kr rs)
    case atStart => exact ⟨0, _, _, [], rfl, Nat.zero_le _, Nat.le_refl _, I0.out⟩
    case round =>
      obtain ⟨k, ar, kr, rs, rfl, hk, hf, hi⟩ := hrel
      have HI := Lib.hid hi
      clear hi I0
      by_cases hlt : k < nr
      · have hk1 : k < u.regs.length := by rw [← HNR.out]; exact hlt
        have hrg := HRG.out k hk1
        have LR := Lib.hid (L1.out.trans (HI.out.b.mono L1.out.size))
        obtain ⟨b4, o4, rfl, hb4, y4⟩ := IntsD.at2 (HU.out.below LR.out).r k hk1
        have HST := Lib.hid (fun (w7 : World) (g' cap : Nat) (u' : Value) (wa : World) => HI.out.step (w7 := w7) (g' := g') (cap := cap) (u := u') hk1 M.out.p5 M.out.h5.lt wa)
        obtain ⟨rn, hrn⟩ : ∃ r : Nat, u.regs[k] = (r : Int) := ⟨u.regs[k].toNat, by omega⟩
        rw [hrn] at y4 HST
        simp only [Int.toNat_natCast] at HST
        have mk3 := fun (W : World) => make_int rn (by omega) W
        obtain ⟨Z3, hZ3⟩ : ∃ Z, Z = List.replicate rn (Value.int .i64 0) := ⟨_, rfl⟩
        rw [← hZ3] at mk3
        have HZ3 := Lib.hid hZ3
        have c1 : wr.cell? ⟨g5, 1, none⟩ = some (.slice ar k kr) := HI.out.h5.cell 1
        have f1 : wr.frozen? ⟨g5, 1, none⟩ = false := HI.out.h5.fz 1
        have l5 := HI.out.h5.lt
        have bb : Below w1.heap.size w1 wr.drew := HI.out.b.drew
        have bc : Below w1.heap.size w1 wr := HI.out.b
        have hk4 : k ≤ 1000000 := by have := H6.out; omega
        have HK4 := Lib.hid hk4
        have HRN : Hid (rn ≤ 1000000) := Lib.hid (by omega)
        clear hrg hrn hZ3 hk1 HRG mk1
        have HSZ : Hid (w6.heap.size ≤ wr.heap.size) := Lib.hid HI.out.sz
        have HZL : Hid ((rowI (List.replicate rn 0)).length = rn) := Lib.hid (by rw [rowI_len, List.length_replicate])
        have HZE : Hid (Z3 = rowI (List.replicate rn 0)) := Lib.hid (by rw [HZ3.out, rowI_eq, List.map_replicate])
        rw [HZE.out] at mk3
        obtain ⟨Z4, hZ4⟩ : ∃ Z, Z = rowI (List.replicate rn 0) := ⟨_, rfl⟩
        rw [← hZ4] at mk3 HZL HST
        have HL16 : Hid (w1.heap.size ≤ w6.heap.size) := Lib.hid M.out.b.size
        have HG6 : Hid (g5 < w6.heap.size) := Lib.hid M.out.h5.lt
        have HG5 : Hid (w1.heap.size ≤ g5) := Lib.hid M.out.p5
        have HS8 := Lib.hid (fun (wa w7 : World) => HI.out.at7 (wa := wa) (w7 := w7) HG6.out HL16.out)
        have HL6 : Hid (∀ W : World, Below wr.heap.size wr W → w6.heap.size ≤ W.heap.size) := Lib.hid (fun W h => Nat.le_trans HSZ.out h.size)
        clear hZ4 HZ3 HZE
        go_wp2_with fail
        go_region_law
          ((refine step_app1 (by rfl) (.tmp 31) (.tmp 34) 26 22 (by rfl) Try.underlying26 info_ints w6.heap.size (.slice ar k kr) k _ (by rfl) (own_below HI.out.r (by repeat' (first | with_reducible exact Below.refl _ _ | with_reducible refine bdr ?_ | with_reducible refine bal ?_ _))) _ _ (by rfl) (by repeat' (first | with_reducible refine bk_drew ?_ | ((refine bk_at ?_); (simp only [alloc_size, drew_size]; done)) | with_reducible refine bk_alloc ?_ _)) (by rfl) HK4.out (HL6.out _ (by repeat' (first | with_reducible exact Below.refl _ _ | with_reducible refine bdr ?_ | with_reducible refine bal ?_ _))) _ (by rfl) ?_; intro g' cap w7 O7 B7 G7; obtain ⟨q1, q2, q3, q4⟩ := HS8.out _ _ (by repeat' (first | with_reducible exact Below.refl _ _ | with_reducible refine bdr ?_ | with_reducible refine bal ?_ _)) B7; have hs7 := Lib.hid (HST.out w7 g' cap _ _ (by repeat' (first | with_reducible exact Below.refl _ _ | with_reducible refine bdr ?_ | with_reducible refine bal ?_ _)) (by first | exact own_below (World.ownsRow.alloc (own_new (Nat.le_refl _) HZL.out HRN.out) _) (by repeat' (first | with_reducible exact Below.refl _ _ | with_reducible refine bdr ?_ | with_reducible refine bal ?_ _))) O7 B7 G7); have bb := q4))
        all_goals
          clear q1 q2 q3 q4 bb bc O7 B7 G7 c1 f1
          go_wp2_with fail
          go_roundg (gk - 1)
          case measure => omega
          case rel => exact ⟨k + 1, _, _, _, by go_num, by omega, by omega, hs7.out⟩
      · have hkn : k = nr := by omega
        subst hkn
        have KBR := Lib.hid (KB1.out.below HI.out.b)
        have c0 : wr.cell? ⟨g5, 0, none⟩ = some (.slice (some ⟨g1, 0, none⟩) nc nc) := HI.out.h5.cell 0
        have c1 : wr.cell? ⟨g5, 1, none⟩ = some (.slice ar k kr) := HI.out.h5.cell 1
        have c2 : wr.cell? ⟨g5, 2, none⟩ = some (.slice am ni km) := HI.out.h5.cell 2
        have c3 : wr.cell? ⟨g5, 3, none⟩ = some (.slice (some ⟨g4, 0, none⟩) nc nc) := HI.out.h5.cell 3
        have l5 := HI.out.h5.lt
        have d0 : wr.cell? ⟨w.heap.size + 1, 0, none⟩ = some (.slice none 0 0) := KBR.out.cell 0
        have d1 : wr.cell? ⟨w.heap.size + 1, 1, none⟩ = some (.slice none 0 0) := KBR.out.cell 1
        have d2 : wr.cell? ⟨w.heap.size + 1, 2, none⟩ = some (.slice none 0 0) := KBR.out.cell 2
        have d3 : wr.cell? ⟨w.heap.size + 1, 3, none⟩ = some (.slice none 0 0) := KBR.out.cell 3
        have f0 : wr.frozen? ⟨w.heap.size + 1, 0, none⟩ = false := KBR.out.fz 0
        have f1 : wr.frozen? ⟨w.heap.size + 1, 1, none⟩ = false := KBR.out.fz 1
        have f2 : wr.frozen? ⟨w.heap.size + 1, 2, none⟩ = false := KBR.out.fz 2
        have f3 : wr.frozen? ⟨w.heap.size + 1, 3, none⟩ = false := KBR.out.fz 3
        have l6' := KBR.out.lt
        have HLT : Hid (w.heap.size + 1 < w1.heap.size) := Lib.hid KB1.out.lt
        clear mk1 HRG
        go_wp2_with fail
        have hkp := set4_keep (w := wr) (g := w.heap.size + 1) (.slice (some ⟨g1, 0, none⟩) nc nc) (.slice ar k kr) (.slice am ni km) (.slice (some ⟨g4, 0, none⟩) nc nc)
        have KD := set4_bk (.slice (some ⟨g1, 0, none⟩) nc nc) (.slice ar k kr) (.slice am ni km) (.slice (some ⟨g4, 0, none⟩) nc nc) KBR.out
        have LD := set4_below (.slice (some ⟨g1, 0, none⟩) nc nc) (.slice ar k kr) (.slice am ni km) (.slice (some ⟨g4, 0, none⟩) nc nc) (L1.out.trans (HI.out.b.mono L1.out.size)) (Nat.le_succ w.heap.size)
        generalize (((wr.setCell ⟨w.heap.size + 1, 0, none⟩ (.slice (some ⟨g1, 0, none⟩) nc nc)).setCell ⟨w.heap.size + 1, 1, none⟩ (.slice ar k kr)).setCell ⟨w.heap.size + 1, 2, none⟩ (.slice am ni km)).setCell ⟨w.heap.size + 1, 3, none⟩ (.slice (some ⟨g4, 0, none⟩) nc nc) = w9 at *
        clear c0 c1 c2 c3 d0 d1 d2 d3 f0 f1 f2 f3
        have d0 : w9.cell? ⟨w.heap.size + 1, 0, none⟩ = some _ := KD.cell 0
        have d1 : w9.cell? ⟨w.heap.size + 1, 1, none⟩ = some _ := KD.cell 1
        have d2 : w9.cell? ⟨w.heap.size + 1, 2, none⟩ = some _ := KD.cell 2
        have d3 : w9.cell? ⟨w.heap.size + 1, 3, none⟩ = some _ := KD.cell 3
        have HO := start_own (B := w.heap.size) M.out HI.out HNR.out HNC.out HZ1.out HZ2.out (by have := H6.out; omega) L1.out.size HLT.out hkp.1 hkp.2
        refine bodyPost_ret (v := .tuple #[.agg #[.slice (some ⟨g1, 0, none⟩) nc nc, .slice ar k kr, .slice am ni km, .slice (some ⟨g4, 0, none⟩) nc nc], .int .i64 0]) (by simp [results, Try.results25, go_sem, d0, d1, d2, d3]) rfl ?_
        exact ⟨_, _, _, _, _, rfl, HO.1, HO.2.1, LD, HO.2.2⟩
  · clear HU HNR HNC H6 HZ1 HZ2 LL KB1 c3 KA1
    go_region_held3 (fun W => W.cell? ⟨w.heap.size, 1, none⟩ = some (.slice xi ni ci) ∧ Below w1.heap.size w1 W)
      (first | with_reducible exact ⟨c1, Below.refl _ _⟩ | with_reducible assumption | ((with_reducible refine KS.out _ ?_); repeat' (first | with_reducible exact bb | with_reducible assumption | with_reducible exact Below.refl _ _ | with_reducible refine bal ?_ _ | with_reducible refine bdr ?_ | (with_reducible refine bset4 ?_ ?_) | omega | (have s := Below.size bb; simp only [alloc_size, drew_size] at s ⊢; omega))))
      ((go_at_call 39; go_split_ands; (with_reducible refine Calls.mono (HCO.out _ (L1.out.trans (Below.mono (by assumption) L1.out.size))) ?_); rintro e wn ⟨v1, rfl, o1, b1⟩; obtain ⟨z1, y1, rfl, _⟩ := own_shape' o1; (try ((refine nil4_use b1 (w1.heap.size) 29 ?_ ?_); (focus (first | exact bk_drew (Bk.new _ _ _) | exact bk_drew (bk_alloc (Bk.new _ _ _) _) | exact bk_drew (bk_alloc (bk_alloc (Bk.new _ _ _) _) _))); (intro qa))); (try ((refine nil4_use b1 (w1.heap.size + 1) 29 ?_ ?_); (focus (first | exact bk_drew (bk_at2 _ _ _ _) | exact bk_drew (bk_alloc (bk_at2 _ _ _ _) _))); (intro qb))); (try ((refine nil4_use b1 (w1.heap.size + 1 + 1) 29 ?_ ?_); (focus (first | exact bk_drew (bk_at3 _ _ _ _ _))); (intro qc))); go_split_ands; have bb : Below w1.heap.size w1 wn := Below.trans (by assumption) (b1.mono (Below.size (by assumption)))))
    all_goals
      go_split_ands
      have hs := b1.size
      simp only [alloc_size, drew_size] at hs
      rw [HR.out]
      refine ⟨rfl, _, _, _, _, _, rfl, ?_, ?_, ?_, ?_, ?_, ?_, ?_, ?_, ?_⟩
      · repeat' (first | with_reducible refine bk_drew ?_ | ((with_reducible refine bk_at ?_); (simp only [alloc_size, drew_size, setCell_size]; done)) | with_reducible refine bk_alloc ?_ _ | with_reducible refine set4_nil ?_ | ((with_reducible refine bk_set4 ?_ ?_); (focus omega)) | with_reducible refine Bk.below ?_ b1)
      · repeat' (first | with_reducible refine bk_drew ?_ | ((with_reducible refine bk_at ?_); (simp only [alloc_size, drew_size, setCell_size]; done)) | with_reducible refine bk_alloc ?_ _ | with_reducible refine set4_nil ?_ | ((with_reducible refine bk_set4 ?_ ?_); (focus omega)) | with_reducible refine Bk.below ?_ b1)
      · repeat' (first | with_reducible refine bk_drew ?_ | ((with_reducible refine bk_at ?_); (simp only [alloc_size, drew_size, setCell_size]; done)) | with_reducible refine bk_alloc ?_ _ | with_reducible refine set4_nil ?_ | ((with_reducible refine bk_set4 ?_ ?_); (focus omega)) | with_reducible refine Bk.below ?_ b1)
      · repeat (with_reducible refine World.ownsRow.alloc ?_ _)
        first
          | exact own_base o1 (by simp only [alloc_size, drew_size]; omega)
          | exact own_base (own_kp o1 (set4_kp _ _ _ _ (by simp only [alloc_size, drew_size]; omega))) (by simp only [alloc_size, drew_size]; omega)
      · omega
      · omega
      · omega
      · assumption
      · intro q hq hv
        have e : _ = q := Option.some.inj hq
        have hlt := o1.lt q hv
        simp only [alloc_size, drew_size] at hlt e
        omega

theorem nstart_yes (u : Un) (vi vr vc : Value) (w : World) (hu : UnD w vi vr vc u) (hs : ShortU u) (hr : rightU u = true) :
    Calls Try.prog 25 #[.agg #[.int .i64 u.mod, vi, vr, vc]] w fun e w' => ∃ (c : Cf) (xp xr xm xb : Value), e = .returned (.tuple #[.agg #[xp, xr, xm, xb], .int .i64 0]) ∧ OwnC w' w.heap.size xp xr xm xb c ∧ c.pf = startP u ∧ Below w.heap.size w w' := by
  refine (nstart_dj u vi vr vc w hu hs hr).mono ?_
  rintro e w' ⟨c, xp, xr, xm, xb, h1, h2, h3, h4, _⟩
  exact ⟨c, xp, xr, xm, xb, h1, h2, h3, h4⟩

end Go.Proofs.Ytmkgijedchpgcaa
