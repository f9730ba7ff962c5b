/- Layer 8: Pop. Layer 8: Last. -/
import Derived.Test.YtacbanfnakgecaaGreatXa
import Derived.Test.YtacbanfnakgecaaGreatXe
import Derived.RangeFuncNested
import Derived.RangeFuncBound
import Derived.RangeFuncCalls
import Derived.RangeFuncLeaves
import Derived.Shelf.Abstract
import Derived.Shelf.RegionOpen
import Derived.WalkKit
import Derived.OwnWalkIn
import Derived.TacticsInMore
import Derived.LoopNIn
import Derived.LoopIn
namespace Go.Proofs.YtacbanfnakgecaaGreat
set_option linter.unusedSimpArgs false
set_option linter.unusedVariables false
open Go.RowKit
def popL (l : List Ent) (model loc : Int) : List Ent × Ent × Bool :=
  if oldL l model loc < 0 then (l, (0, 0), false) else (l.take (oldL l model loc).toNat ++ l.drop ((oldL l model loc).toNat + 1), l.getD (oldL l model loc).toNat (0, 0), true)
theorem cell_other2 {w : World} {b g : Nat} (h : b ≠ g) (o : Nat) (u v : Value) : ((w.setCell ⟨g, 0, none⟩ u).setCell ⟨g, 1, none⟩ v).cell? ⟨b, o, none⟩ = w.cell? ⟨b, o, none⟩ :=
  (World.cell?_of_block (a := ⟨b, o, none⟩) (Below.heap_setCell _ ⟨g, 1, none⟩ v b h)).trans (World.cell?_of_block (a := ⟨b, o, none⟩) (Below.heap_setCell _ ⟨g, 0, none⟩ u b h))
theorem Bk.set2 {w : World} {b T : Nat} {y0 y1 : Value} (h : Bk w b T #[y0, y1]) (x0 x1 : Value) : Bk ((w.setCell ⟨b, 0, none⟩ x0).setCell ⟨b, 1, none⟩ x1) b T #[x0, x1] := by
  have := (h.set 0 x0).set 1 x1
  simpa using this
theorem results_pop {fn : Func} {t p q : Tmp} (h : fn.results = #[.tmp t, .cell p 70, .tmp q]) (tmps : Array Value) (w : World) (b : Nat) (u0 u1 z1 z2 : Value) (hp : tmps.getD p undef = .pointer (some ⟨b, 0, none⟩)) (h1 : tmps.getD t undef = z1) (h2 : tmps.getD q undef = z2) (hb : Bk w b 70 #[u0, u1]) :
    (results fn tmps).run Tryz.prog w = .ok (.tuple #[z1, .agg #[u0, u1], z2]) w := by
  subst h1; subst h2
  have y0 := hb.cell 0
  have y1 := hb.cell 1
  have hp2 : tmps[p]?.getD undef = .pointer (some ⟨b, 0, none⟩) := by simpa using hp
  simp only [results, h]
  simp [hp2, go_sem, y0, y1]
set_option maxRecDepth 100000 in
set_option maxHeartbeats 2000000 in
theorem pop_own (l : List Ent) (v : Value) (model loc : Int) (w : World) (hv : EntsD w v l) (hn : l.length ≤ 100000) (z : List Ent) (x y : Int) (q : Bool) (hz : popL l model loc = (z, (x, y), q)) :
    Calls Tryz.prog 73 #[v, .int .i64 model, .int .i64 loc] w fun e w' => ∃ v', e = .returned (.tuple #[v', .agg #[.int .i64 x, .int .i64 y], .bool q]) ∧ OwnJ w' w.heap.size v' z ∧ Below w.heap.size w w' := by
  obtain ⟨i, hi⟩ : ∃ i, oldL l model loc = i := ⟨_, rfl⟩
  have hr := oldL_range l model loc
  unfold popL at hz
  rw [hi] at hr hz
  have HV := Lib.hid hv
  have H1 := Lib.hid (fun W (hb : Below w.heap.size w W) => oldest_any l v model loc W (EntsD.below HV.out hb) hn i hi)
  have K0 := Lib.hid (Bk.new w 70 #[.int .i64 0, .int .i64 0])
  have L0 : Hid (Below w.heap.size w (w.alloc (.cells #[.int .i64 0, .int .i64 0] 70))) := (Below.refl _ _).alloc (Nat.le_refl _) _
  have HJ := Lib.hid (fun W (hb : Below w.heap.size w W) => joined_any l [] v _ W (EntsD.below HV.out hb) SlD.nil hn (by decide))
  rw [List.append_nil] at HJ
  obtain ⟨ad, cap, rfl, hc1, hc2⟩ := hv.shape
  rcases hr with hr | hr
  · subst hr
    rw [if_pos (by decide)] at hz
    obtain ⟨rfl, hz2⟩ := Prod.mk.inj hz
    obtain ⟨hz3, rfl⟩ := Prod.mk.inj hz2
    obtain ⟨rfl, rfl⟩ := Prod.mk.inj hz3
    clear hz hz2 hz3 hv hi
    generalize l.length = n at H1 HJ HV
    go_enter Tryz.func73, Tryz.ntmps73
    go_wp2_with fail
    generalize w.alloc _ = w0 at K0 L0 ⊢
    refine (H1.out w0 L0.out).mono ?_
    rintro e w1 ⟨rfl, b1⟩
    have K1 := Lib.hid (K0.out.below b1)
    have B1 := Lib.hid (L0.out.trans (b1.mono L0.out.size))
    clear b1
    go_wp2_with fail
    refine (HJ.out _ B1.out).mono ?_
    rintro e w2 ⟨g2, n2, rfl, hg2, d2, b2⟩
    have D2 := Lib.hid d2
    have K2 := K1.out.below b2
    have B2 := Lib.hid (B1.out.trans (b2.mono B1.out.size))
    have hne := Lib.hid (show g2 ≠ w.heap.size by have := K1.out.lt; omega)
    have c0 : w2.cell? ⟨w.heap.size, 0, none⟩ = some (.int .i64 0) := K2.cell 0
    have c1 : w2.cell? ⟨w.heap.size, 1, none⟩ = some (.int .i64 0) := K2.cell 1
    have f0 : w2.frozen? ⟨w.heap.size, 0, none⟩ = false := K2.fz 0
    have f1 : w2.frozen? ⟨w.heap.size, 1, none⟩ = false := K2.fz 1
    have hlt := K2.lt
    clear d2 b2
    go_wp2
    refine bodyPost_ret (v := .tuple #[.slice (some ⟨g2, 0, none⟩) n2 n2, .agg #[.int .i64 0, .int .i64 0], .bool false]) (results_pop rfl _ _ _ _ _ _ _ rfl rfl rfl (K2.set2 _ _)) rfl ⟨_, rfl, ?_, ?_⟩
    · exact OwnJ.base ((D2.out.other hne.out _).other hne.out _) B1.out.size
    · exact (B2.out.setCell (p := ⟨w.heap.size, 0, none⟩) (Nat.le_refl _) _).setCell (p := ⟨w.heap.size, 1, none⟩) (Nat.le_refl _) _
  · obtain ⟨k, rfl⟩ : ∃ k : Nat, i = (k : Int) := ⟨i.toNat, by omega⟩
    have hkl : k < l.length := by omega
    rw [if_neg (by omega)] at hz
    obtain ⟨hz1, hz2⟩ := Prod.mk.inj hz
    obtain ⟨hz3, rfl⟩ := Prod.mk.inj hz2
    rw [Int.toNat_natCast] at hz1 hz3
    have hcut := SlD.drop HV.out k 2 rfl (Nat.le_of_lt hkl)
    have hHC := fun W => cut_any ad l.length cap k (Nat.le_of_lt hkl) hc1 W
    obtain ⟨ad2, n2, cap2, hs⟩ : ∃ ad2 n2 cap2, sliced ad k l.length cap 2 = .slice ad2 n2 cap2 := ⟨_, _, _, rfl⟩
    rw [hs] at hcut hHC
    have HCT := Lib.hid hcut
    have HC := Lib.hid hHC
    have hdl : (l.drop k).length = n2 := by
      obtain ⟨a', c', hv', _⟩ := hcut.shape
      injection hv' with _ e2 _
      exact e2.symm
    have hd0 : (l.drop k).length = l.length - k := List.length_drop
    have hn2 : 0 < n2 := by omega
    have hnc : n2 ≤ cap2 ∧ cap2 ≤ 9223372036854775807 := by
      obtain ⟨a', c', hv', h1, h2⟩ := hcut.shape
      injection hv' with _ e2 e3
      subst e3; omega
    have hE : l.getD k (0, 0) = l[k] := by rw [List.getD_eq_getElem?_getD, List.getElem?_eq_getElem hkl]; rfl
    rw [hE] at hz3
    obtain ⟨b, off, hab, hbl, y0, y1⟩ : ∃ b off, ad2 = some ⟨b, off, none⟩ ∧ b < w.heap.size ∧ w.cell? ⟨b, off, none⟩ = some (.int .i64 x) ∧ w.cell? ⟨b, off + 1, none⟩ = some (.int .i64 y) := by
      obtain ⟨a', c', hv', _, _, hc⟩ := hcut
      injection hv' with e1 _ _
      obtain ⟨b, off, he, hl, x0, x1⟩ := hc 0 (by omega)
      rw [List.getElem_drop, Nat.zero_mul, Nat.add_zero] at x0 x1
      simp only [Nat.add_zero] at x0 x1
      rw [hz3] at x0 x1
      exact ⟨b, off, by rw [e1, he], hl, x0, x1⟩
    subst hab
    have HJ2 := Lib.hid (fun W (hb : Below w.heap.size w W) => joined_any (l.take k) (l.drop (k + 1)) (.slice ad k k) (sliced (some ⟨b, off, none⟩) 1 n2 cap2 2) W
      (SlD.take (EntsD.below HV.out hb) k k (Nat.le_of_lt hkl) (Nat.le_refl _) (by omega)) (by have := SlD.drop (EntsD.below HCT.out hb) 1 2 rfl hn2; rw [List.drop_drop] at this; exact this) (by rw [List.length_take]; omega) (by rw [List.length_drop]; omega))
    rw [hz1] at HJ2
    obtain ⟨n, hN⟩ : ∃ n, n = l.length := ⟨_, rfl⟩
    rw [← hN] at H1 HJ HV HC hn hr ⊢
    have hkn : k < n := by omega
    have g0 : (0 : Int) ≤ (k : Int) := Int.natCast_nonneg _
    have g1 : (0 : Int) < (n2 : Int) := by omega
    have g2 : (1 : Int) ≤ (n2 : Int) := by omega
    have g3 : ¬ ((k : Int) < 0) := by omega
    clear hv hi hz hz1 hz2 hz3 hcut hHC hs hdl hd0 hE hN hr hkl hc1
    go_enter Tryz.func73, Tryz.ntmps73
    go_wp2_with fail
    generalize w.alloc _ = w0 at K0 L0 ⊢
    refine (H1.out w0 L0.out).mono ?_
    rintro e w1 ⟨rfl, b1⟩
    have K1 := Lib.hid (K0.out.below b1)
    have B1 := Lib.hid (L0.out.trans (b1.mono L0.out.size))
    clear b1
    go_wp2_with fail
    refine (HC.out w1).mono ?_
    rintro e w2 ⟨rfl, b2⟩
    have K2 := Lib.hid (K1.out.below b2)
    have B2 := Lib.hid (B1.out.trans (b2.mono B1.out.size))
    have c0 : w2.cell? ⟨b, off, none⟩ = some (.int .i64 x) := (B2.out.cell (p := ⟨b, _, none⟩) hbl).trans y0
    have c1 : w2.cell? ⟨b, off + 1, none⟩ = some (.int .i64 y) := (B2.out.cell (p := ⟨b, _, none⟩) hbl).trans y1
    have hbne : b ≠ w.heap.size := by omega
    have hbne2 : ¬ b = w.heap.size := hbne
    have HG := Lib.hid (HJ2.out w2.drew B2.out.drew)
    have BD : Hid (Below w.heap.size w w2.drew) := B2.out.drew
    have KD : Hid (Bk w2.drew w.heap.size 70 #[.int .i64 0, .int .i64 0]) := K2.out
    have hK2 := K2.out.lt
    clear b2 K1 K0 L0 B1 HJ2 HJ H1 HC HCT
    by_cases hcp : cap2 = 1
    · have hn1 : n2 = 1 := by omega
      subst hn1
      subst hcp
      rw [show sliced (some ⟨b, off, none⟩) 1 1 1 2 = .slice (some ⟨b, off, none⟩) 0 0 from rfl] at HG
      go_wp2_with fail
      go_region_held3 (fun w' => w'.cell? ⟨b, off, none⟩ = some (.int .i64 x) ∧ w'.cell? ⟨b, off + 1, none⟩ = some (.int .i64 y))
        (first | exact ⟨c0, c1⟩ | assumption | exact ⟨e0, e1⟩ | exact ⟨(cell_other2 hbne _ _ _).trans e0, (cell_other2 hbne _ _ _).trans e1⟩)
        ((first
          | (go_split_ands; (with_reducible refine Calls.mono HG.out ?_); rintro e wn ⟨g2, m2, rfl, hg2, dn, bn⟩; have bb := Lib.hid (BD.out.trans (bn.mono BD.out.size)); have kn := Lib.hid (KD.out.below bn); have e0 := (bb.out.cell (p := ⟨b, off, none⟩) hbl).trans y0; have e1 := (bb.out.cell (p := ⟨b, off + 1, none⟩) hbl).trans y1; have d0 := kn.out.cell 0; have d1 := kn.out.cell 1; have f0 := kn.out.fz 0; have f1 := kn.out.fz 1; have DN := Lib.hid dn; have hgn := Lib.hid hg2; clear dn bn hg2)))
      have NE := Lib.hid (show g2 ≠ w.heap.size by have h1 := hgn.out; have h2 : w2.drew.heap.size = w2.heap.size := rfl; omega)
      have KN := Lib.hid (kn.out.set2 (.int .i64 x) (.int .i64 y))
      have DZ := Lib.hid (OwnJ.base ((DN.out.other (p := 0) NE.out (.int .i64 x)).other (p := 1) NE.out (.int .i64 y)) BD.out.size)
      have BZ := Lib.hid ((bb.out.setCell (p := ⟨w.heap.size, 0, none⟩) (Nat.le_refl _) (.int .i64 x)).setCell (p := ⟨w.heap.size, 1, none⟩) (Nat.le_refl _) (.int .i64 y))
      go_wp2
      exact bodyPost_ret (v := .tuple #[.slice (some ⟨g2, 0, none⟩) m2 m2, .agg #[.int .i64 x, .int .i64 y], .bool true]) (results_pop rfl _ _ _ _ _ _ _ rfl rfl rfl KN.out) rfl ⟨_, rfl, DZ.out, BZ.out⟩
    · rw [show sliced (some ⟨b, off, none⟩) 1 n2 cap2 2 = .slice (some ⟨b, off + 2, none⟩) (n2 - 1) (cap2 - 1) by unfold sliced; rw [if_neg hcp]; show Value.slice (some ((⟨b, off, none⟩ : Addr).add (1 * 2))) _ _ = _; rw [addr_add']] at HG
      go_wp2_with fail
      go_region_held3 (fun w' => w'.cell? ⟨b, off, none⟩ = some (.int .i64 x) ∧ w'.cell? ⟨b, off + 1, none⟩ = some (.int .i64 y))
        (first | exact ⟨c0, c1⟩ | assumption | exact ⟨e0, e1⟩ | exact ⟨(cell_other2 hbne _ _ _).trans e0, (cell_other2 hbne _ _ _).trans e1⟩)
        ((first
          | (go_split_ands; (with_reducible refine Calls.mono HG.out ?_); rintro e wn ⟨g2, m2, rfl, hg2, dn, bn⟩; have bb := Lib.hid (BD.out.trans (bn.mono BD.out.size)); have kn := Lib.hid (KD.out.below bn); have e0 := (bb.out.cell (p := ⟨b, off, none⟩) hbl).trans y0; have e1 := (bb.out.cell (p := ⟨b, off + 1, none⟩) hbl).trans y1; have d0 := kn.out.cell 0; have d1 := kn.out.cell 1; have f0 := kn.out.fz 0; have f1 := kn.out.fz 1; have DN := Lib.hid dn; have hgn := Lib.hid hg2; clear dn bn hg2)))
      have NE := Lib.hid (show g2 ≠ w.heap.size by have h1 := hgn.out; have h2 : w2.drew.heap.size = w2.heap.size := rfl; omega)
      have KN := Lib.hid (kn.out.set2 (.int .i64 x) (.int .i64 y))
      have DZ := Lib.hid (OwnJ.base ((DN.out.other (p := 0) NE.out (.int .i64 x)).other (p := 1) NE.out (.int .i64 y)) BD.out.size)
      have BZ := Lib.hid ((bb.out.setCell (p := ⟨w.heap.size, 0, none⟩) (Nat.le_refl _) (.int .i64 x)).setCell (p := ⟨w.heap.size, 1, none⟩) (Nat.le_refl _) (.int .i64 y))
      go_wp2
      exact bodyPost_ret (v := .tuple #[.slice (some ⟨g2, 0, none⟩) m2 m2, .agg #[.int .i64 x, .int .i64 y], .bool true]) (results_pop rfl _ _ _ _ _ _ _ rfl rfl rfl KN.out) rfl ⟨_, rfl, DZ.out, BZ.out⟩
end Go.Proofs.YtacbanfnakgecaaGreat

namespace Go.Proofs.YtacbanfnakgecaaGreat
set_option linter.unusedSimpArgs false
set_option linter.unusedVariables false
open Go.RowKit
attribute [local go_sem] Oper.semAt_some
def uptoF {α : Type} (f : Nat → α) (k : Nat) : List α := (List.range k).map f
theorem uptoF_succ {α : Type} (f : Nat → α) (k : Nat) : uptoF f (k + 1) = uptoF f k ++ [f k] := by simp [uptoF, List.range_succ]
theorem uptoF_len {α : Type} (f : Nat → α) (k : Nat) : (uptoF f k).length = k := by simp [uptoF]
def bwF (l : List Ent) (j : Nat) : Int × Ent := ((l.length : Int) - 1 - j, l.reverse.getD j (0, 0))
theorem bwF_map (l : List Ent) (k : Nat) (hk : k ≤ l.length) : (uptoF (bwF l) k).map (·.2) = l.reverse.take k := by
  apply List.ext_getElem
  · simp [uptoF]; omega
  · intro i h1 h2
    have : i < l.length := by simp [uptoF] at h1; omega
    simp [uptoF, bwF, List.getD_eq_getElem?_getD, this]
def KpB (n₀ Bs : Nat) (A B : World) : Prop := Below n₀ A B ∧ B.heap[Bs]? = A.heap[Bs]?
theorem KpB.trans {n₀ Bs : Nat} {A B C : World} (h : KpB n₀ Bs A B) (k : KpB n₀ Bs B C) : KpB n₀ Bs A C := ⟨h.1.trans k.1, k.2.trans h.2⟩
theorem KpB.refl (n₀ Bs : Nat) (A : World) : KpB n₀ Bs A A := ⟨Below.refl _ _, rfl⟩
theorem bk_from {β : Type} (B b T : Nat) (cs : Array Value) : OwnFrom B (fun (_ : β) W => Bk W b T cs) := fun s W W' row hs hg hr =>
  (hg.block b (Bk.lt hs) (fun e => by
    obtain ⟨_, o, ho, hc⟩ := hr b e.symm
    have hs2 : W.heap[b]? = some (.cells cs T (0, 0)) := hs
    rw [hs2] at ho
    injection ho with ho
    subst ho
    simp [Obj.isCells] at hc)).trans hs
set_option maxRecDepth 100000 in
set_option maxHeartbeats 2000000 in
theorem bwd_stops (F : Fence) (n : Nat) (h31 : F.fn 105) (hro : F.round = none) (hn : 1 ≤ n) (Bs n₀ : Nat) (sv : Value) (l : List Ent) (hlen : l.length ≤ 100000) (w : World) (hn₀ : n₀ ≤ w.heap.size)
    (hc : Bk w Bs 51 #[sv]) (hD : ∃ ad cap, sv = .slice ad l.length cap ∧ ∀ i, (hi : i < l.length) → ∃ b off, ad = some ⟨b, off, none⟩ ∧ b < n₀ ∧ EntAt w b (off + i * 2) l[i]) :
    SeqStopsK F n Tryz.prog 105 #[.pointer (some ⟨Bs, 0, none⟩)] (fun x : Int × Ent => #[.int .i64 x.1, .agg #[.int .i64 x.2.1, .int .i64 x.2.2]]) (KpB n₀ Bs)
      (fun ys => ys = uptoF (bwF l) l.length) (fun pre => ∃ k, k ≤ l.length ∧ pre = uptoF (bwF l) k) l.length w := fun lp J Jx W hW _ _ hY h0 => by
  have hcW := hc.below hW
  obtain ⟨ad, cap, rfl, hcs⟩ := hD
  have HC := Lib.hid (fun i hi => by obtain ⟨b, off, he, hb, x⟩ := hcs i hi; exact (⟨b, off, he, hb, (hW.cell (p := ⟨b, _, none⟩) (Nat.lt_of_lt_of_le hb hn₀)).trans x.1, (hW.cell (p := ⟨b, _, none⟩) (Nat.lt_of_lt_of_le hb hn₀)).trans x.2⟩ : ∃ b off, ad = some ⟨b, off, none⟩ ∧ b < n₀ ∧ EntAt W b (off + i * 2) l[i]))
  obtain ⟨len, hL⟩ : ∃ n, n = l.length := ⟨_, rfl⟩
  have HL := Lib.hid hL
  have HCW := Lib.hid hcW
  have HF := Lib.hid (fun k (hk : k < l.length) => (rfl : bwF l k = ((l.length : Int) - 1 - k, l.reverse.getD k (0, 0))))
  rw [← hL] at hlen hY hcW HCW HF ⊢
  have cB := hcW.cell 0
  simp only [List.getElem?_toArray, List.getElem?_cons_zero] at cB
  have ew0 : IntKind.i64.wrap ((len : Int) - 1) = (len : Int) - 1 := by rw [IntKind.wrap_i64]; omega
  clear hc hW hL hcs
  refine callsIn_of_wp Tryz.func105 rfl h31 ?_ hro
  simp only [Tryz.ntmps105, List.size_toArray, List.length_cons, List.length_nil, Nat.reduceAdd, Nat.reduceSub, Array.replicate_succ, Array.replicate_zero, List.push_toArray, List.append_toArray, List.nil_append, List.cons_append]
  gi_wp2
  gi_loopw [3] (fun i wr => ∃ k : Nat, k ≤ len ∧ i = .int .i64 ((len : Int) - 1 - k) ∧ J (uptoF (bwF l) k) wr ∧ KpB n₀ Bs W wr)
    (fun i _ => (intOf i + 1).toNat)
  case atStart => exact ⟨0, Nat.zero_le _, by simp, h0, KpB.refl _ _ _⟩
  case round =>
    obtain ⟨k, hk, rfl, hJs, hnx⟩ := hrel
    have HNX := Lib.hid hnx
    have cW : wr.cell? ⟨Bs, 0, none⟩ = some (.slice ad len cap) := (World.cell?_of_block (a := ⟨Bs, 0, none⟩) hnx.2).trans cB
    clear hnx
    by_cases hlt : k < len
    · obtain ⟨j, hj⟩ : ∃ j, len = k + j + 1 := ⟨len - 1 - k, by omega⟩
      have hjl : j < l.length := by have := HL.out; omega
      obtain ⟨b, off, rfl, hb, x0, x1⟩ := HC.out j hjl
      have hfk : bwF l k = ((j : Int), l[j]) := by
        have h1 : l.length = k + j + 1 := by have := HL.out; omega
        unfold bwF
        have h2 : ((l.length : Int) - 1 - k) = (j : Int) := by omega
        have h3 : l.reverse.getD k (0, 0) = l[j] := by
          rw [List.getD_eq_getElem?_getD, List.getElem?_reverse (by omega), show l.length - 1 - k = j by omega, List.getElem?_eq_getElem hjl]
          rfl
        rw [h2, h3]
      obtain ⟨⟨xl, xn⟩, hx⟩ : ∃ x, x = l[j] := ⟨_, rfl⟩
      rw [← hx] at x0 x1 hfk
      simp only [] at x0 x1
      have c0 : wr.cell? ⟨b, off + j * 2, none⟩ = some (.int .i64 xl) := (HNX.out.1.cell (p := ⟨b, _, none⟩) hb).trans x0
      have c1 : wr.cell? ⟨b, off + j * 2 + 1, none⟩ = some (.int .i64 xn) := (HNX.out.1.cell (p := ⟨b, _, none⟩) hb).trans x1
      obtain ⟨fn, tmps, assign, body, hy, hR⟩ := hY _ ((j : Int), (xl, xn)) wr hJs (by rw [uptoF_len]; exact hlt)
      dsimp only at hy
      rw [show ((len : Int) - 1 - k) = (j : Int) by omega]
      have g0 : (0 : Int) ≤ (j : Int) := Int.natCast_nonneg _
      have g1 : (j : Int) < (len : Int) := by omega
      have g2 : j < len := by omega
      have ew : IntKind.i64.wrap ((j : Int) - 1) = (j : Int) - 1 := by rw [IntKind.wrap_i64]; omega
      have HJ := Lib.hid hj
      have HFK := Lib.hid hfk
      clear hj hfk hx x0 x1 HF
      gi_wp2
      refine hR.mono ?_
      rintro e W3 (⟨rfl, hJ3, hk3⟩ | ⟨rfl, hJx3⟩)
      · gi_wp2
        go_roundw
        case rel =>
          refine ⟨k + 1, by omega, ?_, by rw [uptoF_succ, HFK.out]; exact hJ3, HNX.out.trans hk3⟩
          exact congrArg (Value.int IntKind.i64) (by have := HJ.out; omega)
        case measure => simp [intOf]
      · gi_wp2
        refine bodyPost_ret (results_none rfl _ _ _) rfl ?_
        exact ⟨⟨_, rfl⟩, .inr ⟨_, ⟨k + 1, by omega, by rw [uptoF_succ, HFK.out]⟩, hJx3⟩⟩
    · have hkl : k = len := by omega
      subst hkl
      rw [show ((k : Int) - 1 - k) = -1 by omega]
      gi_wp2
      go_end0
      exact ⟨⟨_, rfl⟩, .inl ⟨_, rfl, hJs⟩⟩
set_option maxHeartbeats 1000000 in
theorem back_in (F : Fence) (n : Nat) (h24 : F.fn 74) (hro : F.round = none) (a : Option Addr) (len cap : Nat) (w : World) :
    CallsIn F n Tryz.prog 74 #[.slice a len cap] w fun e w' => e = .returned (.func (.func 105) #[] #[.pointer (some ⟨w.heap.size, 0, none⟩)]) ∧ w' = w.alloc (.cells #[.slice a len cap] 51) := by
  refine callsIn_of_wp Tryz.func74 rfl h24 ?_ hro
  simp only [Tryz.ntmps74, List.size_toArray, List.length_cons, List.length_nil, Nat.reduceAdd, Nat.reduceSub, Array.replicate_succ, Array.replicate_zero, List.push_toArray, List.append_toArray, List.nil_append, List.cons_append]
  gi_wp2
  go_ret
  exact ⟨rfl, rfl⟩
def lastL (l : List Ent) (loc : Int) : Int × Bool := match l.reverse.find? fun e => decide (e.1 = loc) with
  | some e => (e.2, true)
  | none => (0, false)
theorem last_none (l : List Ent) (loc : Int) (h : ∀ y ∈ uptoF (bwF l) l.length, y.2.1 ≠ loc) : lastL l loc = (0, false) := by
  have h1 : l.reverse.find? (fun e => decide (e.1 = loc)) = none := by
    rw [List.find?_eq_none]
    intro e he
    have h2 := bwF_map l l.length (Nat.le_refl _)
    rw [List.take_of_length_le (by rw [List.length_reverse]; exact Nat.le_refl _)] at h2
    rw [← h2] at he
    obtain ⟨y, hy, rfl⟩ := List.mem_map.1 he
    simpa using h y hy
  unfold lastL
  rw [h1]
theorem last_some (l : List Ent) (loc : Int) (k : Nat) (hk : k ≤ l.length) (p0 : List (Int × Ent)) (x : Int × Ent) (he : uptoF (bwF l) k = p0 ++ [x]) (h : ∀ y ∈ p0, y.2.1 ≠ loc) (hx : x.2.1 = loc) : lastL l loc = (x.2.2, true) := by
  have h2 := bwF_map l k hk
  rw [he, List.map_append] at h2
  have h3 : l.reverse = (p0.map (·.2) ++ [x.2]) ++ l.reverse.drop k := by
    have := (List.take_append_drop k l.reverse).symm
    rw [← h2] at this
    exact this
  have h4 : (p0.map (·.2)).find? (fun e => decide (e.1 = loc)) = none := by
    rw [List.find?_eq_none]
    intro e he
    obtain ⟨y, hy, rfl⟩ := List.mem_map.1 he
    simpa using h y hy
  have h1 : l.reverse.find? (fun e => decide (e.1 = loc)) = some x.2 := by
    rw [h3, List.append_assoc, List.find?_append, h4]
    simp [hx]
  unfold lastL
  rw [h1]
theorem four_new (w : World) (t1 t2 t3 t4 : Nat) (c1 c2 c3 c4 : Array Value) (V : World) (hV : V = (((w.alloc (.cells c1 t1)).alloc (.cells c2 t2)).alloc (.cells c3 t3)).alloc (.cells c4 t4)) :
    Below w.heap.size w V ∧ Bk V w.heap.size t1 c1 ∧ Bk V (w.heap.size + 1) t2 c2 ∧ Bk V (w.heap.size + 1 + 1) t3 c3 ∧ Bk V (w.heap.size + 1 + 1 + 1) t4 c4 := by
  subst hV
  obtain ⟨a, b, c⟩ := two_new w t1 t2 c1 c2
  have s : ((w.alloc (.cells c1 t1)).alloc (.cells c2 t2)).heap.size = w.heap.size + 1 + 1 := by rw [alloc_size, alloc_size]
  generalize (w.alloc (.cells c1 t1)).alloc (.cells c2 t2) = w2 at a b c s ⊢
  obtain ⟨e, f, g⟩ := two_new w2 t3 t4 c3 c4
  rw [s] at f g
  exact ⟨a.trans (e.mono a.size), b.below e, c.below e, f, g⟩
theorem cells_keep (W : World) (b : Nat) (v : Value) {c T : Nat} {cs : Array Value} (h : Bk W c T cs) (hne : c ≠ b) : Bk (W.setCell ⟨b, 0, none⟩ v) c T cs := by
  unfold Bk at *
  rw [Below.heap_setCell _ ⟨b, 0, none⟩ _ _ hne]; exact h
theorem bk_put {W : World} {D c T : Nat} {cs : Array Value} {o : Obj} (h : Bk W c T cs) (hne : c ≠ D) : Bk (W.putObj D o) c T cs :=
  (World.putObj_heap_other hne).trans h
theorem results_last {fn : Func} {p q : Tmp} (h : fn.results = #[.cell p 3, .cell q 4]) (tmps : Array Value) (w : World) (b c : Nat) (u v : Value) (hp : tmps.getD p undef = .pointer (some ⟨b, 0, none⟩)) (hq : tmps.getD q undef = .pointer (some ⟨c, 0, none⟩)) (hb : Bk w b 3 #[u]) (hc : Bk w c 4 #[v]) :
    (results fn tmps).run Tryz.prog w = .ok (.tuple #[u, v]) w := by
  have y0 := hb.cell 0
  have y1 := hc.cell 0
  have hp2 : tmps[p]?.getD undef = .pointer (some ⟨b, 0, none⟩) := by simpa using hp
  have hq2 : tmps[q]?.getD undef = .pointer (some ⟨c, 0, none⟩) := by simpa using hq
  simp only [results, h]
  simp [hp2, hq2, go_sem, y0, y1]
set_option maxRecDepth 100000 in
set_option maxHeartbeats 4000000 in
theorem last_in (F : Fence) (n : Nat) (h10 : F.fn 55) (h24 : F.fn 74) (h31 : F.fn 105) (hro : F.round = none) (hn : 3 ≤ n)
    (ad : Option Addr) (cap : Nat) (l : List Ent) (loc : Int) (w : World) (hv : EntsD w (.slice ad l.length cap) l) (hlen : l.length ≤ 100000) :
    CallsIn F n Tryz.prog 55 #[.slice ad l.length cap, .int .i64 loc] w fun e w' => e = .returned (.tuple #[.int .i64 (lastL l loc).1, .bool (lastL l loc).2]) ∧ Below w.heap.size w w' := by
  have h1 : 1 ≤ n := by omega
  have hD : ∃ ad' cap', Value.slice ad l.length cap = .slice ad' l.length cap' ∧ ∀ i, (hi : i < l.length) → ∃ b off, ad' = some ⟨b, off, none⟩ ∧ b < w.heap.size ∧ EntAt w b (off + i * 2) l[i] := by
    obtain ⟨ad', cap', h, _, _, h3⟩ := hv
    exact ⟨ad', cap', h, h3⟩
  have HD := Lib.hid hD
  have HLN := Lib.hid hlen
  clear hv hD
  refine callsIn_of_wp_marks Tryz.func55 rfl h10 ?_ hro
  simp only [Tryz.ntmps55, List.size_toArray, List.length_cons, List.length_nil, Nat.reduceAdd, Nat.reduceSub, Array.replicate_succ, Array.replicate_zero, List.push_toArray, List.append_toArray, List.nil_append, List.cons_append]
  gi_wp2_with (gi_at_call 74; refine (back_in F (n - 1) h24 hro _ _ _ _).mono ?_; rintro e w' ⟨rfl, rfl⟩)
  have T := Lib.hid (four_new w 3 3 4 51 #[.int .i64 loc] #[.int .i64 0] #[.bool false] #[.slice ad l.length cap] _ rfl)
  generalize (((w.alloc _).alloc _).alloc _).alloc _ = V at T ⊢
  obtain ⟨hB, k0, k1, k2, k3⟩ := T.out
  have hs0 := hB.size
  have hs3 := k3.lt
  have OB := @ownFrom_below (List (Int × Ent)) w.heap.size V.heap.size w (Nat.le_refl _) hs0
  refine wpIn_rangeFunc_ownH hro h1 (gf := 105) (lb := #[.pointer (some ⟨w.heap.size + 1 + 1 + 1, 0, none⟩)]) rfl h31 (enters_of Tryz.func105 (by kernel_rfl) rfl)
    (bwd_stops F (n - 1) h31 hro (by omega) (w.heap.size + 1 + 1 + 1) w.heap.size _ l HLN.out V hs0 k3 (by
      obtain ⟨ad', cap', h, h3⟩ := HD.out
      exact ⟨ad', cap', h, fun i hi => by obtain ⟨b, off, he, hb, x0, x1⟩ := h3 i hi; exact ⟨b, off, he, hb, (hB.cell (p := ⟨b, _, none⟩) hb).trans x0, (hB.cell (p := ⟨b, _, none⟩) hb).trans x1⟩⟩))
    KpB.trans (fun W lp o o' hl ho h1 h2 => ⟨belowK_b hs0 W lp o o' hl ho h1 h2, World.putObj_heap_other (by omega)⟩) (Below.refl _ _) (fun _ => rfl)
    (fun pre W => ((∀ y ∈ pre, y.2.1 ≠ loc) ∧ Bk W w.heap.size 3 #[.int .i64 loc] ∧ Bk W (w.heap.size + 1) 3 #[.int .i64 0] ∧ Bk W (w.heap.size + 1 + 1) 4 #[.bool false] ∧ Bk W (w.heap.size + 1 + 1 + 1) 51 #[.slice ad l.length cap]) ∧ Below w.heap.size w W)
    (fun c pre W => (c = .ret ∧ ∃ p0 x, pre = p0 ++ [x] ∧ (∀ y ∈ p0, y.2.1 ≠ loc) ∧ x.2.1 = loc ∧ Bk W (w.heap.size + 1) 3 #[.int .i64 x.2.2] ∧ Bk W (w.heap.size + 1 + 1) 4 #[.bool true]) ∧ Below w.heap.size w W)
    (fun s W W' row hs hg hr => ⟨⟨hs.1.1, bk_from (β := Unit) V.heap.size _ _ _ () W W' row hs.1.2.1 hg hr, bk_from (β := Unit) V.heap.size _ _ _ () W W' row hs.1.2.2.1 hg hr, bk_from (β := Unit) V.heap.size _ _ _ () W W' row hs.1.2.2.2.1 hg hr, bk_from (β := Unit) V.heap.size _ _ _ () W W' row hs.1.2.2.2.2 hg hr⟩, OB s W W' row hs.2 hg hr⟩)
    (fun c s W W' row hs hg hr => by
      obtain ⟨⟨hc, p0, x, h1, h2, h3, h4, h5⟩, h6⟩ := hs
      exact ⟨⟨hc, p0, x, h1, h2, h3, bk_from (β := Unit) V.heap.size _ _ _ () W W' row h4 hg hr, bk_from (β := Unit) V.heap.size _ _ _ () W W' row h5 hg hr⟩, OB s W W' row h6 hg hr⟩)
    ⟨⟨by simp, k0, k1, k2, k3⟩, hB⟩
    (fun x a' W => ∃ Bx, Bk W Bx 70 #[.int .i64 x.2.1, .int .i64 x.2.2] ∧ a' = { tmps := #[.slice ad l.length cap, .int .i64 loc, undef, .pointer (some ⟨w.heap.size, 0, none⟩), .pointer (some ⟨w.heap.size + 1, 0, none⟩), .pointer (some ⟨w.heap.size + 1 + 1, 0, none⟩), undef, .pointer (some ⟨Bx, 0, none⟩), .slice ad l.length cap, .func (.func 105) #[] #[.pointer (some ⟨w.heap.size + 1 + 1 + 1, 0, none⟩)], .int .i64 x.1, .agg #[.int .i64 x.2.1, .int .i64 x.2.2], undef, undef, undef, undef, undef, undef], defers := [] })
    (fun x a' s W W' row hs hg hr => by obtain ⟨Bx, hb, he⟩ := hs; exact ⟨Bx, bk_from (β := Unit) V.heap.size _ _ _ () W W' row hb hg hr, he⟩) ?assign ?body ?done ?stop
  case assign =>
    rintro lp pre x W K ⟨⟨hp, b0, b1, b2, b3⟩, hBW⟩ hK
    gi_wp2
    exact hK _ _ ((KeepsOthers.alloc _ _).from _) ⟨(Below.refl _ W).alloc hBW.size _, Below.heap_alloc W _ _ b3.lt⟩ ⟨⟨hp, b0.below ((Below.refl _ W).alloc (Nat.le_refl _) _), b1.below ((Below.refl _ W).alloc (Nat.le_refl _) _), b2.below ((Below.refl _ W).alloc (Nat.le_refl _) _), b3.below ((Below.refl _ W).alloc (Nat.le_refl _) _)⟩, hBW.alloc hBW.size _⟩ ⟨W.heap.size, Bk.new W _ _, rfl⟩
  case body =>
    rintro lp pre x a' W hl ⟨r, hr⟩ ⟨⟨hp, b0, b1, b2, b3⟩, hBW⟩ ⟨Bx, bX, rfl⟩ hlt
    have c0 : W.cell? ⟨w.heap.size, 0, none⟩ = some (.int .i64 loc) := b0.cell 0
    have c1 : W.cell? ⟨w.heap.size + 1, 0, none⟩ = some (.int .i64 0) := b1.cell 0
    have c2 : W.cell? ⟨w.heap.size + 1 + 1, 0, none⟩ = some (.bool false) := b2.cell 0
    have f1 := b1.fz 0
    have f2 := b2.fz 0
    have d0 : W.cell? ⟨Bx, 0, none⟩ = some (.int .i64 x.2.1) := bX.cell 0
    have d1 : W.cell? ⟨Bx, 1, none⟩ = some (.int .i64 x.2.2) := bX.cell 1
    by_cases hx : x.2.1 = loc
    · have q : (x.2.1 == loc) = true := by simpa using hx
      have HX := Lib.hid hx
      clear hx
      gi_wp2
      have e1 : Bk (W.setCell ⟨w.heap.size + 1, 0, none⟩ (.int .i64 x.2.2)) (w.heap.size + 1) 3 #[.int .i64 x.2.2] := by have := b1.set 0 (.int .i64 x.2.2); simpa using this
      have e2 : Bk ((W.setCell ⟨w.heap.size + 1, 0, none⟩ (.int .i64 x.2.2)).setCell ⟨w.heap.size + 1 + 1, 0, none⟩ (.bool true)) (w.heap.size + 1 + 1) 4 #[.bool true] := by have := (cells_keep W (w.heap.size + 1) (.int .i64 x.2.2) b2 (by omega)).set 0 (.bool true); simpa using this
      exact ⟨((KeepsOthers.setCell _ _ _).trans (KeepsOthers.setCell _ _ _)).from _, ⟨rfl, pre, x, rfl, hp, HX.out, cells_keep _ _ _ e1 (by omega), e2⟩, (hBW.setCell (p := ⟨w.heap.size + 1, 0, none⟩) (by simp) _).setCell (p := ⟨w.heap.size + 1 + 1, 0, none⟩) (by simp; omega) _⟩
    · have q : (x.2.1 == loc) = false := by simpa using hx
      have HX := Lib.hid hx
      clear hx
      gi_wp2
      exact ⟨KeepsFrom.refl _ _, KpB.refl _ _ _, ⟨⟨fun y hy => by rcases List.mem_append.1 hy with h | h; exact hp y h; rw [List.mem_singleton.1 h]; exact HX.out, b0, b1, b2, b3⟩, hBW⟩⟩
  case done =>
    rintro D xs W hD rfl ⟨⟨hp, b0, b1, b2, b3⟩, hBW⟩ hK
    have HN := Lib.hid (last_none l loc hp)
    have c1 : W.cell? ⟨w.heap.size + 1, 0, none⟩ = some (.int .i64 0) := b1.cell 0
    have c2 : W.cell? ⟨w.heap.size + 1 + 1, 0, none⟩ = some (.bool false) := b2.cell 0
    have f1 := b1.fz 0
    have f2 := b2.fz 0
    have hDn : w.heap.size + 1 + 1 + 1 < D := by omega
    clear hp
    gi_wp2
    have e1 : Bk (W.setCell ⟨w.heap.size + 1, 0, none⟩ (.int .i64 0)) (w.heap.size + 1) 3 #[.int .i64 0] := by have := b1.set 0 (.int .i64 0); simpa using this
    have e2 : Bk ((W.setCell ⟨w.heap.size + 1, 0, none⟩ (.int .i64 0)).setCell ⟨w.heap.size + 1 + 1, 0, none⟩ (.bool false)) (w.heap.size + 1 + 1) 4 #[.bool false] := by have := (cells_keep W (w.heap.size + 1) (.int .i64 0) b2 (by omega)).set 0 (.bool false); simpa using this
    have hne1 : w.heap.size + 1 ≠ D := by omega
    have hne2 : w.heap.size + 1 + 1 ≠ D := by omega
    have hK' : ((W.setCell ⟨w.heap.size + 1, 0, none⟩ (.int .i64 0)).setCell ⟨w.heap.size + 1 + 1, 0, none⟩ (.bool false)).heap[D]? = some (.deferred (some [])) := by
      rw [Below.heap_setCell _ ⟨w.heap.size + 1 + 1, 0, none⟩ _ _ (Ne.symm hne2), Below.heap_setCell _ ⟨w.heap.size + 1, 0, none⟩ _ _ (Ne.symm hne1)]
      exact hK
    refine ⟨by simp, .inl ⟨_, _, rfl, run_takeDeferred hK', ?_⟩⟩
    have bz : Below w.heap.size w ((W.setCell ⟨w.heap.size + 1, 0, none⟩ (.int .i64 0)).setCell ⟨w.heap.size + 1 + 1, 0, none⟩ (.bool false)) := (hBW.setCell (p := ⟨w.heap.size + 1, 0, none⟩) (by simp) _).setCell (p := ⟨w.heap.size + 1 + 1, 0, none⟩) (by simp; omega) _
    exact ⟨_, results_last rfl _ _ _ _ _ _ rfl rfl (bk_put (cells_keep _ _ _ e1 (by omega)) hne1) (bk_put e2 hne2), by rw [HN.out], bz.trans (belowK_b (w := w) (Nat.le_refl _) _ D _ _ (by omega) hK' rfl rfl)⟩
  case stop =>
    rintro D c pre W hD ⟨k, hk, rfl⟩ ⟨⟨rfl, p0, x, h1, h2, h3, h4, h5⟩, h6⟩ hK
    have HN := Lib.hid (last_some l loc k hk p0 x h1 h2 h3)
    have hDn : w.heap.size + 1 + 1 + 1 < D := by omega
    gi_wp2
    refine ⟨by simp, .inl ⟨_, _, rfl, run_takeDeferred hK, ?_⟩⟩
    have hne1 : w.heap.size + 1 ≠ D := by omega
    have hne2 : w.heap.size + 1 + 1 ≠ D := by omega
    refine ⟨_, results_last rfl _ _ _ _ _ _ rfl rfl (bk_put h4 hne1) (bk_put h5 hne2), by rw [HN.out], h6.trans (belowK_b (w := w) (Nat.le_refl _) W D _ _ (by omega) hK rfl rfl)⟩
theorem last_any (l : List Ent) (v : Value) (loc : Int) (w : World) (hv : EntsD w v l) (hn : l.length ≤ 100000) (x : Int) (q : Bool) (hz : lastL l loc = (x, q)) :
    Calls Tryz.prog 55 #[v, .int .i64 loc] w fun e w' => e = .returned (.tuple #[.int .i64 x, .bool q]) ∧ Below w.heap.size w w' := by
  obtain ⟨ad, cap, rfl, _⟩ := hv.shape
  have h := (callsIn_wide (n := 3)).1 (last_in Fence.wide 3 trivial trivial trivial rfl (Nat.le_refl _) ad cap l loc w hv hn)
  rw [hz] at h
  exact h
end Go.Proofs.YtacbanfnakgecaaGreat
