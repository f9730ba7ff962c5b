/- Layer 8: Pop. -/
import Derived.Test.YtponbnlhedigoaaSe
namespace Go.Proofs.Ytponbnlhedigoaa
open Go.RowKit

/-- What Pop makes. -/
def popL (l : List Ent) (model loc : Int) : List Ent × Ent × Bool :=
  if oldL l model loc < 0 then (l, (0, 0), false) else (l.take (oldL l model loc).toNat ++ l.drop ((oldL l model loc).toNat + 1), l.getD (oldL l model loc).toNat (0, 0), true)

theorem cell_other2 {w : World} {b g : Nat} (h : b ≠ g) (o : Nat) (u v : Value) : ((w.setCell ⟨g, 0, none⟩ u).setCell ⟨g, 1, none⟩ v).cell? ⟨b, o, none⟩ = w.cell? ⟨b, o, none⟩ :=
  (World.cell?_of_block (a := ⟨b, o, none⟩) (Below.heap_setCell _ ⟨g, 1, none⟩ v b h)).trans (World.cell?_of_block (a := ⟨b, o, none⟩) (Below.heap_setCell _ ⟨g, 0, none⟩ u b h))
theorem Bk.set {w : World} {b T : Nat} {cs : Array Value} (h : Bk w b T cs) (j : Nat) (u : Value) : Bk (w.setCell ⟨b, j, none⟩ u) b T (cs.setIfInBounds j u) := by
  unfold Bk at h
  have hlt := (Array.getElem?_eq_some_iff.1 h).1
  have hg := (Array.getElem?_eq_some_iff.1 h).2
  simp [Bk, World.setCell, Array.getElem?_modify, h]
theorem Bk.set2 {w : World} {b T : Nat} {y0 y1 : Value} (h : Bk w b T #[y0, y1]) (x0 x1 : Value) : Bk ((w.setCell ⟨b, 0, none⟩ x0).setCell ⟨b, 1, none⟩ x1) b T #[x0, x1] := by
  have := (h.set 0 x0).set 1 x1
  simpa using this
theorem results_pop {fn : Func} {t p q : Tmp} (h : fn.results = #[.tmp t, .cell p 25, .tmp q]) (tmps : Array Value) (w : World) (b : Nat) (u0 u1 z1 z2 : Value) (hp : tmps.getD p undef = .pointer (some ⟨b, 0, none⟩)) (h1 : tmps.getD t undef = z1) (h2 : tmps.getD q undef = z2) (hb : Bk w b 25 #[u0, u1]) :
    (results fn tmps).run Try.prog w = .ok (.tuple #[z1, .agg #[u0, u1], z2]) w := by
  subst h1; subst h2
  have y0 := hb.cell 0
  have y1 := hb.cell 1
  have hp2 : tmps[p]?.getD undef = .pointer (some ⟨b, 0, none⟩) := by simpa using hp
  simp only [results, h]
  simp [hp2, go_sem, y0, y1]

set_option maxRecDepth 100000 in
set_option maxHeartbeats 2000000 in
theorem pop_any (l : List Ent) (v : Value) (model loc : Int) (w : World) (hv : EntsD w v l) (hn : l.length ≤ 100000) (z : List Ent) (x y : Int) (q : Bool) (hz : popL l model loc = (z, (x, y), q)) :
    Calls Try.prog 12 #[v, .int .i64 model, .int .i64 loc] w fun e w' => ∃ v', e = .returned (.tuple #[v', .agg #[.int .i64 x, .int .i64 y], .bool q]) ∧ EntsD w' v' z ∧ Below w.heap.size w w' := by
  obtain ⟨i, hi⟩ : ∃ i, oldL l model loc = i := ⟨_, rfl⟩
  have hr := oldL_range l model loc
  unfold popL at hz
  rw [hi] at hr hz
  have HV := Lib.hid hv
  have H1 := Lib.hid (fun W (hb : Below w.heap.size w W) => oldest_any l v model loc W (EntsD.below HV.out hb) hn i hi)
  have K0 := Lib.hid (Bk.new w 25 #[.int .i64 0, .int .i64 0])
  have L0 : Hid (Below w.heap.size w (w.alloc (.cells #[.int .i64 0, .int .i64 0] 25))) := (Below.refl _ _).alloc (Nat.le_refl _) _
  have HJ := Lib.hid (fun W (hb : Below w.heap.size w W) => joined_any l [] v _ W (EntsD.below HV.out hb) SlD.nil hn (by decide))
  rw [List.append_nil] at HJ
  obtain ⟨ad, cap, rfl, hc1, hc2⟩ := hv.shape
  rcases hr with hr | hr
  · subst hr
    rw [if_pos (by decide)] at hz
    obtain ⟨rfl, hz2⟩ := Prod.mk.inj hz
    obtain ⟨hz3, rfl⟩ := Prod.mk.inj hz2
    obtain ⟨rfl, rfl⟩ := Prod.mk.inj hz3
    clear hz hz2 hz3 hv hi
    generalize l.length = n at H1 HJ HV
    go_enter Try.func12, Try.ntmps12
    go_wp2_with fail
    generalize w.alloc _ = w0 at K0 L0 ⊢
    refine (H1.out w0 L0.out).mono ?_
    rintro e w1 ⟨rfl, b1⟩
    have K1 := Lib.hid (K0.out.below b1)
    have B1 := Lib.hid (L0.out.trans (b1.mono L0.out.size))
    clear b1
    go_wp2_with fail
    refine (HJ.out _ B1.out).mono ?_
    rintro e w2 ⟨g2, n2, rfl, hg2, d2, b2⟩
    have D2 := Lib.hid d2
    have K2 := K1.out.below b2
    have B2 := Lib.hid (B1.out.trans (b2.mono B1.out.size))
    have hne := Lib.hid (show g2 ≠ w.heap.size by have := K1.out.lt; omega)
    have c0 : w2.cell? ⟨w.heap.size, 0, none⟩ = some (.int .i64 0) := K2.cell 0
    have c1 : w2.cell? ⟨w.heap.size, 1, none⟩ = some (.int .i64 0) := K2.cell 1
    have f0 : w2.frozen? ⟨w.heap.size, 0, none⟩ = false := K2.fz 0
    have f1 : w2.frozen? ⟨w.heap.size, 1, none⟩ = false := K2.fz 1
    have hlt := K2.lt
    clear d2 b2
    go_wp2
    refine bodyPost_ret (v := .tuple #[.slice (some ⟨g2, 0, none⟩) n2 n2, .agg #[.int .i64 0, .int .i64 0], .bool false]) (results_pop rfl _ _ _ _ _ _ _ rfl rfl rfl (K2.set2 _ _)) rfl ⟨_, rfl, ?_, ?_⟩
    · exact (D2.out.other hne.out _).other hne.out _
    · exact (B2.out.setCell (p := ⟨w.heap.size, 0, none⟩) (Nat.le_refl _) _).setCell (p := ⟨w.heap.size, 1, none⟩) (Nat.le_refl _) _
  · obtain ⟨k, rfl⟩ : ∃ k : Nat, i = (k : Int) := ⟨i.toNat, by omega⟩
    have hkl : k < l.length := by omega
    rw [if_neg (by omega)] at hz
    obtain ⟨hz1, hz2⟩ := Prod.mk.inj hz
    obtain ⟨hz3, rfl⟩ := Prod.mk.inj hz2
    rw [Int.toNat_natCast] at hz1 hz3
    have hcut := SlD.drop HV.out k 2 rfl (Nat.le_of_lt hkl)
    have hHC := fun W => cut_any ad l.length cap k (Nat.le_of_lt hkl) hc1 W
    obtain ⟨ad2, n2, cap2, hs⟩ : ∃ ad2 n2 cap2, sliced ad k l.length cap 2 = .slice ad2 n2 cap2 := ⟨_, _, _, rfl⟩
    rw [hs] at hcut hHC
    have HCT := Lib.hid hcut
    have HC := Lib.hid hHC
    have hdl : (l.drop k).length = n2 := by
      obtain ⟨a', c', hv', _⟩ := hcut.shape
      injection hv' with _ e2 _
      exact e2.symm
    have hd0 : (l.drop k).length = l.length - k := List.length_drop
    have hn2 : 0 < n2 := by omega
    have hnc : n2 ≤ cap2 ∧ cap2 ≤ 9223372036854775807 := by
      obtain ⟨a', c', hv', h1, h2⟩ := hcut.shape
      injection hv' with _ e2 e3
      subst e3; omega
    have hE : l.getD k (0, 0) = l[k] := by rw [List.getD_eq_getElem?_getD, List.getElem?_eq_getElem hkl]; rfl
    rw [hE] at hz3
    obtain ⟨b, off, hab, hbl, y0, y1⟩ : ∃ b off, ad2 = some ⟨b, off, none⟩ ∧ b < w.heap.size ∧ w.cell? ⟨b, off, none⟩ = some (.int .i64 x) ∧ w.cell? ⟨b, off + 1, none⟩ = some (.int .i64 y) := by
      obtain ⟨a', c', hv', _, _, hc⟩ := hcut
      injection hv' with e1 _ _
      obtain ⟨b, off, he, hl, x0, x1⟩ := hc 0 (by omega)
      rw [List.getElem_drop, Nat.zero_mul, Nat.add_zero] at x0 x1
      simp only [Nat.add_zero] at x0 x1
      rw [hz3] at x0 x1
      exact ⟨b, off, by rw [e1, he], hl, x0, x1⟩
    subst hab
    have HJ2 := Lib.hid (fun W (hb : Below w.heap.size w W) => joined_any (l.take k) (l.drop (k + 1)) (.slice ad k k) (sliced (some ⟨b, off, none⟩) 1 n2 cap2 2) W
      (SlD.take (EntsD.below HV.out hb) k k (Nat.le_of_lt hkl) (Nat.le_refl _) (by omega)) (by have := SlD.drop (EntsD.below HCT.out hb) 1 2 rfl hn2; rw [List.drop_drop] at this; exact this) (by rw [List.length_take]; omega) (by rw [List.length_drop]; omega))
    rw [hz1] at HJ2
    obtain ⟨n, hN⟩ : ∃ n, n = l.length := ⟨_, rfl⟩
    rw [← hN] at H1 HJ HV HC hn hr ⊢
    have hkn : k < n := by omega
    have g0 : (0 : Int) ≤ (k : Int) := Int.natCast_nonneg _
    have g1 : (0 : Int) < (n2 : Int) := by omega
    have g2 : (1 : Int) ≤ (n2 : Int) := by omega
    have g3 : ¬ ((k : Int) < 0) := by omega
    clear hv hi hz hz1 hz2 hz3 hcut hHC hs hdl hd0 hE hN hr hkl hc1
    go_enter Try.func12, Try.ntmps12
    go_wp2_with fail
    generalize w.alloc _ = w0 at K0 L0 ⊢
    refine (H1.out w0 L0.out).mono ?_
    rintro e w1 ⟨rfl, b1⟩
    have K1 := Lib.hid (K0.out.below b1)
    have B1 := Lib.hid (L0.out.trans (b1.mono L0.out.size))
    clear b1
    go_wp2_with fail
    refine (HC.out w1).mono ?_
    rintro e w2 ⟨rfl, b2⟩
    have K2 := Lib.hid (K1.out.below b2)
    have B2 := Lib.hid (B1.out.trans (b2.mono B1.out.size))
    have c0 : w2.cell? ⟨b, off, none⟩ = some (.int .i64 x) := (B2.out.cell (p := ⟨b, _, none⟩) hbl).trans y0
    have c1 : w2.cell? ⟨b, off + 1, none⟩ = some (.int .i64 y) := (B2.out.cell (p := ⟨b, _, none⟩) hbl).trans y1
    have hbne : b ≠ w.heap.size := by omega
    have hbne2 : ¬ b = w.heap.size := hbne
    have HG := Lib.hid (HJ2.out w2.drew B2.out.drew)
    have BD : Hid (Below w.heap.size w w2.drew) := B2.out.drew
    have KD : Hid (Bk w2.drew w.heap.size 25 #[.int .i64 0, .int .i64 0]) := K2.out
    have hK2 := K2.out.lt
    clear b2 K1 K0 L0 B1 HJ2 HJ H1 HC HCT
    by_cases hcp : cap2 = 1
    · have hn1 : n2 = 1 := by omega
      subst hn1
      subst hcp
      rw [show sliced (some ⟨b, off, none⟩) 1 1 1 2 = .slice (some ⟨b, off, none⟩) 0 0 from rfl] at HG
      go_wp2_with fail
      go_region_held3 (fun w' => w'.cell? ⟨b, off, none⟩ = some (.int .i64 x) ∧ w'.cell? ⟨b, off + 1, none⟩ = some (.int .i64 y))
        (first | exact ⟨c0, c1⟩ | assumption | exact ⟨e0, e1⟩ | exact ⟨(cell_other2 hbne _ _ _).trans e0, (cell_other2 hbne _ _ _).trans e1⟩)
        ((first
          | (go_split_ands; (with_reducible refine Calls.mono HG.out ?_); rintro e wn ⟨g2, m2, rfl, hg2, dn, bn⟩; have bb := Lib.hid (BD.out.trans (bn.mono BD.out.size)); have kn := Lib.hid (KD.out.below bn); have e0 := (bb.out.cell (p := ⟨b, off, none⟩) hbl).trans y0; have e1 := (bb.out.cell (p := ⟨b, off + 1, none⟩) hbl).trans y1; have d0 := kn.out.cell 0; have d1 := kn.out.cell 1; have f0 := kn.out.fz 0; have f1 := kn.out.fz 1; have DN := Lib.hid dn; have hgn := Lib.hid hg2; clear dn bn hg2)))
      have NE := Lib.hid (show g2 ≠ w.heap.size by have h1 := hgn.out; have h2 : w2.drew.heap.size = w2.heap.size := rfl; omega)
      have KN := Lib.hid (kn.out.set2 (.int .i64 x) (.int .i64 y))
      have DZ := Lib.hid ((DN.out.other (p := 0) NE.out (.int .i64 x)).other (p := 1) NE.out (.int .i64 y))
      have BZ := Lib.hid ((bb.out.setCell (p := ⟨w.heap.size, 0, none⟩) (Nat.le_refl _) (.int .i64 x)).setCell (p := ⟨w.heap.size, 1, none⟩) (Nat.le_refl _) (.int .i64 y))
      go_wp2
      exact bodyPost_ret (v := .tuple #[.slice (some ⟨g2, 0, none⟩) m2 m2, .agg #[.int .i64 x, .int .i64 y], .bool true]) (results_pop rfl _ _ _ _ _ _ _ rfl rfl rfl KN.out) rfl ⟨_, rfl, DZ.out, BZ.out⟩
    · rw [show sliced (some ⟨b, off, none⟩) 1 n2 cap2 2 = .slice (some ⟨b, off + 2, none⟩) (n2 - 1) (cap2 - 1) by unfold sliced; rw [if_neg hcp]; show Value.slice (some ((⟨b, off, none⟩ : Addr).add (1 * 2))) _ _ = _; rw [addr_add']] at HG
      go_wp2_with fail
      go_region_held3 (fun w' => w'.cell? ⟨b, off, none⟩ = some (.int .i64 x) ∧ w'.cell? ⟨b, off + 1, none⟩ = some (.int .i64 y))
        (first | exact ⟨c0, c1⟩ | assumption | exact ⟨e0, e1⟩ | exact ⟨(cell_other2 hbne _ _ _).trans e0, (cell_other2 hbne _ _ _).trans e1⟩)
        ((first
          | (go_split_ands; (with_reducible refine Calls.mono HG.out ?_); rintro e wn ⟨g2, m2, rfl, hg2, dn, bn⟩; have bb := Lib.hid (BD.out.trans (bn.mono BD.out.size)); have kn := Lib.hid (KD.out.below bn); have e0 := (bb.out.cell (p := ⟨b, off, none⟩) hbl).trans y0; have e1 := (bb.out.cell (p := ⟨b, off + 1, none⟩) hbl).trans y1; have d0 := kn.out.cell 0; have d1 := kn.out.cell 1; have f0 := kn.out.fz 0; have f1 := kn.out.fz 1; have DN := Lib.hid dn; have hgn := Lib.hid hg2; clear dn bn hg2)))
      have NE := Lib.hid (show g2 ≠ w.heap.size by have h1 := hgn.out; have h2 : w2.drew.heap.size = w2.heap.size := rfl; omega)
      have KN := Lib.hid (kn.out.set2 (.int .i64 x) (.int .i64 y))
      have DZ := Lib.hid ((DN.out.other (p := 0) NE.out (.int .i64 x)).other (p := 1) NE.out (.int .i64 y))
      have BZ := Lib.hid ((bb.out.setCell (p := ⟨w.heap.size, 0, none⟩) (Nat.le_refl _) (.int .i64 x)).setCell (p := ⟨w.heap.size, 1, none⟩) (Nat.le_refl _) (.int .i64 y))
      go_wp2
      exact bodyPost_ret (v := .tuple #[.slice (some ⟨g2, 0, none⟩) m2 m2, .agg #[.int .i64 x, .int .i64 y], .bool true]) (results_pop rfl _ _ _ _ _ _ _ rfl rfl rfl KN.out) rfl ⟨_, rfl, DZ.out, BZ.out⟩

end Go.Proofs.Ytponbnlhedigoaa
