/- flawed: what a statement of a kind must have. -/
import Derived.Test.YtlpgafgiljffhaaGreatDoorZa
namespace Go.Proofs.YtlpgafgiljffhaaGreatDoor
open Go.RowKit
set_option maxRecDepth 100000 in
set_option maxHeartbeats 8000000 in
theorem sflawed_any (x : St) (ve vf : Value) (w : World) (he : NdsC w ve x.e) (hf : NdsC w vf x.f) (hn1 : x.e.length ≤ 100000) (hn2 : x.f.length ≤ 100000) (hz1 : NmOK x.e) (hz2 : NmOK x.f) (hs1 : x.reg.size ≤ 100000) (hs2 : x.loc.size ≤ 100000) (ht : Flds w) :
    Calls Tryz.prog 105 #[.agg (x.cells ve vf)] w fun e w' => e = .returned (.bool (flawB x)) ∧ Below w.heap.size w w' := by
  obtain ⟨a1, p1, rfl, _⟩ := id he
  obtain ⟨a2, p2, rfl, _⟩ := id hf
  obtain ⟨k, r, l, e, f, n, b, o, p⟩ := x
  simp only [] at he hf hn1 hn2 hz1 hz2 hs1 hs2 ⊢
  unfold St.cells
  by_cases hbad : k < 1 ∨ 13 < k ∨ p < 0
  · have hfl : flawB ⟨k, r, l, e, f, n, b, o, p⟩ = true := by unfold flawB; rw [if_pos hbad]
    rw [hfl]
    clear hfl he hf hz1 hz2 ht
    by_cases h1 : k < 1
    · have q1 : decide (k < 1) = true := by simp; omega
      go_enter Tryz.func105, Tryz.ntmps105
      go_wp2
      go_ret
      exact ⟨rfl, (Below.refl _ _).alloc (Nat.le_refl _) _⟩
    · by_cases h2 : 13 < k
      · have q1 : decide (k < 1) = false := by simp; omega
        have q2 : decide (13 < k) = true := by simp; omega
        clear hbad
        go_enter Tryz.func105, Tryz.ntmps105
        go_wp2
        go_ret
        exact ⟨rfl, (Below.refl _ _).alloc (Nat.le_refl _) _⟩
      · have q1 : decide (k < 1) = false := by simp; omega
        have q2 : decide (13 < k) = false := by simp; omega
        have q3 : decide (p < 0) = true := by simp; omega
        clear hbad
        go_enter Tryz.func105, Tryz.ntmps105
        go_wp2
        go_ret
        exact ⟨rfl, (Below.refl _ _).alloc (Nat.le_refl _) _⟩
  · obtain ⟨kk, rfl⟩ : ∃ kk : Nat, k = kk := ⟨k.toNat, by omega⟩
    have hk14 : kk < 14 := by omega
    have hk1 : 1 ≤ kk := by omega
    have q1 : decide ((kk : Int) < 1) = false := by simp; omega
    have q2 : decide ((13 : Int) < (kk : Int)) = false := by simp; omega
    have q3 : decide (p < 0) = false := by simp; omega
    have q4 : decide (kk < 1) = false := by simp; omega
    have q5 : decide (13 < kk) = false := by simp; omega
    have hfl : flawB ⟨(kk : Int), r, l, e, f, n, b, o, p⟩ = (!(nameW r (hasB kk 0) && (nameW l (hasB kk 1) && (valW e (hasB kk 2) && valW f (hasB kk 3)))) || ((n && !hasB kk 4) || ((decide (b ≠ 0) && !hasB kk 5) || (decide (o ≠ 0) && !hasB kk 6)))) := by
      unfold flawB; rw [if_neg hbad]; rfl
    rw [hfl]
    have c0 := ht.2 kk hk14 0 (by decide)
    have c1 := ht.2 kk hk14 1 (by decide)
    have c2 := ht.2 kk hk14 2 (by decide)
    have c3 := ht.2 kk hk14 3 (by decide)
    have c4 := ht.2 kk hk14 4 (by decide)
    have c5 := ht.2 kk hk14 5 (by decide)
    have c6 := ht.2 kk hk14 6 (by decide)
    rw [Nat.add_zero] at c0
    have h0w := ht.1
    generalize hasB kk 0 = t0 at c0 ⊢
    generalize hasB kk 1 = t1 at c1 ⊢
    generalize hasB kk 2 = t2 at c2 ⊢
    generalize hasB kk 3 = t3 at c3 ⊢
    generalize hasB kk 4 = t4 at c4 ⊢
    generalize hasB kk 5 = t5 at c5 ⊢
    generalize hasB kk 6 = t6 at c6 ⊢
    have N1 := Lib.hid (fun W => snameW_any r t0 W hs1)
    have N2 := Lib.hid (fun W => snameW_any l t1 W hs2)
    have V1 := Lib.hid (fun (W : World) (h : Below w.heap.size w W) => svalue_any e _ t2 W (he.below h) hn1 hz1)
    have V2 := Lib.hid (fun (W : World) (h : Below w.heap.size w W) => svalue_any f _ t3 W (hf.below h) hn2 hz2)
    generalize nameW r t0 = n1 at N1 ⊢
    generalize nameW l t1 = n2 at N2 ⊢
    generalize valW e t2 = v1 at V1 ⊢
    generalize valW f t3 = v2 at V2 ⊢
    obtain ⟨d5, hd5⟩ : ∃ d, decide (b ≠ 0) = d := ⟨_, rfl⟩
    obtain ⟨d6, hd6⟩ : ∃ d, decide (o ≠ 0) = d := ⟨_, rfl⟩
    rw [hd5, hd6]
    have g5 : (b != 0) = d5 := by rw [← hd5]; by_cases h : b = 0 <;> simp [h]
    have g6 : (o != 0) = d6 := by rw [← hd6]; by_cases h : o = 0 <;> simp [h]
    have hi1 : (0 : Int) ≤ (kk : Int) := by omega
    have hi2 : (kk : Int) < 14 := by omega
    clear hbad hfl ht he hf hz1 hz2 hd5 hd6 hn1 hn2 hs1 hs2
    go_enter Tryz.func105, Tryz.ntmps105
    go_wp2_with fail
    have HB1 : Hid (Below w.heap.size w ((w.alloc (.cells #[.int .i64 kk, .string r, .string l, .slice a1 e.length p1, .slice a2 f.length p2, .bool n, .int .i64 b, .int .i64 o, .int .i64 p] 61)).alloc (.cells #[.bool t0, .bool t1, .bool t2, .bool t3, .bool t4, .bool t5, .bool t6] 142))) := ((Below.refl _ _).alloc (Nat.le_refl _) _).alloc (by simp) _
    have HQ1 : Hid (Below ((w.alloc (.cells #[.int .i64 kk, .string r, .string l, .slice a1 e.length p1, .slice a2 f.length p2, .bool n, .int .i64 b, .int .i64 o, .int .i64 p] 61)).alloc (.cells #[.bool t0, .bool t1, .bool t2, .bool t3, .bool t4, .bool t5, .bool t6] 142)).heap.size ((w.alloc (.cells #[.int .i64 kk, .string r, .string l, .slice a1 e.length p1, .slice a2 f.length p2, .bool n, .int .i64 b, .int .i64 o, .int .i64 p] 61)).alloc (.cells #[.bool t0, .bool t1, .bool t2, .bool t3, .bool t4, .bool t5, .bool t6] 142)) ((w.alloc (.cells #[.int .i64 kk, .string r, .string l, .slice a1 e.length p1, .slice a2 f.length p2, .bool n, .int .i64 b, .int .i64 o, .int .i64 p] 61)).alloc (.cells #[.bool t0, .bool t1, .bool t2, .bool t3, .bool t4, .bool t5, .bool t6] 142))) := Below.refl _ _
    have hS : BlkS ((w.alloc (.cells #[.int .i64 kk, .string r, .string l, .slice a1 e.length p1, .slice a2 f.length p2, .bool n, .int .i64 b, .int .i64 o, .int .i64 p] 61)).alloc (.cells #[.bool t0, .bool t1, .bool t2, .bool t3, .bool t4, .bool t5, .bool t6] 142)) w.heap.size ⟨kk, r, l, e, f, n, b, o, p⟩ (.slice a1 e.length p1) (.slice a2 f.length p2) := BlkS.under (W := w.alloc (.cells #[.int .i64 kk, .string r, .string l, .slice a1 e.length p1, .slice a2 f.length p2, .bool n, .int .i64 b, .int .i64 o, .int .i64 p] 61)) (heap_alloc_new w _) ((Below.refl _ _).alloc (Nat.le_refl _) _)
    have hT : ((w.alloc (.cells #[.int .i64 kk, .string r, .string l, .slice a1 e.length p1, .slice a2 f.length p2, .bool n, .int .i64 b, .int .i64 o, .int .i64 p] 61)).alloc (.cells #[.bool t0, .bool t1, .bool t2, .bool t3, .bool t4, .bool t5, .bool t6] 142)).heap[w.heap.size + 1]? = some (.cells #[.bool t0, .bool t1, .bool t2, .bool t3, .bool t4, .bool t5, .bool t6] 142 (0, 0)) := by
      have := heap_alloc_new (w.alloc (.cells #[.int .i64 kk, .string r, .string l, .slice a1 e.length p1, .slice a2 f.length p2, .bool n, .int .i64 b, .int .i64 o, .int .i64 p] 61)) (.cells #[.bool t0, .bool t1, .bool t2, .bool t3, .bool t4, .bool t5, .bool t6] 142)
      simpa using this
    clear c0 c1 c2 c3 c4 c5 c6 h0w
    generalize ((w.alloc (.cells #[.int .i64 kk, .string r, .string l, .slice a1 e.length p1, .slice a2 f.length p2, .bool n, .int .i64 b, .int .i64 o, .int .i64 p] 61)).alloc (.cells #[.bool t0, .bool t1, .bool t2, .bool t3, .bool t4, .bool t5, .bool t6] 142)) = w1 at HB1 HQ1 hS hT ⊢
    have HPF : Hid (∀ W, Below w1.heap.size w1 W → W.cell? ⟨w.heap.size, 1, none⟩ = some (.string r) ∧ W.cell? ⟨w.heap.size, 2, none⟩ = some (.string l) ∧ W.cell? ⟨w.heap.size, 3, none⟩ = some (.slice a1 e.length p1) ∧ W.cell? ⟨w.heap.size, 4, none⟩ = some (.slice a2 f.length p2) ∧ W.cell? ⟨w.heap.size, 5, none⟩ = some (.bool n) ∧ W.cell? ⟨w.heap.size, 6, none⟩ = some (.int .i64 b) ∧ W.cell? ⟨w.heap.size, 7, none⟩ = some (.int .i64 o) ∧
        W.cell? ⟨w.heap.size + 1, 0, none⟩ = some (.bool t0) ∧ W.cell? ⟨w.heap.size + 1, 1, none⟩ = some (.bool t1) ∧ W.cell? ⟨w.heap.size + 1, 2, none⟩ = some (.bool t2) ∧ W.cell? ⟨w.heap.size + 1, 3, none⟩ = some (.bool t3) ∧ W.cell? ⟨w.heap.size + 1, 4, none⟩ = some (.bool t4) ∧ W.cell? ⟨w.heap.size + 1, 5, none⟩ = some (.bool t5) ∧ W.cell? ⟨w.heap.size + 1, 6, none⟩ = some (.bool t6)) := by
      intro W hW
      have l1 : w.heap.size < w1.heap.size := hS.lt
      have l2 : w.heap.size + 1 < w1.heap.size := (Array.getElem?_eq_some_iff.1 hT).1
      obtain ⟨⟨_, z1, z2, z3, z4, z5, z6, z7, _⟩, _⟩ := hS.facts
      have hc : ∀ j u, (#[Value.bool t0, .bool t1, .bool t2, .bool t3, .bool t4, .bool t5, .bool t6])[j]? = some u → W.cell? ⟨w.heap.size + 1, j, none⟩ = some u := fun j u hj => (hW.cell (p := ⟨w.heap.size + 1, j, none⟩) l2).trans (by simp [World.cell?, hT, hj])
      exact ⟨(hW.cell (p := ⟨_, _, none⟩) l1).trans z1, (hW.cell (p := ⟨_, _, none⟩) l1).trans z2, (hW.cell (p := ⟨_, _, none⟩) l1).trans z3, (hW.cell (p := ⟨_, _, none⟩) l1).trans z4, (hW.cell (p := ⟨_, _, none⟩) l1).trans z5, (hW.cell (p := ⟨_, _, none⟩) l1).trans z6, (hW.cell (p := ⟨_, _, none⟩) l1).trans z7,
        hc 0 _ rfl, hc 1 _ rfl, hc 2 _ rfl, hc 3 _ rfl, hc 4 _ rfl, hc 5 _ rfl, hc 6 _ rfl⟩
    clear hS hT
    obtain ⟨x1, x2, x3, x4, x5, x6, x7, y0, y1, y2, y3, y4, y5, y6⟩ := HPF.out _ HQ1.out
    refine (N1.out _).mono ?_
    rintro e w2 ⟨rfl, hb2⟩
    have HB2 := Lib.hid (HB1.out.trans (hb2.mono HB1.out.size))
    have HQ2 := Lib.hid (HQ1.out.trans (hb2.mono HQ1.out.size))
    clear hb2 x1 x2 x3 x4 x5 x6 x7 y0 y1 y2 y3 y4 y5 y6
    obtain ⟨x1, x2, x3, x4, x5, x6, x7, y0, y1, y2, y3, y4, y5, y6⟩ := HPF.out _ HQ2.out
    cases n1 with
    | false =>
      go_wp2
      go_ret
      exact ⟨rfl, HB2.out⟩
    | true =>
      go_wp2_with fail
      refine (N2.out _).mono ?_
      rintro e w3 ⟨rfl, hb3⟩
      have HB3 := Lib.hid (HB2.out.trans (hb3.mono HB2.out.size))
      have HQ3 := Lib.hid (HQ2.out.trans (hb3.mono HQ2.out.size))
      clear hb3 x1 x2 x3 x4 x5 x6 x7 y0 y1 y2 y3 y4 y5 y6
      obtain ⟨x1, x2, x3, x4, x5, x6, x7, y0, y1, y2, y3, y4, y5, y6⟩ := HPF.out _ HQ3.out
      cases n2 with
      | false =>
        go_wp2
        go_ret
        exact ⟨rfl, HB3.out⟩
      | true =>
        go_wp2_with fail
        refine (V1.out _ HB3.out).mono ?_
        rintro e w4 ⟨rfl, hb4⟩
        have HB4 := Lib.hid (HB3.out.trans (hb4.mono HB3.out.size))
        have HQ4 := Lib.hid (HQ3.out.trans (hb4.mono HQ3.out.size))
        clear hb4 x1 x2 x3 x4 x5 x6 x7 y0 y1 y2 y3 y4 y5 y6
        obtain ⟨x1, x2, x3, x4, x5, x6, x7, y0, y1, y2, y3, y4, y5, y6⟩ := HPF.out _ HQ4.out
        cases v1 with
        | false =>
          go_wp2
          go_ret
          exact ⟨rfl, HB4.out⟩
        | true =>
          go_wp2_with fail
          refine (V2.out _ HB4.out).mono ?_
          rintro e w5 ⟨rfl, hb5⟩
          have HB5 := Lib.hid (HB4.out.trans (hb5.mono HB4.out.size))
          have HQ5 := Lib.hid (HQ4.out.trans (hb5.mono HQ4.out.size))
          clear hb5 x1 x2 x3 x4 x5 x6 x7 y0 y1 y2 y3 y4 y5 y6
          obtain ⟨x1, x2, x3, x4, x5, x6, x7, y0, y1, y2, y3, y4, y5, y6⟩ := HPF.out _ HQ5.out
          cases v2 with
          | false =>
            go_wp2
            go_ret
            exact ⟨rfl, HB5.out⟩
          | true =>
            cases n <;> cases t4 <;> cases d5 <;> cases t5 <;> cases d6 <;> cases t6 <;>
              (go_wp2
               go_ret
               exact ⟨rfl, HB5.out⟩)
end Go.Proofs.YtlpgafgiljffhaaGreatDoor
