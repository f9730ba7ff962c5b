/- Layer 8: the reference's Push. Layer 8: the reference's Pop. -/
import Derived.Test.YtacbanfnakgecaaGreatXl
import Derived.Test.YtacbanfnakgecaaGreatVa
namespace Go.Proofs.YtacbanfnakgecaaGreat
set_option linter.unusedSimpArgs false
set_option linter.unusedVariables false
open Go.RowKit
theorem app_one {w : World} {B : Nat} {v : Value} {O : List Ent} (p r : Int) (h : w.ownsRow B 70 2 v O.length (rowE O)) (hb : B ≤ w.heap.size) :
    (w.alloc (.cells #[.int .i64 p, .int .i64 r] 70)).ownsRow B 70 2 v O.length (rowE O) ∧
    EntsD (w.alloc (.cells #[.int .i64 p, .int .i64 r] 70)) (.slice (some ⟨w.heap.size, 0, none⟩) 1 1) [(p, r)] ∧
    Below B w (w.alloc (.cells #[.int .i64 p, .int .i64 r] 70)) := by
  have hB : Below w.heap.size w (w.alloc (.cells #[.int .i64 p, .int .i64 r] 70)) := (Below.refl _ _).alloc (Nat.le_refl _) _
  refine ⟨own_below h hB, ?_, hB.mono hb⟩
  exact entsD_of_bk (xs := [(p, r)]) (Bk.new w 70 #[.int .i64 p, .int .i64 r]) rfl (by simp)
set_option maxRecDepth 100000 in
set_option maxHeartbeats 4000000 in
theorem rpush_pso (l : List Ent) (v : Value) (x y : Int) (w : World) (hv : EntsD w v l) (hn : l.length ≤ 100000) (z : List Ent) (hz : insL (x, y) l = z) :
    Calls Tryz.prog 35 #[v, .int .i64 3, .agg #[.int .i64 x, .int .i64 y]] w fun e w' => ∃ v', e = .returned v' ∧ w'.ownsRow w.heap.size 70 2 v' z.length (rowE z) ∧ Below w.heap.size w w' := by
  have HV := Lib.hid hv
  have HZ0 : Hid ([] ++ insL (x, y) (l.drop 0) = z) := Lib.hid (by simpa using hz)
  obtain ⟨ad, cap, rfl⟩ := hv.shape0
  obtain ⟨n, hN⟩ : ∃ n, n = l.length := ⟨_, rfl⟩
  rw [← hN] at HV hn ⊢
  have HN := Lib.hid hN
  have K0 := Lib.hid (Bk.new w 70 #[.int .i64 x, .int .i64 y])
  have L0 : Hid (Below w.heap.size w (w.alloc (.cells #[.int .i64 x, .int .i64 y] 70))) := (Below.refl _ _).alloc (Nat.le_refl _) _
  clear hv hz hN
  go_enter Tryz.func35, Tryz.ntmps35
  go_wp2_with fail
  generalize w.alloc _ = w0 at K0 L0 ⊢
  go_loopg [7, 8, 9] n (fun fuel out' put' i' wr => ∃ (k : Nat) (pb : Bool) (vo : Value) (O : List Ent), out' = vo ∧ put' = .bool pb ∧ i' = .int .i64 k ∧ k ≤ n ∧ n - k ≤ fuel ∧ O.length ≤ k + (if pb then 1 else 0) ∧ (if pb then O ++ l.drop k else O ++ insL (x, y) (l.drop k)) = z ∧ wr.ownsRow w0.heap.size 70 2 vo O.length (rowE O) ∧ Below w0.heap.size w0 wr)
  case atStart => exact ⟨0, false, _, [], rfl, rfl, rfl, Nat.zero_le _, Nat.le_refl _, Nat.zero_le _, HZ0.out, World.ownsRow_nil _ _ _ _, Below.refl _ _⟩
  case round =>
    obtain ⟨k, pb, vo, O, rfl, rfl, rfl, hk, hf, hO, ha, ho, hb⟩ := hrel
    have HA := Lib.hid ha
    have HO := Lib.hid ho
    have HB := Lib.hid hb
    have HL := Lib.hid (Nat.le_trans hO (Nat.add_le_add_left (show (if pb = true then 1 else 0) ≤ 1 by split <;> decide) k))
    have HLB := Lib.hid hO
    have hK := K0.out.below hb
    have c0 : wr.cell? ⟨w.heap.size, 0, none⟩ = some (.int .i64 x) := hK.cell 0
    have c1 : wr.cell? ⟨w.heap.size, 1, none⟩ = some (.int .i64 y) := hK.cell 1
    have hlt0 := hK.lt
    clear ha ho hb hO hK
    by_cases hlt : k < n
    · have hk' : k < l.length := by rw [← HN.out]; exact hlt
      have HE := Lib.hid (insL_at (x, y) l k hk')
      have HD := Lib.hid (List.drop_eq_getElem_cons hk')
      obtain ⟨b, off, rfl, hbw, x9, y9⟩ := EntsD.at2 HV.out k hk'
      obtain ⟨k1, hx⟩ : ∃ x, x = l[k].1 := ⟨_, rfl⟩
      obtain ⟨n1, hy⟩ : ∃ x, x = l[k].2 := ⟨_, rfl⟩
      have hl : l[k] = (k1, n1) := by rw [hx, hy]
      rw [← hx] at x9
      rw [← hy] at y9
      have HC := Lib.hid (fun (W : World) (h : Below w0.heap.size w0 W) => have h9 := L0.out.trans (h.mono L0.out.size); (⟨(h9.cell (p := ⟨b, off + k * 2, none⟩) hbw).trans x9, (h9.cell (p := ⟨b, off + k * 2 + 1, none⟩) hbw).trans y9, Nat.lt_of_lt_of_le hbw h9.size⟩ : W.cell? ⟨b, off + k * 2, none⟩ = some (.int .i64 k1) ∧ W.cell? ⟨b, off + k * 2 + 1, none⟩ = some (.int .i64 n1) ∧ b < W.heap.size))
      obtain ⟨x0, y0, hbl⟩ := HC.out wr HB.out
      clear x9 y9 hbw
      have HEL := Lib.hid hl
      clear hx hy hl
      cases pb with
      | true =>
        have HE1 : Hid (O ++ [(k1, n1)] ++ l.drop (k + 1) = z) := Lib.hid (by rw [← HA.out, if_pos rfl, HD.out, HEL.out]; simp)
        clear HA HE HD HEL hk'
        go_wp2_with fail
        have e1 : (0 : Int) ≤ (k : Int) := by omega
        have e2 : (k : Int) < (n : Int) := by omega
        go_quiet (fail)
        generalize hW : World.drewN wr _ = W
        have bW : Below wr.heap.size wr W := hW ▸ below_end _
        have OW := Lib.hid (own_below HO.out bW)
        have BW := Lib.hid (HB.out.trans (bW.mono HB.out.size))
        have x1 := (bW.cell (p := ⟨b, off + k * 2, none⟩) hbl).trans x0
        have y1 := (bW.cell (p := ⟨b, off + k * 2 + 1, none⟩) hbl).trans y0
        have hbl1 : b < W.heap.size := Nat.lt_of_lt_of_le hbl bW.size
        have d0 := (bW.cell (p := ⟨w.heap.size, 0, none⟩) hlt0).trans c0
        have d1 := (bW.cell (p := ⟨w.heap.size, 1, none⟩) hlt0).trans c1
        have dl := Nat.lt_of_lt_of_le hlt0 bW.size
        clear hW bW x0 y0 c0 c1 hlt0 hbl
        obtain ⟨X, hX⟩ : ∃ X, O ++ [(k1, n1)] = X := ⟨_, rfl⟩
        have hnX : X.length ≤ k + 1 + 1 := by rw [← hX, List.length_append]; have := HL.out; simp only [List.length_cons, List.length_nil]; omega
        have LX := Lib.hid hnX
        have HX := Lib.hid hX
        have AX := Lib.hid (app_one k1 n1 OW.out BW.out.size)
        have SX := Lib.hid (show w0.heap.size ≤ (W.alloc (.cells #[.int .i64 k1, .int .i64 n1] 70)).heap.size by rw [alloc_size]; have := BW.out.size; omega)
        have NX := Lib.hid (show O.length + [(k1, n1)].length ≤ 1000000 by have := HL.out; simp only [List.length_cons, List.length_nil]; omega)
        clear hX hnX
        go_wp2_with (at_builtin; refine append_ents rfl (.tmp 44) (.tmp 49) rfl w0.heap.size _ O [(k1, n1)] rfl (some ⟨W.heap.size, 0, none⟩) 1 1 rfl AX.out.1 AX.out.2.1 NX.out SX.out X HX.out ?_)
        intro vX wX OX bX
        have BX := Lib.hid ((BW.out.trans AX.out.2.2).trans bX)
        have HE2 : Hid ((if true = true then X ++ l.drop (k + 1) else X ++ insL (x, y) (l.drop (k + 1))) = z) := Lib.hid (by rw [if_pos rfl, ← HX.out]; exact HE1.out)
        clear bX AX
        go_wp2
        go_roundg (gk - 1)
        case measure => omega
        case rel => exact ⟨k + 1, true, vX, X, rfl, rfl, by go_num, by omega, by omega, (by have := LX.out; simpa using this), HE2.out, OX.out, BX.out⟩
      | false =>
        have HL0 : Hid (O.length ≤ k) := Lib.hid (by have := HLB.out; simpa using this)
        by_cases hq : x < k1
        · have HE1 : Hid (O ++ [(x, y)] ++ [(k1, n1)] ++ l.drop (k + 1) = z) := Lib.hid (by rw [← HA.out, if_neg (by decide), HE.out, HEL.out, if_pos hq]; simp)
          clear HA HE HD HEL hk'
          go_wp2_with fail
          have e1 : (0 : Int) ≤ (k : Int) := by omega
          have e2 : (k : Int) < (n : Int) := by omega
          go_quiet (fail)
          generalize hW : World.drewN wr _ = W
          have bW : Below wr.heap.size wr W := hW ▸ below_end _
          have OW := Lib.hid (own_below HO.out bW)
          have BW := Lib.hid (HB.out.trans (bW.mono HB.out.size))
          have x1 := (bW.cell (p := ⟨b, off + k * 2, none⟩) hbl).trans x0
          have y1 := (bW.cell (p := ⟨b, off + k * 2 + 1, none⟩) hbl).trans y0
          have hbl1 : b < W.heap.size := Nat.lt_of_lt_of_le hbl bW.size
          have d0 := (bW.cell (p := ⟨w.heap.size, 0, none⟩) hlt0).trans c0
          have d1 := (bW.cell (p := ⟨w.heap.size, 1, none⟩) hlt0).trans c1
          have dl := Nat.lt_of_lt_of_le hlt0 bW.size
          clear hW bW x0 y0 c0 c1 hlt0 hbl
          obtain ⟨X, hX⟩ : ∃ X, O ++ [(x, y)] = X := ⟨_, rfl⟩
          have hnX : X.length ≤ k + 1 := by rw [← hX, List.length_append]; have := HL0.out; simp only [List.length_cons, List.length_nil]; omega
          have LX := Lib.hid hnX
          have HX := Lib.hid hX
          have AX := Lib.hid (app_one x y OW.out BW.out.size)
          have SX := Lib.hid (show w0.heap.size ≤ (W.alloc (.cells #[.int .i64 x, .int .i64 y] 70)).heap.size by rw [alloc_size]; have := BW.out.size; omega)
          have NX := Lib.hid (show O.length + [(x, y)].length ≤ 1000000 by have := HL0.out; simp only [List.length_cons, List.length_nil]; omega)
          clear hX hnX
          go_wp2_with (at_builtin; refine append_ents rfl (.tmp 40) (.tmp 42) rfl w0.heap.size _ O [(x, y)] rfl (some ⟨W.heap.size, 0, none⟩) 1 1 rfl AX.out.1 AX.out.2.1 NX.out SX.out X HX.out ?_)
          intro vX wX OX bX
          have BX := Lib.hid ((BW.out.trans AX.out.2.2).trans bX)
          obtain ⟨x2, y2, hbl2⟩ := HC.out wX BX.out
          clear bX AX x1 y1 hbl1 d0 d1 dl OW BW
          obtain ⟨Y, hY⟩ : ∃ Y, X ++ [(k1, n1)] = Y := ⟨_, rfl⟩
          have hnY : Y.length ≤ k + 1 + 1 := by rw [← hY, List.length_append]; have := LX.out; simp only [List.length_cons, List.length_nil]; omega
          have LY := Lib.hid hnY
          have HY := Lib.hid hY
          have AY := Lib.hid (app_one k1 n1 OX.out BX.out.size)
          have SY := Lib.hid (show w0.heap.size ≤ (wX.alloc (.cells #[.int .i64 k1, .int .i64 n1] 70)).heap.size by rw [alloc_size]; have := BX.out.size; omega)
          have NY := Lib.hid (show X.length + [(k1, n1)].length ≤ 1000000 by have := LX.out; simp only [List.length_cons, List.length_nil]; omega)
          clear hY hnY
          go_wp2_with (at_builtin; refine append_ents rfl (.tmp 44) (.tmp 49) rfl w0.heap.size _ X [(k1, n1)] rfl (some ⟨wX.heap.size, 0, none⟩) 1 1 rfl AY.out.1 AY.out.2.1 NY.out SY.out Y HY.out ?_)
          intro vY wY OY bY
          have BY := Lib.hid ((BX.out.trans AY.out.2.2).trans bY)
          have HE2 : Hid ((if true = true then Y ++ l.drop (k + 1) else Y ++ insL (x, y) (l.drop (k + 1))) = z) := Lib.hid (by rw [if_pos rfl, ← HY.out, ← HX.out]; exact HE1.out)
          clear bY AY
          go_wp2
          go_roundg (gk - 1)
          case measure => omega
          case rel => exact ⟨k + 1, true, vY, Y, rfl, rfl, by go_num, by omega, by omega, (by have := LY.out; simpa using this), HE2.out, OY.out, BY.out⟩
        · have HE1 : Hid (O ++ [(k1, n1)] ++ insL (x, y) (l.drop (k + 1)) = z) := Lib.hid (by rw [← HA.out, if_neg (by decide), HE.out, HEL.out, if_neg hq]; simp)
          clear HA HE HD HEL hk'
          go_wp2_with fail
          have e1 : (0 : Int) ≤ (k : Int) := by omega
          have e2 : (k : Int) < (n : Int) := by omega
          go_quiet (fail)
          generalize hW : World.drewN wr _ = W
          have bW : Below wr.heap.size wr W := hW ▸ below_end _
          have OW := Lib.hid (own_below HO.out bW)
          have BW := Lib.hid (HB.out.trans (bW.mono HB.out.size))
          have x1 := (bW.cell (p := ⟨b, off + k * 2, none⟩) hbl).trans x0
          have y1 := (bW.cell (p := ⟨b, off + k * 2 + 1, none⟩) hbl).trans y0
          have hbl1 : b < W.heap.size := Nat.lt_of_lt_of_le hbl bW.size
          have d0 := (bW.cell (p := ⟨w.heap.size, 0, none⟩) hlt0).trans c0
          have d1 := (bW.cell (p := ⟨w.heap.size, 1, none⟩) hlt0).trans c1
          have dl := Nat.lt_of_lt_of_le hlt0 bW.size
          clear hW bW x0 y0 c0 c1 hlt0 hbl
          obtain ⟨X, hX⟩ : ∃ X, O ++ [(k1, n1)] = X := ⟨_, rfl⟩
          have hnX : X.length ≤ k + 1 := by rw [← hX, List.length_append]; have := HL0.out; simp only [List.length_cons, List.length_nil]; omega
          have LX := Lib.hid hnX
          have HX := Lib.hid hX
          have AX := Lib.hid (app_one k1 n1 OW.out BW.out.size)
          have SX := Lib.hid (show w0.heap.size ≤ (W.alloc (.cells #[.int .i64 k1, .int .i64 n1] 70)).heap.size by rw [alloc_size]; have := BW.out.size; omega)
          have NX := Lib.hid (show O.length + [(k1, n1)].length ≤ 1000000 by have := HL0.out; simp only [List.length_cons, List.length_nil]; omega)
          clear hX hnX
          go_wp2_with (at_builtin; refine append_ents rfl (.tmp 44) (.tmp 49) rfl w0.heap.size _ O [(k1, n1)] rfl (some ⟨W.heap.size, 0, none⟩) 1 1 rfl AX.out.1 AX.out.2.1 NX.out SX.out X HX.out ?_)
          intro vX wX OX bX
          have BX := Lib.hid ((BW.out.trans AX.out.2.2).trans bX)
          have HE2 : Hid ((if false = true then X ++ l.drop (k + 1) else X ++ insL (x, y) (l.drop (k + 1))) = z) := Lib.hid (by rw [if_neg (by decide), ← HX.out]; exact HE1.out)
          clear bX AX
          go_wp2
          go_roundg (gk - 1)
          case measure => omega
          case rel => exact ⟨k + 1, false, vX, X, rfl, rfl, by go_num, by omega, by omega, (by have := LX.out; simpa using this), HE2.out, OX.out, BX.out⟩
    · have hkl : ¬ k < l.length := by rw [← HN.out]; exact hlt
      have HE := Lib.hid (insL_over (x, y) l k hkl)
      have HD : Hid (l.drop k = []) := Lib.hid (List.drop_eq_nil_of_le (by omega))
      clear hkl
      cases pb with
      | true =>
        have HE1 : Hid (O = z) := Lib.hid (by have := HA.out; rw [if_pos rfl, HD.out] at this; simpa using this)
        clear HA HE HD
        go_wp2
        go_ret
        refine ⟨_, rfl, ?_, L0.out.trans (HB.out.mono L0.out.size)⟩
        rw [← HE1.out]
        exact own_base HO.out L0.out.size
      | false =>
        have HE1 : Hid (O ++ [(x, y)] = z) := Lib.hid (by have := HA.out; rw [if_neg (by decide), HE.out] at this; exact this)
        clear HA HE HD
        have A1 := Lib.hid (app_one x y HO.out HB.out.size)
        have S1 := Lib.hid (show w0.heap.size ≤ (wr.alloc (.cells #[.int .i64 x, .int .i64 y] 70)).heap.size by rw [alloc_size]; have := HB.out.size; omega)
        have N1 := Lib.hid (show O.length + [(x, y)].length ≤ 1000000 by have := HL.out; simp only [List.length_cons, List.length_nil]; omega)
        go_wp2_with (at_builtin; refine append_ents rfl (.tmp 53) (.tmp 55) rfl w0.heap.size _ O [(x, y)] rfl (some ⟨wr.heap.size, 0, none⟩) 1 1 rfl A1.out.1 A1.out.2.1 N1.out S1.out z HE1.out ?_)
        intro v1 w1 O1 b1
        have B1 := Lib.hid ((HB.out.trans A1.out.2.2).trans b1)
        clear b1 A1
        go_wp2
        go_ret
        exact ⟨_, rfl, own_base O1.out L0.out.size, L0.out.trans (B1.out.mono L0.out.size)⟩
set_option maxRecDepth 100000 in
set_option maxHeartbeats 4000000 in
theorem rpush_other (l : List Ent) (v : Value) (model x y : Int) (w : World) (hv : EntsD w v l) (hn : l.length ≤ 100000) (z : List Ent) (hm : model ≠ 3) (hz : (if model = 2 then l ++ [(x, y)] else l) = z) :
    Calls Tryz.prog 35 #[v, .int .i64 model, .agg #[.int .i64 x, .int .i64 y]] w fun e w' => ∃ v', e = .returned v' ∧ w'.ownsRow w.heap.size 70 2 v' z.length (rowE z) ∧ Below w.heap.size w w' := by
  have HV := Lib.hid hv
  obtain ⟨ad, cap, rfl⟩ := hv.shape0
  obtain ⟨n, hN⟩ : ∃ n, n = l.length := ⟨_, rfl⟩
  rw [← hN] at HV hn ⊢
  have HN := Lib.hid hN
  have HZ := Lib.hid hz
  have K0 := Lib.hid (Bk.new w 70 #[.int .i64 x, .int .i64 y])
  have L0 : Hid (Below w.heap.size w (w.alloc (.cells #[.int .i64 x, .int .i64 y] 70))) := (Below.refl _ _).alloc (Nat.le_refl _) _
  have q3 : (model == 3) = false := by simpa using hm
  have HV0 := Lib.hid (EntsD.below HV.out L0.out)
  have N0 : Hid (([] : List Ent).length + l.length ≤ 1000000) := Lib.hid (by rw [← HN.out]; simp only [List.length_nil]; omega)
  clear hv hz hN hm
  go_enter Tryz.func35, Tryz.ntmps35
  by_cases h2 : model = 2
  · subst h2
    go_wp2_with (at_builtin; refine append_ents rfl (.tmp 12) (.tmp 13) rfl (w.alloc (.cells #[.int .i64 x, .int .i64 y] 70)).heap.size (.slice none 0 0) [] l rfl ad n cap rfl (World.ownsRow_nil _ _ _ _) HV0.out N0.out (Nat.le_refl _) l rfl ?_)
    intro v1 w1 O1 b1
    have HS : Hid ((w.alloc (.cells #[.int .i64 x, .int .i64 y] 70)).heap.size = w.heap.size + 1) := Lib.hid (alloc_size _ _)
    generalize w.alloc _ = w0 at K0 L0 HV0 b1 HS
    rw [← HS.out] at O1 b1
    have B1 := Lib.hid b1
    have hK := K0.out.below b1
    have c0 : w1.cell? ⟨w.heap.size, 0, none⟩ = some (.int .i64 x) := hK.cell 0
    have c1 : w1.cell? ⟨w.heap.size, 1, none⟩ = some (.int .i64 y) := hK.cell 1
    have hlt0 := hK.lt
    clear b1 hK
    have HE1 : Hid (l ++ [(x, y)] = z) := Lib.hid (by have := HZ.out; simpa using this)
    have A1 := Lib.hid (app_one x y O1.out B1.out.size)
    have S1 := Lib.hid (show w0.heap.size ≤ (w1.alloc (.cells #[.int .i64 x, .int .i64 y] 70)).heap.size by rw [alloc_size]; have := B1.out.size; omega)
    have N1 := Lib.hid (show l.length + [(x, y)].length ≤ 1000000 by rw [← HN.out]; simp only [List.length_cons, List.length_nil]; omega)
    clear HZ
    go_wp2_with (at_builtin; refine append_ents rfl (.tmp 17) (.tmp 19) rfl w0.heap.size _ l [(x, y)] rfl (some ⟨w1.heap.size, 0, none⟩) 1 1 rfl A1.out.1 A1.out.2.1 N1.out S1.out z HE1.out ?_)
    intro v2 w2 O2 b2
    have B2 := Lib.hid ((B1.out.trans A1.out.2.2).trans b2)
    clear b2 A1
    go_wp2
    go_ret
    exact ⟨_, rfl, own_base O2.out L0.out.size, L0.out.trans (B2.out.mono L0.out.size)⟩
  · have q2 : (model == 2) = false := by simpa using h2
    have HE1 : Hid (l = z) := Lib.hid (by have := HZ.out; rw [if_neg h2] at this; exact this)
    clear HZ h2
    go_wp2_with (at_builtin; refine append_ents rfl (.tmp 12) (.tmp 13) rfl (w.alloc (.cells #[.int .i64 x, .int .i64 y] 70)).heap.size (.slice none 0 0) [] l rfl ad n cap rfl (World.ownsRow_nil _ _ _ _) HV0.out N0.out (Nat.le_refl _) l rfl ?_)
    intro v1 w1 O1 b1
    have HS : Hid ((w.alloc (.cells #[.int .i64 x, .int .i64 y] 70)).heap.size = w.heap.size + 1) := Lib.hid (alloc_size _ _)
    generalize w.alloc _ = w0 at K0 L0 HV0 b1 HS
    rw [← HS.out] at O1 b1
    have B1 := Lib.hid b1
    have hK := K0.out.below b1
    have c0 : w1.cell? ⟨w.heap.size, 0, none⟩ = some (.int .i64 x) := hK.cell 0
    have c1 : w1.cell? ⟨w.heap.size, 1, none⟩ = some (.int .i64 y) := hK.cell 1
    have hlt0 := hK.lt
    clear b1 hK
    go_wp2
    go_ret
    refine ⟨_, rfl, ?_, L0.out.trans (B1.out.mono L0.out.size)⟩
    rw [← HE1.out]
    exact own_base O1.out L0.out.size
theorem rpush_own (l : List Ent) (v : Value) (model x y : Int) (w : World) (hv : EntsD w v l) (hn : l.length ≤ 100000) (z : List Ent) (hz : pushL l model (x, y) = z) :
    Calls Tryz.prog 35 #[v, .int .i64 model, .agg #[.int .i64 x, .int .i64 y]] w fun e w' => ∃ v', e = .returned v' ∧ w'.ownsRow w.heap.size 70 2 v' z.length (rowE z) ∧ Below w.heap.size w w' := by
  by_cases h3 : model = 3
  · subst h3
    exact rpush_pso l v x y w hv hn z (by rw [← hz, pushL_ins])
  · refine rpush_other l v model x y w hv hn z h3 ?_
    rw [← hz]
    unfold pushL
    by_cases h2 : model = 2
    · rw [if_pos h2, if_pos h2]
    · rw [if_neg h2, if_neg h2, if_neg h3]
end Go.Proofs.YtacbanfnakgecaaGreat

namespace Go.Proofs.YtacbanfnakgecaaGreat
set_option linter.unusedSimpArgs false
set_option linter.unusedVariables false
set_option linter.unnecessarySimpa false
open Go.RowKit
theorem kp_two {B b : Nat} (w : World) (h : b < B) (u v : Value) : Kp B w ((w.setCell ⟨b, 0, none⟩ u).setCell ⟨b, 1, none⟩ v) := by
  have hs : ∀ (W : World) (o : Nat) (u : Value), Kp B W (W.setCell ⟨b, o, none⟩ u) := fun W o u => by
    have hb : Below b W (W.setCell ⟨b, o, none⟩ u) := (Below.refl _ _).setCell (p := ⟨b, o, none⟩) (Nat.le_refl _) u
    refine ⟨hb.size, fun g h1 _ => ?_⟩
    show (W.heap.modify b _)[g]? = _
    rw [Array.getElem?_modify, if_neg (by omega)]
  exact (hs _ _ _).trans (hs _ _ _)
set_option maxRecDepth 100000 in
set_option maxHeartbeats 8000000 in
theorem rpop_two (l : List Ent) (v : Value) (loc : Int) (w : World) (hv : EntsD w v l) (hn : l.length ≤ 100000) (z : List Ent) (x y : Int) (q : Bool) (hz : popL l 2 loc = (z, (x, y), q)) :
    Calls Tryz.prog 65 #[v, .int .i64 2, .int .i64 loc] w fun e w' => ∃ v', e = .returned (.tuple #[v', .agg #[.int .i64 x, .int .i64 y], .bool q]) ∧ w'.ownsRow w.heap.size 70 2 v' z.length (rowE z) ∧ Below w.heap.size w w' := by
  have HV := Lib.hid hv
  obtain ⟨ad, cap, rfl⟩ := hv.shape0
  obtain ⟨n, hN⟩ : ∃ n, n = l.length := ⟨_, rfl⟩
  rw [← hN] at HV hn ⊢
  have HN := Lib.hid hN
  have HZ := Lib.hid (hz.symm.trans (popL_dl l 2 loc))
  clear hv hz hN
  have hw : IntKind.i64.wrap ((n : Int) - 1) = (n : Int) - 1 := by rw [IntKind.wrap_i64]; omega
  have K0 := Lib.hid (Bk.new w 70 #[.int .i64 0, .int .i64 0])
  have L0 : Hid (Below w.heap.size w (w.alloc (.cells #[.int .i64 0, .int .i64 0] 70))) := (Below.refl _ _).alloc (Nat.le_refl _) _
  have HST : Hid ((-1 : Int) = fstL (atP 2 loc) (l.drop n) n) := Lib.hid (by rw [HN.out, fstL_over _ _ _ (by omega)])
  go_enter Tryz.func65, Tryz.ntmps65
  go_wp2_with fail
  generalize w.alloc _ = w0 at K0 L0 ⊢
  have KLT := Lib.hid K0.out.lt
  go_loopg [9, 10] n (fun fuel at' i' wr => ∃ (m : Nat) (a i : Int), at' = .int .i64 a ∧ i' = .int .i64 i ∧ i + 1 = m ∧ m ≤ n ∧ m ≤ fuel ∧ a = fstL (atP 2 loc) (l.drop m) m ∧ Below w0.heap.size w0 wr)
  case atStart => exact ⟨n, -1, _, rfl, rfl, by omega, Nat.le_refl _, Nat.le_refl _, HST.out, Below.refl _ _⟩
  case round =>
    obtain ⟨m, a, i, rfl, rfl, hi, hk, hf, ha, hb⟩ := hrel
    have HA := Lib.hid ha
    have HB := Lib.hid hb
    clear ha hb
    cases m with
    | zero =>
      obtain rfl : i = -1 := by omega
      have hA0 : fstL (atP 2 loc) l 0 = a := HA.out.symm
      have HA0 := Lib.hid hA0
      clear hA0
      by_cases hg : 0 < a
      · have HAT : Hid (atL l 2 loc = -1) := Lib.hid (by unfold atL; rw [HA0.out, if_pos (.inl ⟨rfl, hg⟩)])
        clear HA HST
        go_wp2_with fail
        go_loopg [11, 12] n (fun fuel out' i' wr => ∃ (k : Nat) (vo : Value) (O : List Ent), out' = vo ∧ i' = .int .i64 k ∧ k ≤ n ∧ n - k ≤ fuel ∧ O.length ≤ k ∧ O ++ dlF (-1) (l.drop k) k = dlF (-1) l 0 ∧ wr.ownsRow w0.heap.size 70 2 vo O.length (rowE O) ∧ Below w0.heap.size w0 wr)
        case atStart => exact ⟨0, _, [], rfl, rfl, Nat.zero_le _, Nat.le_refl _, Nat.le_refl _, rfl, World.ownsRow_nil _ _ _ _, HB.out⟩
        case round =>
          obtain ⟨k, vo, O, rfl, rfl, hk, hf, hO, ha, ho, hb⟩ := hrel
          have HA := Lib.hid ha
          have HO := Lib.hid ho
          have HB2 := Lib.hid hb
          have HL := Lib.hid hO
          clear ha ho hb hO
          by_cases hlt : k < n
          · have hk' : k < l.length := by rw [← HN.out]; exact hlt
            have HE := Lib.hid (dlF_at l (-1) k hk')
            obtain ⟨b, off, rfl, hbl, x0, y0⟩ := EntsD.at2 (EntsD.below HV.out (L0.out.trans (HB2.out.mono L0.out.size))) k hk'
            obtain ⟨k1, hx⟩ : ∃ x, x = l[k].1 := ⟨_, rfl⟩
            obtain ⟨n1, hy⟩ : ∃ x, x = l[k].2 := ⟨_, rfl⟩
            have HEL : Hid (l[k] = (k1, n1)) := Lib.hid (by rw [hx, hy])
            rw [← hx] at x0
            rw [← hy] at y0
            clear hx hy
            by_cases hq : (k : Int) = -1
            · have HE2 : Hid (O ++ dlF (-1) (l.drop (k + 1)) (k + 1) = dlF (-1) l 0) := Lib.hid (by rw [← HA.out, HE.out, if_pos hq])
              have q9 : ((k : Int) != (-1)) = false := by simpa using hq
              clear HA HE HEL hq hk'
              go_wp2
              go_roundg (gk - 1)
              case measure => omega
              case rel => exact ⟨k + 1, _, O, rfl, by go_num, by omega, by omega, Nat.le_succ_of_le HL.out, HE2.out, HO.out, HB2.out⟩
            · have q9 : ((k : Int) != (-1)) = true := by simpa using hq
              obtain ⟨X, hX⟩ : ∃ X, O ++ [(k1, n1)] = X := ⟨_, rfl⟩
              have HX := Lib.hid hX
              have HE2 : Hid (X ++ dlF (-1) (l.drop (k + 1)) (k + 1) = dlF (-1) l 0) := Lib.hid (by rw [← HX.out, ← HA.out, HE.out, if_neg hq, HEL.out]; simp)
              have hnX : X.length ≤ k + 1 := by rw [← hX, List.length_append]; have := HL.out; simp only [List.length_cons, List.length_nil]; omega
              have LX := Lib.hid hnX
              have AX := Lib.hid (app_one k1 n1 HO.out HB2.out.size)
              have SX := Lib.hid (show w0.heap.size ≤ (wr.alloc (.cells #[.int .i64 k1, .int .i64 n1] 70)).heap.size by rw [alloc_size]; have := HB2.out.size; omega)
              have NX := Lib.hid (show O.length + [(k1, n1)].length ≤ 1000000 by have := HL.out; simp only [List.length_cons, List.length_nil]; omega)
              clear hX hnX HA HE HEL hq
              go_wp2_with (at_builtin; refine append_ents rfl (.tmp 59) (.tmp 64) rfl w0.heap.size _ O [(k1, n1)] rfl (some ⟨wr.heap.size, 0, none⟩) 1 1 rfl AX.out.1 AX.out.2.1 NX.out SX.out X HX.out ?_)
              intro vX wX OX bX
              have BX := Lib.hid ((HB2.out.trans AX.out.2.2).trans bX)
              clear bX AX
              go_wp2
              go_roundg (gk - 1)
              case measure => omega
              case rel => exact ⟨k + 1, vX, X, rfl, by go_num, by omega, by omega, LX.out, HE2.out, OX.out, BX.out⟩
          · have HO9 : Hid (O = dlF (-1) l 0) := Lib.hid (by rw [← HA.out, dlF_over _ _ _ (by rw [← HN.out]; exact hlt), List.append_nil])
            have hKK := K0.out.below HB2.out
            have KK := Lib.hid hKK
            have c0 : wr.cell? ⟨w.heap.size, 0, none⟩ = some (.int .i64 0) := hKK.cell 0
            have c1 : wr.cell? ⟨w.heap.size, 1, none⟩ = some (.int .i64 0) := hKK.cell 1
            have f0 : wr.frozen? ⟨w.heap.size, 0, none⟩ = false := hKK.fz 0
            have f1 : wr.frozen? ⟨w.heap.size, 1, none⟩ = false := hKK.fz 1
            have hlw := hKK.lt
            clear HA hKK
            have HZ1 : Hid ((z, (x, y), q) = (dlF (-1) l 0, ((0 : Int), (0 : Int)), false)) := Lib.hid (by have := HZ.out; rw [HAT.out] at this; rw [this]; first | rfl | (rw [if_pos h9, show decide (0 ≤ a) = false from decide_eq_false (by omega)]))
            have HO1 := Lib.hid (own_base (own_kp HO.out (kp_two wr KLT.out (.int .i64 0) (.int .i64 0))) L0.out.size)
            have HB3 := Lib.hid (((L0.out.trans (HB2.out.mono L0.out.size)).setCell (p := ⟨w.heap.size, 0, none⟩) (Nat.le_refl _) (.int .i64 0)).setCell (p := ⟨w.heap.size, 1, none⟩) (Nat.le_refl _) (.int .i64 0))
            have HK3 := Lib.hid (KK.out.set2 (.int .i64 0) (.int .i64 0))
            rw [HO9.out] at HO1
            clear HZ HAT
            obtain ⟨rfl, hz2⟩ := Prod.mk.inj HZ1.out
            obtain ⟨hz3, rfl⟩ := Prod.mk.inj hz2
            obtain ⟨rfl, rfl⟩ := Prod.mk.inj hz3
            clear hz2 hz3 HZ1
            go_wp2
            exact bodyPost_ret (v := .tuple #[u11, .agg #[.int .i64 0, .int .i64 0], .bool false]) (results_pop rfl _ _ _ _ _ _ _ rfl rfl rfl HK3.out) rfl ⟨_, rfl, HO1.out, HB3.out⟩
      · have HAT : Hid (atL l 2 loc = a) := Lib.hid (by unfold atL; rw [HA0.out, if_neg (fun h => h.elim (fun h => hg h.2) (fun h => h.1 rfl))])
        clear HA HST
        go_wp2_with fail
        go_loopg [11, 12] n (fun fuel out' i' wr => ∃ (k : Nat) (vo : Value) (O : List Ent), out' = vo ∧ i' = .int .i64 k ∧ k ≤ n ∧ n - k ≤ fuel ∧ O.length ≤ k ∧ O ++ dlF (a) (l.drop k) k = dlF (a) l 0 ∧ wr.ownsRow w0.heap.size 70 2 vo O.length (rowE O) ∧ Below w0.heap.size w0 wr)
        case atStart => exact ⟨0, _, [], rfl, rfl, Nat.zero_le _, Nat.le_refl _, Nat.le_refl _, rfl, World.ownsRow_nil _ _ _ _, HB.out⟩
        case round =>
          obtain ⟨k, vo, O, rfl, rfl, hk, hf, hO, ha, ho, hb⟩ := hrel
          have HA := Lib.hid ha
          have HO := Lib.hid ho
          have HB2 := Lib.hid hb
          have HL := Lib.hid hO
          clear ha ho hb hO
          by_cases hlt : k < n
          · have hk' : k < l.length := by rw [← HN.out]; exact hlt
            have HE := Lib.hid (dlF_at l (a) k hk')
            obtain ⟨b, off, rfl, hbl, x0, y0⟩ := EntsD.at2 (EntsD.below HV.out (L0.out.trans (HB2.out.mono L0.out.size))) k hk'
            obtain ⟨k1, hx⟩ : ∃ x, x = l[k].1 := ⟨_, rfl⟩
            obtain ⟨n1, hy⟩ : ∃ x, x = l[k].2 := ⟨_, rfl⟩
            have HEL : Hid (l[k] = (k1, n1)) := Lib.hid (by rw [hx, hy])
            rw [← hx] at x0
            rw [← hy] at y0
            clear hx hy
            by_cases hq : (k : Int) = a
            · have HE2 : Hid (O ++ dlF (a) (l.drop (k + 1)) (k + 1) = dlF (a) l 0) := Lib.hid (by rw [← HA.out, HE.out, if_pos hq])
              have q9 : ((k : Int) != (a)) = false := by simpa using hq
              clear HA HE HEL hq hk'
              go_wp2
              go_roundg (gk - 1)
              case measure => omega
              case rel => exact ⟨k + 1, _, O, rfl, by go_num, by omega, by omega, Nat.le_succ_of_le HL.out, HE2.out, HO.out, HB2.out⟩
            · have q9 : ((k : Int) != (a)) = true := by simpa using hq
              obtain ⟨X, hX⟩ : ∃ X, O ++ [(k1, n1)] = X := ⟨_, rfl⟩
              have HX := Lib.hid hX
              have HE2 : Hid (X ++ dlF (a) (l.drop (k + 1)) (k + 1) = dlF (a) l 0) := Lib.hid (by rw [← HX.out, ← HA.out, HE.out, if_neg hq, HEL.out]; simp)
              have hnX : X.length ≤ k + 1 := by rw [← hX, List.length_append]; have := HL.out; simp only [List.length_cons, List.length_nil]; omega
              have LX := Lib.hid hnX
              have AX := Lib.hid (app_one k1 n1 HO.out HB2.out.size)
              have SX := Lib.hid (show w0.heap.size ≤ (wr.alloc (.cells #[.int .i64 k1, .int .i64 n1] 70)).heap.size by rw [alloc_size]; have := HB2.out.size; omega)
              have NX := Lib.hid (show O.length + [(k1, n1)].length ≤ 1000000 by have := HL.out; simp only [List.length_cons, List.length_nil]; omega)
              clear hX hnX HA HE HEL hq
              go_wp2_with (at_builtin; refine append_ents rfl (.tmp 59) (.tmp 64) rfl w0.heap.size _ O [(k1, n1)] rfl (some ⟨wr.heap.size, 0, none⟩) 1 1 rfl AX.out.1 AX.out.2.1 NX.out SX.out X HX.out ?_)
              intro vX wX OX bX
              have BX := Lib.hid ((HB2.out.trans AX.out.2.2).trans bX)
              clear bX AX
              go_wp2
              go_roundg (gk - 1)
              case measure => omega
              case rel => exact ⟨k + 1, vX, X, rfl, by go_num, by omega, by omega, LX.out, HE2.out, OX.out, BX.out⟩
          · have HO9 : Hid (O = dlF (a) l 0) := Lib.hid (by rw [← HA.out, dlF_over _ _ _ (by rw [← HN.out]; exact hlt), List.append_nil])
            have hKK := K0.out.below HB2.out
            have KK := Lib.hid hKK
            have c0 : wr.cell? ⟨w.heap.size, 0, none⟩ = some (.int .i64 0) := hKK.cell 0
            have c1 : wr.cell? ⟨w.heap.size, 1, none⟩ = some (.int .i64 0) := hKK.cell 1
            have f0 : wr.frozen? ⟨w.heap.size, 0, none⟩ = false := hKK.fz 0
            have f1 : wr.frozen? ⟨w.heap.size, 1, none⟩ = false := hKK.fz 1
            have hlw := hKK.lt
            clear HA hKK
            by_cases h9 : a < 0
            · have HZ1 : Hid ((z, (x, y), q) = (dlF (a) l 0, ((0 : Int), (0 : Int)), false)) := Lib.hid (by have := HZ.out; rw [HAT.out] at this; rw [this]; first | rfl | (rw [if_pos h9, show decide (0 ≤ a) = false from decide_eq_false (by omega)]))
              have HO1 := Lib.hid (own_base (own_kp HO.out (kp_two wr KLT.out (.int .i64 0) (.int .i64 0))) L0.out.size)
              have HB3 := Lib.hid (((L0.out.trans (HB2.out.mono L0.out.size)).setCell (p := ⟨w.heap.size, 0, none⟩) (Nat.le_refl _) (.int .i64 0)).setCell (p := ⟨w.heap.size, 1, none⟩) (Nat.le_refl _) (.int .i64 0))
              have HK3 := Lib.hid (KK.out.set2 (.int .i64 0) (.int .i64 0))
              rw [HO9.out] at HO1
              clear HZ HAT
              obtain ⟨rfl, hz2⟩ := Prod.mk.inj HZ1.out
              obtain ⟨hz3, rfl⟩ := Prod.mk.inj hz2
              obtain ⟨rfl, rfl⟩ := Prod.mk.inj hz3
              clear hz2 hz3 HZ1
              go_wp2
              exact bodyPost_ret (v := .tuple #[u11, .agg #[.int .i64 0, .int .i64 0], .bool false]) (results_pop rfl _ _ _ _ _ _ _ rfl rfl rfl HK3.out) rfl ⟨_, rfl, HO1.out, HB3.out⟩
            · obtain ⟨c, rfl⟩ : ∃ c : Nat, a = (c : Int) := ⟨a.toNat, by omega⟩
              have hr := fstL_range (atP 2 loc) l 0
              rw [HA0.out] at hr
              have hcl : c < l.length := by omega
              have HZ1 : Hid ((z, (x, y), q) = (dlF (c : Int) l 0, l[c], true)) := Lib.hid (by have := HZ.out; rw [HAT.out] at this; rw [this, if_neg h9, Int.toNat_natCast, getD_at l c hcl]; congr 2)
              obtain ⟨b, off, rfl, hbl, x0, y0⟩ := EntsD.at2 HV.out c hcl
              obtain ⟨rfl, hz2⟩ := Prod.mk.inj HZ1.out
              obtain ⟨hz3, rfl⟩ := Prod.mk.inj hz2
              rw [← hz3] at x0 y0
              have BB := Lib.hid (L0.out.trans (HB2.out.mono L0.out.size))
              have c5 : wr.cell? ⟨b, off + c * 2, none⟩ = some (.int .i64 x) := (BB.out.cell (p := ⟨b, _, none⟩) hbl).trans x0
              have c6 : wr.cell? ⟨b, off + c * 2 + 1, none⟩ = some (.int .i64 y) := (BB.out.cell (p := ⟨b, _, none⟩) hbl).trans y0
              have hbne : b ≠ w.heap.size := by omega
              have hbne2 : ¬ b = w.heap.size := hbne
              have hcn : c < n := by rw [HN.out]; exact hcl
              have HO1 := Lib.hid (own_base (own_kp HO.out (kp_two wr KLT.out (.int .i64 x) (.int .i64 y))) L0.out.size)
              have HB3 := Lib.hid ((BB.out.setCell (p := ⟨w.heap.size, 0, none⟩) (Nat.le_refl _) (.int .i64 x)).setCell (p := ⟨w.heap.size, 1, none⟩) (Nat.le_refl _) (.int .i64 y))
              have HK3 := Lib.hid (KK.out.set2 (.int .i64 x) (.int .i64 y))
              rw [HO9.out] at HO1
              have hb1 : b < wr.heap.size := Nat.lt_of_lt_of_le hbl BB.out.size
              have c5d : wr.drew.cell? ⟨b, off + c * 2, none⟩ = some (.int .i64 x) := c5
              have c6d : wr.drew.cell? ⟨b, off + c * 2 + 1, none⟩ = some (.int .i64 y) := c6
              have c5e : ((wr.setCell ⟨w.heap.size, 0, none⟩ (.int .i64 x)).setCell ⟨w.heap.size, 1, none⟩ (.int .i64 y)).drew.cell? ⟨b, off + c * 2, none⟩ = some (.int .i64 x) := (cell_other2 hbne _ _ _).trans c5
              have c6e : ((wr.setCell ⟨w.heap.size, 0, none⟩ (.int .i64 x)).setCell ⟨w.heap.size, 1, none⟩ (.int .i64 y)).drew.cell? ⟨b, off + c * 2 + 1, none⟩ = some (.int .i64 y) := (cell_other2 hbne _ _ _).trans c6
              clear HZ HAT hr hcl HZ1 hz2 hz3 x0 y0 hbl
              go_wp2_with fail
              have e1 : (0 : Int) ≤ (c : Int) := by omega
              have e2 : (c : Int) < (n : Int) := by omega
              go_region_held3 (fun w' => w'.cell? ⟨b, off + c * 2, none⟩ = some (.int .i64 x) ∧ w'.cell? ⟨b, off + c * 2 + 1, none⟩ = some (.int .i64 y))
                (first | with_reducible exact ⟨c5, c6⟩ | with_reducible assumption | with_reducible exact ⟨c5d, c6d⟩ | with_reducible exact ⟨c5e, c6e⟩)
                (fail)
              go_wp2
              exact bodyPost_ret (v := .tuple #[u11, .agg #[.int .i64 x, .int .i64 y], .bool true]) (results_pop rfl _ _ _ _ _ _ _ rfl rfl rfl HK3.out) rfl ⟨_, rfl, HO1.out, HB3.out.drew⟩
    | succ j =>
      obtain rfl : i = (j : Int) := by omega
      have hk' : j < l.length := by rw [← HN.out]; omega
      have HE := Lib.hid (fstL_at (atP 2 loc) l j hk')
      obtain ⟨b, off, rfl, hbl, x0, y0⟩ := EntsD.at2 (EntsD.below HV.out (L0.out.trans (HB.out.mono L0.out.size))) j hk'
      obtain ⟨k1, hx⟩ : ∃ x, x = l[j].1 := ⟨_, rfl⟩
      rw [← hx] at x0
      have hlt : j < n := by omega
      have hp : atP 2 loc l[j] = (decide (k1 = loc) || (decide ((2 : Int) = 2) && decide (loc < 0))) := by rw [hx]; rfl
      have HP := Lib.hid hp
      have ew : IntKind.i64.wrap ((j : Int) - 1) = (j : Int) - 1 := by rw [IntKind.wrap_i64]; omega
      clear hx hp hi
      by_cases hq : k1 = loc
      · have HE2 : Hid ((j : Int) = fstL (atP 2 loc) (l.drop j) j) := Lib.hid (by rw [HE.out, if_pos (by rw [HP.out, show decide (k1 = loc) = true from decide_eq_true hq]; rfl)])
        have q1 : (k1 == loc) = true := by simpa using hq
        clear HE HP
        go_wp2_with fail
        go_roundg (gk - 1)
        case measure => omega
        case rel => exact ⟨j, j, (j : Int) - 1, rfl, (by first | rfl | (rw [ew])), by omega, by omega, by omega, HE2.out, HB.out⟩
      · have q1 : (k1 == loc) = false := by simpa using hq
        by_cases hl : loc < 0
        · have HE2 : Hid ((j : Int) = fstL (atP 2 loc) (l.drop j) j) := Lib.hid (by rw [HE.out, if_pos (by rw [HP.out, show decide (loc < 0) = true from decide_eq_true hl]; simp)])
          clear HE HP
          go_wp2_with fail
          go_roundg (gk - 1)
          case measure => omega
          case rel => exact ⟨j, j, (j : Int) - 1, rfl, (by first | rfl | (rw [ew])), by omega, by omega, by omega, HE2.out, HB.out⟩
        · have HE2 : Hid (a = fstL (atP 2 loc) (l.drop j) j) := Lib.hid (by rw [HE.out, if_neg (by rw [HP.out, show decide (k1 = loc) = false from decide_eq_false hq, show decide (loc < 0) = false from decide_eq_false hl]; simp)]; exact HA.out)
          clear HE HP
          go_wp2_with fail
          go_roundg (gk - 1)
          case measure => omega
          case rel => exact ⟨j, a, (j : Int) - 1, rfl, (by first | rfl | (rw [ew])), by omega, by omega, by omega, HE2.out, HB.out⟩
set_option maxRecDepth 100000 in
set_option maxHeartbeats 8000000 in
theorem rpop_else (l : List Ent) (v : Value) (model : Int) (hm : model ≠ 2) (loc : Int) (w : World) (hv : EntsD w v l) (hn : l.length ≤ 100000) (z : List Ent) (x y : Int) (q : Bool) (hz : popL l model loc = (z, (x, y), q)) :
    Calls Tryz.prog 65 #[v, .int .i64 model, .int .i64 loc] w fun e w' => ∃ v', e = .returned (.tuple #[v', .agg #[.int .i64 x, .int .i64 y], .bool q]) ∧ w'.ownsRow w.heap.size 70 2 v' z.length (rowE z) ∧ Below w.heap.size w w' := by
  have HV := Lib.hid hv
  obtain ⟨ad, cap, rfl⟩ := hv.shape0
  obtain ⟨n, hN⟩ : ∃ n, n = l.length := ⟨_, rfl⟩
  rw [← hN] at HV hn ⊢
  have HN := Lib.hid hN
  have HZ := Lib.hid (hz.symm.trans (popL_dl l model loc))
  clear hv hz hN
  have hw : IntKind.i64.wrap ((n : Int) - 1) = (n : Int) - 1 := by rw [IntKind.wrap_i64]; omega
  have K0 := Lib.hid (Bk.new w 70 #[.int .i64 0, .int .i64 0])
  have L0 : Hid (Below w.heap.size w (w.alloc (.cells #[.int .i64 0, .int .i64 0] 70))) := (Below.refl _ _).alloc (Nat.le_refl _) _
  have HST : Hid ((-1 : Int) = fstL (atP model loc) (l.drop n) n) := Lib.hid (by rw [HN.out, fstL_over _ _ _ (by omega)])
  have q2 : (model == 2) = false := by simpa using hm
  have q2n : (model != 2) = true := by simpa using hm
  have HM := Lib.hid hm
  clear hm
  go_enter Tryz.func65, Tryz.ntmps65
  go_wp2_with fail
  generalize w.alloc _ = w0 at K0 L0 ⊢
  have KLT := Lib.hid K0.out.lt
  go_loopg [9, 10] n (fun fuel at' i' wr => ∃ (m : Nat) (a i : Int), at' = .int .i64 a ∧ i' = .int .i64 i ∧ i + 1 = m ∧ m ≤ n ∧ m ≤ fuel ∧ a = fstL (atP model loc) (l.drop m) m ∧ Below w0.heap.size w0 wr)
  case atStart => exact ⟨n, -1, _, rfl, rfl, by omega, Nat.le_refl _, Nat.le_refl _, HST.out, Below.refl _ _⟩
  case round =>
    obtain ⟨m, a, i, rfl, rfl, hi, hk, hf, ha, hb⟩ := hrel
    have HA := Lib.hid ha
    have HB := Lib.hid hb
    clear ha hb
    cases m with
    | zero =>
      obtain rfl : i = -1 := by omega
      have hA0 : fstL (atP model loc) l 0 = a := HA.out.symm
      have HA0 := Lib.hid hA0
      clear hA0
      by_cases hm3 : model = 3
      · have HAT : Hid (atL l model loc = a) := Lib.hid (by unfold atL; rw [HA0.out, if_neg (fun h => h.elim (fun h => HM.out h.1) (fun h => h.2 hm3))])
        have q3 : (model == 3) = true := by simpa using hm3
        have q3n : (model != 3) = false := by simpa using hm3
        clear hm3
        clear HA HST
        go_wp2_with fail
        go_loopg [11, 12] n (fun fuel out' i' wr => ∃ (k : Nat) (vo : Value) (O : List Ent), out' = vo ∧ i' = .int .i64 k ∧ k ≤ n ∧ n - k ≤ fuel ∧ O.length ≤ k ∧ O ++ dlF (a) (l.drop k) k = dlF (a) l 0 ∧ wr.ownsRow w0.heap.size 70 2 vo O.length (rowE O) ∧ Below w0.heap.size w0 wr)
        case atStart => exact ⟨0, _, [], rfl, rfl, Nat.zero_le _, Nat.le_refl _, Nat.le_refl _, rfl, World.ownsRow_nil _ _ _ _, HB.out⟩
        case round =>
          obtain ⟨k, vo, O, rfl, rfl, hk, hf, hO, ha, ho, hb⟩ := hrel
          have HA := Lib.hid ha
          have HO := Lib.hid ho
          have HB2 := Lib.hid hb
          have HL := Lib.hid hO
          clear ha ho hb hO
          by_cases hlt : k < n
          · have hk' : k < l.length := by rw [← HN.out]; exact hlt
            have HE := Lib.hid (dlF_at l (a) k hk')
            obtain ⟨b, off, rfl, hbl, x0, y0⟩ := EntsD.at2 (EntsD.below HV.out (L0.out.trans (HB2.out.mono L0.out.size))) k hk'
            obtain ⟨k1, hx⟩ : ∃ x, x = l[k].1 := ⟨_, rfl⟩
            obtain ⟨n1, hy⟩ : ∃ x, x = l[k].2 := ⟨_, rfl⟩
            have HEL : Hid (l[k] = (k1, n1)) := Lib.hid (by rw [hx, hy])
            rw [← hx] at x0
            rw [← hy] at y0
            clear hx hy
            by_cases hq : (k : Int) = a
            · have HE2 : Hid (O ++ dlF (a) (l.drop (k + 1)) (k + 1) = dlF (a) l 0) := Lib.hid (by rw [← HA.out, HE.out, if_pos hq])
              have q9 : ((k : Int) != (a)) = false := by simpa using hq
              clear HA HE HEL hq hk'
              go_wp2
              go_roundg (gk - 1)
              case measure => omega
              case rel => exact ⟨k + 1, _, O, rfl, by go_num, by omega, by omega, Nat.le_succ_of_le HL.out, HE2.out, HO.out, HB2.out⟩
            · have q9 : ((k : Int) != (a)) = true := by simpa using hq
              obtain ⟨X, hX⟩ : ∃ X, O ++ [(k1, n1)] = X := ⟨_, rfl⟩
              have HX := Lib.hid hX
              have HE2 : Hid (X ++ dlF (a) (l.drop (k + 1)) (k + 1) = dlF (a) l 0) := Lib.hid (by rw [← HX.out, ← HA.out, HE.out, if_neg hq, HEL.out]; simp)
              have hnX : X.length ≤ k + 1 := by rw [← hX, List.length_append]; have := HL.out; simp only [List.length_cons, List.length_nil]; omega
              have LX := Lib.hid hnX
              have AX := Lib.hid (app_one k1 n1 HO.out HB2.out.size)
              have SX := Lib.hid (show w0.heap.size ≤ (wr.alloc (.cells #[.int .i64 k1, .int .i64 n1] 70)).heap.size by rw [alloc_size]; have := HB2.out.size; omega)
              have NX := Lib.hid (show O.length + [(k1, n1)].length ≤ 1000000 by have := HL.out; simp only [List.length_cons, List.length_nil]; omega)
              clear hX hnX HA HE HEL hq
              go_wp2_with (at_builtin; refine append_ents rfl (.tmp 59) (.tmp 64) rfl w0.heap.size _ O [(k1, n1)] rfl (some ⟨wr.heap.size, 0, none⟩) 1 1 rfl AX.out.1 AX.out.2.1 NX.out SX.out X HX.out ?_)
              intro vX wX OX bX
              have BX := Lib.hid ((HB2.out.trans AX.out.2.2).trans bX)
              clear bX AX
              go_wp2
              go_roundg (gk - 1)
              case measure => omega
              case rel => exact ⟨k + 1, vX, X, rfl, by go_num, by omega, by omega, LX.out, HE2.out, OX.out, BX.out⟩
          · have HO9 : Hid (O = dlF (a) l 0) := Lib.hid (by rw [← HA.out, dlF_over _ _ _ (by rw [← HN.out]; exact hlt), List.append_nil])
            have hKK := K0.out.below HB2.out
            have KK := Lib.hid hKK
            have c0 : wr.cell? ⟨w.heap.size, 0, none⟩ = some (.int .i64 0) := hKK.cell 0
            have c1 : wr.cell? ⟨w.heap.size, 1, none⟩ = some (.int .i64 0) := hKK.cell 1
            have f0 : wr.frozen? ⟨w.heap.size, 0, none⟩ = false := hKK.fz 0
            have f1 : wr.frozen? ⟨w.heap.size, 1, none⟩ = false := hKK.fz 1
            have hlw := hKK.lt
            clear HA hKK
            by_cases h9 : a < 0
            · have HZ1 : Hid ((z, (x, y), q) = (dlF (a) l 0, ((0 : Int), (0 : Int)), false)) := Lib.hid (by have := HZ.out; rw [HAT.out] at this; rw [this]; first | rfl | (rw [if_pos h9, show decide (0 ≤ a) = false from decide_eq_false (by omega)]))
              have HO1 := Lib.hid (own_base (own_kp HO.out (kp_two wr KLT.out (.int .i64 0) (.int .i64 0))) L0.out.size)
              have HB3 := Lib.hid (((L0.out.trans (HB2.out.mono L0.out.size)).setCell (p := ⟨w.heap.size, 0, none⟩) (Nat.le_refl _) (.int .i64 0)).setCell (p := ⟨w.heap.size, 1, none⟩) (Nat.le_refl _) (.int .i64 0))
              have HK3 := Lib.hid (KK.out.set2 (.int .i64 0) (.int .i64 0))
              rw [HO9.out] at HO1
              clear HZ HAT
              obtain ⟨rfl, hz2⟩ := Prod.mk.inj HZ1.out
              obtain ⟨hz3, rfl⟩ := Prod.mk.inj hz2
              obtain ⟨rfl, rfl⟩ := Prod.mk.inj hz3
              clear hz2 hz3 HZ1
              go_wp2
              exact bodyPost_ret (v := .tuple #[u11, .agg #[.int .i64 0, .int .i64 0], .bool false]) (results_pop rfl _ _ _ _ _ _ _ rfl rfl rfl HK3.out) rfl ⟨_, rfl, HO1.out, HB3.out⟩
            · obtain ⟨c, rfl⟩ : ∃ c : Nat, a = (c : Int) := ⟨a.toNat, by omega⟩
              have hr := fstL_range (atP model loc) l 0
              rw [HA0.out] at hr
              have hcl : c < l.length := by omega
              have HZ1 : Hid ((z, (x, y), q) = (dlF (c : Int) l 0, l[c], true)) := Lib.hid (by have := HZ.out; rw [HAT.out] at this; rw [this, if_neg h9, Int.toNat_natCast, getD_at l c hcl]; congr 2)
              obtain ⟨b, off, rfl, hbl, x0, y0⟩ := EntsD.at2 HV.out c hcl
              obtain ⟨rfl, hz2⟩ := Prod.mk.inj HZ1.out
              obtain ⟨hz3, rfl⟩ := Prod.mk.inj hz2
              rw [← hz3] at x0 y0
              have BB := Lib.hid (L0.out.trans (HB2.out.mono L0.out.size))
              have c5 : wr.cell? ⟨b, off + c * 2, none⟩ = some (.int .i64 x) := (BB.out.cell (p := ⟨b, _, none⟩) hbl).trans x0
              have c6 : wr.cell? ⟨b, off + c * 2 + 1, none⟩ = some (.int .i64 y) := (BB.out.cell (p := ⟨b, _, none⟩) hbl).trans y0
              have hbne : b ≠ w.heap.size := by omega
              have hbne2 : ¬ b = w.heap.size := hbne
              have hcn : c < n := by rw [HN.out]; exact hcl
              have HO1 := Lib.hid (own_base (own_kp HO.out (kp_two wr KLT.out (.int .i64 x) (.int .i64 y))) L0.out.size)
              have HB3 := Lib.hid ((BB.out.setCell (p := ⟨w.heap.size, 0, none⟩) (Nat.le_refl _) (.int .i64 x)).setCell (p := ⟨w.heap.size, 1, none⟩) (Nat.le_refl _) (.int .i64 y))
              have HK3 := Lib.hid (KK.out.set2 (.int .i64 x) (.int .i64 y))
              rw [HO9.out] at HO1
              have hb1 : b < wr.heap.size := Nat.lt_of_lt_of_le hbl BB.out.size
              have c5d : wr.drew.cell? ⟨b, off + c * 2, none⟩ = some (.int .i64 x) := c5
              have c6d : wr.drew.cell? ⟨b, off + c * 2 + 1, none⟩ = some (.int .i64 y) := c6
              have c5e : ((wr.setCell ⟨w.heap.size, 0, none⟩ (.int .i64 x)).setCell ⟨w.heap.size, 1, none⟩ (.int .i64 y)).drew.cell? ⟨b, off + c * 2, none⟩ = some (.int .i64 x) := (cell_other2 hbne _ _ _).trans c5
              have c6e : ((wr.setCell ⟨w.heap.size, 0, none⟩ (.int .i64 x)).setCell ⟨w.heap.size, 1, none⟩ (.int .i64 y)).drew.cell? ⟨b, off + c * 2 + 1, none⟩ = some (.int .i64 y) := (cell_other2 hbne _ _ _).trans c6
              clear HZ HAT hr hcl HZ1 hz2 hz3 x0 y0 hbl
              go_wp2_with fail
              have e1 : (0 : Int) ≤ (c : Int) := by omega
              have e2 : (c : Int) < (n : Int) := by omega
              go_region_held3 (fun w' => w'.cell? ⟨b, off + c * 2, none⟩ = some (.int .i64 x) ∧ w'.cell? ⟨b, off + c * 2 + 1, none⟩ = some (.int .i64 y))
                (first | with_reducible exact ⟨c5, c6⟩ | with_reducible assumption | with_reducible exact ⟨c5d, c6d⟩ | with_reducible exact ⟨c5e, c6e⟩)
                (fail)
              go_wp2
              exact bodyPost_ret (v := .tuple #[u11, .agg #[.int .i64 x, .int .i64 y], .bool true]) (results_pop rfl _ _ _ _ _ _ _ rfl rfl rfl HK3.out) rfl ⟨_, rfl, HO1.out, HB3.out.drew⟩
      · have HAT : Hid (atL l model loc = -1) := Lib.hid (by unfold atL; rw [if_pos (.inr ⟨HM.out, hm3⟩)])
        have q3 : (model == 3) = false := by simpa using hm3
        have q3n : (model != 3) = true := by simpa using hm3
        clear hm3
        clear HA HST
        go_wp2_with fail
        go_loopg [11, 12] n (fun fuel out' i' wr => ∃ (k : Nat) (vo : Value) (O : List Ent), out' = vo ∧ i' = .int .i64 k ∧ k ≤ n ∧ n - k ≤ fuel ∧ O.length ≤ k ∧ O ++ dlF (-1) (l.drop k) k = dlF (-1) l 0 ∧ wr.ownsRow w0.heap.size 70 2 vo O.length (rowE O) ∧ Below w0.heap.size w0 wr)
        case atStart => exact ⟨0, _, [], rfl, rfl, Nat.zero_le _, Nat.le_refl _, Nat.le_refl _, rfl, World.ownsRow_nil _ _ _ _, HB.out⟩
        case round =>
          obtain ⟨k, vo, O, rfl, rfl, hk, hf, hO, ha, ho, hb⟩ := hrel
          have HA := Lib.hid ha
          have HO := Lib.hid ho
          have HB2 := Lib.hid hb
          have HL := Lib.hid hO
          clear ha ho hb hO
          by_cases hlt : k < n
          · have hk' : k < l.length := by rw [← HN.out]; exact hlt
            have HE := Lib.hid (dlF_at l (-1) k hk')
            obtain ⟨b, off, rfl, hbl, x0, y0⟩ := EntsD.at2 (EntsD.below HV.out (L0.out.trans (HB2.out.mono L0.out.size))) k hk'
            obtain ⟨k1, hx⟩ : ∃ x, x = l[k].1 := ⟨_, rfl⟩
            obtain ⟨n1, hy⟩ : ∃ x, x = l[k].2 := ⟨_, rfl⟩
            have HEL : Hid (l[k] = (k1, n1)) := Lib.hid (by rw [hx, hy])
            rw [← hx] at x0
            rw [← hy] at y0
            clear hx hy
            by_cases hq : (k : Int) = -1
            · have HE2 : Hid (O ++ dlF (-1) (l.drop (k + 1)) (k + 1) = dlF (-1) l 0) := Lib.hid (by rw [← HA.out, HE.out, if_pos hq])
              have q9 : ((k : Int) != (-1)) = false := by simpa using hq
              clear HA HE HEL hq hk'
              go_wp2
              go_roundg (gk - 1)
              case measure => omega
              case rel => exact ⟨k + 1, _, O, rfl, by go_num, by omega, by omega, Nat.le_succ_of_le HL.out, HE2.out, HO.out, HB2.out⟩
            · have q9 : ((k : Int) != (-1)) = true := by simpa using hq
              obtain ⟨X, hX⟩ : ∃ X, O ++ [(k1, n1)] = X := ⟨_, rfl⟩
              have HX := Lib.hid hX
              have HE2 : Hid (X ++ dlF (-1) (l.drop (k + 1)) (k + 1) = dlF (-1) l 0) := Lib.hid (by rw [← HX.out, ← HA.out, HE.out, if_neg hq, HEL.out]; simp)
              have hnX : X.length ≤ k + 1 := by rw [← hX, List.length_append]; have := HL.out; simp only [List.length_cons, List.length_nil]; omega
              have LX := Lib.hid hnX
              have AX := Lib.hid (app_one k1 n1 HO.out HB2.out.size)
              have SX := Lib.hid (show w0.heap.size ≤ (wr.alloc (.cells #[.int .i64 k1, .int .i64 n1] 70)).heap.size by rw [alloc_size]; have := HB2.out.size; omega)
              have NX := Lib.hid (show O.length + [(k1, n1)].length ≤ 1000000 by have := HL.out; simp only [List.length_cons, List.length_nil]; omega)
              clear hX hnX HA HE HEL hq
              go_wp2_with (at_builtin; refine append_ents rfl (.tmp 59) (.tmp 64) rfl w0.heap.size _ O [(k1, n1)] rfl (some ⟨wr.heap.size, 0, none⟩) 1 1 rfl AX.out.1 AX.out.2.1 NX.out SX.out X HX.out ?_)
              intro vX wX OX bX
              have BX := Lib.hid ((HB2.out.trans AX.out.2.2).trans bX)
              clear bX AX
              go_wp2
              go_roundg (gk - 1)
              case measure => omega
              case rel => exact ⟨k + 1, vX, X, rfl, by go_num, by omega, by omega, LX.out, HE2.out, OX.out, BX.out⟩
          · have HO9 : Hid (O = dlF (-1) l 0) := Lib.hid (by rw [← HA.out, dlF_over _ _ _ (by rw [← HN.out]; exact hlt), List.append_nil])
            have hKK := K0.out.below HB2.out
            have KK := Lib.hid hKK
            have c0 : wr.cell? ⟨w.heap.size, 0, none⟩ = some (.int .i64 0) := hKK.cell 0
            have c1 : wr.cell? ⟨w.heap.size, 1, none⟩ = some (.int .i64 0) := hKK.cell 1
            have f0 : wr.frozen? ⟨w.heap.size, 0, none⟩ = false := hKK.fz 0
            have f1 : wr.frozen? ⟨w.heap.size, 1, none⟩ = false := hKK.fz 1
            have hlw := hKK.lt
            clear HA hKK
            have HZ1 : Hid ((z, (x, y), q) = (dlF (-1) l 0, ((0 : Int), (0 : Int)), false)) := Lib.hid (by have := HZ.out; rw [HAT.out] at this; rw [this]; first | rfl | (rw [if_pos h9, show decide (0 ≤ a) = false from decide_eq_false (by omega)]))
            have HO1 := Lib.hid (own_base (own_kp HO.out (kp_two wr KLT.out (.int .i64 0) (.int .i64 0))) L0.out.size)
            have HB3 := Lib.hid (((L0.out.trans (HB2.out.mono L0.out.size)).setCell (p := ⟨w.heap.size, 0, none⟩) (Nat.le_refl _) (.int .i64 0)).setCell (p := ⟨w.heap.size, 1, none⟩) (Nat.le_refl _) (.int .i64 0))
            have HK3 := Lib.hid (KK.out.set2 (.int .i64 0) (.int .i64 0))
            rw [HO9.out] at HO1
            clear HZ HAT
            obtain ⟨rfl, hz2⟩ := Prod.mk.inj HZ1.out
            obtain ⟨hz3, rfl⟩ := Prod.mk.inj hz2
            obtain ⟨rfl, rfl⟩ := Prod.mk.inj hz3
            clear hz2 hz3 HZ1
            go_wp2
            exact bodyPost_ret (v := .tuple #[u11, .agg #[.int .i64 0, .int .i64 0], .bool false]) (results_pop rfl _ _ _ _ _ _ _ rfl rfl rfl HK3.out) rfl ⟨_, rfl, HO1.out, HB3.out⟩
    | succ j =>
      obtain rfl : i = (j : Int) := by omega
      have hk' : j < l.length := by rw [← HN.out]; omega
      have HE := Lib.hid (fstL_at (atP model loc) l j hk')
      obtain ⟨b, off, rfl, hbl, x0, y0⟩ := EntsD.at2 (EntsD.below HV.out (L0.out.trans (HB.out.mono L0.out.size))) j hk'
      obtain ⟨k1, hx⟩ : ∃ x, x = l[j].1 := ⟨_, rfl⟩
      rw [← hx] at x0
      have hlt : j < n := by omega
      have hp : atP model loc l[j] = (decide (k1 = loc) || (decide ((model : Int) = 2) && decide (loc < 0))) := by rw [hx]; rfl
      have HP := Lib.hid hp
      have ew : IntKind.i64.wrap ((j : Int) - 1) = (j : Int) - 1 := by rw [IntKind.wrap_i64]; omega
      clear hx hp hi
      by_cases hq : k1 = loc
      · have HE2 : Hid ((j : Int) = fstL (atP model loc) (l.drop j) j) := Lib.hid (by rw [HE.out, if_pos (by rw [HP.out, show decide (k1 = loc) = true from decide_eq_true hq]; rfl)])
        have q1 : (k1 == loc) = true := by simpa using hq
        clear HE HP
        go_wp2_with fail
        go_roundg (gk - 1)
        case measure => omega
        case rel => exact ⟨j, j, (j : Int) - 1, rfl, (by first | rfl | (rw [ew])), by omega, by omega, by omega, HE2.out, HB.out⟩
      · have q1 : (k1 == loc) = false := by simpa using hq
        have HE2 : Hid (a = fstL (atP model loc) (l.drop j) j) := Lib.hid (by rw [HE.out, if_neg (by rw [HP.out, show decide (k1 = loc) = false from decide_eq_false hq, show decide (model = 2) = false from decide_eq_false HM.out]; simp)]; exact HA.out)
        clear HE HP
        go_wp2_with fail
        go_roundg (gk - 1)
        case measure => omega
        case rel => exact ⟨j, a, (j : Int) - 1, rfl, (by first | rfl | (rw [ew])), by omega, by omega, by omega, HE2.out, HB.out⟩
theorem rpop_own (l : List Ent) (v : Value) (model loc : Int) (w : World) (hv : EntsD w v l) (hn : l.length ≤ 100000) (z : List Ent) (x y : Int) (q : Bool) (hz : popL l model loc = (z, (x, y), q)) :
    Calls Tryz.prog 65 #[v, .int .i64 model, .int .i64 loc] w fun e w' => ∃ v', e = .returned (.tuple #[v', .agg #[.int .i64 x, .int .i64 y], .bool q]) ∧ w'.ownsRow w.heap.size 70 2 v' z.length (rowE z) ∧ Below w.heap.size w w' := by
  by_cases hm : model = 2
  · subst hm; exact rpop_two l v loc w hv hn z x y q hz
  · exact rpop_else l v model hm loc w hv hn z x y q hz
end Go.Proofs.YtacbanfnakgecaaGreat
