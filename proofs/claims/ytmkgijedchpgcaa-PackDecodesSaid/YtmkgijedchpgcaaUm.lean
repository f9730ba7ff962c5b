/- Layer 7: the reference's Light of a unit. -/
import Derived.Test.YtmkgijedchpgcaaUl
namespace Go.Proofs.Ytmkgijedchpgcaa
set_option linter.unusedSimpArgs false
set_option linter.unusedVariables false
open Go.RowKit

/-- A unit's lists are lists: what a slice's length can be. -/
theorem SlD.bd {α : Type} {S : Nat} {R : World → Nat → Nat → α → Prop} {w : World} {v : Value} {xs : List α} (h : SlD S R w v xs) : xs.length ≤ 9223372036854775807 := by
  obtain ⟨ad, cap, _, h1, h2, _⟩ := h; exact Nat.le_trans h1.1 h2

set_option maxRecDepth 100000 in
set_option maxHeartbeats 4000000 in
theorem ulight_any (u : Un) (vi vr vc : Value) (w : World) (hd : UnD w vi vr vc u) (b : Bool) (hb : lightU u = b) :
    Calls Try.prog 14 #[.agg #[.int .i64 u.mod, vi, vr, vc]] w fun e w' => e = .returned (.bool b) ∧ Below w.heap.size w w' := by
  have HD := Lib.hid hd
  obtain ⟨ai, ci, rfl⟩ := hd.i.shape0
  obtain ⟨ar, cr, rfl⟩ := hd.r.shape0
  obtain ⟨ac, cc, rfl⟩ := hd.c.shape0
  obtain ⟨m, hm⟩ : ∃ m, m = u.mod := ⟨_, rfl⟩
  have hi9 := hd.i.bd
  have hr9 := hd.r.bd
  have hc9 := hd.c.bd
  obtain ⟨ni, hni⟩ : ∃ n, n = u.init.length := ⟨_, rfl⟩
  obtain ⟨nr, hnr⟩ : ∃ n, n = u.regs.length := ⟨_, rfl⟩
  obtain ⟨nc, hnc⟩ : ∃ n, n = u.code.length := ⟨_, rfl⟩
  have HLU : Hid (b = (decide (ni ≤ 20) && (decide (nr ≤ 20) && (decide (nc ≤ 8) && u.code.all fun r => lightR r.1)))) := Lib.hid (by rw [← hb, hni, hnr, hnc]; rfl)
  have HNC := Lib.hid hnc
  rw [← hni] at HD hi9 ⊢
  rw [← hnr] at HD hr9 ⊢
  rw [← hnc] at HD hc9 ⊢
  rw [← hm]
  have K1 := Lib.hid (Bk.new w 25 #[.int .i64 m, .slice ai ni ci, .slice ar nr cr, .slice ac nc cc])
  have L1 : Hid (Below w.heap.size w (w.alloc (.cells #[.int .i64 m, .slice ai ni ci, .slice ar nr cr, .slice ac nc cc] 25))) := (Below.refl _ _).alloc (Nat.le_refl _) _
  clear hd hb hni hnr hnc hm
  by_cases hP : ni ≤ 20 ∧ nr ≤ 20 ∧ nc ≤ 8
  · obtain ⟨p1, p2, p3⟩ := hP
    have HBB : Hid ((u.code.drop 0).all (fun r => lightR r.1) = b) := Lib.hid (by rw [HLU.out, decide_eq_true p1, decide_eq_true p2, decide_eq_true p3]; rfl)
    have g1 : ¬ (20 : Int) < (ni : Int) := by omega
    have g2 : ¬ (20 : Int) < (nr : Int) := by omega
    have g3 : ¬ (8 : Int) < (nc : Int) := by omega
    clear HLU hi9 hr9 hc9 p1 p2
    go_enter Try.func14, Try.ntmps14
    go_wp2_with fail
    generalize w.alloc _ = w1 at K1 L1 ⊢
    clear g1 g2 g3
    go_loopg [3] nc (fun fuel i' wr => ∃ (k : Nat), i' = .int .i64 k ∧ k ≤ nc ∧ nc - k ≤ fuel ∧ (u.code.drop k).all (fun r => lightR r.1) = b ∧ Below w1.heap.size w1 wr)
    case atStart => exact ⟨0, rfl, Nat.zero_le _, Nat.le_refl _, HBB.out, Below.refl _ _⟩
    case round =>
      obtain ⟨k, rfl, hk, hf, ha, hb⟩ := hrel
      have HA := Lib.hid ha
      have HB := Lib.hid hb
      have KR := Lib.hid (K1.out.below hb)
      have LR := Lib.hid (L1.out.trans (hb.mono L1.out.size))
      clear ha hb
      by_cases hlt : k < nc
      · have hk2 : k < u.code.length := by rw [← HNC.out]; exact hlt
        have HE := Lib.hid (all_at' (fun r : List II × Value => lightR r.1) u.code k hk2)
        obtain ⟨bc, offc, rfl, hbc, hx⟩ := SlD.at (HD.out.below LR.out).c k hk2
        obtain ⟨row, hrow⟩ : ∃ r, r = u.code[k] := ⟨_, rfl⟩
        rw [← hrow] at hx HE
        obtain ⟨ls, lv⟩ := row
        have HROW : Hid (InsD wr lv ls) := Lib.hid hx.r
        have y1 : wr.cell? ⟨bc, offc + k, none⟩ = some lv := by have := hx.c; rw [Nat.mul_one] at this; exact this
        obtain ⟨al, cl, rfl⟩ : ∃ a c, lv = .slice a ls.length c := HROW.out.shape0
        have hl9 : ls.length ≤ 9223372036854775807 := HROW.out.bd
        simp only [] at HE
        obtain ⟨nl, hnl⟩ : ∃ n, n = ls.length := ⟨_, rfl⟩
        have HNL := Lib.hid hnl
        rw [← hnl] at HROW y1 hl9
        have c3 : wr.cell? ⟨w.heap.size, 3, none⟩ = some (.slice (some ⟨bc, offc, none⟩) nc cc) := KR.out.cell 3
        have l3 := KR.out.lt
        have e1 : (0 : Int) ≤ (k : Int) := Int.natCast_nonneg _
        have e2 : (k : Int) < (nc : Int) := by omega
        clear hrow hx hnl hk2
        by_cases hl : nl ≤ 200
        · have HL2 : Hid (lightR ls = (ls.all fun t => lightI t.x)) := Lib.hid (by unfold lightR; rw [decide_eq_true (show ls.length ≤ 200 by rw [← HNL.out]; exact hl)]; rfl)
          have g4 : ¬ (200 : Int) < (nl : Int) := by omega
          obtain ⟨gO, hgO⟩ : ∃ g, g = gk := ⟨_, rfl⟩
          have hfO : nc - k ≤ gO := by omega
          clear hl9
          go_wp2_with fail
          have Q0 : Hid ((ls.drop 0).all (fun t => lightI t.x) = lightR ls) := Lib.hid HL2.out.symm
          obtain ⟨qq, hqq⟩ : ∃ q, lightR ls = q := ⟨_, rfl⟩
          rw [hqq] at HE Q0
          have hbc2 : bc < wr.heap.size := hbc
          obtain ⟨wo, hwo⟩ : ∃ x, x = wr := ⟨_, rfl⟩
          rw [← hwo] at HB KR LR HROW y1 hbc2
          clear HL2 hqq c3 l3 g4 hbc
          go_loopg [4] nl (fun fuel i' wi => ∃ (j : Nat), i' = .int .i64 j ∧ j ≤ nl ∧ nl - j ≤ fuel ∧ (ls.drop j).all (fun t => lightI t.x) = qq ∧ Below wo.heap.size wo wi)
          case atStart => exact ⟨0, rfl, Nat.zero_le _, Nat.le_refl _, Q0.out, by rw [hwo]; exact Below.refl _ _⟩
          case round =>
            clear hwo
            obtain ⟨j, rfl, hj, hfj, haj, hbj⟩ := hrel
            have HAJ := Lib.hid haj
            have HBJ := Lib.hid hbj
            have KRJ := Lib.hid (KR.out.below hbj)
            have c3 : wr.cell? ⟨w.heap.size, 3, none⟩ = some (.slice (some ⟨bc, offc, none⟩) nc cc) := KRJ.out.cell 3
            have l3 := KRJ.out.lt
            have y1 : wr.cell? ⟨bc, offc + k, none⟩ = some (.slice al nl cl) := (hbj.cell (p := ⟨bc, _, none⟩) hbc2).trans y1
            have hbc3 : bc < wr.heap.size := Nat.lt_of_lt_of_le hbc2 hbj.size
            clear haj hbj
            by_cases hjl : j < nl
            · have hj2 : j < ls.length := by rw [← HNL.out]; exact hjl
              have HEJ := Lib.hid (all_at' (fun t : II => lightI t.x) ls j hj2)
              obtain ⟨vb, off, rfl, hbl, hx⟩ := SlD.at HROW.out j hj2
              obtain ⟨t, ht⟩ : ∃ t, t = ls[j] := ⟨_, rfl⟩
              rw [← ht] at HEJ hx
              obtain ⟨⟨op, reg, loc, le, lf, ne, to⟩, ev, fv⟩ := t
              have HX := Lib.hid (hx.below HBJ.out hbl)
              obtain ⟨ae, ce, rfl⟩ : ∃ a c, ev = .slice a le.length c := hx.e.shape0
              obtain ⟨af, cf, rfl⟩ : ∃ a c, fv = .slice a lf.length c := hx.f.shape0
              have d3 : wr.cell? ⟨vb, off + j * 7 + 3, none⟩ = some (.slice ae le.length ce) := HX.out.c3
              have d4 : wr.cell? ⟨vb, off + j * 7 + 4, none⟩ = some (.slice af lf.length cf) := HX.out.c4
              have hbl2 : vb < wr.heap.size := Nat.lt_of_lt_of_le hbl HBJ.out.size
              have HEJ2 : Hid ((ls.drop j).all (fun t => lightI t.x) = ((decide (le.length ≤ 300) && decide (lf.length ≤ 300)) && (ls.drop (j + 1)).all (fun t => lightI t.x))) := Lib.hid HEJ.out
              have x1 : (0 : Int) ≤ (j : Int) := Int.natCast_nonneg _
              have x2 : (j : Int) < (nl : Int) := by omega
              generalize le.length = ne1 at d3 HEJ2
              generalize lf.length = nf1 at d4 HEJ2
              clear hx ht HX HEJ hbl hj2
              by_cases h3 : ne1 ≤ 300 ∧ nf1 ≤ 300
              · have g5 : ¬ (300 : Int) < (ne1 : Int) := by omega
                have g6 : ¬ (300 : Int) < (nf1 : Int) := by omega
                have HJ3 : Hid ((ls.drop (j + 1)).all (fun t => lightI t.x) = qq) := Lib.hid (by rw [← HAJ.out, HEJ2.out, decide_eq_true h3.1, decide_eq_true h3.2]; rfl)
                clear h3
                go_wp2
                go_roundg (gk - 1)
                case measure => omega
                case rel => exact ⟨j + 1, by go_num, by omega, by omega, HJ3.out, HBJ.out⟩
              · have HBF : Hid (qq = false) := Lib.hid (by
                  rw [← HAJ.out, HEJ2.out]
                  by_cases h4 : ne1 ≤ 300
                  · rw [decide_eq_false (show ¬ nf1 ≤ 300 from fun h5 => h3 ⟨h4, h5⟩)]; simp
                  · rw [decide_eq_false h4]; simp)
                have h4 : (300 : Int) < (ne1 : Int) ∨ (300 : Int) < (nf1 : Int) := by omega
                have HBF2 : Hid (b = false) := Lib.hid (by rw [← HA.out, HE.out, HBF.out]; rfl)
                clear h3
                go_wp2
                all_goals first
                  | (go_ret
                     exact ⟨ret_bool HBF2.out.symm, LR.out.trans (HBJ.out.mono LR.out.size)⟩)
                  | (exfalso; omega)
            · have HQ1 : Hid (qq = true) := Lib.hid (by
                have h2 := HAJ.out
                rw [List.drop_eq_nil_of_le (by rw [← HNL.out]; omega)] at h2
                exact h2.symm)
              go_wp2
              go_roundg (gO - 1)
              case measure => omega
              case rel => exact ⟨k + 1, by go_num, by omega, by omega, by have h2 := HA.out; rw [HE.out, HQ1.out] at h2; simpa using h2, HB.out.trans (HBJ.out.mono HB.out.size)⟩
        · have HBF : Hid (b = false) := Lib.hid (by
            rw [← HA.out, HE.out]; unfold lightR
            rw [decide_eq_false (show ¬ ls.length ≤ 200 by rw [← HNL.out]; exact hl)]; rfl)
          have g4 : (200 : Int) < (nl : Int) := by omega
          go_wp2
          go_ret
          exact ⟨ret_bool HBF.out.symm, LR.out⟩
      · have c3 : wr.cell? ⟨w.heap.size, 3, none⟩ = some (.slice ac nc cc) := KR.out.cell 3
        have l3 := KR.out.lt
        have HE : Hid ((u.code.drop k).all (fun r => lightR r.1) = true) := Lib.hid (by rw [List.drop_eq_nil_of_le (by rw [← HNC.out]; omega)]; rfl)
        go_wp2
        go_ret
        exact ⟨ret_bool (by rw [← HA.out, HE.out]), LR.out⟩
  · have HBF : Hid (b = false) := Lib.hid (by
      rw [HLU.out]
      by_cases h1 : ni ≤ 20
      · by_cases h2 : nr ≤ 20
        · rw [decide_eq_false (show ¬ nc ≤ 8 from fun h3 => hP ⟨h1, h2, h3⟩)]; simp
        · rw [decide_eq_false h2]; simp
      · rw [decide_eq_false h1]; simp)
    clear HLU
    go_enter Try.func14, Try.ntmps14
    go_wp2_with fail
    all_goals first
      | (go_ret
         exact ⟨ret_bool HBF.out.symm, L1.out⟩)
      | (exfalso; omega)

end Go.Proofs.Ytmkgijedchpgcaa
