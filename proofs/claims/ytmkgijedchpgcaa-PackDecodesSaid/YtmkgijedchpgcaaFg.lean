/- PackDecodes: its walk. -/
import Derived.Test.YtmkgijedchpgcaaFf
import Derived.Test.YtmkgijedchpgcaaEw
import Derived.Test.YtmkgijedchpgcaaEx
namespace Go.Proofs.Ytmkgijedchpgcaa
set_option linter.unusedSimpArgs false
set_option linter.unusedVariables false
open Go.RowKit

theorem ans_some {u : Un} {s : ByteArray} {model room : Int} {p : Pf} (h : decZ u s model room = some p) {d : Cf} (hd : d.pf = p) : ShortC d := shortZ (model := model) (room := room) (u := u) (by rw [hd]; exact (decZ_some.1 h).1)

attribute [local go_sem ↓] Go.wp_at_zero Go.wp_at_succ
set_option maxRecDepth 100000 in
set_option maxHeartbeats 16000000 in
theorem pdecodes_in (u : Un) (s : ByteArray) (h0 h1 : Int) (vi vr vc : Value) (w : World) (hu : UnD w vi vr vc u) :
    Calls Try.prog 4 #[.agg #[.int .i64 u.mod, vi, vr, vc], .string s, .agg #[.int .i64 h0, .int .i64 h1]] w fun e w' => e = .returned (.bool true) ∧ Below w.heap.size w w' := by
  have HKN := Lib.hid known12_any
  obtain ⟨r1, hr1⟩ : ∃ q, lightU u = q := ⟨_, rfl⟩
  have HL := Lib.hid (fun (W : World) (h : Below w.heap.size w W) => ulight_any u _ _ _ W (hu.below h) r1 hr1)
  obtain ⟨dz, hdz⟩ : ∃ d, decZ u s h0 h1 = d := ⟨_, rfl⟩
  have HD := Lib.hid (fun (h : r1 = true) (hs : s.size ≤ 500) (W : World) (hb : Below w.heap.size w W) => (show Calls Try.prog 15 #[.agg #[.int .i64 u.mod, vi, vr, vc], .string s, .int .i64 h0, .int .i64 h1] W (DecAns dz W) from by
    cases dz with
    | none => exact pdecode_none u s h0 h1 _ _ _ W (hu.below hb) (lightU_short (hr1.trans h)) (by omega) hdz
    | some p => exact pdecode_some u s h0 h1 p _ _ _ W (hu.below hb) (lightU_short (hr1.trans h)) (by omega) hdz))
  have HE := Lib.hid (fun (h : r1 = true) (hs : s.size ≤ 500) (W : World) (hb : Below w.heap.size w W) => (show Calls Try.prog 16 #[.agg #[.int .i64 u.mod, vi, vr, vc], .string s, .int .i64 h0, .int .i64 h1] W (RecAns dz W) from by
    have := rdecode_any u s h0 h1 _ _ _ W (hu.below hb) (lightU_short (hr1.trans h)) (by omega)
    rw [hdz] at this
    exact this))
  have HDZ := Lib.hid hdz
  obtain ⟨ai, ci, rfl⟩ := hu.i.shape0
  obtain ⟨ar, cr, rfl⟩ := hu.r.shape0
  obtain ⟨ac, cc, rfl⟩ := hu.c.shape0
  clear hr1 hdz
  generalize hni : u.init.length = ni at HL HD HE hu ⊢
  generalize hnr : u.regs.length = nr at HL HD HE hu ⊢
  generalize hnc : u.code.length = nc at HL HD HE hu ⊢
  generalize hmd : u.mod = md at HL HD HE ⊢
  clear hni hnr hnc hmd hu
  have T2 := Lib.hid (two_new w 25 38 #[.int .i64 md, .slice ai ni ci, .slice ar nr cr, .slice ac nc cc] #[.int .i64 h0, .int .i64 h1])
  go_enter Try.func4, Try.ntmps4
  go_wp2_with fail
  obtain ⟨b0, ku0, kh0⟩ := T2.out
  have B := Lib.hid b0
  have KU := Lib.hid ku0
  have KH := Lib.hid kh0
  clear b0 ku0 kh0 T2
  generalize World.alloc (World.alloc w _) _ = w1 at B KU KH ⊢
  refine (HL.out w1 B.out).mono ?_
  rintro e w2 ⟨rfl, b⟩
  replace KU := Lib.hid (KU.out.below b)
  replace KH := Lib.hid (KH.out.below b)
  replace B := Lib.hid (B.out.trans (b.mono B.out.size))
  clear b HL
  by_cases hl : r1 = true ∧ s.size ≤ 500
  · obtain ⟨hl1, hl2⟩ := hl
    subst hl1
    replace HD := Lib.hid (HD.out rfl hl2)
    replace HE := Lib.hid (HE.out rfl hl2)
    have hs5 : ¬ (500 : Int) < (s.size : Int) := by omega
    clear hl2
    obtain ⟨uc0, uc1, uc2, uc3, ucl⟩ := bk4 KU.out
    have hc0 : w2.cell? ⟨w.heap.size + 1, 0, none⟩ = some (.int .i64 h0) := KH.out.cell 0
    have hc1 : w2.cell? ⟨w.heap.size + 1, 1, none⟩ = some (.int .i64 h1) := KH.out.cell 1
    have hcl := KH.out.lt
    go_wp2_with fail
    clear uc0 uc1 uc2 uc3 ucl hc0 hc1 hcl
    refine (HD.out w2 B.out).mono ?_
    cases dz with
    | none =>
      rintro e w3 ⟨rfl, b⟩
      replace KU := Lib.hid (KU.out.below b)
      replace KH := Lib.hid (KH.out.below b)
      replace B := Lib.hid (B.out.trans (b.mono B.out.size))
      have BA : Hid (Below w3.heap.size w3 (World.alloc w3 (.cells #[.slice none 0 0, .slice none 0 0, .slice none 0 0, .slice none 0 0] 29))) := Lib.hid (bal (Below.refl _ _) _)
      have K1 := Lib.hid (Bk.new w3 29 #[.slice none 0 0, .slice none 0 0, .slice none 0 0, .slice none 0 0])
      clear b HD
      obtain ⟨uc0, uc1, uc2, uc3, ucl⟩ := bk4 KU.out
      have hc0 : w3.cell? ⟨w.heap.size + 1, 0, none⟩ = some (.int .i64 h0) := KH.out.cell 0
      have hc1 : w3.cell? ⟨w.heap.size + 1, 1, none⟩ = some (.int .i64 h1) := KH.out.cell 1
      have hcl := KH.out.lt
      go_wp2_with fail
      clear uc0 uc1 uc2 uc3 ucl hc0 hc1 hcl
      replace B := Lib.hid (B.out.trans (BA.out.mono B.out.size))
      generalize World.alloc w3 _ = w4 at K1 B ⊢
      obtain ⟨g1, hg1⟩ : ∃ g, g = w3.heap.size := ⟨_, rfl⟩
      rw [← hg1] at K1 ⊢
      clear BA hg1 KU KH
      refine (HE.out w4 B.out).mono ?_
      rintro e w5 ⟨rfl, b⟩
      replace K1 := Lib.hid (K1.out.below b)
      replace B := Lib.hid (B.out.trans (b.mono B.out.size))
      clear b HE
      have BA : Hid (Below w5.heap.size w5 (World.alloc w5 (.cells #[.slice none 0 0, .slice none 0 0, .slice none 0 0, .slice none 0 0] 29))) := Lib.hid (bal (Below.refl _ _) _)
      obtain ⟨cc0, cc1, cc2, cc3, ccl⟩ := bk4 K1.out
      go_wp2_with fail
      replace B := Lib.hid (B.out.trans (BA.out.mono B.out.size))
      generalize World.alloc w5 _ = w6 at B ⊢
      clear cc0 cc1 cc2 cc3 ccl BA
      refine (csame_any nilC nilC _ _ _ _ _ _ _ _ w6 (nilC_data w6) (nilC_data w6) nilC_short true (by rw [sameC_pf]; exact decide_eq_true rfl)).mono ?_
      rintro e w7 ⟨rfl, b⟩
      replace B := Lib.hid (B.out.trans (b.mono B.out.size))
      clear b
      go_wp2_with fail
      refine (HKN.out w7).mono ?_
      rintro e w8 ⟨rfl, b⟩
      replace B := Lib.hid (B.out.trans (b.mono B.out.size))
      go_wp2_with fail
      go_ret
      exact ⟨rfl, B.out⟩
    | some p =>
      rintro e w3 ⟨d1, xp, xr, xm, xb, rfl, od, pd, b⟩
      replace KU := Lib.hid (KU.out.below b)
      replace KH := Lib.hid (KH.out.below b)
      replace B := Lib.hid (B.out.trans (b.mono B.out.size))
      obtain ⟨x0, x5, x1, x6, x2, x7, x3, x8, rfl, rfl, rfl, rfl⟩ := od.shapes
      have BA : Hid (Below w3.heap.size w3 (World.alloc w3 (.cells #[.slice x0 d1.pc.length x5, .slice x1 d1.regs.length x6, .slice x2 d1.mem.length x7, .slice x3 d1.buf.length x8] 29))) := Lib.hid (bal (Below.refl _ _) _)
      have K1 := Lib.hid (Bk.new w3 29 #[.slice x0 d1.pc.length x5, .slice x1 d1.regs.length x6, .slice x2 d1.mem.length x7, .slice x3 d1.buf.length x8])
      have D1 := Lib.hid (od.data.below BA.out)
      have P1 := Lib.hid pd
      clear b HD od pd
      obtain ⟨uc0, uc1, uc2, uc3, ucl⟩ := bk4 KU.out
      have hc0 : w3.cell? ⟨w.heap.size + 1, 0, none⟩ = some (.int .i64 h0) := KH.out.cell 0
      have hc1 : w3.cell? ⟨w.heap.size + 1, 1, none⟩ = some (.int .i64 h1) := KH.out.cell 1
      have hcl := KH.out.lt
      go_wp2_with fail
      clear uc0 uc1 uc2 uc3 ucl hc0 hc1 hcl
      replace B := Lib.hid (B.out.trans (BA.out.mono B.out.size))
      generalize World.alloc w3 _ = w4 at K1 B D1 ⊢
      obtain ⟨g1, hg1⟩ : ∃ g, g = w3.heap.size := ⟨_, rfl⟩
      rw [← hg1] at K1 ⊢
      clear BA hg1 KU KH
      refine (HE.out w4 B.out).mono ?_
      rintro e w5 ⟨d2, yp, yr, ym, yb, rfl, od, pd, b⟩
      replace K1 := Lib.hid (K1.out.below b)
      replace D1 := Lib.hid (D1.out.below b)
      replace B := Lib.hid (B.out.trans (b.mono B.out.size))
      obtain ⟨y0, y5, y1, y6, y2, y7, y3, y8, rfl, rfl, rfl, rfl⟩ := od.shapes
      have BA : Hid (Below w5.heap.size w5 (World.alloc w5 (.cells #[.slice y0 d2.pc.length y5, .slice y1 d2.regs.length y6, .slice y2 d2.mem.length y7, .slice y3 d2.buf.length y8] 29))) := Lib.hid (bal (Below.refl _ _) _)
      have D2 := Lib.hid (od.data.below BA.out)
      have P2 := Lib.hid pd
      clear b HE od pd
      obtain ⟨cc0, cc1, cc2, cc3, ccl⟩ := bk4 K1.out
      go_wp2_with fail
      replace B := Lib.hid (B.out.trans (BA.out.mono B.out.size))
      replace D1 := Lib.hid (D1.out.below BA.out)
      generalize World.alloc w5 _ = w6 at B D1 D2 ⊢
      clear cc0 cc1 cc2 cc3 ccl BA
      refine (csame_any d1 d2 _ _ _ _ _ _ _ _ w6 D1.out D2.out (ans_some HDZ.out P1.out) true (by rw [sameC_pf, P1.out, P2.out]; exact decide_eq_true rfl)).mono ?_
      rintro e w7 ⟨rfl, b⟩
      replace B := Lib.hid (B.out.trans (b.mono B.out.size))
      clear b
      go_wp2_with fail
      refine (HKN.out w7).mono ?_
      rintro e w8 ⟨rfl, b⟩
      replace B := Lib.hid (B.out.trans (b.mono B.out.size))
      go_wp2_with fail
      go_ret
      exact ⟨rfl, B.out⟩
  · cases r1 with
    | false =>
      go_wp2_with fail
      refine (HKN.out w2).mono ?_
      rintro e w3 ⟨rfl, b⟩
      replace B := Lib.hid (B.out.trans (b.mono B.out.size))
      go_wp2_with fail
      go_ret
      exact ⟨rfl, B.out⟩
    | true =>
      have hs5 : (500 : Int) < (s.size : Int) := by
        have : ¬ s.size ≤ 500 := fun h => hl ⟨rfl, h⟩
        omega
      clear hl
      go_wp2_with fail
      refine (HKN.out w2).mono ?_
      rintro e w3 ⟨rfl, b⟩
      replace B := Lib.hid (B.out.trans (b.mono B.out.size))
      go_wp2_with fail
      go_ret
      exact ⟨rfl, B.out⟩

end Go.Proofs.Ytmkgijedchpgcaa
