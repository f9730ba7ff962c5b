/- Layer 7: the reference's Right of a unit. -/
import Derived.Test.YtmkgijedchpgcaaUk
import Derived.StillTailTactics
namespace Go.Proofs.Ytmkgijedchpgcaa
set_option linter.unusedSimpArgs false
set_option linter.unusedVariables false
open Go.RowKit

theorem all_at' {α : Type} (p : α → Bool) (l : List α) (k : Nat) (h : k < l.length) : (l.drop k).all p = (p l[k] && (l.drop (k + 1)).all p) := by
  rw [List.drop_eq_getElem_cons h]; rfl

set_option maxRecDepth 100000 in
set_option maxHeartbeats 2000000 in
theorem all_any (l : List Int) (v : Value) (m : Int) (w : World) (hv : IntsD w v l) (hn : l.length ≤ 100000) (b : Bool) (hb : (l.all fun n => inB n m) = b) :
    Calls Try.prog 33 #[v, .int .i64 m] w fun e w' => e = .returned (.bool b) ∧ Below w.heap.size w w' := by
  have HV := Lib.hid hv
  have HB0 : Hid (((l.drop 0).all fun n => inB n m) = b) := Lib.hid hb
  obtain ⟨ad, cap, rfl⟩ := hv.shape0
  obtain ⟨n, hN⟩ : ∃ n, n = l.length := ⟨_, rfl⟩
  rw [← hN] at HV hn ⊢
  have HN := Lib.hid hN
  clear hv hb hN
  go_enter Try.func33, Try.ntmps33
  go_wp2_with fail
  go_loopg [5] n (fun fuel i' wr => ∃ (k : Nat), i' = .int .i64 k ∧ k ≤ n ∧ n - k ≤ fuel ∧ ((l.drop k).all fun n => inB n m) = b ∧ Below w.heap.size w wr)
  case atStart => exact ⟨0, rfl, Nat.zero_le _, Nat.le_refl _, HB0.out, Below.refl _ _⟩
  case round =>
    obtain ⟨k, rfl, hk, hf, ha, hb⟩ := hrel
    have HA := Lib.hid ha
    have HB := Lib.hid hb
    have hww := hb.size
    clear ha hb
    by_cases hlt : k < n
    · have hk' : k < l.length := by have := HN.out; omega
      have HE := Lib.hid (all_at' (fun n => inB n m) l k hk')
      obtain ⟨vb, off, rfl, hbl, x0⟩ := IntsD.at2 HV.out k hk'
      obtain ⟨x, hx⟩ : ∃ x, x = l[k] := ⟨_, rfl⟩
      rw [← hx] at x0 HE
      have c0 : wr.cell? ⟨vb, off + k, none⟩ = some (.int .i64 x) := (HB.out.cell (p := ⟨vb, _, none⟩) hbl).trans x0
      have hbl2 : vb < wr.heap.size := Nat.lt_of_lt_of_le hbl hww
      have H := Lib.hid (fun W => rin6_is x m _ rfl W)
      generalize inB x m = q at H HE
      clear hx x0 hbl
      cases q with
      | false =>
        go_wp2_with (go_at_call 42; refine (H.out _).mono ?_; rintro e w2 ⟨rfl, rfl⟩)
        go_ret
        exact ⟨ret_bool (by rw [← HA.out, HE.out]; rfl), HB.out⟩
      | true =>
        go_wp2_with (go_at_call 42; refine (H.out _).mono ?_; rintro e w2 ⟨rfl, rfl⟩)
        go_roundg (gk - 1)
        case measure => omega
        case rel => exact ⟨k + 1, by go_num, by omega, by omega, by have h2 := HA.out; rw [HE.out] at h2; simpa using h2, HB.out⟩
    · have HE : Hid (((l.drop k).all fun n => inB n m) = true) := Lib.hid (by rw [List.drop_eq_nil_of_le (by have := HN.out; omega)]; rfl)
      go_wp2
      go_ret
      exact ⟨ret_bool (by rw [← HA.out, HE.out]), HB.out⟩

set_option maxRecDepth 100000 in
set_option maxHeartbeats 4000000 in
theorem uright_any (u : Un) (vi vr vc : Value) (w : World) (hd : UnD w vi vr vc u) (hs : ShortU u) (b : Bool) (hb : rightU u = b) :
    Calls Try.prog 32 #[.agg #[.int .i64 u.mod, vi, vr, vc]] w fun e w' => e = .returned (.bool b) ∧ Below w.heap.size w w' := by
  have HD := Lib.hid hd
  obtain ⟨ai, ci, rfl⟩ := hd.i.shape0
  obtain ⟨ar, cr, rfl⟩ := hd.r.shape0
  obtain ⟨ac, cc, rfl⟩ := hd.c.shape0
  obtain ⟨m, hm⟩ : ∃ m, m = u.mod := ⟨_, rfl⟩
  have HAL := Lib.hid (fun (W : World) (hbw : Below w.heap.size w W) => all_any u.init _ m W (IntsD.below hd.i hbw) hs.1 _ rfl)
  have HS := Lib.hid hs
  have HBB0 := Lib.hid hb
  obtain ⟨ni, hni⟩ : ∃ n, n = u.init.length := ⟨_, rfl⟩
  obtain ⟨nr, hnr⟩ : ∃ n, n = u.regs.length := ⟨_, rfl⟩
  obtain ⟨nc, hnc⟩ : ∃ n, n = u.code.length := ⟨_, rfl⟩
  obtain ⟨qa, hA⟩ : ∃ q, (u.init.all fun x => inB x m) = q := ⟨_, rfl⟩
  have HNI := Lib.hid hni
  have HNR := Lib.hid hnr
  have HNC := Lib.hid hnc
  rw [← hni] at HD HAL ⊢
  rw [← hnr] at HD ⊢
  rw [← hnc] at HD ⊢
  rw [hA] at HAL
  rw [← hm]
  have K1 := Lib.hid (Bk.new w 25 #[.int .i64 m, .slice ai ni ci, .slice ar nr cr, .slice ac nc cc])
  have L1 : Hid (Below w.heap.size w (w.alloc (.cells #[.int .i64 m, .slice ai ni ci, .slice ar nr cr, .slice ac nc cc] 25))) := (Below.refl _ _).alloc (Nat.le_refl _) _
  have HRU : Hid (rightU u = (decide (2 ≤ m ∧ m ≤ 16 ∧ ni ≤ 6 ∧ 1 ≤ nr ∧ nr ≤ 4 ∧ nc = nr) && (qa && thrF ni u.regs u.code))) := Lib.hid (by unfold rightU; rw [← hm, ← hni, ← hnr, ← hnc]; rw [← hA])
  clear hd hs hb hni hnr hnc hm
  clear hA
  by_cases hP : 2 ≤ m ∧ m ≤ 16 ∧ ni ≤ 6 ∧ 1 ≤ nr ∧ nr ≤ 4 ∧ nc = nr
  · have HBB : Hid ((qa && thrF ni u.regs u.code) = b) := Lib.hid (by rw [← HBB0.out, HRU.out, decide_eq_true hP, Bool.true_and])
    have HP := Lib.hid hP
    obtain ⟨p1, p2, p3, p4, p5, p6⟩ := hP
    have p7 := p6.symm
    subst p7
    have g1 : ¬ m < 2 := by omega
    have g2 : ¬ 16 < m := by omega
    have g3 : ¬ (6 : Int) < (ni : Int) := by omega
    have g4 : ¬ (nr : Int) < 1 := by omega
    have g5 : ¬ (4 : Int) < (nr : Int) := by omega
    clear p1 p2 p3 p4 p5 p6 HRU HBB0
    cases qa with
    | false =>
      go_enter Try.func32, Try.ntmps32
      go_wp2_with (go_at_call 33; (with_reducible refine (HAL.out _ L1.out).mono ?_); rintro e wn ⟨rfl, bn⟩; replace K1 := Lib.hid (K1.out.below bn); replace L1 := Lib.hid (L1.out.trans (bn.mono L1.out.size)); clear bn; have g3 : ¬ (6 : Int) < (ni : Int) := (by have := HP.out; omega); have g4 : ¬ (nr : Int) < 1 := (by have := HP.out; omega); have g5 : ¬ (4 : Int) < (nr : Int) := (by have := HP.out; omega); have c0 : wn.cell? ⟨w.heap.size, 0, none⟩ = some (.int .i64 m) := K1.out.cell 0; have c1 : wn.cell? ⟨w.heap.size, 1, none⟩ = some (.slice ai ni ci) := K1.out.cell 1; have c2 : wn.cell? ⟨w.heap.size, 2, none⟩ = some (.slice ar nr cr) := K1.out.cell 2; have c3 : wn.cell? ⟨w.heap.size, 3, none⟩ = some (.slice ac nr cc) := K1.out.cell 3; have hl1 := K1.out.lt)
      go_ret
      exact ⟨ret_bool (by rw [← HBB.out]; rfl), L1.out⟩
    | true =>
      go_enter Try.func32, Try.ntmps32
      go_wp2_with (go_at_call 33; (with_reducible refine (HAL.out _ L1.out).mono ?_); rintro e wn ⟨rfl, bn⟩; replace K1 := Lib.hid (K1.out.below bn); replace L1 := Lib.hid (L1.out.trans (bn.mono L1.out.size)); clear bn; have g3 : ¬ (6 : Int) < (ni : Int) := (by have := HP.out; omega); have g4 : ¬ (nr : Int) < 1 := (by have := HP.out; omega); have g5 : ¬ (4 : Int) < (nr : Int) := (by have := HP.out; omega); have c0 : wn.cell? ⟨w.heap.size, 0, none⟩ = some (.int .i64 m) := K1.out.cell 0; have c1 : wn.cell? ⟨w.heap.size, 1, none⟩ = some (.slice ai ni ci) := K1.out.cell 1; have c2 : wn.cell? ⟨w.heap.size, 2, none⟩ = some (.slice ar nr cr) := K1.out.cell 2; have c3 : wn.cell? ⟨w.heap.size, 3, none⟩ = some (.slice ac nr cc) := K1.out.cell 3; have hl1 := K1.out.lt)
      all_goals first | (exfalso; have hP := HP.out; have h9 : (nr : Int) = (nr : Int) := (by omega); simp only [h9, bne_self_eq_false, Bool.false_eq_true, or_false] at *; omega) | skip
      have HBB2 : Hid (thrF ni u.regs u.code = b) := Lib.hid (by have := HBB.out; rwa [Bool.true_and] at this)
      clear HAL g1 g2 g3 g4 g5 HBB c0 c1 c2 c3 hl1
      go_loopg [3] nr (fun fuel i' wr => ∃ (k : Nat), i' = .int .i64 k ∧ k ≤ nr ∧ nr - k ≤ fuel ∧ thrF ni (u.regs.drop k) (u.code.drop k) = b ∧ Below wn.heap.size wn wr)
      case atStart => exact ⟨0, rfl, Nat.zero_le _, Nat.le_refl _, HBB2.out, Below.refl _ _⟩
      case round =>
        obtain ⟨k, rfl, hk, hf, ha, hb⟩ := hrel
        have HA := Lib.hid ha
        have HB := Lib.hid hb
        clear ha hb
        by_cases hlt : k < nr
        · have hk1 : k < u.regs.length := by rw [← HNR.out]; exact hlt
          have hk2 : k < u.code.length := by rw [← HNC.out]; exact hlt
          have HE := Lib.hid (thrF_at ni u.regs u.code k hk1 hk2)
          have HDR := Lib.hid (HD.out.below (L1.out.trans (HB.out.mono L1.out.size)))
          have KR := Lib.hid (K1.out.below HB.out)
          obtain ⟨br, offr, rfl, hbr, y0⟩ := IntsD.at2 HDR.out.r k hk1
          obtain ⟨bc, offc, rfl, hbc, hx⟩ := SlD.at HDR.out.c k hk2
          obtain ⟨own, ho⟩ : ∃ o, o = u.regs[k] := ⟨_, rfl⟩
          have hlen := (HS.out.2.2 _ (List.getElem_mem hk2))
          obtain ⟨row, hrow⟩ : ∃ r, r = u.code[k] := ⟨_, rfl⟩
          rw [← ho] at y0 HE
          rw [← hrow] at hx HE hlen
          obtain ⟨ls, lv⟩ := row
          have HROW := Lib.hid hx.r
          have y1 : wr.cell? ⟨bc, offc + k, none⟩ = some lv := by have := hx.c; rw [Nat.mul_one] at this; exact this
          obtain ⟨al, cl, rfl⟩ : ∃ a c, lv = .slice a ls.length c := HROW.out.shape0
          have c1 : wr.cell? ⟨w.heap.size, 1, none⟩ = some (.slice ai ni ci) := KR.out.cell 1
          have c2 : wr.cell? ⟨w.heap.size, 2, none⟩ = some (.slice (some ⟨br, offr, none⟩) nr cr) := KR.out.cell 2
          have c3 : wr.cell? ⟨w.heap.size, 3, none⟩ = some (.slice (some ⟨bc, offc, none⟩) nr cc) := KR.out.cell 3
          have l3 := KR.out.lt
          have e1 : (0 : Int) ≤ (k : Int) := Int.natCast_nonneg _
          have e2 : (k : Int) < (nr : Int) := by have := HP.out.2.2.2.2.2; omega
          have e3 : k < nr := by have := HP.out.2.2.2.2.2; omega
          have e4 : (k : Int) < (nr : Int) := by omega
          simp only [] at HE
          have HLEN := Lib.hid hlen
          obtain ⟨nl, hnl⟩ : ∃ n, n = ls.length := ⟨_, rfl⟩
          have HNL := Lib.hid hnl
          rw [← hnl] at HROW y1
          clear ho hrow hx hlen hnl hk1 hk2
          by_cases hok : inB own 7 = true ∧ 1 ≤ nl ∧ nl ≤ 1000
          · obtain ⟨h7, hl1, hl2⟩ := hok
            have h7' : 0 ≤ own ∧ own < 7 := of_decide_eq_true h7
            obtain ⟨nl1, hnl1⟩ : ∃ m, m = nl - 1 := ⟨_, rfl⟩
            have hll : nl1 < ls.length := by have := HNL.out; omega
            have hne : ls ≠ [] := by intro h; rw [h] at hll; exact absurd hll (Nat.not_lt_zero _)
            have hgl : ls.getLast hne = ls[nl1] := by
              rw [List.getLast_eq_getElem]; congr 1; rw [← HNL.out]; exact hnl1.symm
            have HSQ : Hid (seqB ls own ni = ((ls.dropLast.all fun t => oneB t.x own ni nl) && doneB ls[nl1].x)) := Lib.hid (by
              unfold seqB
              rw [decide_eq_true (show 1 ≤ ls.length ∧ ls.length ≤ 1000 by rw [← HNL.out]; exact ⟨hl1, hl2⟩), Bool.true_and, seq_ref own ni ls.length ls 0 (by omega) hne, hgl, ← HNL.out])
            have HNL1 := Lib.hid hnl1
            have ew : IntKind.i64.wrap ((nl : Int) - 1) = (nl1 : Int) := by rw [IntKind.wrap_i64]; omega
            have f1 : ¬ own < 0 := by omega
            have f2 : ¬ 6 < own := by omega
            have f3 : ¬ (nl : Int) < 1 := by omega
            have f4 : ¬ (1000 : Int) < (nl : Int) := by omega
            have f5 : (0 : Int) ≤ (nl1 : Int) := Int.natCast_nonneg _
            have f6 : (nl1 : Int) < (nl : Int) := by omega
            have f7 : nl1 < nl := by omega
            obtain ⟨vb, off, rfl, hbl, hx⟩ := SlD.at HROW.out nl1 hll
            have hzz := HLEN.out.2 _ (List.getElem_mem hll)
            obtain ⟨t, ht⟩ : ∃ t, t = ls[nl1] := ⟨_, rfl⟩
            rw [← ht] at hx hzz HSQ
            obtain ⟨⟨op, reg, loc, le, lf, ne, to⟩, ev, fv⟩ := t
            have HX := Lib.hid hx
            obtain ⟨ae, ce, rfl⟩ : ∃ a c, ev = .slice a le.length c := hx.e.shape0
            obtain ⟨af, cf, rfl⟩ : ∃ a c, fv = .slice a lf.length c := hx.f.shape0
            have d0 : wr.cell? ⟨vb, off + nl1 * 7, none⟩ = some (.int .i64 op) := HX.out.c0
            have d1 : wr.cell? ⟨vb, off + nl1 * 7 + 1, none⟩ = some (.int .i64 reg) := HX.out.c1
            have d2 : wr.cell? ⟨vb, off + nl1 * 7 + 2, none⟩ = some (.int .i64 loc) := HX.out.c2
            have d3 : wr.cell? ⟨vb, off + nl1 * 7 + 3, none⟩ = some (.slice ae le.length ce) := HX.out.c3
            have d4 : wr.cell? ⟨vb, off + nl1 * 7 + 4, none⟩ = some (.slice af lf.length cf) := HX.out.c4
            have d5 : wr.cell? ⟨vb, off + nl1 * 7 + 5, none⟩ = some (.bool ne) := HX.out.c5
            have d6 : wr.cell? ⟨vb, off + nl1 * 7 + 6, none⟩ = some (.int .i64 to) := HX.out.c6
            have HDN := Lib.hid (done_lit op reg loc le lf ne to (.slice ae le.length ce) (.slice af lf.length cf) wr HX.out.e HX.out.f _ rfl)
            simp only [] at HSQ
            generalize doneB ⟨op, reg, loc, le, lf, ne, to⟩ = qd at HDN HSQ
            generalize le.length = ne1 at HDN d3
            generalize lf.length = nf1 at HDN d4
            clear hx ht hzz HX hgl hnl1 h7' hl1 hl2
            go_wp2_with fail
            refine HDN.out.mono ?_
            rintro e w3 ⟨rfl, b3⟩
            have B3 := Lib.hid (HB.out.trans (b3.mono HB.out.size))
            have KR3 := Lib.hid (KR.out.below b3)
            have HROW3 : Hid (InsD w3 (.slice (some ⟨vb, off, none⟩) nl cl) ls) := Lib.hid (InsD.below HROW.out b3)
            have y03 : w3.cell? ⟨br, offr + k, none⟩ = some (.int .i64 own) := (b3.cell (p := ⟨br, _, none⟩) hbr).trans y0
            have hbr3 : br < w3.heap.size := Nat.lt_of_lt_of_le hbr b3.size
            have Y03 := Lib.hid y03
            have Q0 : Hid (((ls.dropLast.drop 0).all fun t => oneB t.x own ni nl) = (ls.dropLast.all fun t => oneB t.x own ni nl)) := Lib.hid rfl
            obtain ⟨qq, hqq⟩ : ∃ q, (ls.dropLast.all fun t => oneB t.x own ni nl) = q := ⟨_, rfl⟩
            rw [hqq] at HSQ Q0
            have HDL : Hid (ls.dropLast.length = nl1) := Lib.hid (by rw [List.length_dropLast, ← HNL.out]; exact HNL1.out.symm)
            have hbN : nl ≤ 1000 := by omega
            clear b3 d0 d1 d2 d3 d4 d5 d6 c1 c2 c3 l3 y0 y1 f1 f2 f3 f4 hqq HDN
            cases qd with
            | false =>
              go_wp2
              go_ret
              exact ⟨ret_bool (by rw [← HA.out, HE.out, HSQ.out]; simp), L1.out.trans (B3.out.mono L1.out.size)⟩
            | true =>
              obtain ⟨gO, hgO⟩ : ∃ g, g = gk := ⟨_, rfl⟩
              have hfO : nr - k ≤ gO := by omega
              go_wp2_with fail
              go_loopg [5] nl (fun fuel i' wi => ∃ (j : Nat), i' = .int .i64 j ∧ j ≤ nl1 ∧ nl1 - j < fuel + 1 ∧ ((ls.dropLast.drop j).all fun t => oneB t.x own ni nl) = qq ∧ Below w3.heap.size w3 wi)
              case atStart => exact ⟨0, rfl, Nat.zero_le _, by omega, Q0.out, Below.refl _ _⟩
              case round =>
                obtain ⟨j, rfl, hj, hfj, haj, hbj⟩ := hrel
                have HAJ := Lib.hid haj
                have HBJ := Lib.hid hbj
                clear haj hbj
                by_cases hjl : j < nl1
                · have hj' : j < ls.dropLast.length := by rw [HDL.out]; exact hjl
                  have hj2 : j < ls.length := by omega
                  have HEJ := Lib.hid (all_at' (fun t => oneB t.x own ni nl) ls.dropLast j hj')
                  have hgd : ls.dropLast[j] = ls[j] := List.getElem_dropLast _
                  obtain ⟨vb', off', hbb, hbl, hx⟩ := SlD.at HROW3.out j hj2
                  injection hbb with hbb
                  injection hbb with hb1 hb2
                  subst hb1
                  subst hb2
                  have hzz := HLEN.out.2 _ (List.getElem_mem hj2)
                  obtain ⟨t, ht⟩ : ∃ t, t = ls[j] := ⟨_, rfl⟩
                  rw [hgd, ← ht] at HEJ
                  rw [← ht] at hx hzz
                  obtain ⟨⟨op, reg, loc, le, lf, ne, to⟩, ev, fv⟩ := t
                  have HX := Lib.hid (hx.below HBJ.out hbl)
                  obtain ⟨ae, ce, rfl⟩ : ∃ a c, ev = .slice a le.length c := hx.e.shape0
                  obtain ⟨af, cf, rfl⟩ : ∃ a c, fv = .slice a lf.length c := hx.f.shape0
                  have d0 : wr.cell? ⟨vb, off + j * 7, none⟩ = some (.int .i64 op) := HX.out.c0
                  have d1 : wr.cell? ⟨vb, off + j * 7 + 1, none⟩ = some (.int .i64 reg) := HX.out.c1
                  have d2 : wr.cell? ⟨vb, off + j * 7 + 2, none⟩ = some (.int .i64 loc) := HX.out.c2
                  have d3 : wr.cell? ⟨vb, off + j * 7 + 3, none⟩ = some (.slice ae le.length ce) := HX.out.c3
                  have d4 : wr.cell? ⟨vb, off + j * 7 + 4, none⟩ = some (.slice af lf.length cf) := HX.out.c4
                  have d5 : wr.cell? ⟨vb, off + j * 7 + 5, none⟩ = some (.bool ne) := HX.out.c5
                  have d6 : wr.cell? ⟨vb, off + j * 7 + 6, none⟩ = some (.int .i64 to) := HX.out.c6
                  have HON := Lib.hid (one_lit op reg loc le lf ne to (.slice ae le.length ce) (.slice af lf.length cf) own ni nl wr.drew (OpsD.below HX.out.e (below_draws' wr)) (OpsD.below HX.out.f (below_draws' wr)) hzz _ rfl)
                  simp only [] at HEJ
                  generalize oneB ⟨op, reg, loc, le, lf, ne, to⟩ own ni nl = q1 at HON HEJ
                  generalize le.length = ne1 at HON d3
                  generalize lf.length = nf1 at HON d4
                  have KRJ := Lib.hid (KR3.out.below HBJ.out)
                  have c1 : wr.cell? ⟨w.heap.size, 1, none⟩ = some (.slice ai ni ci) := KRJ.out.cell 1
                  have c2 : wr.cell? ⟨w.heap.size, 2, none⟩ = some (.slice (some ⟨br, offr, none⟩) nr cr) := KRJ.out.cell 2
                  have hlw := KRJ.out.lt
                  have y0 : wr.cell? ⟨br, offr + k, none⟩ = some (.int .i64 own) := (HBJ.out.cell (p := ⟨br, _, none⟩) hbr3).trans y03
                  have x1 : (0 : Int) ≤ (j : Int) := Int.natCast_nonneg _
                  have x2 : (j : Int) < (nl : Int) := by omega
                  have x3 : j < nl := by omega
                  have x4 : (j : Int) + 1 < (nl : Int) := by have := HNL1.out; omega
                  clear hx ht hzz HX hgd hj' hj2
                  cases q1 with
                  | false =>
                    go_wp2_with fail
                    go_still_tail 14, (by kernel_rfl)
                    change wpList _ _ _ _ _ wr.drew
                    go_wp2_with fail
                    refine HON.out.mono ?_
                    rintro e w5 ⟨rfl, b5⟩
                    go_wp2
                    go_ret
                    refine ⟨ret_bool ?_, L1.out.trans ((B3.out.trans (((HBJ.out.drew).trans (b5.mono HBJ.out.drew.size)).mono B3.out.size)).mono L1.out.size)⟩
                    have h2 := HAJ.out
                    rw [HEJ.out, Bool.false_and] at h2
                    rw [← HA.out, HE.out, HSQ.out, ← h2]; simp
                  | true =>
                    go_wp2_with fail
                    go_still_tail 14, (by kernel_rfl)
                    change wpList _ _ _ _ _ wr.drew
                    go_wp2_with fail
                    refine HON.out.mono ?_
                    rintro e w5 ⟨rfl, b5⟩
                    go_wp2
                    go_roundg (gk - 1)
                    case measure => omega
                    case rel => exact ⟨j + 1, by go_num, by omega, by omega, by have h2 := HAJ.out; rw [HEJ.out] at h2; simpa using h2, (HBJ.out.drew).trans (b5.mono HBJ.out.drew.size)⟩
                · have x4 : ¬ (j : Int) + 1 < (nl : Int) := by have := HNL1.out; omega
                  have HQ1 : Hid (qq = true) := Lib.hid (by
                    have h2 := HAJ.out
                    rw [List.drop_eq_nil_of_le (by rw [HDL.out]; omega)] at h2
                    exact h2.symm)
                  clear hjl
                  go_wp2
                  go_roundg (gO - 1)
                  case measure => omega
                  case rel => exact ⟨k + 1, by go_num, by omega, by omega, by have h2 := HA.out; rw [HE.out, HSQ.out, HQ1.out, h7] at h2; simpa using h2, B3.out.trans (HBJ.out.mono B3.out.size)⟩
          · have HBF : Hid (b = false) := Lib.hid (by
              rw [← HA.out, HE.out]
              by_cases h7 : inB own 7 = true
              · have : ¬ (1 ≤ ls.length ∧ ls.length ≤ 1000) := by rw [← HNL.out]; exact fun h => hok ⟨h7, h⟩
                unfold seqB
                rw [decide_eq_false this]; simp
              · have : inB own 7 = false := by simpa using h7
                rw [this]; rfl)
            have hok2 : own < 0 ∨ 6 < own ∨ nl < 1 ∨ 1000 < nl := by
              have : inB own 7 = true ↔ (0 ≤ own ∧ own < 7) := by unfold inB; exact decide_eq_true_iff
              rw [this] at hok
              omega
            have hok3 : own < 0 ∨ 6 < own ∨ (nl : Int) < 1 ∨ (1000 : Int) < (nl : Int) := by omega
            clear hok hok2
            rcases hok3 with h | h | h | h
            all_goals
              go_wp2
              all_goals
                go_ret
                exact ⟨ret_bool HBF.out.symm, L1.out.trans (HB.out.mono L1.out.size)⟩
        · have HE := Lib.hid (thrF_over ni u.regs u.code k (by rw [← HNR.out]; exact hlt))
          have KR := Lib.hid (K1.out.below HB.out)
          have c2 : wr.cell? ⟨w.heap.size, 2, none⟩ = some (.slice ar nr cr) := KR.out.cell 2
          have l3 := KR.out.lt
          go_wp2
          go_ret
          exact ⟨ret_bool (by rw [← HA.out, HE.out]), L1.out.trans (HB.out.mono L1.out.size)⟩
  · have HBF : Hid (b = false) := Lib.hid (by rw [← HBB0.out, HRU.out, decide_eq_false hP]; rfl)
    clear HRU HBB0
    go_enter Try.func32, Try.ntmps32
    go_wp2_with (go_at_call 33; (with_reducible refine (HAL.out _ L1.out).mono ?_); rintro e wn ⟨rfl, bn⟩; replace K1 := Lib.hid (K1.out.below bn); replace L1 := Lib.hid (L1.out.trans (bn.mono L1.out.size)); clear bn; have c0 : wn.cell? ⟨w.heap.size, 0, none⟩ = some (.int .i64 m) := K1.out.cell 0; have c1 : wn.cell? ⟨w.heap.size, 1, none⟩ = some (.slice ai ni ci) := K1.out.cell 1; have c2 : wn.cell? ⟨w.heap.size, 2, none⟩ = some (.slice ar nr cr) := K1.out.cell 2; have c3 : wn.cell? ⟨w.heap.size, 3, none⟩ = some (.slice ac nc cc) := K1.out.cell 3; have hl1 := K1.out.lt)
    all_goals first
      | (go_ret
         exact ⟨ret_bool HBF.out.symm, L1.out⟩)
      | (exfalso
         simp only [bne_eq_false_iff_eq] at *
         omega)

end Go.Proofs.Ytmkgijedchpgcaa
