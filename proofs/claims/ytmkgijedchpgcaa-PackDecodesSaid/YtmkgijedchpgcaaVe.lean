/- Layer 9, the code: Right. -/
import Derived.Test.YtmkgijedchpgcaaVb
import Derived.Test.YtmkgijedchpgcaaUx
namespace Go.Proofs.Ytmkgijedchpgcaa
set_option linter.unusedSimpArgs false
set_option linter.unusedVariables false
open Go.RowKit

theorem rightL_nil {l : List Ent} {model room mod locs : Int} (h : rightL l model room mod locs = true) : rightL [] model room mod locs = true := by
  unfold rightL at h ⊢
  split at h
  · cases h
  · rename_i hn
    rw [if_neg hn]
    rw [Bool.and_eq_true] at h ⊢
    have h1 := h.1
    refine ⟨?_, rfl⟩
    unfold rqL at h1 ⊢
    by_cases m1 : model = 1
    · rw [if_pos m1]; rfl
    · rw [if_neg m1] at h1 ⊢
      by_cases m2 : model = 2
      · rw [if_pos m2]; simp
      · rw [if_neg m2] at h1 ⊢
        by_cases m3 : model = 3
        · rw [if_pos m3]; rfl
        · rw [if_neg m3] at h1; cases h1

def codeC (u : Un) (c : Cf) (model room : Int) : Bool :=
  rightU u && (decide (c.pc.length = u.code.length ∧ c.regs.length = u.code.length ∧ c.buf.length = u.code.length) &&
    (thF u.mod model room u.init.length c.pc c.regs c.buf u.regs u.code && numB c.mem u.init.length u.mod))
theorem rightC_eq (u : Un) (c : Cf) (model room : Int) : rightC u c model room = codeC u c model room := by
  unfold rightC codeC
  by_cases hu : rightU u = true
  · have h5 := hu
    unfold rightU at h5
    rw [Bool.and_eq_true] at h5
    have h6 := of_decide_eq_true h5.1
    rw [hu, Bool.true_and, Bool.true_and]
    by_cases hl : c.pc.length = u.code.length ∧ c.regs.length = u.code.length ∧ c.buf.length = u.code.length
    · have hnil : thF u.mod model room u.init.length c.pc c.regs c.buf u.regs u.code = true → rightL [] model room u.mod u.init.length = true := by
        intro ht
        have hd := thF_at u.mod model room u.init.length c.pc c.regs c.buf u.regs u.code 0 (by omega) (by omega) (by omega) (by omega) (by omega)
        rw [List.drop_zero, List.drop_zero, List.drop_zero, List.drop_zero, List.drop_zero, ht] at hd
        have h7 := (Bool.and_eq_true_iff.1 hd.symm).1
        unfold thB at h7
        rw [Bool.and_eq_true, Bool.and_eq_true] at h7
        exact rightL_nil h7.2.2
      rw [decide_eq_true hl, Bool.true_and]
      unfold numB
      by_cases hm : c.mem.length = u.init.length
      · rw [decide_eq_true (show c.pc.length = u.regs.length ∧ c.regs.length = u.regs.length ∧ c.buf.length = u.regs.length ∧ c.mem.length = u.init.length from ⟨by omega, by omega, by omega, hm⟩), decide_eq_true (show (c.mem.length : Int) = u.init.length by omega), Bool.true_and, Bool.true_and]
        cases ht : thF u.mod model room u.init.length c.pc c.regs c.buf u.regs u.code with
        | false => simp
        | true => rw [hnil ht]; simp
      · rw [decide_eq_false (show ¬ (c.pc.length = u.regs.length ∧ c.regs.length = u.regs.length ∧ c.buf.length = u.regs.length ∧ c.mem.length = u.init.length) from fun h => hm h.2.2.2), decide_eq_false (show ¬ (c.mem.length : Int) = u.init.length by omega)]
        simp
    · rw [decide_eq_false hl, decide_eq_false (fun h => hl ⟨by omega, by omega, by omega⟩)]
      simp
  · rw [Bool.not_eq_true] at hu
    rw [hu]; rfl

set_option maxRecDepth 100000 in
set_option maxHeartbeats 4000000 in
theorem nright_any (u : Un) (c : Cf) (model room : Int) (vi vr vc ap ar am ab : Value) (w : World) (hu : UnD w vi vr vc u) (hc : CfD w ap ar am ab c) (hsu : ShortU u) (hsc : ShortC c) (q : Bool) (hq : rightC u c model room = q) :
    Calls Try.prog 22 #[.agg #[.int .i64 u.mod, vi, vr, vc], .agg #[ap, ar, am, ab], .int .i64 model, .int .i64 room] w fun e w' => e = .returned (.bool q) ∧ Below w.heap.size w w' := by
  have HU := Lib.hid hu
  have HC := Lib.hid hc
  have HSU := Lib.hid hsu
  have HSC := Lib.hid hsc
  have HQ := Lib.hid hq
  have HUR := Lib.hid (fun (W : World) (h : Below w.heap.size w W) => lright_any u vi vr vc W (hu.below h) hsu _ rfl)
  obtain ⟨m, hm⟩ : ∃ m, m = u.mod := ⟨_, rfl⟩
  have HAL := Lib.hid (fun (W : World) (h : Below w.heap.size w W) => numbers_any c.mem am u.init.length m W (IntsD.below hc.m h) hsc.m _ rfl)
  obtain ⟨xi, ci, rfl⟩ := hu.i.shape0
  obtain ⟨xr, cr, rfl⟩ := hu.r.shape0
  obtain ⟨xc, cc, rfl⟩ := hu.c.shape0
  obtain ⟨yp, dp, rfl⟩ := hc.p.shape0
  obtain ⟨yr, dr, rfl⟩ := hc.r.shape0
  obtain ⟨ym, dm, rfl⟩ := hc.m.shape0
  obtain ⟨yb, db, rfl⟩ := hc.b.shape0
  have HM := Lib.hid hm
  rw [← hm] at HUR ⊢
  clear hm hq hsu hsc
  obtain ⟨ni, hni⟩ : ∃ n, n = u.init.length := ⟨_, rfl⟩
  obtain ⟨nr, hnr⟩ : ∃ n, n = u.regs.length := ⟨_, rfl⟩
  obtain ⟨nc, hnc⟩ : ∃ n, n = u.code.length := ⟨_, rfl⟩
  obtain ⟨np, hnp⟩ : ∃ n, n = c.pc.length := ⟨_, rfl⟩
  obtain ⟨mr, hmr⟩ : ∃ n, n = c.regs.length := ⟨_, rfl⟩
  obtain ⟨mm, hmm⟩ : ∃ n, n = c.mem.length := ⟨_, rfl⟩
  obtain ⟨mb, hmb⟩ : ∃ n, n = c.buf.length := ⟨_, rfl⟩
  have HNI := Lib.hid hni
  have HNR := Lib.hid hnr
  have HNC := Lib.hid hnc
  have HNP := Lib.hid hnp
  have HMR := Lib.hid hmr
  have HMM := Lib.hid hmm
  have HMB := Lib.hid hmb
  have HQ2 : Hid ((rightU u && (decide (np = nc ∧ mr = nc ∧ mb = nc) && (thF m model room ni c.pc c.regs c.buf u.regs u.code && numB c.mem ni m))) = q) := Lib.hid (by
    rw [← HQ.out, rightC_eq, HM.out, hni, hnc, hnp, hmr, hmb]; rfl)
  rw [← hni, ← hnr, ← hnc] at HU HUR ⊢
  rw [← hnp, ← hmr, ← hmm, ← hmb] at HC ⊢
  rw [← hni] at HAL
  clear hni hnr hnc hnp hmr hmm hmb hu hc HQ
  have T2 := Lib.hid (two_new w 25 29 #[.int .i64 m, .slice xi ni ci, .slice xr nr cr, .slice xc nc cc] #[.slice yp np dp, .slice yr mr dr, .slice ym mm dm, .slice yb mb db])
  obtain ⟨L0, KA0, KB0⟩ := T2.out
  have LL := Lib.hid L0
  have KA := Lib.hid KA0
  have KB := Lib.hid KB0
  clear L0 KA0 KB0 T2
  generalize hru : rightU u = ru at HUR HQ2
  have HRU := Lib.hid hru
  clear hru
  go_enter Try.func22, Try.ntmps22
  go_wp2_with fail
  generalize (w.alloc _).alloc _ = w0 at LL KA KB ⊢
  refine (HUR.out _ LL.out).mono ?_
  rintro e w1 ⟨rfl, bn⟩
  replace KA := Lib.hid (KA.out.below bn)
  replace KB := Lib.hid (KB.out.below bn)
  replace LL := Lib.hid (LL.out.trans (bn.mono LL.out.size))
  clear bn HUR
  cases ru with
  | false =>
    go_wp2
    go_ret
    exact ⟨ret_bool (by rw [← HQ2.out]; rfl), LL.out⟩
  | true =>
    have hcells : w1.cell? ⟨w.heap.size, 0, none⟩ = some (.int .i64 m) ∧ w1.cell? ⟨w.heap.size, 1, none⟩ = some (.slice xi ni ci) ∧ w1.cell? ⟨w.heap.size, 2, none⟩ = some (.slice xr nr cr) ∧ w1.cell? ⟨w.heap.size, 3, none⟩ = some (.slice xc nc cc) ∧
        w1.cell? ⟨w.heap.size + 1, 0, none⟩ = some (.slice yp np dp) ∧ w1.cell? ⟨w.heap.size + 1, 1, none⟩ = some (.slice yr mr dr) ∧ w1.cell? ⟨w.heap.size + 1, 2, none⟩ = some (.slice ym mm dm) ∧ w1.cell? ⟨w.heap.size + 1, 3, none⟩ = some (.slice yb mb db) :=
      ⟨KA.out.cell 0, KA.out.cell 1, KA.out.cell 2, KA.out.cell 3, KB.out.cell 0, KB.out.cell 1, KB.out.cell 2, KB.out.cell 3⟩
    obtain ⟨c0, c1, c2, c3, d0, d1, d2, d3⟩ := hcells
    have l1 := KA.out.lt
    have l2 := KB.out.lt
    by_cases hl : np = nc ∧ mr = nc ∧ mb = nc
    · obtain ⟨h1, h2, h3⟩ := hl
      replace HQ2 : Hid ((thF m model room ni c.pc c.regs c.buf u.regs u.code && numB c.mem ni m) = q) := Lib.hid (by
        have := HQ2.out
        rw [decide_eq_true (show np = nc ∧ mr = nc ∧ mb = nc from ⟨h1, h2, h3⟩)] at this
        simpa using this)
      subst h1
      subst h2
      subst h3
      go_wp2_with fail
      have HURF : Hid (2 ≤ m ∧ m ≤ 16 ∧ mb ≤ 4 ∧ mb = nr) := Lib.hid (by
        have h5 := HRU.out
        unfold rightU at h5
        rw [Bool.and_eq_true] at h5
        have h6 := of_decide_eq_true h5.1
        rw [← HM.out, ← HNR.out, ← HNC.out] at h6
        omega)
      have HQ3 : Hid ((thF m model room ni (c.pc.drop 0) (c.regs.drop 0) (c.buf.drop 0) (u.regs.drop 0) (u.code.drop 0) && numB c.mem ni m) = q) := Lib.hid HQ2.out
      clear HQ2 c0 c1 c2 c3 d0 d1 d2 d3 l1 l2
      go_loopg [42] mb (fun fuel i' wr => ∃ (k : Nat), i' = .int .i64 k ∧ k ≤ mb ∧ mb - k ≤ fuel ∧ (thF m model room ni (c.pc.drop k) (c.regs.drop k) (c.buf.drop k) (u.regs.drop k) (u.code.drop k) && numB c.mem ni m) = q ∧ Below w1.heap.size w1 wr)
      case atStart => exact ⟨0, rfl, Nat.zero_le _, Nat.le_refl _, HQ3.out, Below.refl _ _⟩
      case round =>
        obtain ⟨k, rfl, hk, hf, ha, hb⟩ := hrel
        have HA := Lib.hid ha
        have HB := Lib.hid hb
        have KAR := Lib.hid (KA.out.below hb)
        have KBR := Lib.hid (KB.out.below hb)
        have LR := Lib.hid (LL.out.trans (hb.mono LL.out.size))
        clear ha hb
        by_cases hlt : k < mb
        · have k1 : k < c.pc.length := by rw [← HNP.out]; exact hlt
          have k2 : k < c.regs.length := by rw [← HMR.out]; exact hlt
          have k3 : k < c.buf.length := by rw [← HMB.out]; exact hlt
          have k4 : k < u.regs.length := by rw [← HNR.out, ← HURF.out.2.2.2]; exact hlt
          have k5 : k < u.code.length := by rw [← HNC.out]; exact hlt
          have HE := Lib.hid (thF_at m model room ni c.pc c.regs c.buf u.regs u.code k k1 k2 k3 k4 k5)
          obtain ⟨b1, o1, rfl, hb1, y1⟩ := IntsD.at2 (HC.out.below LR.out).p k k1
          obtain ⟨b2, o2, x2, m2, rfl, hb2, y2, z2⟩ := AllD.at2 (HC.out.below LR.out).r k k2
          obtain ⟨b3, o3, x3, m3, rfl, hb3, y3, z3⟩ := BufsD.at2 (HC.out.below LR.out).b k k3
          obtain ⟨b4, o4, rfl, hb4, y4⟩ := IntsD.at2 (HU.out.below LR.out).r k k4
          obtain ⟨b5, o5, rfl, hb5, hx⟩ := SlD.at (HU.out.below LR.out).c k k5
          obtain ⟨x5, m5, hxv⟩ := hx.r.shape0
          have y5 : wr.cell? ⟨b5, o5 + k, none⟩ = some (.slice x5 (u.code[k]).1.length m5) := by have := hx.c; rw [Nat.mul_one, hxv] at this; exact this
          have hs2 := HSC.out.rr _ (List.getElem_mem k2)
          have hs3 := HSC.out.bb _ (List.getElem_mem k3)
          have HA2 := Lib.hid (fun (W : World) (h : Below wr.heap.size wr W) => numbers_any (c.regs[k]).1 _ u.regs[k] m W (IntsD.below z2 h) hs2 _ rfl)
          have HS3 := Lib.hid (fun (W : World) (h : Below wr.heap.size wr W) => sright_all (c.buf[k]).1 _ model room m ni W (EntsD.below z3 h) hs3 _ rfl)
          have HBL := Lib.hid (fun (W : World) => nbelow_is c.pc[k] (u.code[k]).1.length _ rfl W)
          have HTB : Hid (thB m model room ni c.pc[k] (c.regs[k]).1 (c.buf[k]).1 u.regs[k] (u.code[k]).1.length = (inB c.pc[k] (u.code[k]).1.length && (numB (c.regs[k]).1 u.regs[k] m && rightL (c.buf[k]).1 model room m ni))) := Lib.hid (by
            unfold thB numB inB
            generalize rightL (c.buf[k]).1 model room m ni = r0
            generalize ((c.regs[k]).1.all fun n => decide (0 ≤ n ∧ n < m)) = r1
            by_cases g1 : 0 ≤ c.pc[k] ∧ c.pc[k] < ((u.code[k]).1.length : Int)
            · by_cases g2 : ((c.regs[k]).1.length : Int) = u.regs[k]
              · rw [decide_eq_true g1, decide_eq_true g2, decide_eq_true ⟨g1.1, g1.2, g2⟩]; simp
              · rw [decide_eq_true g1, decide_eq_false g2, decide_eq_false (fun h => g2 h.2.2)]; simp
            · rw [decide_eq_false g1, decide_eq_false (fun h => g1 ⟨h.1, h.2.1⟩)]; simp)
          rw [HTB.out] at HE
          generalize numB (c.regs[k]).1 u.regs[k] m = q2 at HA2 HE
          generalize rightL (c.buf[k]).1 model room m ni = q3 at HS3 HE
          generalize inB c.pc[k] (u.code[k]).1.length = q1 at HBL HE
          generalize (c.regs[k]).1.length = n2 at y2 HA2
          generalize (c.buf[k]).1.length = n3 at y3 HS3
          generalize (u.code[k]).1.length = n5 at y5 HBL
          generalize c.pc[k] = p at y1 HBL
          generalize u.regs[k] = ow at y4 HA2
          clear HTB hx hxv z2 z3 hs2 hs3 k1 k2 k3 k4 k5
          have c0 : wr.cell? ⟨w.heap.size, 0, none⟩ = some (.int .i64 m) := KAR.out.cell 0
          have c1 : wr.cell? ⟨w.heap.size, 1, none⟩ = some (.slice xi ni ci) := KAR.out.cell 1
          have c2 : wr.cell? ⟨w.heap.size, 2, none⟩ = some (.slice (some ⟨b4, o4, none⟩) nr cr) := KAR.out.cell 2
          have d0 : wr.cell? ⟨w.heap.size + 1, 0, none⟩ = some (.slice (some ⟨b1, o1, none⟩) mb dp) := KBR.out.cell 0
          have d1 : wr.cell? ⟨w.heap.size + 1, 1, none⟩ = some (.slice (some ⟨b2, o2, none⟩) mb dr) := KBR.out.cell 1
          have d3 : wr.cell? ⟨w.heap.size + 1, 3, none⟩ = some (.slice (some ⟨b3, o3, none⟩) mb db) := KBR.out.cell 3
          have l1 := KAR.out.lt
          have l2 := KBR.out.lt
          have e1 : (0 : Int) ≤ (k : Int) := by omega
          have e2 : (k : Int) < (mb : Int) := by omega
          have e3 : (k : Int) < (nr : Int) := by have := HURF.out; omega
          have e4 : k < mb := by omega
          have e5 : k < nr := by have := HURF.out; omega
          cases q1 with
          | false =>
            have HBF : Hid (q = false) := Lib.hid (by rw [← HA.out, HE.out]; rfl)
            have HQ2 := Lib.hid (fun (W : World) (j : Nat) => calls_quiet (HBL.out (W.drewN j)))
            clear HA2 HS3 HE HA
            go_wp2_with fail
            have e1 : (0 : Int) ≤ (k : Int) := Int.natCast_nonneg _
            go_quiet ((go_at_call 36; with_reducible exact HQ2.out _ _))
            go_wp2
            go_ret
            exact ⟨ret_bool HBF.out.symm, below_drewN' LR.out _⟩
          | true =>
            have KK := Lib.hid (fun (W : World) (hb : Below wr.heap.size wr W) => (⟨(KAR.out.below hb).cell 0, (KAR.out.below hb).cell 1, (KAR.out.below hb).cell 2, (KBR.out.below hb).cell 0, (KBR.out.below hb).cell 1, (KBR.out.below hb).cell 3, (hb.cell (p := ⟨b1, _, none⟩) hb1).trans y1, (hb.cell (p := ⟨b2, _, none⟩) hb2).trans y2, (hb.cell (p := ⟨b3, _, none⟩) hb3).trans y3, (hb.cell (p := ⟨b4, _, none⟩) hb4).trans y4, hb⟩ : W.cell? ⟨w.heap.size, 0, none⟩ = some (.int .i64 m) ∧ W.cell? ⟨w.heap.size, 1, none⟩ = some (.slice xi ni ci) ∧ W.cell? ⟨w.heap.size, 2, none⟩ = some (.slice (some ⟨b4, o4, none⟩) nr cr) ∧ W.cell? ⟨w.heap.size + 1, 0, none⟩ = some (.slice (some ⟨b1, o1, none⟩) mb dp) ∧ W.cell? ⟨w.heap.size + 1, 1, none⟩ = some (.slice (some ⟨b2, o2, none⟩) mb dr) ∧ W.cell? ⟨w.heap.size + 1, 3, none⟩ = some (.slice (some ⟨b3, o3, none⟩) mb db) ∧ W.cell? ⟨b1, o1 + k, none⟩ = some (.int .i64 p) ∧ W.cell? ⟨b2, o2 + k, none⟩ = some (.slice x2 n2 m2) ∧ W.cell? ⟨b3, o3 + k, none⟩ = some (.slice x3 n3 m3) ∧ W.cell? ⟨b4, o4 + k, none⟩ = some (.int .i64 ow) ∧ Below wr.heap.size wr W))
            have HBL2 := Lib.hid (fun (W : World) => calls_below (HBL.out W))
            have hb0 : Below wr.heap.size wr wr := Below.refl _ _
            go_wp2_with fail
            have e1 : (0 : Int) ≤ (k : Int) := Int.natCast_nonneg _
            go_region_held3 (fun W => W.cell? ⟨w.heap.size, 0, none⟩ = some (.int .i64 m) ∧ W.cell? ⟨w.heap.size, 1, none⟩ = some (.slice xi ni ci) ∧ W.cell? ⟨w.heap.size, 2, none⟩ = some (.slice (some ⟨b4, o4, none⟩) nr cr) ∧ W.cell? ⟨w.heap.size + 1, 0, none⟩ = some (.slice (some ⟨b1, o1, none⟩) mb dp) ∧ W.cell? ⟨w.heap.size + 1, 1, none⟩ = some (.slice (some ⟨b2, o2, none⟩) mb dr) ∧ W.cell? ⟨w.heap.size + 1, 3, none⟩ = some (.slice (some ⟨b3, o3, none⟩) mb db) ∧ W.cell? ⟨b1, o1 + k, none⟩ = some (.int .i64 p) ∧ W.cell? ⟨b2, o2 + k, none⟩ = some (.slice x2 n2 m2) ∧ W.cell? ⟨b3, o3 + k, none⟩ = some (.slice x3 n3 m3) ∧ W.cell? ⟨b4, o4 + k, none⟩ = some (.int .i64 ow) ∧ Below wr.heap.size wr W)
              (first | exact ⟨c0, c1, c2, d0, d1, d3, y1, y2, y3, y4, Below.refl _ _⟩ | exact ⟨c0, c1, c2, d0, d1, d3, y1, y2, y3, y4, (Below.refl _ _).drew⟩ | assumption | (go_split_ands; exact KK.out _ bb))
              ((first
                | (go_at_call 36; go_split_ands; (with_reducible refine Calls.mono (HBL2.out _) ?_); rintro e wn ⟨rfl, bn⟩; have bb : Below wr.heap.size wr wn := Below.trans (by assumption) (bn.mono (Below.size (by assumption))))
                | (go_at_call 37; go_split_ands; (with_reducible refine Calls.mono (HA2.out _ (by assumption)) ?_); rintro e wn2 ⟨rfl, bn2⟩; have bb : Below wr.heap.size wr wn2 := Below.trans (by assumption) (bn2.mono (Below.size (by assumption))))))
            have b2' : Below wr.heap.size wr wn2 := bb
            have LW := Lib.hid (LR.out.trans (b2'.mono LR.out.size))
            have BW := Lib.hid (HB.out.trans (b2'.mono HB.out.size))
            clear c0 c1 c2 d0 d1 d3 y1 y2 y3 y4 l1 l2
            obtain ⟨c0, c1, c2, d0, d1, d3, y1, y2, y3, y4, _⟩ := KK.out wn2 b2'
            have l1 : w.heap.size < wn2.heap.size := (KAR.out.below b2').lt
            have l2 : w.heap.size + 1 < wn2.heap.size := (KBR.out.below b2').lt
            have HS4 := Lib.hid (fun (W : World) (h : Below wn2.heap.size wn2 W) => HS3.out W (b2'.trans (h.mono b2'.size)))
            clear bb bn bn2 hb0 HBL HBL2 HA2 HS3 b2'
            cases q2 with
            | false =>
              go_wp2
              go_ret
              exact ⟨ret_bool (by rw [← HA.out, HE.out]; rfl), LW.out⟩
            | true =>
              go_wp2_with fail
              have e1 : (0 : Int) ≤ (k : Int) := Int.natCast_nonneg _
              go_still_tail 12, (by kernel_rfl)
              change wpList _ _ _ _ _ wn2.drew
              go_wp2_with fail
              refine (HS4.out _ (below_draws' wn2)).mono ?_
              rintro e w5 ⟨rfl, b5⟩
              have BX := Lib.hid (BW.out.drew.trans (b5.mono BW.out.drew.size))
              clear b5 HS4 c0 c1 c2 d0 d1 d3 y1 y2 y3 y4
              cases q3 with
              | false =>
                go_wp2
                go_ret
                exact ⟨ret_bool (by rw [← HA.out, HE.out]; rfl), LL.out.trans (BX.out.mono LL.out.size)⟩
              | true =>
                have g5 : mb ≤ 4 := HURF.out.2.2.1
                go_wp2_with fail
                go_roundg (gk - 1)
                case measure => omega
                case rel => exact ⟨k + 1, by (first | go_num | rfl), by omega, by omega, by have h2 := HA.out; rw [HE.out] at h2; simpa using h2, BX.out⟩
        · have HQ4 : Hid (numB c.mem ni m = q) := Lib.hid (by
            have h2 := HA.out
            rw [(List.drop_eq_nil_of_le (by rw [← HNP.out]; omega) : c.pc.drop k = [])] at h2
            simpa [thF] using h2)
          have HA1 := Lib.hid (HAL.out wr LR.out)
          rw [HQ4.out, ← HMM.out] at HA1
          have c0 : wr.cell? ⟨w.heap.size, 0, none⟩ = some (.int .i64 m) := KAR.out.cell 0
          have c1 : wr.cell? ⟨w.heap.size, 1, none⟩ = some (.slice xi ni ci) := KAR.out.cell 1
          have d2 : wr.cell? ⟨w.heap.size + 1, 2, none⟩ = some (.slice ym mm dm) := KBR.out.cell 2
          have l1 := KAR.out.lt
          have l2 := KBR.out.lt
          go_wp2_with fail
          refine HA1.out.mono ?_
          rintro e w5 ⟨rfl, b5⟩
          have BX := Lib.hid (LR.out.trans (b5.mono LR.out.size))
          clear b5
          go_wp2
          go_ret
          exact ⟨rfl, BX.out⟩
    · have HBF : Hid (q = false) := Lib.hid (by rw [← HQ2.out, decide_eq_false hl]; rfl)
      have hl2 : ((np : Int) != (nc : Int)) = true ∨ ((np : Int) != (nc : Int)) = false ∧ ((mr : Int) != (nc : Int)) = true ∨ ((np : Int) != (nc : Int)) = false ∧ ((mr : Int) != (nc : Int)) = false ∧ ((mb : Int) != (nc : Int)) = true := by
        simp only [bne_iff_ne, bne_eq_false_iff_eq]
        omega
      clear hl HQ2
      rcases hl2 with h | ⟨h, g⟩ | ⟨h, g, g'⟩
      all_goals
        go_wp2
        all_goals
          go_ret
          exact ⟨ret_bool HBF.out.symm, LL.out⟩

end Go.Proofs.Ytmkgijedchpgcaa
