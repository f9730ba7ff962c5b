/- Layer 9: the reference's Right of a configuration. -/
import Derived.Test.YtmkgijedchpgcaaUw
namespace Go.Proofs.Ytmkgijedchpgcaa
set_option linter.unusedSimpArgs false
set_option linter.unusedVariables false
open Go.RowKit

set_option maxRecDepth 100000 in
set_option maxHeartbeats 2000000 in
theorem all_is (l : List Int) (v : Value) (m : Int) (w : World) (hv : IntsD w v l) (hn : l.length ≤ 100000) (b : Bool) (hb : (l.all fun n => inB n m) = b) :
    Calls Try.prog 33 #[v, .int .i64 m] w fun e w' => e = .returned (.bool b) ∧ w = w' := by
  have HV := Lib.hid hv
  have HB0 : Hid (((l.drop 0).all fun n => inB n m) = b) := Lib.hid hb
  obtain ⟨ad, cap, rfl⟩ := hv.shape0
  obtain ⟨n, hN⟩ : ∃ n, n = l.length := ⟨_, rfl⟩
  rw [← hN] at HV hn ⊢
  have HN := Lib.hid hN
  clear hv hb hN
  go_enter Try.func33, Try.ntmps33
  go_wp2_with fail
  go_loopg [5] n (fun fuel i' wr => ∃ (k : Nat), i' = .int .i64 k ∧ k ≤ n ∧ n - k ≤ fuel ∧ ((l.drop k).all fun n => inB n m) = b ∧ w = wr)
  case atStart => exact ⟨0, rfl, Nat.zero_le _, Nat.le_refl _, HB0.out, rfl⟩
  case round =>
    obtain ⟨k, rfl, hk, hf, ha, rfl⟩ := hrel
    have HA := Lib.hid ha
    clear ha
    by_cases hlt : k < n
    · have hk' : k < l.length := by have := HN.out; omega
      have HE := Lib.hid (all_at' (fun n => inB n m) l k hk')
      obtain ⟨vb, off, rfl, hbl, x0⟩ := IntsD.at2 HV.out k hk'
      obtain ⟨x, hx⟩ : ∃ x, x = l[k] := ⟨_, rfl⟩
      rw [← hx] at x0 HE
      have H := Lib.hid (fun W => rin6_is x m _ rfl W)
      generalize inB x m = q at H HE
      clear hx
      cases q with
      | false =>
        go_wp2_with (go_at_call 42; refine (H.out _).mono ?_; rintro e w2 ⟨rfl, rfl⟩)
        go_ret
        exact ⟨ret_bool (by rw [← HA.out, HE.out]; rfl), rfl⟩
      | true =>
        go_wp2_with (go_at_call 42; refine (H.out _).mono ?_; rintro e w2 ⟨rfl, rfl⟩)
        go_roundg (gk - 1)
        case measure => omega
        case rel => exact ⟨k + 1, by go_num, by omega, by omega, by have h2 := HA.out; rw [HE.out] at h2; simpa using h2, rfl⟩
    · have HE : Hid (((l.drop k).all fun n => inB n m) = true) := Lib.hid (by rw [List.drop_eq_nil_of_le (by have := HN.out; omega)]; rfl)
      go_wp2
      go_ret
      exact ⟨ret_bool (by rw [← HA.out, HE.out]), rfl⟩

/-- A thread's part of a configuration, and of the unit. -/
def thB (m model room nl : Int) (p : Int) (rs : List Int) (bf : List Ent) (own : Int) (len : Nat) : Bool :=
  decide (0 ≤ p ∧ p < (len : Int) ∧ (rs.length : Int) = own) && ((rs.all fun n => inB n m) && rightL bf model room m nl)
def thF (m model room nl : Int) : List Int → List (List Int × Value) → List (List Ent × Value) → List Int → List (List II × Value) → Bool
  | p :: ps, r :: rs, b :: bs, o :: os, c :: cs => thB m model room nl p r.1 b.1 o c.1.length && thF m model room nl ps rs bs os cs
  | _, _, _, _, _ => true
def rightC (u : Un) (c : Cf) (model room : Int) : Bool :=
  rightU u && (decide (c.pc.length = u.regs.length ∧ c.regs.length = u.regs.length ∧ c.buf.length = u.regs.length ∧ c.mem.length = u.init.length) && ((c.mem.all fun n => inB n u.mod) &&
    (thF u.mod model room u.init.length c.pc c.regs c.buf u.regs u.code && rightL [] model room u.mod u.init.length)))
theorem thF_at (m model room nl : Int) (ps : List Int) (rs : List (List Int × Value)) (bs : List (List Ent × Value)) (os : List Int) (cs : List (List II × Value)) (k : Nat) (h1 : k < ps.length) (h2 : k < rs.length) (h3 : k < bs.length) (h4 : k < os.length) (h5 : k < cs.length) :
    thF m model room nl (ps.drop k) (rs.drop k) (bs.drop k) (os.drop k) (cs.drop k) = (thB m model room nl ps[k] rs[k].1 bs[k].1 os[k] cs[k].1.length && thF m model room nl (ps.drop (k + 1)) (rs.drop (k + 1)) (bs.drop (k + 1)) (os.drop (k + 1)) (cs.drop (k + 1))) := by
  rw [List.drop_eq_getElem_cons h1, List.drop_eq_getElem_cons h2, List.drop_eq_getElem_cons h3, List.drop_eq_getElem_cons h4, List.drop_eq_getElem_cons h5]; rfl

set_option maxRecDepth 100000 in
set_option maxHeartbeats 4000000 in
theorem rcright_any (u : Un) (c : Cf) (model room : Int) (vi vr vc ap ar am ab : Value) (w : World) (hu : UnD w vi vr vc u) (hc : CfD w ap ar am ab c) (hsu : ShortU u) (hsc : ShortC c) (q : Bool) (hq : rightC u c model room = q) :
    Calls Try.prog 18 #[.agg #[.int .i64 u.mod, vi, vr, vc], .agg #[ap, ar, am, ab], .int .i64 model, .int .i64 room] w fun e w' => e = .returned (.bool q) ∧ Below w.heap.size w w' := by
  have HU := Lib.hid hu
  have HC := Lib.hid hc
  have HSU := Lib.hid hsu
  have HSC := Lib.hid hsc
  have HQ := Lib.hid hq
  have HUR := Lib.hid (fun (W : World) (h : Below w.heap.size w W) => uright_any u vi vr vc W (hu.below h) hsu _ rfl)
  obtain ⟨m, hm⟩ : ∃ m, m = u.mod := ⟨_, rfl⟩
  have HAL := Lib.hid (fun (W : World) (h : Below w.heap.size w W) => all_is c.mem am m W (IntsD.below hc.m h) hsc.m _ rfl)
  obtain ⟨xi, ci, rfl⟩ := hu.i.shape0
  obtain ⟨xr, cr, rfl⟩ := hu.r.shape0
  obtain ⟨xc, cc, rfl⟩ := hu.c.shape0
  obtain ⟨yp, dp, rfl⟩ := hc.p.shape0
  obtain ⟨yr, dr, rfl⟩ := hc.r.shape0
  obtain ⟨ym, dm, rfl⟩ := hc.m.shape0
  obtain ⟨yb, db, rfl⟩ := hc.b.shape0
  have HM := Lib.hid hm
  rw [← hm] at HUR ⊢
  clear hm hq hsu hsc
  obtain ⟨ni, hni⟩ : ∃ n, n = u.init.length := ⟨_, rfl⟩
  obtain ⟨nr, hnr⟩ : ∃ n, n = u.regs.length := ⟨_, rfl⟩
  obtain ⟨nc, hnc⟩ : ∃ n, n = u.code.length := ⟨_, rfl⟩
  obtain ⟨np, hnp⟩ : ∃ n, n = c.pc.length := ⟨_, rfl⟩
  obtain ⟨mr, hmr⟩ : ∃ n, n = c.regs.length := ⟨_, rfl⟩
  obtain ⟨mm, hmm⟩ : ∃ n, n = c.mem.length := ⟨_, rfl⟩
  obtain ⟨mb, hmb⟩ : ∃ n, n = c.buf.length := ⟨_, rfl⟩
  have HNI := Lib.hid hni
  have HNR := Lib.hid hnr
  have HNC := Lib.hid hnc
  have HNP := Lib.hid hnp
  have HMR := Lib.hid hmr
  have HMM := Lib.hid hmm
  have HMB := Lib.hid hmb
  have HQ2 : Hid ((rightU u && (decide (np = nr ∧ mr = nr ∧ mb = nr ∧ mm = ni) && ((c.mem.all fun n => inB n m) && (thF m model room ni c.pc c.regs c.buf u.regs u.code && rightL [] model room m ni)))) = q) := Lib.hid (by
    rw [← HQ.out, HM.out, hni, hnr, hnp, hmr, hmm, hmb]; rfl)
  rw [← hni, ← hnr, ← hnc] at HU HUR ⊢
  rw [← hnp, ← hmr, ← hmm, ← hmb] at HC ⊢
  rw [← hmm] at HAL
  clear hni hnr hnc hnp hmr hmm hmb hu hc HQ
  have T2 := Lib.hid (two_new w 25 29 #[.int .i64 m, .slice xi ni ci, .slice xr nr cr, .slice xc nc cc] #[.slice yp np dp, .slice yr mr dr, .slice ym mm dm, .slice yb mb db])
  obtain ⟨L0, KA0, KB0⟩ := T2.out
  have LL := Lib.hid L0
  have KA := Lib.hid KA0
  have KB := Lib.hid KB0
  clear L0 KA0 KB0 T2
  generalize hru : rightU u = ru at HUR HQ2
  have HRU := Lib.hid hru
  clear hru
  go_enter Try.func18, Try.ntmps18
  go_wp2_with fail
  generalize (w.alloc _).alloc _ = w0 at LL KA KB ⊢
  refine (HUR.out _ LL.out).mono ?_
  rintro e w1 ⟨rfl, bn⟩
  replace KA := Lib.hid (KA.out.below bn)
  replace KB := Lib.hid (KB.out.below bn)
  replace LL := Lib.hid (LL.out.trans (bn.mono LL.out.size))
  clear bn HUR
  cases ru with
  | false =>
    go_wp2
    go_ret
    exact ⟨ret_bool (by rw [← HQ2.out]; rfl), LL.out⟩
  | true =>
    have hcells : w1.cell? ⟨w.heap.size, 0, none⟩ = some (.int .i64 m) ∧ w1.cell? ⟨w.heap.size, 1, none⟩ = some (.slice xi ni ci) ∧ w1.cell? ⟨w.heap.size, 2, none⟩ = some (.slice xr nr cr) ∧ w1.cell? ⟨w.heap.size, 3, none⟩ = some (.slice xc nc cc) ∧
        w1.cell? ⟨w.heap.size + 1, 0, none⟩ = some (.slice yp np dp) ∧ w1.cell? ⟨w.heap.size + 1, 1, none⟩ = some (.slice yr mr dr) ∧ w1.cell? ⟨w.heap.size + 1, 2, none⟩ = some (.slice ym mm dm) ∧ w1.cell? ⟨w.heap.size + 1, 3, none⟩ = some (.slice yb mb db) :=
      ⟨KA.out.cell 0, KA.out.cell 1, KA.out.cell 2, KA.out.cell 3, KB.out.cell 0, KB.out.cell 1, KB.out.cell 2, KB.out.cell 3⟩
    obtain ⟨c0, c1, c2, c3, d0, d1, d2, d3⟩ := hcells
    have l1 := KA.out.lt
    have l2 := KB.out.lt
    by_cases hl : np = nr ∧ mr = nr ∧ mb = nr ∧ mm = ni
    · obtain ⟨h1, h2, h3, h4⟩ := hl
      replace HQ2 : Hid (((c.mem.all fun n => inB n m) && (thF m model room ni c.pc c.regs c.buf u.regs u.code && rightL [] model room m ni)) = q) := Lib.hid (by
        have := HQ2.out
        rw [decide_eq_true (show np = nr ∧ mr = nr ∧ mb = nr ∧ mm = ni from ⟨h1, h2, h3, h4⟩)] at this
        simpa using this)
      subst h1
      subst h2
      subst h3
      subst h4
      have HA1 := Lib.hid (HAL.out w1 LL.out)
      generalize (c.mem.all fun n => inB n m) = qa at HA1 HQ2
      clear HAL
      go_wp2_with fail
      refine HA1.out.mono ?_
      rintro e wx ⟨rfl, rfl⟩
      cases qa with
      | false =>
        go_wp2
        go_ret
        exact ⟨ret_bool (by rw [← HQ2.out]; rfl), LL.out⟩
      | true =>
        go_wp2_with fail
        have HURF : Hid (2 ≤ m ∧ m ≤ 16 ∧ mb ≤ 4 ∧ nc = mb) := Lib.hid (by
          have h5 := HRU.out
          unfold rightU at h5
          rw [Bool.and_eq_true] at h5
          have h6 := of_decide_eq_true h5.1
          rw [← HM.out, ← HNR.out, ← HNC.out] at h6
          omega)
        have HQ3 : Hid ((thF m model room mm (c.pc.drop 0) (c.regs.drop 0) (c.buf.drop 0) (u.regs.drop 0) (u.code.drop 0) && rightL [] model room m mm) = q) := Lib.hid (by have := HQ2.out; rw [Bool.true_and] at this; exact this)
        clear HQ2 HA1 c0 c1 c2 c3 d0 d1 d2 d3 l1 l2
        go_loopg [10] mb (fun fuel i' wr => ∃ (k : Nat), i' = .int .i64 k ∧ k ≤ mb ∧ mb - k ≤ fuel ∧ (thF m model room mm (c.pc.drop k) (c.regs.drop k) (c.buf.drop k) (u.regs.drop k) (u.code.drop k) && rightL [] model room m mm) = q ∧ Below w1.heap.size w1 wr)
        case atStart => exact ⟨0, rfl, Nat.zero_le _, Nat.le_refl _, HQ3.out, Below.refl _ _⟩
        case round =>
          obtain ⟨k, rfl, hk, hf, ha, hb⟩ := hrel
          have HA := Lib.hid ha
          have HB := Lib.hid hb
          have KAR := Lib.hid (KA.out.below hb)
          have KBR := Lib.hid (KB.out.below hb)
          have LR := Lib.hid (LL.out.trans (hb.mono LL.out.size))
          clear ha hb
          by_cases hlt : k < mb
          · have k1 : k < c.pc.length := by rw [← HNP.out]; exact hlt
            have k2 : k < c.regs.length := by rw [← HMR.out]; exact hlt
            have k3 : k < c.buf.length := by rw [← HMB.out]; exact hlt
            have k4 : k < u.regs.length := by rw [← HNR.out]; exact hlt
            have k5 : k < u.code.length := by rw [← HNC.out, HURF.out.2.2.2]; exact hlt
            have HE := Lib.hid (thF_at m model room mm c.pc c.regs c.buf u.regs u.code k k1 k2 k3 k4 k5)
            obtain ⟨b1, o1, rfl, hb1, y1⟩ := IntsD.at2 (HC.out.below LR.out).p k k1
            obtain ⟨b2, o2, x2, m2, rfl, hb2, y2, z2⟩ := AllD.at2 (HC.out.below LR.out).r k k2
            obtain ⟨b3, o3, x3, m3, rfl, hb3, y3, z3⟩ := BufsD.at2 (HC.out.below LR.out).b k k3
            obtain ⟨b4, o4, rfl, hb4, y4⟩ := IntsD.at2 (HU.out.below LR.out).r k k4
            obtain ⟨b5, o5, rfl, hb5, hx⟩ := SlD.at (HU.out.below LR.out).c k k5
            obtain ⟨x5, m5, hxv⟩ := hx.r.shape0
            have y5 : wr.cell? ⟨b5, o5 + k, none⟩ = some (.slice x5 (u.code[k]).1.length m5) := by have := hx.c; rw [Nat.mul_one, hxv] at this; exact this
            have hs2 := HSC.out.rr _ (List.getElem_mem k2)
            have hs3 := HSC.out.bb _ (List.getElem_mem k3)
            have HA2 := Lib.hid (fun (W : World) (h : Below wr.heap.size wr W) => all_is (c.regs[k]).1 _ m W (IntsD.below z2 h) hs2 _ rfl)
            have HS3 := Lib.hid (fun (W : World) (h : Below wr.heap.size wr W) => rsright_is (c.buf[k]).1 _ model room m mm W (EntsD.below z3 h) hs3 _ rfl)
            have HTB : Hid (thB m model room mm c.pc[k] (c.regs[k]).1 (c.buf[k]).1 u.regs[k] (u.code[k]).1.length = (decide (0 ≤ c.pc[k] ∧ c.pc[k] < ((u.code[k]).1.length : Int) ∧ ((c.regs[k]).1.length : Int) = u.regs[k]) && (((c.regs[k]).1.all fun n => inB n m) && rightL (c.buf[k]).1 model room m mm))) := Lib.hid rfl
            rw [HTB.out] at HE
            generalize ((c.regs[k]).1.all fun n => inB n m) = q2 at HA2 HE
            generalize rightL (c.buf[k]).1 model room m mm = q3 at HS3 HE
            generalize (c.regs[k]).1.length = n2 at y2 HA2 HE
            generalize (c.buf[k]).1.length = n3 at y3 HS3
            generalize (u.code[k]).1.length = n5 at y5 HE
            generalize c.pc[k] = p at y1 HE
            generalize u.regs[k] = ow at y4 HE
            clear HTB hx hxv z2 z3 hs2 hs3 k1 k2 k3 k4 k5
            have c0 : wr.cell? ⟨w.heap.size, 0, none⟩ = some (.int .i64 m) := KAR.out.cell 0
            have c1 : wr.cell? ⟨w.heap.size, 1, none⟩ = some (.slice xi mm ci) := KAR.out.cell 1
            have c2 : wr.cell? ⟨w.heap.size, 2, none⟩ = some (.slice (some ⟨b4, o4, none⟩) mb cr) := KAR.out.cell 2
            have c3 : wr.cell? ⟨w.heap.size, 3, none⟩ = some (.slice (some ⟨b5, o5, none⟩) nc cc) := KAR.out.cell 3
            have d0 : wr.cell? ⟨w.heap.size + 1, 0, none⟩ = some (.slice (some ⟨b1, o1, none⟩) mb dp) := KBR.out.cell 0
            have d1 : wr.cell? ⟨w.heap.size + 1, 1, none⟩ = some (.slice (some ⟨b2, o2, none⟩) mb dr) := KBR.out.cell 1
            have d3 : wr.cell? ⟨w.heap.size + 1, 3, none⟩ = some (.slice (some ⟨b3, o3, none⟩) mb db) := KBR.out.cell 3
            have l1 := KAR.out.lt
            have l2 := KBR.out.lt
            by_cases p1 : p < 0
            · have HBF : Hid (q = false) := Lib.hid (by rw [← HA.out, HE.out]; rw [decide_eq_false (by omega)]; rfl)
              clear HE HA
              go_wp2_with fail
              have e1 : (0 : Int) ≤ (k : Int) := by omega
              have e2 : (k : Int) < (mb : Int) := by omega
              have e3 : (k : Int) < (nc : Int) := by have := HURF.out; omega
              have e4 : k < mb := by omega
              have e5 : k < nc := by have := HURF.out; omega
              have f1 : p < 0 := by omega
              go_quiet (fail)
              go_wp2
              go_ret
              exact ⟨ret_bool HBF.out.symm, below_drewN' LR.out _⟩
            · obtain ⟨pn, rfl⟩ : ∃ n : Nat, p = (n : Int) := ⟨p.toNat, by omega⟩
              clear p1
              by_cases p2 : (n5 : Int) ≤ (pn : Int)
              · have HBF : Hid (q = false) := Lib.hid (by rw [← HA.out, HE.out]; rw [decide_eq_false (by omega)]; rfl)
                clear HE HA
                go_wp2_with fail
                have e1 : (0 : Int) ≤ (k : Int) := by omega
                have e2 : (k : Int) < (mb : Int) := by omega
                have e3 : (k : Int) < (nc : Int) := by have := HURF.out; omega
                have e4 : k < mb := by omega
                have e5 : k < nc := by have := HURF.out; omega
                have f1 : ¬ (pn : Int) < 0 := by omega
                have f2 : (n5 : Int) ≤ (pn : Int) := by omega
                have f2b : n5 ≤ pn := by omega
                go_quiet (fail)
                go_wp2
                go_ret
                exact ⟨ret_bool HBF.out.symm, below_drewN' LR.out _⟩
              · by_cases p3 : (n2 : Int) = ow
                · have P3 := Lib.hid p3
                  have P2 := Lib.hid p2
                  have HE2 : Hid (thF m model room mm (c.pc.drop k) (c.regs.drop k) (c.buf.drop k) (u.regs.drop k) (u.code.drop k) = ((q2 && q3) && thF m model room mm (c.pc.drop (k + 1)) (c.regs.drop (k + 1)) (c.buf.drop (k + 1)) (u.regs.drop (k + 1)) (u.code.drop (k + 1)))) := Lib.hid (by rw [HE.out, decide_eq_true (show 0 ≤ (pn : Int) ∧ (pn : Int) < (n5 : Int) ∧ (n2 : Int) = ow from ⟨by omega, by omega, p3⟩), Bool.true_and])
                  clear p2 HE P3
                  subst p3
                  cases q2 with
                  | false =>
                    have HBF : Hid (q = false) := Lib.hid (by rw [← HA.out, HE2.out]; rfl)
                    have HA3 := Lib.hid (fun (j : Nat) => calls_quiet (j := j) (HA2.out (wr.drewN j) (below_drewN' (Below.refl _ _) j)))
                    clear HE2 HA
                    go_wp2_with fail
                    have e1 : (0 : Int) ≤ (k : Int) := by omega
                    have e2 : (k : Int) < (mb : Int) := by omega
                    have e3 : (k : Int) < (nc : Int) := by have := HURF.out; omega
                    have e4 : k < mb := by omega
                    have e5 : k < nc := by have := HURF.out; omega
                    have f1 : ¬ (pn : Int) < 0 := by omega
                    have f2 : ¬ (n5 : Int) ≤ (pn : Int) := by have := P2.out; omega
                    have f2b : ¬ n5 ≤ pn := by have := P2.out; omega
                    have f3 : True := trivial
                    go_quiet ((go_at_call 33; with_reducible exact HA3.out _))
                    go_wp2
                    go_ret
                    exact ⟨ret_bool HBF.out.symm, below_drewN' LR.out _⟩
                  | true =>
                    have KK := Lib.hid (fun (W : World) (hb : Below wr.heap.size wr W) => (⟨(KAR.out.below hb).cell 0, (KAR.out.below hb).cell 1, (KAR.out.below hb).cell 2, (KAR.out.below hb).cell 3, (KBR.out.below hb).cell 0, (KBR.out.below hb).cell 1, (KBR.out.below hb).cell 3, (hb.cell (p := ⟨b1, _, none⟩) hb1).trans y1, (hb.cell (p := ⟨b2, _, none⟩) hb2).trans y2, (hb.cell (p := ⟨b3, _, none⟩) hb3).trans y3, (hb.cell (p := ⟨b4, _, none⟩) hb4).trans y4, (hb.cell (p := ⟨b5, _, none⟩) hb5).trans y5, hb⟩ : W.cell? ⟨w.heap.size, 0, none⟩ = some (.int .i64 m) ∧ W.cell? ⟨w.heap.size, 1, none⟩ = some (.slice xi mm ci) ∧ W.cell? ⟨w.heap.size, 2, none⟩ = some (.slice (some ⟨b4, o4, none⟩) mb cr) ∧ W.cell? ⟨w.heap.size, 3, none⟩ = some (.slice (some ⟨b5, o5, none⟩) nc cc) ∧ W.cell? ⟨w.heap.size + 1, 0, none⟩ = some (.slice (some ⟨b1, o1, none⟩) mb dp) ∧ W.cell? ⟨w.heap.size + 1, 1, none⟩ = some (.slice (some ⟨b2, o2, none⟩) mb dr) ∧ W.cell? ⟨w.heap.size + 1, 3, none⟩ = some (.slice (some ⟨b3, o3, none⟩) mb db) ∧ W.cell? ⟨b1, o1 + k, none⟩ = some (.int .i64 (pn : Int)) ∧ W.cell? ⟨b2, o2 + k, none⟩ = some (.slice x2 n2 m2) ∧ W.cell? ⟨b3, o3 + k, none⟩ = some (.slice x3 n3 m3) ∧ W.cell? ⟨b4, o4 + k, none⟩ = some (.int .i64 (n2 : Int)) ∧ W.cell? ⟨b5, o5 + k, none⟩ = some (.slice x5 n5 m5) ∧ Below wr.heap.size wr W))
                    have HA3 := Lib.hid (fun (W : World) (h : Below wr.heap.size wr W) => calls_below (HA2.out W h))
                    have hb0 : Below wr.heap.size wr wr := Below.refl _ _
                    go_wp2_with fail
                    have e1 : (0 : Int) ≤ (k : Int) := by omega
                    have e2 : (k : Int) < (mb : Int) := by omega
                    have e3 : (k : Int) < (nc : Int) := by have := HURF.out; omega
                    have e4 : k < mb := by omega
                    have e5 : k < nc := by have := HURF.out; omega
                    have f1 : ¬ (pn : Int) < 0 := by omega
                    have f2 : ¬ (n5 : Int) ≤ (pn : Int) := by have := P2.out; omega
                    have f2b : ¬ n5 ≤ pn := by have := P2.out; omega
                    have f3 : True := trivial
                    go_region_held3 (fun w' => w'.cell? ⟨w.heap.size, 0, none⟩ = some (.int .i64 m) ∧ w'.cell? ⟨w.heap.size, 1, none⟩ = some (.slice xi mm ci) ∧ w'.cell? ⟨w.heap.size, 2, none⟩ = some (.slice (some ⟨b4, o4, none⟩) mb cr) ∧ w'.cell? ⟨w.heap.size, 3, none⟩ = some (.slice (some ⟨b5, o5, none⟩) nc cc) ∧ w'.cell? ⟨w.heap.size + 1, 0, none⟩ = some (.slice (some ⟨b1, o1, none⟩) mb dp) ∧ w'.cell? ⟨w.heap.size + 1, 1, none⟩ = some (.slice (some ⟨b2, o2, none⟩) mb dr) ∧ w'.cell? ⟨w.heap.size + 1, 3, none⟩ = some (.slice (some ⟨b3, o3, none⟩) mb db) ∧ w'.cell? ⟨b1, o1 + k, none⟩ = some (.int .i64 (pn : Int)) ∧ w'.cell? ⟨b2, o2 + k, none⟩ = some (.slice x2 n2 m2) ∧ w'.cell? ⟨b3, o3 + k, none⟩ = some (.slice x3 n3 m3) ∧ w'.cell? ⟨b4, o4 + k, none⟩ = some (.int .i64 (n2 : Int)) ∧ w'.cell? ⟨b5, o5 + k, none⟩ = some (.slice x5 n5 m5) ∧ Below wr.heap.size wr w')
                      (first | exact ⟨c0, c1, c2, c3, d0, d1, d3, y1, y2, y3, y4, y5, Below.refl _ _⟩ | exact ⟨c0, c1, c2, c3, d0, d1, d3, y1, y2, y3, y4, y5, (Below.refl _ _).drew⟩ | assumption | (go_split_ands; exact KK.out _ bb))
                      ((first
                        | (go_at_call 33; go_split_ands; (with_reducible refine Calls.mono (HA3.out _ (by assumption)) ?_); rintro e wn ⟨rfl, bn⟩; have bb : Below wr.heap.size wr wn := Below.trans (by assumption) (bn.mono (Below.size (by assumption))))
                        | (go_at_call 34; go_split_ands; (with_reducible refine Calls.mono (HS3.out _ (by assumption)) ?_); rintro e wn2 ⟨rfl, bn2⟩; have bb : Below wr.heap.size wr wn2 := Below.trans (by assumption) (bn2.mono (Below.size (by assumption))))))
                    have BW := Lib.hid (HB.out.trans (bb.mono HB.out.size))
                    clear KK hb0 bb bn bn2 y1 y2 y3 y4 y5
                    cases q3 with
                    | false =>
                      go_wp2
                      go_ret
                      exact ⟨ret_bool (by rw [← HA.out, HE2.out]; rfl), LL.out.trans (BW.out.mono LL.out.size)⟩
                    | true =>
                      have g5 : mb ≤ 4 := HURF.out.2.2.1
                      go_wp2_with fail
                      go_roundg (gk - 1)
                      case measure => omega
                      case rel => exact ⟨k + 1, by (first | go_num | rfl), by omega, by omega, by have h2 := HA.out; rw [HE2.out] at h2; simpa using h2, BW.out⟩
                · have HBF : Hid (q = false) := Lib.hid (by rw [← HA.out, HE.out]; rw [decide_eq_false (fun h => p3 h.2.2)]; rfl)
                  clear HE HA
                  have P3 := Lib.hid p3
                  have P2 := Lib.hid p2
                  clear p2 p3
                  go_wp2_with fail
                  have e1 : (0 : Int) ≤ (k : Int) := by omega
                  have e2 : (k : Int) < (mb : Int) := by omega
                  have e3 : (k : Int) < (nc : Int) := by have := HURF.out; omega
                  have e4 : k < mb := by omega
                  have e5 : k < nc := by have := HURF.out; omega
                  have f1 : ¬ (pn : Int) < 0 := by omega
                  have f2 : ¬ (n5 : Int) ≤ (pn : Int) := by have := P2.out; omega
                  have f2b : ¬ n5 ≤ pn := by have := P2.out; omega
                  have f3 : ¬ (n2 : Int) = ow := P3.out
                  have f3b : ((n2 : Int) != ow) = true := bne_iff_ne.2 P3.out
                  go_quiet (fail)
                  go_wp2
                  go_ret
                  exact ⟨ret_bool HBF.out.symm, below_drewN' LR.out _⟩
          · have hk2 : k = mb := by omega
            have HQ4 : Hid (rightL [] model room m mm = q) := Lib.hid (by
              have h2 := HA.out
              rw [(List.drop_eq_nil_of_le (by rw [← HNP.out]; omega) : c.pc.drop k = [])] at h2
              simpa [thF] using h2)
            have HR0 := Lib.hid (rsright_is [] (.slice none 0 0) model room m mm wr SlD.nil (by decide) _ HQ4.out)
            have c0 : wr.cell? ⟨w.heap.size, 0, none⟩ = some (.int .i64 m) := KAR.out.cell 0
            have c1 : wr.cell? ⟨w.heap.size, 1, none⟩ = some (.slice xi mm ci) := KAR.out.cell 1
            have l1 := KAR.out.lt
            clear hk2
            go_wp2_with fail
            refine HR0.out.mono ?_
            rintro e w5 ⟨rfl, b5⟩
            go_wp2
            go_ret
            exact ⟨rfl, LR.out.trans (b5.mono LR.out.size)⟩
    · have HBF : Hid (q = false) := Lib.hid (by rw [← HQ2.out, decide_eq_false hl]; rfl)
      have h2 : ((np : Int) == (nr : Int)) = false ∨ ((mr : Int) == (nr : Int)) = false ∨ ((mb : Int) == (nr : Int)) = false ∨ ((mm : Int) == (ni : Int)) = false := by
        simp only [beq_eq_false_iff_ne, ne_eq]
        omega
      clear hl HQ2 HAL
      rcases h2 with h | h | h | h
      all_goals
        have Hh := Lib.hid h
        go_wp2_with fail
        all_goals first
          | (go_ret
             exact ⟨ret_bool HBF.out.symm, LL.out⟩)
          | (exfalso
             have hh := Hh.out
             simp only [bne_eq_false_iff_eq, beq_eq_false_iff_ne, ne_eq] at *
             omega)

end Go.Proofs.Ytmkgijedchpgcaa
