/- MachineDead: its walk. -/
import Derived.Test.YtobmbkgeafbamaaGreatCf
namespace Go.Proofs.YtobmbkgeafbamaaGreat
set_option linter.unusedSimpArgs false
set_option linter.unusedVariables false
open Go.RowKit

theorem case11_right {u : Un} {c : Cf} {model room : Int} (h : (lightU u && (lightC c && rightC u c model room)) = true) : lightU u = true ∧ lightC c = true ∧ RightP u c.pf model room := by
  rw [Bool.and_eq_true, Bool.and_eq_true] at h
  exact ⟨h.1, h.2.1, (rightC_iff u c model room).1 h.2.2⟩
/-- Does one of the first k threads stand at an Await? -/
def awU (u : Un) (c : Cf) : Nat → Bool
  | 0 => false
  | k + 1 => awU u c k || decide ((insAt u k (c.pc.getD k 0)).op = 9)
theorem awU_some (u : Un) (c : Cf) : ∀ n k, k < n → (insAt u k (c.pc.getD k 0)).op = 9 → awU u c n = true
  | n + 1, k, hk, h => by
    show (awU u c n || _) = true
    by_cases hkn : k = n
    · subst hkn; rw [decide_eq_true h, Bool.or_true]
    · rw [awU_some u c n k (by omega) h, Bool.true_or]
/-- Where a thread stands, in the heap. -/
theorem op_at {u : Un} {c : Cf} {model room : Int} {w : World} {ac ap : Option Addr} {ncd ccd npp cpp : Nat} {vi vr xr xm xb : Value} (hu : UnD w vi vr (.slice ac ncd ccd) u) (hc : CfD w (.slice ap npp cpp) xr xm xb c) (hR : RightP u c.pf model room) (k : Nat) (hk : k < u.code.length) :
    ∃ bp op bc oc bi oi nl mx pc, ap = some ⟨bp, op, none⟩ ∧ ac = some ⟨bc, oc, none⟩ ∧ bp < w.heap.size ∧ bc < w.heap.size ∧ bi < w.heap.size ∧ w.cell? ⟨bp, op + k, none⟩ = some (.int .i64 (pc : Nat)) ∧ w.cell? ⟨bc, oc + k, none⟩ = some (.slice (some ⟨bi, oi, none⟩) nl mx) ∧ pc < nl ∧ nl ≤ 1000 ∧
      w.cell? ⟨bi, oi + pc * 7, none⟩ = some (.int .i64 (insAt u k (c.pc.getD k 0)).op) := by
  have hlc := rightU_lc hR.ru
  have hkr : k < u.regs.length := by omega
  have hkp : k < c.pc.length := by have : c.pc.length = u.regs.length := hR.lp; omega
  obtain ⟨pc, x, T⟩ := hR.thr k hkr
  obtain ⟨bp, op, rfl, hbp, yp⟩ := IntsD.at2 hc.p k hkp
  obtain ⟨bc, oc, rfl, hbc, hx⟩ := SlD.at hu.c k hk
  obtain ⟨hx1, hx2⟩ := hx
  obtain ⟨ax, mx, hxv⟩ := hx2.shape0
  rw [hxv] at hx1 hx2
  have hg : u.code.getD k ([], undef) = u.code[k] := by rw [List.getD_eq_getElem?_getD, List.getElem?_eq_getElem hk]; rfl
  have hpl : pc < (u.code[k]).1.length := by have := T.hpl; rw [hg] at this; exact this
  have hle : (u.code[k]).1.length ≤ 1000 := by have := T.hl; rw [hg] at this; exact this
  obtain ⟨bi, oi, rfl, hbi, hI⟩ := SlD.at hx2 pc hpl
  have hp : c.pc[k] = (pc : Int) := by have h1 : c.pc.getD k 0 = (pc : Int) := T.hp; rw [List.getD_eq_getElem?_getD, List.getElem?_eq_getElem hkp] at h1; exact h1
  rw [hp] at yp
  refine ⟨bp, op, bc, oc, bi, oi, _, mx, pc, rfl, rfl, hbp, hbc, hbi, yp, by rw [Nat.mul_one] at hx1; exact hx1, hpl, hle, ?_⟩
  rw [hI.c0]
  unfold insAt iiAt
  rw [show c.pc.getD k 0 = (pc : Int) from T.hp, hg, show ((pc : Int)).toNat = pc by omega, List.getD_eq_getElem?_getD, List.getElem?_eq_getElem hpl]
  rfl

attribute [local go_sem ↓] Go.wp_at_zero Go.wp_at_succ
set_option maxRecDepth 100000 in
set_option maxHeartbeats 16000000 in
theorem mdead_in (hkn : ∀ W : World, Calls Tryz.prog 23 #[] W fun e w' => e = .returned (.bool true) ∧ Below W.heap.size W w') (u : Un) (c : Cf) (model room t : Int) (vi vr vc xp xr xm xb : Value) (w : World) (hu : UnD w vi vr vc u) (hc : CfD w xp xr xm xb c) :
    Calls Tryz.prog 7 #[.agg #[.int .i64 u.mod, vi, vr, vc, xp, xr, xm, xb, .int .i64 model, .int .i64 room, .int .i64 t]] w fun e w' => e = .returned (.bool true) ∧ Below w.heap.size w w' := by
  have HKN := Lib.hid hkn
  have HU := Lib.hid hu
  have HC := Lib.hid hc
  obtain ⟨ai, ci, rfl⟩ := hu.i.shape0
  obtain ⟨ar, cr, rfl⟩ := hu.r.shape0
  obtain ⟨ac, cc, rfl⟩ := hu.c.shape0
  obtain ⟨ap, cp, rfl⟩ := hc.p.shape0
  obtain ⟨aq, cq, rfl⟩ := hc.r.shape0
  obtain ⟨am, cm, rfl⟩ := hc.m.shape0
  obtain ⟨ab, cb, rfl⟩ := hc.b.shape0
  clear hu hc hkn
  have HRT := Lib.hid (fun (W : World) (h : Below w.heap.size w W) => right11_any u c model room t _ _ _ _ _ _ _ W (HU.out.below h) (HC.out.below h) _ rfl)
  have HMV := Lib.hid (fun (hr : (lightU u && (lightC c && rightC u c model room)) = true) (W : World) (h : Below w.heap.size w W) => mmoves_any u c model room _ _ _ _ _ _ _ W (HU.out.below h) (HC.out.below h) (usL (case11_right hr).1) (case11_right hr).2.2)
  have HFN := Lib.hid (fun (hr : (lightU u && (lightC c && rightC u c model room)) = true) (W : World) (h : Below w.heap.size w W) => final_any u c _ _ _ _ _ _ _ W (HU.out.below h) (HC.out.below h) (lightU_code (case11_right hr).1) (lightC_short (case11_right hr).2.1).b _ rfl)
  have HDD := Lib.hid (fun (hr : (lightU u && (lightC c && rightC u c model room)) = true) (W : World) (h : Below w.heap.size w W) => mdead_any u c model room _ _ _ _ _ _ _ W (HU.out.below h) (HC.out.below h) (usL (case11_right hr).1) (case11_right hr).2.2 _ rfl)
  have HQT := Lib.hid (fun (hr : (lightU u && (lightC c && rightC u c model room)) = true) (hq : quietC c = true) (W : World) (h : Below w.heap.size w W) => quiet_any c _ _ _ _ W (HC.out.below h) (lightC_short (case11_right hr).2.1).b true hq)
  have HOP := Lib.hid (fun (hr : (lightU u && (lightC c && rightC u c model room)) = true) (k : Nat) (hk : k < u.code.length) => op_at HU.out HC.out (case11_right hr).2.2 k hk)
  have HRP := Lib.hid (fun (hr : (lightU u && (lightC c && rightC u c model room)) = true) => (case11_right hr).2.2)
  have HNC := Lib.hid (fun (hr : (lightU u && (lightC c && rightC u c model room)) = true) => (show c.pc.length = u.code.length ∧ c.pc.length ≤ 4 by have h1 : c.pc.length = u.regs.length := (case11_right hr).2.2.lp; have h2 := rightU_lc (case11_right hr).2.2.ru; omega))
  have HLN := Lib.hid (fun (hr : (lightU u && (lightC c && rightC u c model room)) = true) => (show (mvA u c.pf model room).length ≤ 28 from Nat.le_trans (mvG_len _ _) (agN_le (case11_right hr).2.2.ru model)))
  have HFM := Lib.hid (fun (hr : (lightU u && (lightC c && rightC u c model room)) = true) (hf : finalC u c = true) => (show (mvA u c.pf model room).length = 0 by rw [final_none (case11_right hr).2.2 hf]; rfl))
  have HDS := Lib.hid (fun (hr : (lightU u && (lightC c && rightC u c model room)) = true) (hm : (mvA u c.pf model room).length = 0) (hf : finalC u c = false) => dead_some (case11_right hr).2.2 (List.eq_nil_of_length_eq_zero hm) hf)
  clear HU HC
  unfold deadA at HDD
  obtain ⟨z, hz⟩ : ∃ z, z = (mvA u c.pf model room).length := ⟨_, rfl⟩
  obtain ⟨f, hf⟩ : ∃ f, f = finalC u c := ⟨_, rfl⟩
  rw [← hz] at HLN HFM HDS HDD
  rw [← hf] at HFN HFM HDS HDD
  replace hz := Lib.hid hz
  clear hf
  generalize u.init.length = ni at HRT HMV HFN HDD ⊢
  generalize u.regs.length = nr at HRT HMV HFN HDD ⊢
  generalize u.code.length = nc at HRT HMV HFN HDD HOP HNC HDS ⊢
  generalize c.pc.length = np at HRT HMV HFN HDD HQT HOP HNC ⊢
  generalize c.regs.length = nq at HRT HMV HFN HDD HQT ⊢
  generalize c.mem.length = nm at HRT HMV HFN HDD HQT ⊢
  generalize c.buf.length = nb at HRT HMV HFN HDD HQT ⊢
  generalize u.mod = md at HRT HMV HFN HDD ⊢
  obtain ⟨r, hr⟩ : ∃ q, (lightU u && (lightC c && rightC u c model room)) = q := ⟨_, rfl⟩
  rw [hr] at HRT HMV HFN HDD HQT HOP HRP HNC HLN HFM HDS
  clear hr
  have Kc := Lib.hid (Bk.new w 48 #[.int .i64 md, .slice ai ni ci, .slice ar nr cr, .slice ac nc cc, .slice ap np cp, .slice aq nq cq, .slice am nm cm, .slice ab nb cb, .int .i64 model, .int .i64 room, .int .i64 t])
  have B : Hid (Below w.heap.size w (World.alloc w (.cells #[.int .i64 md, .slice ai ni ci, .slice ar nr cr, .slice ac nc cc, .slice ap np cp, .slice aq nq cq, .slice am nm cm, .slice ab nb cb, .int .i64 model, .int .i64 room, .int .i64 t] 48))) := Lib.hid (bal (Below.refl _ _) _)
  go_enter Tryz.func7, Tryz.ntmps7
  go_wp2_with fail
  generalize World.alloc w (.cells #[.int .i64 md, .slice ai ni ci, .slice ar nr cr, .slice ac nc cc, .slice ap np cp, .slice aq nq cq, .slice am nm cm, .slice ab nb cb, .int .i64 model, .int .i64 room, .int .i64 t] 48) = w1 at Kc B ⊢
  refine (HRT.out w1 B.out).mono ?_
  rintro e w2 ⟨rfl, b⟩
  replace Kc := Lib.hid (Kc.out.below b)
  replace B := Lib.hid (B.out.trans (b.mono B.out.size))
  clear b
  cases r with
  | false =>
    go_wp2_with fail
    refine (HKN.out w2).mono ?_
    rintro e w3 ⟨rfl, b⟩
    replace Kc := Lib.hid (Kc.out.below b)
    replace B := Lib.hid (B.out.trans (b.mono B.out.size))
    clear b
    go_wp2
    go_ret
    exact ⟨ret_bool rfl, B.out⟩
  | true =>
    replace HMV := Lib.hid (HMV.out rfl)
    replace HFN := Lib.hid (HFN.out rfl)
    replace HDD := Lib.hid (HDD.out rfl)
    replace HQT := Lib.hid (HQT.out rfl)
    replace HOP := Lib.hid (HOP.out rfl)
    replace HRP := Lib.hid (HRP.out rfl)
    replace HNC := Lib.hid (HNC.out rfl)
    replace HLN := Lib.hid (HLN.out rfl)
    replace HFM := Lib.hid (HFM.out rfl)
    replace HDS := Lib.hid (HDS.out rfl)
    obtain ⟨cc0, cc1, cc2, cc3, cc4, cc5, cc6, cc7, cc8, cc9, cc10, ccl⟩ : w2.cell? ⟨w.heap.size, 0, none⟩ = some (.int .i64 md) ∧ w2.cell? ⟨w.heap.size, 1, none⟩ = some (.slice ai ni ci) ∧ w2.cell? ⟨w.heap.size, 2, none⟩ = some (.slice ar nr cr) ∧ w2.cell? ⟨w.heap.size, 3, none⟩ = some (.slice ac nc cc) ∧ w2.cell? ⟨w.heap.size, 4, none⟩ = some (.slice ap np cp) ∧ w2.cell? ⟨w.heap.size, 5, none⟩ = some (.slice aq nq cq) ∧ w2.cell? ⟨w.heap.size, 6, none⟩ = some (.slice am nm cm) ∧ w2.cell? ⟨w.heap.size, 7, none⟩ = some (.slice ab nb cb) ∧ w2.cell? ⟨w.heap.size, 8, none⟩ = some (.int .i64 model) ∧ w2.cell? ⟨w.heap.size, 9, none⟩ = some (.int .i64 room) ∧ w2.cell? ⟨w.heap.size, 10, none⟩ = some (.int .i64 t) ∧ w.heap.size < w2.heap.size := ⟨Kc.out.cell 0, Kc.out.cell 1, Kc.out.cell 2, Kc.out.cell 3, Kc.out.cell 4, Kc.out.cell 5, Kc.out.cell 6, Kc.out.cell 7, Kc.out.cell 8, Kc.out.cell 9, Kc.out.cell 10, Kc.out.lt⟩
    go_wp2_with fail
    clear cc0 cc1 cc2 cc3 cc4 cc5 cc6 cc7 cc8 cc9 cc10 ccl
    refine (HMV.out w2 B.out).mono ?_
    rintro e w3 ⟨v, rfl, ov, b⟩
    replace Kc := Lib.hid (Kc.out.below b)
    replace B := Lib.hid (B.out.trans (b.mono B.out.size))
    clear b
    obtain ⟨mad, mcap, rfl, _⟩ := own_shape' ov
    clear ov HMV
    rw [← hz.out]
    obtain ⟨cc0, cc1, cc2, cc3, cc4, cc5, cc6, cc7, cc8, cc9, cc10, ccl⟩ : w3.cell? ⟨w.heap.size, 0, none⟩ = some (.int .i64 md) ∧ w3.cell? ⟨w.heap.size, 1, none⟩ = some (.slice ai ni ci) ∧ w3.cell? ⟨w.heap.size, 2, none⟩ = some (.slice ar nr cr) ∧ w3.cell? ⟨w.heap.size, 3, none⟩ = some (.slice ac nc cc) ∧ w3.cell? ⟨w.heap.size, 4, none⟩ = some (.slice ap np cp) ∧ w3.cell? ⟨w.heap.size, 5, none⟩ = some (.slice aq nq cq) ∧ w3.cell? ⟨w.heap.size, 6, none⟩ = some (.slice am nm cm) ∧ w3.cell? ⟨w.heap.size, 7, none⟩ = some (.slice ab nb cb) ∧ w3.cell? ⟨w.heap.size, 8, none⟩ = some (.int .i64 model) ∧ w3.cell? ⟨w.heap.size, 9, none⟩ = some (.int .i64 room) ∧ w3.cell? ⟨w.heap.size, 10, none⟩ = some (.int .i64 t) ∧ w.heap.size < w3.heap.size := ⟨Kc.out.cell 0, Kc.out.cell 1, Kc.out.cell 2, Kc.out.cell 3, Kc.out.cell 4, Kc.out.cell 5, Kc.out.cell 6, Kc.out.cell 7, Kc.out.cell 8, Kc.out.cell 9, Kc.out.cell 10, Kc.out.lt⟩
    go_wp2_with fail
    clear cc0 cc1 cc2 cc3 cc4 cc5 cc6 cc7 cc8 cc9 cc10 ccl
    refine (HFN.out w3 B.out).mono ?_
    rintro e w4 ⟨rfl, b⟩
    replace Kc := Lib.hid (Kc.out.below b)
    replace B := Lib.hid (B.out.trans (b.mono B.out.size))
    clear b
    have hln := HLN.out
    cases f with
    | true =>
      have hz0 : z = 0 := HFM.out rfl
      clear hz
      subst hz0
      obtain ⟨cc0, cc1, cc2, cc3, cc4, cc5, cc6, cc7, cc8, cc9, cc10, ccl⟩ : w4.cell? ⟨w.heap.size, 0, none⟩ = some (.int .i64 md) ∧ w4.cell? ⟨w.heap.size, 1, none⟩ = some (.slice ai ni ci) ∧ w4.cell? ⟨w.heap.size, 2, none⟩ = some (.slice ar nr cr) ∧ w4.cell? ⟨w.heap.size, 3, none⟩ = some (.slice ac nc cc) ∧ w4.cell? ⟨w.heap.size, 4, none⟩ = some (.slice ap np cp) ∧ w4.cell? ⟨w.heap.size, 5, none⟩ = some (.slice aq nq cq) ∧ w4.cell? ⟨w.heap.size, 6, none⟩ = some (.slice am nm cm) ∧ w4.cell? ⟨w.heap.size, 7, none⟩ = some (.slice ab nb cb) ∧ w4.cell? ⟨w.heap.size, 8, none⟩ = some (.int .i64 model) ∧ w4.cell? ⟨w.heap.size, 9, none⟩ = some (.int .i64 room) ∧ w4.cell? ⟨w.heap.size, 10, none⟩ = some (.int .i64 t) ∧ w.heap.size < w4.heap.size := ⟨Kc.out.cell 0, Kc.out.cell 1, Kc.out.cell 2, Kc.out.cell 3, Kc.out.cell 4, Kc.out.cell 5, Kc.out.cell 6, Kc.out.cell 7, Kc.out.cell 8, Kc.out.cell 9, Kc.out.cell 10, Kc.out.lt⟩
      go_wp2_with fail
      clear cc0 cc1 cc2 cc3 cc4 cc5 cc6 cc7 cc8 cc9 cc10 ccl
      refine (HDD.out w4 B.out).mono ?_
      rintro e w5 ⟨rfl, b⟩
      replace Kc := Lib.hid (Kc.out.below b)
      replace B := Lib.hid (B.out.trans (b.mono B.out.size))
      clear b
      go_wp2_with fail
      refine (HKN.out w5).mono ?_
      rintro e w6 ⟨rfl, b⟩
      replace Kc := Lib.hid (Kc.out.below b)
      replace B := Lib.hid (B.out.trans (b.mono B.out.size))
      clear b
      go_wp2
      go_ret
      exact ⟨ret_bool rfl, B.out⟩
    | false =>
      by_cases hz0 : z = 0
      ·
        clear hz HLN
        subst hz0
        obtain ⟨cc0, cc1, cc2, cc3, cc4, cc5, cc6, cc7, cc8, cc9, cc10, ccl⟩ : w4.cell? ⟨w.heap.size, 0, none⟩ = some (.int .i64 md) ∧ w4.cell? ⟨w.heap.size, 1, none⟩ = some (.slice ai ni ci) ∧ w4.cell? ⟨w.heap.size, 2, none⟩ = some (.slice ar nr cr) ∧ w4.cell? ⟨w.heap.size, 3, none⟩ = some (.slice ac nc cc) ∧ w4.cell? ⟨w.heap.size, 4, none⟩ = some (.slice ap np cp) ∧ w4.cell? ⟨w.heap.size, 5, none⟩ = some (.slice aq nq cq) ∧ w4.cell? ⟨w.heap.size, 6, none⟩ = some (.slice am nm cm) ∧ w4.cell? ⟨w.heap.size, 7, none⟩ = some (.slice ab nb cb) ∧ w4.cell? ⟨w.heap.size, 8, none⟩ = some (.int .i64 model) ∧ w4.cell? ⟨w.heap.size, 9, none⟩ = some (.int .i64 room) ∧ w4.cell? ⟨w.heap.size, 10, none⟩ = some (.int .i64 t) ∧ w.heap.size < w4.heap.size := ⟨Kc.out.cell 0, Kc.out.cell 1, Kc.out.cell 2, Kc.out.cell 3, Kc.out.cell 4, Kc.out.cell 5, Kc.out.cell 6, Kc.out.cell 7, Kc.out.cell 8, Kc.out.cell 9, Kc.out.cell 10, Kc.out.lt⟩
        go_wp2_with fail
        clear cc0 cc1 cc2 cc3 cc4 cc5 cc6 cc7 cc8 cc9 cc10 ccl
        refine (HDD.out w4 B.out).mono ?_
        rintro e w5 ⟨rfl, b⟩
        replace Kc := Lib.hid (Kc.out.below b)
        replace B := Lib.hid (B.out.trans (b.mono B.out.size))
        clear b
        obtain ⟨hnc, hn4⟩ := HNC.out
        subst hnc
        obtain ⟨hqt, hops, haw⟩ := HDS.out (by simp) (by simp)
        have HQ := Lib.hid (HQT.out hqt)
        have HOS := Lib.hid hops
        have HAW := Lib.hid haw
        clear hqt hops haw HDS HQT HFM HNC
        obtain ⟨cc0, cc1, cc2, cc3, cc4, cc5, cc6, cc7, cc8, cc9, cc10, ccl⟩ : w5.cell? ⟨w.heap.size, 0, none⟩ = some (.int .i64 md) ∧ w5.cell? ⟨w.heap.size, 1, none⟩ = some (.slice ai ni ci) ∧ w5.cell? ⟨w.heap.size, 2, none⟩ = some (.slice ar nr cr) ∧ w5.cell? ⟨w.heap.size, 3, none⟩ = some (.slice ac np cc) ∧ w5.cell? ⟨w.heap.size, 4, none⟩ = some (.slice ap np cp) ∧ w5.cell? ⟨w.heap.size, 5, none⟩ = some (.slice aq nq cq) ∧ w5.cell? ⟨w.heap.size, 6, none⟩ = some (.slice am nm cm) ∧ w5.cell? ⟨w.heap.size, 7, none⟩ = some (.slice ab nb cb) ∧ w5.cell? ⟨w.heap.size, 8, none⟩ = some (.int .i64 model) ∧ w5.cell? ⟨w.heap.size, 9, none⟩ = some (.int .i64 room) ∧ w5.cell? ⟨w.heap.size, 10, none⟩ = some (.int .i64 t) ∧ w.heap.size < w5.heap.size := ⟨Kc.out.cell 0, Kc.out.cell 1, Kc.out.cell 2, Kc.out.cell 3, Kc.out.cell 4, Kc.out.cell 5, Kc.out.cell 6, Kc.out.cell 7, Kc.out.cell 8, Kc.out.cell 9, Kc.out.cell 10, Kc.out.lt⟩
        go_wp2_with fail
        clear cc0 cc1 cc2 cc3 cc4 cc5 cc6 cc7 cc8 cc9 cc10 ccl
        go_loopg [5, 6] np (fun fuel s' i' wr => ∃ (k : Nat), i' = .int .i64 k ∧ s' = .bool (awU u c k) ∧ k ≤ np ∧ np - k ≤ fuel ∧ Below w5.heap.size w5 wr)
        case atStart => exact ⟨0, rfl, rfl, Nat.zero_le _, Nat.le_refl _, Below.refl _ _⟩
        case round =>
          obtain ⟨k, rfl, rfl, hk, hf, hb⟩ := hrel
          have HB := Lib.hid hb
          replace Kc := Lib.hid (Kc.out.below hb)
          replace B := Lib.hid (B.out.trans (hb.mono B.out.size))
          clear hb
          by_cases hlt : k < np
          ·
            obtain ⟨bp, op, bc, oc, bi, oi, nl, mx, pc, rfl, rfl, hbp, hbc, hbi, y1, y2, hpl, hnl, y3⟩ := HOP.out k hlt
            have z1 := (B.out.cell (p := ⟨bp, _, none⟩) hbp).trans y1
            have z2 := (B.out.cell (p := ⟨bc, _, none⟩) hbc).trans y2
            have z3 := (B.out.cell (p := ⟨bi, _, none⟩) hbi).trans y3
            have s1 : bp < wr.heap.size := Nat.lt_of_lt_of_le hbp B.out.size
            have s2 : bc < wr.heap.size := Nat.lt_of_lt_of_le hbc B.out.size
            have s3 : bi < wr.heap.size := Nat.lt_of_lt_of_le hbi B.out.size
            have hop := HOS.out k hlt
            have HAK := Lib.hid (show awU u c (k + 1) = (awU u c k || decide ((insAt u k (c.pc.getD k 0)).op = 9)) from rfl)
            clear y1 y2 y3 hbp hbc hbi
            generalize (insAt u k (c.pc.getD k 0)).op = xo at z3 hop HAK
            generalize awU u c k = sk at HAK ⊢
            have g1 : (0 : Int) ≤ (k : Int) := by omega
            have g2 : (k : Int) < (np : Int) := by omega
            have g3 : (0 : Int) ≤ (pc : Int) := by omega
            have g4 : (pc : Int) < (nl : Int) := by omega
            obtain ⟨cc0, cc1, cc2, cc3, cc4, cc5, cc6, cc7, cc8, cc9, cc10, ccl⟩ : wr.cell? ⟨w.heap.size, 0, none⟩ = some (.int .i64 md) ∧ wr.cell? ⟨w.heap.size, 1, none⟩ = some (.slice ai ni ci) ∧ wr.cell? ⟨w.heap.size, 2, none⟩ = some (.slice ar nr cr) ∧ wr.cell? ⟨w.heap.size, 3, none⟩ = some (.slice (some ⟨bc, oc, none⟩) np cc) ∧ wr.cell? ⟨w.heap.size, 4, none⟩ = some (.slice (some ⟨bp, op, none⟩) np cp) ∧ wr.cell? ⟨w.heap.size, 5, none⟩ = some (.slice aq nq cq) ∧ wr.cell? ⟨w.heap.size, 6, none⟩ = some (.slice am nm cm) ∧ wr.cell? ⟨w.heap.size, 7, none⟩ = some (.slice ab nb cb) ∧ wr.cell? ⟨w.heap.size, 8, none⟩ = some (.int .i64 model) ∧ wr.cell? ⟨w.heap.size, 9, none⟩ = some (.int .i64 room) ∧ wr.cell? ⟨w.heap.size, 10, none⟩ = some (.int .i64 t) ∧ w.heap.size < wr.heap.size := ⟨Kc.out.cell 0, Kc.out.cell 1, Kc.out.cell 2, Kc.out.cell 3, Kc.out.cell 4, Kc.out.cell 5, Kc.out.cell 6, Kc.out.cell 7, Kc.out.cell 8, Kc.out.cell 9, Kc.out.cell 10, Kc.out.lt⟩
            go_wp2_with fail
            go_quiet (fail)
            rcases hop with rfl | rfl <;> cases sk
            ·
              go_wp2_with fail
              go_roundg (gk - 1)
              case measure => omega
              case rel => exact ⟨k + 1, by go_num, by rw [HAK.out]; rfl, by omega, by omega, below_drewN' HB.out _⟩
            ·
              go_wp2_with fail
              go_roundg (gk - 1)
              case measure => omega
              case rel => exact ⟨k + 1, by go_num, by rw [HAK.out]; rfl, by omega, by omega, below_drewN' HB.out _⟩
            ·
              go_wp2_with fail
              go_roundg (gk - 1)
              case measure => omega
              case rel => exact ⟨k + 1, by go_num, by rw [HAK.out]; rfl, by omega, by omega, below_drewN' HB.out _⟩
            ·
              go_wp2_with fail
              go_roundg (gk - 1)
              case measure => omega
              case rel => exact ⟨k + 1, by go_num, by rw [HAK.out]; rfl, by omega, by omega, below_drewN' HB.out _⟩
          ·
            obtain rfl : np = k := by omega
            obtain ⟨ka, hka, hkb⟩ := HAW.out
            rw [awU_some u c np ka hka hkb]
            obtain ⟨cc0, cc1, cc2, cc3, cc4, cc5, cc6, cc7, cc8, cc9, cc10, ccl⟩ : wr.cell? ⟨w.heap.size, 0, none⟩ = some (.int .i64 md) ∧ wr.cell? ⟨w.heap.size, 1, none⟩ = some (.slice ai ni ci) ∧ wr.cell? ⟨w.heap.size, 2, none⟩ = some (.slice ar nr cr) ∧ wr.cell? ⟨w.heap.size, 3, none⟩ = some (.slice ac np cc) ∧ wr.cell? ⟨w.heap.size, 4, none⟩ = some (.slice ap np cp) ∧ wr.cell? ⟨w.heap.size, 5, none⟩ = some (.slice aq nq cq) ∧ wr.cell? ⟨w.heap.size, 6, none⟩ = some (.slice am nm cm) ∧ wr.cell? ⟨w.heap.size, 7, none⟩ = some (.slice ab nb cb) ∧ wr.cell? ⟨w.heap.size, 8, none⟩ = some (.int .i64 model) ∧ wr.cell? ⟨w.heap.size, 9, none⟩ = some (.int .i64 room) ∧ wr.cell? ⟨w.heap.size, 10, none⟩ = some (.int .i64 t) ∧ w.heap.size < wr.heap.size := ⟨Kc.out.cell 0, Kc.out.cell 1, Kc.out.cell 2, Kc.out.cell 3, Kc.out.cell 4, Kc.out.cell 5, Kc.out.cell 6, Kc.out.cell 7, Kc.out.cell 8, Kc.out.cell 9, Kc.out.cell 10, Kc.out.lt⟩
            go_wp2_with fail
            clear cc0 cc1 cc2 cc3 cc4 cc5 cc6 cc7 cc8 cc9 cc10 ccl
            refine (HQ.out wr B.out).mono ?_
            rintro e w6 ⟨rfl, b⟩
            replace Kc := Lib.hid (Kc.out.below b)
            replace B := Lib.hid (B.out.trans (b.mono B.out.size))
            clear b
            go_wp2_with fail
            refine (HKN.out w6).mono ?_
            rintro e w7 ⟨rfl, b⟩
            replace Kc := Lib.hid (Kc.out.below b)
            replace B := Lib.hid (B.out.trans (b.mono B.out.size))
            clear b
            go_wp2
            go_ret
            exact ⟨ret_bool rfl, B.out⟩
      ·
        have hz1 : decide (z = 0) = false := decide_eq_false hz0
        have hz2 : 0 < z := by omega
        have hz3 : ¬ (z : Int) = 0 := by omega
        have hz4 : (0 : Int) < (z : Int) := by omega
        rw [hz1] at HDD
        replace hz0 := Lib.hid hz0
        clear hz1
        obtain ⟨cc0, cc1, cc2, cc3, cc4, cc5, cc6, cc7, cc8, cc9, cc10, ccl⟩ : w4.cell? ⟨w.heap.size, 0, none⟩ = some (.int .i64 md) ∧ w4.cell? ⟨w.heap.size, 1, none⟩ = some (.slice ai ni ci) ∧ w4.cell? ⟨w.heap.size, 2, none⟩ = some (.slice ar nr cr) ∧ w4.cell? ⟨w.heap.size, 3, none⟩ = some (.slice ac nc cc) ∧ w4.cell? ⟨w.heap.size, 4, none⟩ = some (.slice ap np cp) ∧ w4.cell? ⟨w.heap.size, 5, none⟩ = some (.slice aq nq cq) ∧ w4.cell? ⟨w.heap.size, 6, none⟩ = some (.slice am nm cm) ∧ w4.cell? ⟨w.heap.size, 7, none⟩ = some (.slice ab nb cb) ∧ w4.cell? ⟨w.heap.size, 8, none⟩ = some (.int .i64 model) ∧ w4.cell? ⟨w.heap.size, 9, none⟩ = some (.int .i64 room) ∧ w4.cell? ⟨w.heap.size, 10, none⟩ = some (.int .i64 t) ∧ w.heap.size < w4.heap.size := ⟨Kc.out.cell 0, Kc.out.cell 1, Kc.out.cell 2, Kc.out.cell 3, Kc.out.cell 4, Kc.out.cell 5, Kc.out.cell 6, Kc.out.cell 7, Kc.out.cell 8, Kc.out.cell 9, Kc.out.cell 10, Kc.out.lt⟩
        go_wp2_with fail
        clear cc0 cc1 cc2 cc3 cc4 cc5 cc6 cc7 cc8 cc9 cc10 ccl
        refine (HDD.out w4 B.out).mono ?_
        rintro e w5 ⟨rfl, b⟩
        replace Kc := Lib.hid (Kc.out.below b)
        replace B := Lib.hid (B.out.trans (b.mono B.out.size))
        clear b
        go_wp2_with fail
        refine (HKN.out w5).mono ?_
        rintro e w6 ⟨rfl, b⟩
        replace Kc := Lib.hid (Kc.out.below b)
        replace B := Lib.hid (B.out.trans (b.mono B.out.size))
        clear b
        go_wp2
        go_ret
        exact ⟨ret_bool rfl, B.out⟩

end Go.Proofs.YtobmbkgeafbamaaGreat
