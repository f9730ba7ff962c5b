/- StepRoom: its walk. -/
import Derived.Test.YtdnjojjbdieacaaZe
namespace Go.Proofs.Ytdnjojjbdieacaa
set_option linter.unusedSimpArgs false
set_option linter.unusedVariables false
open Go.RowKit

/-- What a light and right case is. -/
theorem case_right {u : Un} {c : Cf} {model room : Int} (h : (lightU u && (lightC c && rightC u c model room)) = true) : lightU u = true ∧ lightC c = true ∧ RightP u c.pf model room := by
  rw [Bool.and_eq_true, Bool.and_eq_true] at h
  exact ⟨h.1, h.2.1, (rightC_iff u c model room).1 h.2.2⟩

attribute [local go_sem ↓] Go.wp_at_zero Go.wp_at_succ
set_option maxRecDepth 100000 in
set_option maxHeartbeats 16000000 in
theorem room_in (u : Un) (c : Cf) (model room t loc : Int) (vi vr vc xp xr xm xb : Value) (w : World) (hu : UnD w vi vr vc u) (hc : CfD w xp xr xm xb c) :
    Calls Try.prog 5 #[.agg #[.int .i64 u.mod, vi, vr, vc, xp, xr, xm, xb, .int .i64 model, .int .i64 room, .int .i64 t, .int .i64 loc]] w fun e w' => e = .returned (.bool true) ∧ Below w.heap.size w w' := by
  have HKN := Lib.hid known_any
  have HU := Lib.hid hu
  have HC := Lib.hid hc
  obtain ⟨ai, ci, rfl⟩ := hu.i.shape0
  obtain ⟨ar, cr, rfl⟩ := hu.r.shape0
  obtain ⟨ac, cc, rfl⟩ := hu.c.shape0
  obtain ⟨ap, cp, rfl⟩ := hc.p.shape0
  obtain ⟨aq, cq, rfl⟩ := hc.r.shape0
  obtain ⟨am, cm, rfl⟩ := hc.m.shape0
  obtain ⟨ab, cb, rfl⟩ := hc.b.shape0
  clear hu hc
  have HRT := Lib.hid (fun (W : World) (h : Below w.heap.size w W) => right10_any u c model room t loc _ _ _ _ _ _ _ W (HU.out.below h) (HC.out.below h) _ rfl)
  have HEN := Lib.hid (fun (hq : (lightU u && (lightC c && rightC u c model room)) = true) (t : Int) (W : World) (h : Below w.heap.size w W) => enabled_any u c model room t _ _ _ _ _ _ _ W (HU.out.below h) (HC.out.below h) (lightC_short (case_right hq).2.1) (usL (case_right hq).1) (case_right hq).2.2 _ rfl)
  have HE4 := Lib.hid (fun (hq : (lightU u && (lightC c && rightC u c model room)) = true) (t : Int) (W : World) (h : Below w.heap.size w W) => enabled_any u c model 4 t _ _ _ _ _ _ _ W (HU.out.below h) (HC.out.below h) (lightC_short (case_right hq).2.1) (usL (case_right hq).1) (rightP_more (case_right hq).2.2) _ rfl)
  have HAC := Lib.hid (fun (hq : (lightU u && (lightC c && rightC u c model room)) = true) (t : Int) (W : World) (h : Below w.heap.size w W) => act_any u c model room t _ _ _ _ _ _ _ W (HU.out.below h) (HC.out.below h) (lightC_short (case_right hq).2.1) (usL (case_right hq).1) (case_right hq).2.2)
  have hmore := fun (hq : (lightU u && (lightC c && rightC u c model room)) = true) (t : Int) => en_more (t := t) (case_right hq).2.2
  have hrp := fun (hq : (lightU u && (lightC c && rightC u c model room)) = true) => (case_right hq).2.2
  have HNB := Lib.hid (fun (hq : (lightU u && (lightC c && rightC u c model room)) = true) => (lightC_short (case_right hq).2.1).b)
  have HNP := Lib.hid (fun (hq : (lightU u && (lightC c && rightC u c model room)) = true) => (show c.pc.length ≤ 100000 from (lightC_short (case_right hq).2.1).p))
  have HMR := Lib.hid hmore
  have HRP := Lib.hid hrp
  clear hmore hrp HU HC
  generalize u.init.length = ni at HRT HEN HE4 HAC ⊢
  generalize u.regs.length = nr at HRT HEN HE4 HAC ⊢
  generalize u.code.length = nc at HRT HEN HE4 HAC ⊢
  generalize c.pc.length = np at HRT HEN HE4 HAC HNP ⊢
  generalize c.regs.length = nq at HRT HEN HE4 HAC ⊢
  generalize c.mem.length = nm at HRT HEN HE4 HAC ⊢
  generalize c.buf.length = nb at HRT HEN HE4 HAC ⊢
  generalize u.mod = md at HRT HEN HE4 HAC ⊢
  obtain ⟨q, hq⟩ : ∃ q, (lightU u && (lightC c && rightC u c model room)) = q := ⟨_, rfl⟩
  rw [hq] at HRT HEN HE4 HAC HMR HRP HNB HNP
  clear hq
  have K := Lib.hid (Bk.new w 31 #[.int .i64 md, .slice ai ni ci, .slice ar nr cr, .slice ac nc cc, .slice ap np cp, .slice aq nq cq, .slice am nm cm, .slice ab nb cb, .int .i64 model, .int .i64 room, .int .i64 t, .int .i64 loc])
  have B : Hid (Below w.heap.size w (World.alloc w (.cells #[.int .i64 md, .slice ai ni ci, .slice ar nr cr, .slice ac nc cc, .slice ap np cp, .slice aq nq cq, .slice am nm cm, .slice ab nb cb, .int .i64 model, .int .i64 room, .int .i64 t, .int .i64 loc] 31))) := Lib.hid (bal (Below.refl _ _) _)
  go_enter Try.func5, Try.ntmps5
  go_wp2_with fail
  generalize World.alloc w (.cells #[.int .i64 md, .slice ai ni ci, .slice ar nr cr, .slice ac nc cc, .slice ap np cp, .slice aq nq cq, .slice am nm cm, .slice ab nb cb, .int .i64 model, .int .i64 room, .int .i64 t, .int .i64 loc] 31) = w1 at K B ⊢
  refine (HRT.out w1 B.out).mono ?_
  rintro e w2 ⟨rfl, b⟩
  replace K := Lib.hid (K.out.below b)
  replace B := Lib.hid (B.out.trans (b.mono B.out.size))
  clear b
  cases q with
  | false =>
    go_wp2_with fail
    refine (HKN.out w2).mono ?_
    rintro e w3 ⟨rfl, b⟩
    replace K := Lib.hid (K.out.below b)
    replace B := Lib.hid (B.out.trans (b.mono B.out.size))
    clear b
    go_wp2
    go_ret
    exact ⟨ret_bool rfl, B.out⟩
  | true =>
    replace HEN := Lib.hid (HEN.out rfl)
    replace HE4 := Lib.hid (HE4.out rfl)
    replace HAC := Lib.hid (HAC.out rfl)
    replace HMR := Lib.hid (HMR.out rfl)
    replace HRP := Lib.hid (HRP.out rfl)
    replace HNB := Lib.hid (HNB.out rfl)
    have hnp := HNP.out rfl
    have HSC := Lib.hid (fun (hm : model = 1) (r : List Ent) (hr : r ∈ c.pf.buf) => sc_empty (hm ▸ HRP.out) r hr)
    go_wp2_with fail
    go_loopg [3] np (fun fuel i' wr => ∃ (k : Nat), i' = .int .i64 k ∧ k ≤ np ∧ np - k ≤ fuel ∧ Below w2.heap.size w2 wr)
    case atStart => exact ⟨0, rfl, Nat.zero_le _, Nat.le_refl _, Below.refl _ _⟩
    case round =>
      obtain ⟨k, rfl, hk, hf, hb⟩ := hrel
      have HB := Lib.hid hb
      have KR := Lib.hid (K.out.below hb)
      have BR := Lib.hid (B.out.trans (hb.mono B.out.size))
      clear hb
      obtain ⟨c0, c1, c2, c3, c4, c5, c6, c7, c8, c9, c10, c11, cl⟩ : wr.cell? ⟨w.heap.size, 0, none⟩ = some (.int .i64 md) ∧ wr.cell? ⟨w.heap.size, 1, none⟩ = some (.slice ai ni ci) ∧ wr.cell? ⟨w.heap.size, 2, none⟩ = some (.slice ar nr cr) ∧ wr.cell? ⟨w.heap.size, 3, none⟩ = some (.slice ac nc cc) ∧ wr.cell? ⟨w.heap.size, 4, none⟩ = some (.slice ap np cp) ∧ wr.cell? ⟨w.heap.size, 5, none⟩ = some (.slice aq nq cq) ∧ wr.cell? ⟨w.heap.size, 6, none⟩ = some (.slice am nm cm) ∧ wr.cell? ⟨w.heap.size, 7, none⟩ = some (.slice ab nb cb) ∧ wr.cell? ⟨w.heap.size, 8, none⟩ = some (.int .i64 model) ∧ wr.cell? ⟨w.heap.size, 9, none⟩ = some (.int .i64 room) ∧ wr.cell? ⟨w.heap.size, 10, none⟩ = some (.int .i64 t) ∧ wr.cell? ⟨w.heap.size, 11, none⟩ = some (.int .i64 loc) ∧ w.heap.size < wr.heap.size := ⟨KR.out.cell 0, KR.out.cell 1, KR.out.cell 2, KR.out.cell 3, KR.out.cell 4, KR.out.cell 5, KR.out.cell 6, KR.out.cell 7, KR.out.cell 8, KR.out.cell 9, KR.out.cell 10, KR.out.cell 11, KR.out.lt⟩
      by_cases hlt : k < np
      ·
        obtain ⟨e1, he1⟩ : ∃ e, enT u c.pf model room (k : Int) = e := ⟨_, rfl⟩
        have HX := Lib.hid (HEN.out (k : Int))
        rw [he1] at HX
        replace he1 := Lib.hid he1
        go_wp2_with fail
        clear c0 c1 c2 c3 c4 c5 c6 c7 c8 c9 c10 c11 cl
        refine (HX.out wr BR.out).mono ?_
        rintro e w3 ⟨rfl, b⟩
        clear HX
        replace KR := Lib.hid (KR.out.below b)
        replace BR := Lib.hid (BR.out.trans (b.mono BR.out.size))
        replace HB := Lib.hid (HB.out.trans (b.mono HB.out.size))
        clear b
        cases e1 with
        | false =>
          obtain ⟨c0, c1, c2, c3, c4, c5, c6, c7, c8, c9, c10, c11, cl⟩ : w3.cell? ⟨w.heap.size, 0, none⟩ = some (.int .i64 md) ∧ w3.cell? ⟨w.heap.size, 1, none⟩ = some (.slice ai ni ci) ∧ w3.cell? ⟨w.heap.size, 2, none⟩ = some (.slice ar nr cr) ∧ w3.cell? ⟨w.heap.size, 3, none⟩ = some (.slice ac nc cc) ∧ w3.cell? ⟨w.heap.size, 4, none⟩ = some (.slice ap np cp) ∧ w3.cell? ⟨w.heap.size, 5, none⟩ = some (.slice aq nq cq) ∧ w3.cell? ⟨w.heap.size, 6, none⟩ = some (.slice am nm cm) ∧ w3.cell? ⟨w.heap.size, 7, none⟩ = some (.slice ab nb cb) ∧ w3.cell? ⟨w.heap.size, 8, none⟩ = some (.int .i64 model) ∧ w3.cell? ⟨w.heap.size, 9, none⟩ = some (.int .i64 room) ∧ w3.cell? ⟨w.heap.size, 10, none⟩ = some (.int .i64 t) ∧ w3.cell? ⟨w.heap.size, 11, none⟩ = some (.int .i64 loc) ∧ w.heap.size < w3.heap.size := ⟨KR.out.cell 0, KR.out.cell 1, KR.out.cell 2, KR.out.cell 3, KR.out.cell 4, KR.out.cell 5, KR.out.cell 6, KR.out.cell 7, KR.out.cell 8, KR.out.cell 9, KR.out.cell 10, KR.out.cell 11, KR.out.lt⟩
          go_wp2_with fail
          clear c0 c1 c2 c3 c4 c5 c6 c7 c8 c9 c10 c11 cl
          refine (HAC.out (k : Int) w3 BR.out).mono ?_
          rintro e w5 ⟨d, yp, yr, ym, yb, rfl, od, hd, b⟩
          rw [he1.out]
          obtain ⟨a0, k0, rfl, _⟩ := own_shape' od.p
          obtain ⟨a1, k1, rfl, _⟩ := own_shape' od.r.h
          obtain ⟨a2, k2, rfl, _⟩ := own_shape' od.m
          obtain ⟨a3, k3, rfl, _⟩ := own_shape' od.b.h
          replace KR := Lib.hid (KR.out.below b)
          replace BR := Lib.hid (BR.out.trans (b.mono BR.out.size))
          replace HB := Lib.hid (HB.out.trans (b.mono HB.out.size))
          clear b
          have KD := Lib.hid (Bk.new w5 29 #[.slice a0 d.pc.length k0, .slice a1 d.regs.length k1, .slice a2 d.mem.length k2, .slice a3 d.buf.length k3])
          have LD : Hid (Below w5.heap.size w5 (World.alloc w5 (.cells #[.slice a0 d.pc.length k0, .slice a1 d.regs.length k1, .slice a2 d.mem.length k2, .slice a3 d.buf.length k3] 29))) := Lib.hid (bal (Below.refl _ _) _)
          have DD := Lib.hid od.data
          have HD := Lib.hid hd
          clear od hd
          obtain ⟨w6, hw6⟩ : ∃ z, World.alloc w5 (.cells #[.slice a0 d.pc.length k0, .slice a1 d.regs.length k1, .slice a2 d.mem.length k2, .slice a3 d.buf.length k3] 29) = z := ⟨_, rfl⟩
          rw [hw6] at KD LD
          replace KR := Lib.hid (KR.out.below LD.out)
          replace BR := Lib.hid (BR.out.trans (LD.out.mono BR.out.size))
          replace HB := Lib.hid (HB.out.trans (LD.out.mono HB.out.size))
          replace DD := Lib.hid (DD.out.below LD.out)
          obtain ⟨c0, c1, c2, c3, c4, c5, c6, c7, c8, c9, c10, c11, cl⟩ : w6.cell? ⟨w.heap.size, 0, none⟩ = some (.int .i64 md) ∧ w6.cell? ⟨w.heap.size, 1, none⟩ = some (.slice ai ni ci) ∧ w6.cell? ⟨w.heap.size, 2, none⟩ = some (.slice ar nr cr) ∧ w6.cell? ⟨w.heap.size, 3, none⟩ = some (.slice ac nc cc) ∧ w6.cell? ⟨w.heap.size, 4, none⟩ = some (.slice ap np cp) ∧ w6.cell? ⟨w.heap.size, 5, none⟩ = some (.slice aq nq cq) ∧ w6.cell? ⟨w.heap.size, 6, none⟩ = some (.slice am nm cm) ∧ w6.cell? ⟨w.heap.size, 7, none⟩ = some (.slice ab nb cb) ∧ w6.cell? ⟨w.heap.size, 8, none⟩ = some (.int .i64 model) ∧ w6.cell? ⟨w.heap.size, 9, none⟩ = some (.int .i64 room) ∧ w6.cell? ⟨w.heap.size, 10, none⟩ = some (.int .i64 t) ∧ w6.cell? ⟨w.heap.size, 11, none⟩ = some (.int .i64 loc) ∧ w.heap.size < w6.heap.size := ⟨KR.out.cell 0, KR.out.cell 1, KR.out.cell 2, KR.out.cell 3, KR.out.cell 4, KR.out.cell 5, KR.out.cell 6, KR.out.cell 7, KR.out.cell 8, KR.out.cell 9, KR.out.cell 10, KR.out.cell 11, KR.out.lt⟩
          by_cases hm : model = 1
          ·
            subst hm
            have hE : ∀ r ∈ d.pf.buf, r = [] := by rw [HD.out, act_buf_sc]; exact HSC.out rfl
            have hE2 : ∀ r ∈ d.buf, r.1.length ≤ 100000 := fun r hr => by rw [hE r.1 (by unfold Cf.pf; exact List.mem_map_of_mem hr)]; simp
            have hLB : d.buf.length ≤ 100000 := by have h1 := congrArg (fun p : Pf => p.buf.length) HD.out; rw [act_buf_sc] at h1; simp only [Cf.pf, List.length_map] at h1; have h2 := HNB.out; omega
            have HQ := Lib.hid (fun (W : World) (h : Below w6.heap.size w6 W) => quiet_any d _ _ _ _ W (DD.out.below h) hLB true (quiet_sc hE))
            have HF := Lib.hid (fun (loc : Int) (W : World) (h : Below w6.heap.size w6 W) => flushes_any d 1 (k : Int) loc _ _ _ _ W (DD.out.below h) hE2 false (popC_sc hE _ _))
            have hE := Lib.hid hE
            clear hE2 hLB
            have BD : Hid (Below w6.heap.size w6 w6) := Lib.hid (Below.refl _ _)
            obtain ⟨x0, x1, x2, x3, xl⟩ : w6.cell? ⟨w5.heap.size, 0, none⟩ = some (.slice a0 d.pc.length k0) ∧ w6.cell? ⟨w5.heap.size, 1, none⟩ = some (.slice a1 d.regs.length k1) ∧ w6.cell? ⟨w5.heap.size, 2, none⟩ = some (.slice a2 d.mem.length k2) ∧ w6.cell? ⟨w5.heap.size, 3, none⟩ = some (.slice a3 d.buf.length k3) ∧ w5.heap.size < w6.heap.size := ⟨KD.out.cell 0, KD.out.cell 1, KD.out.cell 2, KD.out.cell 3, KD.out.lt⟩
            go_wp2_with fail
            clear c0 c1 c2 c3 c4 c5 c6 c7 c8 c9 c10 c11 cl
            clear x0 x1 x2 x3 xl
            refine (HQ.out w6 BD.out).mono ?_
            rintro e w7 ⟨rfl, b⟩
            replace KR := Lib.hid (KR.out.below b)
            replace BR := Lib.hid (BR.out.trans (b.mono BR.out.size))
            replace HB := Lib.hid (HB.out.trans (b.mono HB.out.size))
            replace BD := Lib.hid (BD.out.trans (b.mono BD.out.size))
            replace KD := Lib.hid (KD.out.below b)
            clear b
            obtain ⟨c0, c1, c2, c3, c4, c5, c6, c7, c8, c9, c10, c11, cl⟩ : w7.cell? ⟨w.heap.size, 0, none⟩ = some (.int .i64 md) ∧ w7.cell? ⟨w.heap.size, 1, none⟩ = some (.slice ai ni ci) ∧ w7.cell? ⟨w.heap.size, 2, none⟩ = some (.slice ar nr cr) ∧ w7.cell? ⟨w.heap.size, 3, none⟩ = some (.slice ac nc cc) ∧ w7.cell? ⟨w.heap.size, 4, none⟩ = some (.slice ap np cp) ∧ w7.cell? ⟨w.heap.size, 5, none⟩ = some (.slice aq nq cq) ∧ w7.cell? ⟨w.heap.size, 6, none⟩ = some (.slice am nm cm) ∧ w7.cell? ⟨w.heap.size, 7, none⟩ = some (.slice ab nb cb) ∧ w7.cell? ⟨w.heap.size, 8, none⟩ = some (.int .i64 1) ∧ w7.cell? ⟨w.heap.size, 9, none⟩ = some (.int .i64 room) ∧ w7.cell? ⟨w.heap.size, 10, none⟩ = some (.int .i64 t) ∧ w7.cell? ⟨w.heap.size, 11, none⟩ = some (.int .i64 loc) ∧ w.heap.size < w7.heap.size := ⟨KR.out.cell 0, KR.out.cell 1, KR.out.cell 2, KR.out.cell 3, KR.out.cell 4, KR.out.cell 5, KR.out.cell 6, KR.out.cell 7, KR.out.cell 8, KR.out.cell 9, KR.out.cell 10, KR.out.cell 11, KR.out.lt⟩
            obtain ⟨x0, x1, x2, x3, xl⟩ : w7.cell? ⟨w5.heap.size, 0, none⟩ = some (.slice a0 d.pc.length k0) ∧ w7.cell? ⟨w5.heap.size, 1, none⟩ = some (.slice a1 d.regs.length k1) ∧ w7.cell? ⟨w5.heap.size, 2, none⟩ = some (.slice a2 d.mem.length k2) ∧ w7.cell? ⟨w5.heap.size, 3, none⟩ = some (.slice a3 d.buf.length k3) ∧ w5.heap.size < w7.heap.size := ⟨KD.out.cell 0, KD.out.cell 1, KD.out.cell 2, KD.out.cell 3, KD.out.lt⟩
            go_wp2_with fail
            clear c0 c1 c2 c3 c4 c5 c6 c7 c8 c9 c10 c11 cl
            clear x0 x1 x2 x3 xl
            refine (HF.out (-1) w7 BD.out).mono ?_
            rintro e w8 ⟨rfl, b⟩
            replace KR := Lib.hid (KR.out.below b)
            replace BR := Lib.hid (BR.out.trans (b.mono BR.out.size))
            replace HB := Lib.hid (HB.out.trans (b.mono HB.out.size))
            replace BD := Lib.hid (BD.out.trans (b.mono BD.out.size))
            replace KD := Lib.hid (KD.out.below b)
            clear b
            obtain ⟨c0, c1, c2, c3, c4, c5, c6, c7, c8, c9, c10, c11, cl⟩ : w8.cell? ⟨w.heap.size, 0, none⟩ = some (.int .i64 md) ∧ w8.cell? ⟨w.heap.size, 1, none⟩ = some (.slice ai ni ci) ∧ w8.cell? ⟨w.heap.size, 2, none⟩ = some (.slice ar nr cr) ∧ w8.cell? ⟨w.heap.size, 3, none⟩ = some (.slice ac nc cc) ∧ w8.cell? ⟨w.heap.size, 4, none⟩ = some (.slice ap np cp) ∧ w8.cell? ⟨w.heap.size, 5, none⟩ = some (.slice aq nq cq) ∧ w8.cell? ⟨w.heap.size, 6, none⟩ = some (.slice am nm cm) ∧ w8.cell? ⟨w.heap.size, 7, none⟩ = some (.slice ab nb cb) ∧ w8.cell? ⟨w.heap.size, 8, none⟩ = some (.int .i64 1) ∧ w8.cell? ⟨w.heap.size, 9, none⟩ = some (.int .i64 room) ∧ w8.cell? ⟨w.heap.size, 10, none⟩ = some (.int .i64 t) ∧ w8.cell? ⟨w.heap.size, 11, none⟩ = some (.int .i64 loc) ∧ w.heap.size < w8.heap.size := ⟨KR.out.cell 0, KR.out.cell 1, KR.out.cell 2, KR.out.cell 3, KR.out.cell 4, KR.out.cell 5, KR.out.cell 6, KR.out.cell 7, KR.out.cell 8, KR.out.cell 9, KR.out.cell 10, KR.out.cell 11, KR.out.lt⟩
            obtain ⟨x0, x1, x2, x3, xl⟩ : w8.cell? ⟨w5.heap.size, 0, none⟩ = some (.slice a0 d.pc.length k0) ∧ w8.cell? ⟨w5.heap.size, 1, none⟩ = some (.slice a1 d.regs.length k1) ∧ w8.cell? ⟨w5.heap.size, 2, none⟩ = some (.slice a2 d.mem.length k2) ∧ w8.cell? ⟨w5.heap.size, 3, none⟩ = some (.slice a3 d.buf.length k3) ∧ w5.heap.size < w8.heap.size := ⟨KD.out.cell 0, KD.out.cell 1, KD.out.cell 2, KD.out.cell 3, KD.out.lt⟩
            go_wp2_with fail
            clear c0 c1 c2 c3 c4 c5 c6 c7 c8 c9 c10 c11 cl
            clear x0 x1 x2 x3 xl
            refine (HF.out 0 w8 BD.out).mono ?_
            rintro e w9 ⟨rfl, b⟩
            replace KR := Lib.hid (KR.out.below b)
            replace BR := Lib.hid (BR.out.trans (b.mono BR.out.size))
            replace HB := Lib.hid (HB.out.trans (b.mono HB.out.size))
            replace BD := Lib.hid (BD.out.trans (b.mono BD.out.size))
            replace KD := Lib.hid (KD.out.below b)
            clear b
            go_wp2_with fail
            go_roundg (gk - 1)
            case measure => omega
            case rel => exact ⟨k + 1, by go_num, by omega, by omega, HB.out⟩
          ·
            have gm : (model == 1) = false := by simpa using hm
            replace hm := Lib.hid hm
            go_wp2_with fail
            go_roundg (gk - 1)
            case measure => omega
            case rel => exact ⟨k + 1, by go_num, by omega, by omega, HB.out⟩
        | true =>
          have HY := Lib.hid (HE4.out (k : Int))
          rw [HMR.out _ he1.out] at HY
          obtain ⟨c0, c1, c2, c3, c4, c5, c6, c7, c8, c9, c10, c11, cl⟩ : w3.cell? ⟨w.heap.size, 0, none⟩ = some (.int .i64 md) ∧ w3.cell? ⟨w.heap.size, 1, none⟩ = some (.slice ai ni ci) ∧ w3.cell? ⟨w.heap.size, 2, none⟩ = some (.slice ar nr cr) ∧ w3.cell? ⟨w.heap.size, 3, none⟩ = some (.slice ac nc cc) ∧ w3.cell? ⟨w.heap.size, 4, none⟩ = some (.slice ap np cp) ∧ w3.cell? ⟨w.heap.size, 5, none⟩ = some (.slice aq nq cq) ∧ w3.cell? ⟨w.heap.size, 6, none⟩ = some (.slice am nm cm) ∧ w3.cell? ⟨w.heap.size, 7, none⟩ = some (.slice ab nb cb) ∧ w3.cell? ⟨w.heap.size, 8, none⟩ = some (.int .i64 model) ∧ w3.cell? ⟨w.heap.size, 9, none⟩ = some (.int .i64 room) ∧ w3.cell? ⟨w.heap.size, 10, none⟩ = some (.int .i64 t) ∧ w3.cell? ⟨w.heap.size, 11, none⟩ = some (.int .i64 loc) ∧ w.heap.size < w3.heap.size := ⟨KR.out.cell 0, KR.out.cell 1, KR.out.cell 2, KR.out.cell 3, KR.out.cell 4, KR.out.cell 5, KR.out.cell 6, KR.out.cell 7, KR.out.cell 8, KR.out.cell 9, KR.out.cell 10, KR.out.cell 11, KR.out.lt⟩
          go_wp2_with fail
          clear c0 c1 c2 c3 c4 c5 c6 c7 c8 c9 c10 c11 cl
          refine (HY.out w3 BR.out).mono ?_
          rintro e w4 ⟨rfl, b⟩
          clear HY
          replace KR := Lib.hid (KR.out.below b)
          replace BR := Lib.hid (BR.out.trans (b.mono BR.out.size))
          replace HB := Lib.hid (HB.out.trans (b.mono HB.out.size))
          clear b
          obtain ⟨c0, c1, c2, c3, c4, c5, c6, c7, c8, c9, c10, c11, cl⟩ : w4.cell? ⟨w.heap.size, 0, none⟩ = some (.int .i64 md) ∧ w4.cell? ⟨w.heap.size, 1, none⟩ = some (.slice ai ni ci) ∧ w4.cell? ⟨w.heap.size, 2, none⟩ = some (.slice ar nr cr) ∧ w4.cell? ⟨w.heap.size, 3, none⟩ = some (.slice ac nc cc) ∧ w4.cell? ⟨w.heap.size, 4, none⟩ = some (.slice ap np cp) ∧ w4.cell? ⟨w.heap.size, 5, none⟩ = some (.slice aq nq cq) ∧ w4.cell? ⟨w.heap.size, 6, none⟩ = some (.slice am nm cm) ∧ w4.cell? ⟨w.heap.size, 7, none⟩ = some (.slice ab nb cb) ∧ w4.cell? ⟨w.heap.size, 8, none⟩ = some (.int .i64 model) ∧ w4.cell? ⟨w.heap.size, 9, none⟩ = some (.int .i64 room) ∧ w4.cell? ⟨w.heap.size, 10, none⟩ = some (.int .i64 t) ∧ w4.cell? ⟨w.heap.size, 11, none⟩ = some (.int .i64 loc) ∧ w.heap.size < w4.heap.size := ⟨KR.out.cell 0, KR.out.cell 1, KR.out.cell 2, KR.out.cell 3, KR.out.cell 4, KR.out.cell 5, KR.out.cell 6, KR.out.cell 7, KR.out.cell 8, KR.out.cell 9, KR.out.cell 10, KR.out.cell 11, KR.out.lt⟩
          go_wp2_with fail
          clear c0 c1 c2 c3 c4 c5 c6 c7 c8 c9 c10 c11 cl
          refine (HAC.out (k : Int) w4 BR.out).mono ?_
          rintro e w5 ⟨d, yp, yr, ym, yb, rfl, od, hd, b⟩
          rw [he1.out]
          obtain ⟨a0, k0, rfl, _⟩ := own_shape' od.p
          obtain ⟨a1, k1, rfl, _⟩ := own_shape' od.r.h
          obtain ⟨a2, k2, rfl, _⟩ := own_shape' od.m
          obtain ⟨a3, k3, rfl, _⟩ := own_shape' od.b.h
          replace KR := Lib.hid (KR.out.below b)
          replace BR := Lib.hid (BR.out.trans (b.mono BR.out.size))
          replace HB := Lib.hid (HB.out.trans (b.mono HB.out.size))
          clear b
          have KD := Lib.hid (Bk.new w5 29 #[.slice a0 d.pc.length k0, .slice a1 d.regs.length k1, .slice a2 d.mem.length k2, .slice a3 d.buf.length k3])
          have LD : Hid (Below w5.heap.size w5 (World.alloc w5 (.cells #[.slice a0 d.pc.length k0, .slice a1 d.regs.length k1, .slice a2 d.mem.length k2, .slice a3 d.buf.length k3] 29))) := Lib.hid (bal (Below.refl _ _) _)
          have DD := Lib.hid od.data
          have HD := Lib.hid hd
          clear od hd
          obtain ⟨w6, hw6⟩ : ∃ z, World.alloc w5 (.cells #[.slice a0 d.pc.length k0, .slice a1 d.regs.length k1, .slice a2 d.mem.length k2, .slice a3 d.buf.length k3] 29) = z := ⟨_, rfl⟩
          rw [hw6] at KD LD
          replace KR := Lib.hid (KR.out.below LD.out)
          replace BR := Lib.hid (BR.out.trans (LD.out.mono BR.out.size))
          replace HB := Lib.hid (HB.out.trans (LD.out.mono HB.out.size))
          replace DD := Lib.hid (DD.out.below LD.out)
          obtain ⟨c0, c1, c2, c3, c4, c5, c6, c7, c8, c9, c10, c11, cl⟩ : w6.cell? ⟨w.heap.size, 0, none⟩ = some (.int .i64 md) ∧ w6.cell? ⟨w.heap.size, 1, none⟩ = some (.slice ai ni ci) ∧ w6.cell? ⟨w.heap.size, 2, none⟩ = some (.slice ar nr cr) ∧ w6.cell? ⟨w.heap.size, 3, none⟩ = some (.slice ac nc cc) ∧ w6.cell? ⟨w.heap.size, 4, none⟩ = some (.slice ap np cp) ∧ w6.cell? ⟨w.heap.size, 5, none⟩ = some (.slice aq nq cq) ∧ w6.cell? ⟨w.heap.size, 6, none⟩ = some (.slice am nm cm) ∧ w6.cell? ⟨w.heap.size, 7, none⟩ = some (.slice ab nb cb) ∧ w6.cell? ⟨w.heap.size, 8, none⟩ = some (.int .i64 model) ∧ w6.cell? ⟨w.heap.size, 9, none⟩ = some (.int .i64 room) ∧ w6.cell? ⟨w.heap.size, 10, none⟩ = some (.int .i64 t) ∧ w6.cell? ⟨w.heap.size, 11, none⟩ = some (.int .i64 loc) ∧ w.heap.size < w6.heap.size := ⟨KR.out.cell 0, KR.out.cell 1, KR.out.cell 2, KR.out.cell 3, KR.out.cell 4, KR.out.cell 5, KR.out.cell 6, KR.out.cell 7, KR.out.cell 8, KR.out.cell 9, KR.out.cell 10, KR.out.cell 11, KR.out.lt⟩
          by_cases hm : model = 1
          ·
            subst hm
            have hE : ∀ r ∈ d.pf.buf, r = [] := by rw [HD.out, act_buf_sc]; exact HSC.out rfl
            have hE2 : ∀ r ∈ d.buf, r.1.length ≤ 100000 := fun r hr => by rw [hE r.1 (by unfold Cf.pf; exact List.mem_map_of_mem hr)]; simp
            have hLB : d.buf.length ≤ 100000 := by have h1 := congrArg (fun p : Pf => p.buf.length) HD.out; rw [act_buf_sc] at h1; simp only [Cf.pf, List.length_map] at h1; have h2 := HNB.out; omega
            have HQ := Lib.hid (fun (W : World) (h : Below w6.heap.size w6 W) => quiet_any d _ _ _ _ W (DD.out.below h) hLB true (quiet_sc hE))
            have HF := Lib.hid (fun (loc : Int) (W : World) (h : Below w6.heap.size w6 W) => flushes_any d 1 (k : Int) loc _ _ _ _ W (DD.out.below h) hE2 false (popC_sc hE _ _))
            have hE := Lib.hid hE
            clear hE2 hLB
            have BD : Hid (Below w6.heap.size w6 w6) := Lib.hid (Below.refl _ _)
            obtain ⟨x0, x1, x2, x3, xl⟩ : w6.cell? ⟨w5.heap.size, 0, none⟩ = some (.slice a0 d.pc.length k0) ∧ w6.cell? ⟨w5.heap.size, 1, none⟩ = some (.slice a1 d.regs.length k1) ∧ w6.cell? ⟨w5.heap.size, 2, none⟩ = some (.slice a2 d.mem.length k2) ∧ w6.cell? ⟨w5.heap.size, 3, none⟩ = some (.slice a3 d.buf.length k3) ∧ w5.heap.size < w6.heap.size := ⟨KD.out.cell 0, KD.out.cell 1, KD.out.cell 2, KD.out.cell 3, KD.out.lt⟩
            go_wp2_with fail
            clear c0 c1 c2 c3 c4 c5 c6 c7 c8 c9 c10 c11 cl
            clear x0 x1 x2 x3 xl
            refine (HQ.out w6 BD.out).mono ?_
            rintro e w7 ⟨rfl, b⟩
            replace KR := Lib.hid (KR.out.below b)
            replace BR := Lib.hid (BR.out.trans (b.mono BR.out.size))
            replace HB := Lib.hid (HB.out.trans (b.mono HB.out.size))
            replace BD := Lib.hid (BD.out.trans (b.mono BD.out.size))
            replace KD := Lib.hid (KD.out.below b)
            clear b
            obtain ⟨c0, c1, c2, c3, c4, c5, c6, c7, c8, c9, c10, c11, cl⟩ : w7.cell? ⟨w.heap.size, 0, none⟩ = some (.int .i64 md) ∧ w7.cell? ⟨w.heap.size, 1, none⟩ = some (.slice ai ni ci) ∧ w7.cell? ⟨w.heap.size, 2, none⟩ = some (.slice ar nr cr) ∧ w7.cell? ⟨w.heap.size, 3, none⟩ = some (.slice ac nc cc) ∧ w7.cell? ⟨w.heap.size, 4, none⟩ = some (.slice ap np cp) ∧ w7.cell? ⟨w.heap.size, 5, none⟩ = some (.slice aq nq cq) ∧ w7.cell? ⟨w.heap.size, 6, none⟩ = some (.slice am nm cm) ∧ w7.cell? ⟨w.heap.size, 7, none⟩ = some (.slice ab nb cb) ∧ w7.cell? ⟨w.heap.size, 8, none⟩ = some (.int .i64 1) ∧ w7.cell? ⟨w.heap.size, 9, none⟩ = some (.int .i64 room) ∧ w7.cell? ⟨w.heap.size, 10, none⟩ = some (.int .i64 t) ∧ w7.cell? ⟨w.heap.size, 11, none⟩ = some (.int .i64 loc) ∧ w.heap.size < w7.heap.size := ⟨KR.out.cell 0, KR.out.cell 1, KR.out.cell 2, KR.out.cell 3, KR.out.cell 4, KR.out.cell 5, KR.out.cell 6, KR.out.cell 7, KR.out.cell 8, KR.out.cell 9, KR.out.cell 10, KR.out.cell 11, KR.out.lt⟩
            obtain ⟨x0, x1, x2, x3, xl⟩ : w7.cell? ⟨w5.heap.size, 0, none⟩ = some (.slice a0 d.pc.length k0) ∧ w7.cell? ⟨w5.heap.size, 1, none⟩ = some (.slice a1 d.regs.length k1) ∧ w7.cell? ⟨w5.heap.size, 2, none⟩ = some (.slice a2 d.mem.length k2) ∧ w7.cell? ⟨w5.heap.size, 3, none⟩ = some (.slice a3 d.buf.length k3) ∧ w5.heap.size < w7.heap.size := ⟨KD.out.cell 0, KD.out.cell 1, KD.out.cell 2, KD.out.cell 3, KD.out.lt⟩
            go_wp2_with fail
            clear c0 c1 c2 c3 c4 c5 c6 c7 c8 c9 c10 c11 cl
            clear x0 x1 x2 x3 xl
            refine (HF.out (-1) w7 BD.out).mono ?_
            rintro e w8 ⟨rfl, b⟩
            replace KR := Lib.hid (KR.out.below b)
            replace BR := Lib.hid (BR.out.trans (b.mono BR.out.size))
            replace HB := Lib.hid (HB.out.trans (b.mono HB.out.size))
            replace BD := Lib.hid (BD.out.trans (b.mono BD.out.size))
            replace KD := Lib.hid (KD.out.below b)
            clear b
            obtain ⟨c0, c1, c2, c3, c4, c5, c6, c7, c8, c9, c10, c11, cl⟩ : w8.cell? ⟨w.heap.size, 0, none⟩ = some (.int .i64 md) ∧ w8.cell? ⟨w.heap.size, 1, none⟩ = some (.slice ai ni ci) ∧ w8.cell? ⟨w.heap.size, 2, none⟩ = some (.slice ar nr cr) ∧ w8.cell? ⟨w.heap.size, 3, none⟩ = some (.slice ac nc cc) ∧ w8.cell? ⟨w.heap.size, 4, none⟩ = some (.slice ap np cp) ∧ w8.cell? ⟨w.heap.size, 5, none⟩ = some (.slice aq nq cq) ∧ w8.cell? ⟨w.heap.size, 6, none⟩ = some (.slice am nm cm) ∧ w8.cell? ⟨w.heap.size, 7, none⟩ = some (.slice ab nb cb) ∧ w8.cell? ⟨w.heap.size, 8, none⟩ = some (.int .i64 1) ∧ w8.cell? ⟨w.heap.size, 9, none⟩ = some (.int .i64 room) ∧ w8.cell? ⟨w.heap.size, 10, none⟩ = some (.int .i64 t) ∧ w8.cell? ⟨w.heap.size, 11, none⟩ = some (.int .i64 loc) ∧ w.heap.size < w8.heap.size := ⟨KR.out.cell 0, KR.out.cell 1, KR.out.cell 2, KR.out.cell 3, KR.out.cell 4, KR.out.cell 5, KR.out.cell 6, KR.out.cell 7, KR.out.cell 8, KR.out.cell 9, KR.out.cell 10, KR.out.cell 11, KR.out.lt⟩
            obtain ⟨x0, x1, x2, x3, xl⟩ : w8.cell? ⟨w5.heap.size, 0, none⟩ = some (.slice a0 d.pc.length k0) ∧ w8.cell? ⟨w5.heap.size, 1, none⟩ = some (.slice a1 d.regs.length k1) ∧ w8.cell? ⟨w5.heap.size, 2, none⟩ = some (.slice a2 d.mem.length k2) ∧ w8.cell? ⟨w5.heap.size, 3, none⟩ = some (.slice a3 d.buf.length k3) ∧ w5.heap.size < w8.heap.size := ⟨KD.out.cell 0, KD.out.cell 1, KD.out.cell 2, KD.out.cell 3, KD.out.lt⟩
            go_wp2_with fail
            clear c0 c1 c2 c3 c4 c5 c6 c7 c8 c9 c10 c11 cl
            clear x0 x1 x2 x3 xl
            refine (HF.out 0 w8 BD.out).mono ?_
            rintro e w9 ⟨rfl, b⟩
            replace KR := Lib.hid (KR.out.below b)
            replace BR := Lib.hid (BR.out.trans (b.mono BR.out.size))
            replace HB := Lib.hid (HB.out.trans (b.mono HB.out.size))
            replace BD := Lib.hid (BD.out.trans (b.mono BD.out.size))
            replace KD := Lib.hid (KD.out.below b)
            clear b
            go_wp2_with fail
            go_roundg (gk - 1)
            case measure => omega
            case rel => exact ⟨k + 1, by go_num, by omega, by omega, HB.out⟩
          ·
            have gm : (model == 1) = false := by simpa using hm
            replace hm := Lib.hid hm
            go_wp2_with fail
            go_roundg (gk - 1)
            case measure => omega
            case rel => exact ⟨k + 1, by go_num, by omega, by omega, HB.out⟩
      ·
        go_wp2_with fail
        refine (HKN.out wr).mono ?_
        rintro e w3 ⟨rfl, b⟩
        go_wp2
        go_ret
        exact ⟨ret_bool rfl, BR.out.trans (b.mono BR.out.size)⟩

end Go.Proofs.Ytdnjojjbdieacaa
