/- Layer 12, the document's answer: Encode. -/
import Derived.Test.YtmkgijedchpgcaaEd
import Derived.Test.YtmkgijedchpgcaaEp
import Derived.Test.YtmkgijedchpgcaaUx
import Derived.Test.YtmkgijedchpgcaaEg
namespace Go.Proofs.Ytmkgijedchpgcaa
set_option linter.unusedSimpArgs false
set_option linter.unusedVariables false
open Go.RowKit

set_option maxRecDepth 100000 in
set_option maxHeartbeats 32000000 in
theorem renc_any (u : Un) (c : Cf) (model room : Int) (vi vr vc xp xr xm xb : Value) (w : World) (hu : UnD w vi vr vc u) (hc : CfD w xp xr xm xb c) (hsu : ShortU u) (hs : ShortC c) (q : Bool) (hq : rightC u c model room = q) :
    Calls Try.prog 11 #[.agg #[.int .i64 u.mod, vi, vr, vc], .agg #[xp, xr, xm, xb], .int .i64 model, .int .i64 room] w fun e w' => e = .returned (.tuple #[.string (if q = true then bytZ (encP c.pf) else ⟨#[]⟩), .int .i64 (if q = true then 0 else 8)]) ∧ Below w.heap.size w w' := by
  have HRT := Lib.hid (fun (W : World) (h : Below w.heap.size w W) => rcright_any u c model room _ _ _ _ _ _ _ W (hu.below h) (hc.below h) hsu hs q hq)
  have HQ := Lib.hid hq
  have HC := Lib.hid hc
  obtain ⟨ap, cp, rfl⟩ := hc.p.shape0
  obtain ⟨ar, cr, rfl⟩ := hc.r.shape0
  obtain ⟨am, cm, rfl⟩ := hc.m.shape0
  obtain ⟨ab, cb, rfl⟩ := hc.b.shape0
  have HPA := Lib.hid (fun (W : World) (h : Below w.heap.size w W) (k : Nat) (hk : k < c.pc.length) => IntsD.at2 (HC.out.below h).p k hk)
  have HRA := Lib.hid (fun (W : World) (h : Below w.heap.size w W) (k : Nat) (hk : k < c.regs.length) => AllD.at2 (HC.out.below h).r k hk)
  have HMA := Lib.hid (fun (W : World) (h : Below w.heap.size w W) (k : Nat) (hk : k < c.mem.length) => IntsD.at2 (HC.out.below h).m k hk)
  have HBA := Lib.hid (fun (W : World) (h : Below w.heap.size w W) (k : Nat) (hk : k < c.buf.length) => BufsD.at2 (HC.out.below h).b k hk)
  have HSM : Hid (q = true → Small c.pf ∧ c.regs.length = c.pc.length ∧ c.buf.length = c.pc.length ∧ c.pc.length ≤ 4 ∧ c.mem.length ≤ 6) := Lib.hid (fun h => by
    have hR := (rightC_iff u c model room).1 (hq.trans h)
    have h1 := rightU_lc hR.ru
    have h2 : c.pc.length = u.regs.length := hR.lp
    have h3 : c.mem.length = u.init.length := hR.lm
    have h4 : c.regs.length = u.regs.length := by have := hR.lr; simpa [Cf.pf] using this
    have h5 : c.buf.length = u.regs.length := by have := hR.lb; simpa [Cf.pf] using this
    exact ⟨hR.small, by omega, by omega, by omega, by omega⟩)
  have HSH := Lib.hid hs
  clear hu hc hsu hs hq
  obtain ⟨np, hnp⟩ : ∃ n, n = c.pc.length := ⟨_, rfl⟩
  obtain ⟨nr, hnr⟩ : ∃ n, n = c.regs.length := ⟨_, rfl⟩
  obtain ⟨nm, hnm⟩ : ∃ n, n = c.mem.length := ⟨_, rfl⟩
  obtain ⟨nb, hnb⟩ : ∃ n, n = c.buf.length := ⟨_, rfl⟩
  rw [← hnp, ← hnr, ← hnm, ← hnb] at HRT ⊢
  have HN := Lib.hid (And.intro hnp (And.intro hnr (And.intro hnm hnb)))
  rw [← hnp, ← hnr, ← hnm, ← hnb] at HSM
  clear hnp hnr hnm hnb
  have L2 := two_new w 25 29 #[.int .i64 u.mod, vi, vr, vc] #[.slice ap np cp, .slice ar nr cr, .slice am nm cm, .slice ab nb cb]
  have B := Lib.hid L2.1
  have Ku := Lib.hid L2.2.1
  have Kc := Lib.hid L2.2.2
  clear L2
  go_enter Try.func11, Try.ntmps11
  go_wp2_with fail
  generalize World.alloc (World.alloc w _) _ = w1 at B Ku Kc ⊢
  refine (HRT.out w1 B.out).mono ?_
  rintro e w2 ⟨rfl, b⟩
  replace Ku := Lib.hid (Ku.out.below b)
  replace Kc := Lib.hid (Kc.out.below b)
  replace B := Lib.hid (B.out.trans (b.mono B.out.size))
  clear b HRT
  cases q with
  | false =>
    go_wp2_with fail
    refine bodyPost_ret (v := .tuple #[.string ⟨#[]⟩, .int .i64 8]) (by simp [results, Try.results11, go_sem]) rfl ⟨rfl, B.out⟩
  | true =>
    obtain ⟨hsm, h1, h2, h3, h4⟩ := HSM.out rfl
    have HSL := Lib.hid hsm
    clear hsm HSM
    have h1 := h1.symm
    subst h1
    have h2 := h2.symm
    subst h2
    have HLN : Hid (c.pf.pc.length = np ∧ c.pf.regs.length = np ∧ c.pf.buf.length = np ∧ c.pf.mem.length = nm) := Lib.hid (by obtain ⟨e1, e2, e3, e4⟩ := HN.out; refine ⟨e1.symm, ?_, ?_, e3.symm⟩ <;> simp [Cf.pf] <;> omega)
    have HEL : Hid ((encP c.pf).length ≤ 500000) := Lib.hid (by
      rw [HSL.out.len, size_cf]
      have r1 := sumF_le (regF c) 100000 c.regs.length (fun k hk => by unfold regF; rw [List.getD_eq_getElem?_getD, List.getElem?_eq_getElem hk]; exact HSH.out.rr _ (List.getElem_mem hk))
      have r2 := sumF_le (bufF c) 48 c.buf.length (fun k hk => by unfold bufF; rw [List.getD_eq_getElem?_getD, List.getElem?_eq_getElem hk]; have h9 := (HSL.out.b (c.buf[k]).1 (List.mem_map_of_mem (List.getElem_mem hk))).1; show 2 * (c.buf[k]).1.length ≤ 48; omega)
      obtain ⟨e1, e2, e3, e4⟩ := HN.out
      omega)
    have HUP := Lib.hid (fun k (hk : k ≤ c.pf.pc.length) => up_len HSL.out k hk)
    have HNX := Lib.hid (fun k (hk : k < c.pf.pc.length) => up_next HSL.out.lr HSL.out.lb k hk)
    have BW : Hid (Below w2.heap.size w2 w2) := Lib.hid (Below.refl _ _)
    have HW2 : Hid (w.heap.size ≤ w2.heap.size) := Lib.hid B.out.size
    obtain ⟨uc0, uc1, uc2, uc3, ucl⟩ := bk4 Ku.out
    obtain ⟨cc0, cc1, cc2, cc3, ccl⟩ := bk4 Kc.out
    go_wp2_with fail
    clear uc0 uc1 uc2 uc3 ucl cc0 cc1 cc2 cc3 ccl
    go_loopg [10, 11] np (fun fuel mv i' wr => ∃ (k : Nat), i' = .int .i64 k ∧ k ≤ np ∧ np - k ≤ fuel ∧ OwnY wr w2.heap.size mv (upP c.pf k) ∧ Below w2.heap.size w2 wr)
    case atStart => exact ⟨0, rfl, Nat.zero_le _, Nat.le_refl _, by rw [up_zero]; exact World.ownsRow_nil _ _ _ _, Below.refl _ _⟩
    case round =>
      obtain ⟨k, rfl, hk, hf, ho, hb⟩ := hrel
      have HB := Lib.hid hb
      have HO := Lib.hid ho
      have BR := Lib.hid (B.out.trans (hb.mono B.out.size))
      have KcR := Lib.hid (Kc.out.below hb)
      clear ho hb
      obtain ⟨ad2, cap2, rfl, _⟩ := own_shape' HO.out
      by_cases hlt : k < np
      ·
        obtain ⟨e1, e2, e3, e4⟩ := HN.out
        obtain ⟨bp, op, rfl, lp, yp⟩ := HPA.out wr BR.out k (by omega)
        obtain ⟨bp', op', hbe, lp2, yp2⟩ := HPA.out w2 B.out k (by omega)
        injection hbe with hbe
        injection hbe with hbe1 hbe2
        subst hbe1 hbe2
        have hpb := HSL.out.pc _ (List.getElem_mem (show k < c.pf.pc.length by rw [HLN.out.1]; exact hlt))
        have hg0 : c.pf.pc.getD k 0 = c.pc[k]'(by omega) := by rw [show c.pf.pc = c.pc from rfl, List.getD_eq_getElem?_getD, List.getElem?_eq_getElem (by omega)]; rfl
        have HNK := Lib.hid (HNX.out k (by rw [HLN.out.1]; exact hlt))
        rw [hg0] at HNK
        replace hpb : 0 ≤ c.pc[k]'(by omega) ∧ c.pc[k]'(by omega) < 1000 := hpb
        generalize hpv : c.pc[k]'(by omega) = pv at yp yp2 hpb HNK
        clear hpv hg0 e1 e2 e3 e4
        have q1 : pv.tdiv 256 = pv / 256 := Int.tdiv_eq_ediv_of_nonneg (by omega)
        have q2 : pv.tmod 256 = pv % 256 := Int.tmod_eq_emod_of_nonneg (by omega)
        have w1' : IntKind.i64.wrap (pv / 256) = pv / 256 := IntWalk.i64_in _ (by omega)
        have w2' : IntKind.i64.wrap (pv % 256) = pv % 256 := IntWalk.i64_in _ (by omega)
        have u1 : IntKind.u8.wrap (pv / 256) = pv / 256 := by show (pv / 256) % 256 = _; omega
        have u2 : IntKind.u8.wrap (pv % 256) = pv % 256 := by show (pv % 256) % 256 = _; omega
        have f1 : (0 : Int) ≤ (k : Int) := by omega
        have f2 : (k : Int) < (np : Int) := by omega
        obtain ⟨cc0, cc1, cc2, cc3, ccl⟩ := bk4 KcR.out
        go_wp2_with fail
        clear cc0 cc1 cc2 cc3 ccl
        have hul := HUP.out k (by rw [HLN.out.1]; omega)
        have hel := HEL.out
        have HCC := Lib.hid (fun (W1 : World) (h : Below w2.heap.size w2 W1) => (⟨(h.cell (p := ⟨w.heap.size + 1, _, none⟩) Kc.out.lt).trans (Kc.out.cell 0), (h.cell (p := ⟨bp, _, none⟩) lp2).trans yp2, trivial⟩ : (fun W1 => W1.cell? ⟨w.heap.size + 1, 0, none⟩ = some (.slice (some ⟨bp, op, none⟩) np cp) ∧ W1.cell? ⟨bp, op + k, none⟩ = some (.int .i64 pv) ∧ True) W1))
        refine wp_region_held_drew (S := fun W1 => W1.cell? ⟨w.heap.size + 1, 0, none⟩ = some (.slice (some ⟨bp, op, none⟩) np cp) ∧ W1.cell? ⟨bp, op + k, none⟩ = some (.int .i64 pv) ∧ True) (by kernel_rfl) (HCC.out _ HB.out.drew) (fun hS => ?_)
        refine wpAnyH_take (i := 0) (v := .slice ad2 (upP c.pf k).length cap2) rfl (by kernel_rfl) (by kernel_rfl) (by kernel_rfl) (fun _ _ _ h => h) (Or.inl ⟨by rfl, fun w hSw => by obtain ⟨s0, s1, _⟩ := hSw; first | (go_simp; done) | (go_simp; with_reducible rfl)⟩) hS ?_
        simp only [Act.put, List.setIfInBounds_toArray, List.set_cons_zero, List.set_cons_succ]
        refine wpAnyH_take (i := 1) (v := .pointer (some ⟨w.heap.size + 1, 0, none⟩)) rfl (by kernel_rfl) (by kernel_rfl) (by kernel_rfl) (fun _ _ _ h => h) (Or.inl ⟨by rfl, fun w hSw => by obtain ⟨s0, s1, _⟩ := hSw; first | (go_simp; done) | (go_simp; with_reducible rfl)⟩) hS ?_
        simp only [Act.put, List.setIfInBounds_toArray, List.set_cons_zero, List.set_cons_succ]
        refine wpAnyH_take (i := 2) (v := .slice (some ⟨bp, op, none⟩) np cp) rfl (by kernel_rfl) (by kernel_rfl) (by kernel_rfl) (fun _ _ _ h => h) (Or.inl ⟨by rfl, fun w hSw => by obtain ⟨s0, s1, _⟩ := hSw; first | (go_simp; done) | (go_simp; with_reducible rfl)⟩) hS ?_
        simp only [Act.put, List.setIfInBounds_toArray, List.set_cons_zero, List.set_cons_succ]
        refine wpAnyH_take (i := 3) (v := .int .i64 k) rfl (by kernel_rfl) (by kernel_rfl) (by kernel_rfl) (fun _ _ _ h => h) (Or.inl ⟨by rfl, fun w hSw => by obtain ⟨s0, s1, _⟩ := hSw; first | (go_simp; done) | (go_simp; with_reducible rfl)⟩) hS ?_
        simp only [Act.put, List.setIfInBounds_toArray, List.set_cons_zero, List.set_cons_succ]
        refine wpAnyH_take (i := 4) (v := .pointer (some ⟨bp, op + k, none⟩)) rfl (by kernel_rfl) (by kernel_rfl) (by kernel_rfl) (fun _ _ _ h => h) (Or.inl ⟨by rfl, fun w hSw => by obtain ⟨s0, s1, _⟩ := hSw; first | (go_simp; done) | (go_simp; with_reducible rfl)⟩) hS ?_
        simp only [Act.put, List.setIfInBounds_toArray, List.set_cons_zero, List.set_cons_succ]
        refine wpAnyH_take (i := 5) (v := .int .i64 pv) rfl (by kernel_rfl) (by kernel_rfl) (by kernel_rfl) (fun _ _ _ h => h) (Or.inl ⟨by rfl, fun w hSw => by obtain ⟨s0, s1, _⟩ := hSw; first | (go_simp; done) | (go_simp; with_reducible rfl)⟩) hS ?_
        simp only [Act.put, List.setIfInBounds_toArray, List.set_cons_zero, List.set_cons_succ]
        refine wpAnyH_take (i := 6) (v := .int .i64 (pv / 256)) rfl (by kernel_rfl) (by kernel_rfl) (by kernel_rfl) (fun _ _ _ h => h) (Or.inl ⟨by rfl, fun w hSw => by obtain ⟨s0, s1, _⟩ := hSw; first | (go_simp; done) | (go_simp; with_reducible rfl)⟩) hS ?_
        simp only [Act.put, List.setIfInBounds_toArray, List.set_cons_zero, List.set_cons_succ]
        refine wpAnyH_take (i := 7) (v := .int .u8 (pv / 256)) rfl (by kernel_rfl) (by kernel_rfl) (by kernel_rfl) (fun _ _ _ h => h) (Or.inl ⟨by rfl, fun w hSw => by obtain ⟨s0, s1, _⟩ := hSw; first | (go_simp; done) | (go_simp; with_reducible rfl)⟩) hS ?_
        simp only [Act.put, List.setIfInBounds_toArray, List.set_cons_zero, List.set_cons_succ]
        refine wpAnyH_take (i := 8) (v := .pointer (some ⟨w.heap.size + 1, 0, none⟩)) rfl (by kernel_rfl) (by kernel_rfl) (by kernel_rfl) (fun _ _ _ h => h) (Or.inl ⟨by rfl, fun w hSw => by obtain ⟨s0, s1, _⟩ := hSw; first | (go_simp; done) | (go_simp; with_reducible rfl)⟩) hS ?_
        simp only [Act.put, List.setIfInBounds_toArray, List.set_cons_zero, List.set_cons_succ]
        refine wpAnyH_take (i := 9) (v := .slice (some ⟨bp, op, none⟩) np cp) rfl (by kernel_rfl) (by kernel_rfl) (by kernel_rfl) (fun _ _ _ h => h) (Or.inl ⟨by rfl, fun w hSw => by obtain ⟨s0, s1, _⟩ := hSw; first | (go_simp; done) | (go_simp; with_reducible rfl)⟩) hS ?_
        simp only [Act.put, List.setIfInBounds_toArray, List.set_cons_zero, List.set_cons_succ]
        refine wpAnyH_take (i := 10) (v := .int .i64 k) rfl (by kernel_rfl) (by kernel_rfl) (by kernel_rfl) (fun _ _ _ h => h) (Or.inl ⟨by rfl, fun w hSw => by obtain ⟨s0, s1, _⟩ := hSw; first | (go_simp; done) | (go_simp; with_reducible rfl)⟩) hS ?_
        simp only [Act.put, List.setIfInBounds_toArray, List.set_cons_zero, List.set_cons_succ]
        refine wpAnyH_take (i := 11) (v := .pointer (some ⟨bp, op + k, none⟩)) rfl (by kernel_rfl) (by kernel_rfl) (by kernel_rfl) (fun _ _ _ h => h) (Or.inl ⟨by rfl, fun w hSw => by obtain ⟨s0, s1, _⟩ := hSw; first | (go_simp; done) | (go_simp; with_reducible rfl)⟩) hS ?_
        simp only [Act.put, List.setIfInBounds_toArray, List.set_cons_zero, List.set_cons_succ]
        refine wpAnyH_take (i := 12) (v := .int .i64 pv) rfl (by kernel_rfl) (by kernel_rfl) (by kernel_rfl) (fun _ _ _ h => h) (Or.inl ⟨by rfl, fun w hSw => by obtain ⟨s0, s1, _⟩ := hSw; first | (go_simp; done) | (go_simp; with_reducible rfl)⟩) hS ?_
        simp only [Act.put, List.setIfInBounds_toArray, List.set_cons_zero, List.set_cons_succ]
        refine wpAnyH_take (i := 13) (v := .int .i64 (pv % 256)) rfl (by kernel_rfl) (by kernel_rfl) (by kernel_rfl) (fun _ _ _ h => h) (Or.inl ⟨by rfl, fun w hSw => by obtain ⟨s0, s1, _⟩ := hSw; first | (go_simp; done) | (go_simp; with_reducible rfl)⟩) hS ?_
        simp only [Act.put, List.setIfInBounds_toArray, List.set_cons_zero, List.set_cons_succ]
        refine wpAnyH_take (i := 14) (v := .int .u8 (pv % 256)) rfl (by kernel_rfl) (by kernel_rfl) (by kernel_rfl) (fun _ _ _ h => h) (Or.inl ⟨by rfl, fun w hSw => by obtain ⟨s0, s1, _⟩ := hSw; first | (go_simp; done) | (go_simp; with_reducible rfl)⟩) hS ?_
        simp only [Act.put, List.setIfInBounds_toArray, List.set_cons_zero, List.set_cons_succ]
        refine wpAnyH_ready (rs := [15]) (by kernel_rfl) (by simp) ?_
        refine AllReadyH.cons rfl (fun K hK => ?_) AllReadyH.nil
        go_simp
        have KN : Bk (World.alloc wr (.cells #[.int .u8 (pv / 256), .int .u8 (pv % 256)] 5)).drew wr.heap.size 5 #[.int .u8 (pv / 256), .int .u8 (pv % 256)] := Bk.new wr.drew _ _
        have BN : Below wr.heap.size wr (World.alloc wr (.cells #[.int .u8 (pv / 256), .int .u8 (pv % 256)] 5)).drew := bdr (bal (Below.refl _ _) _)
        have HO2 := Lib.hid (own_below HO.out BN)
        have HB2 := Lib.hid (HB.out.trans (BN.mono HB.out.size))
        refine hK.out _ _ (HCC.out _ HB2.out) (fun hS => ?_)
        clear hK K
        refine wpAnyH_ready (rs := [16]) (by kernel_rfl) (by simp) ?_
        refine AllReadyH.cons rfl (fun K hK => ?_) AllReadyH.nil
        rw [if_pos (by rfl)]
        refine append_byt_wp (.tmp 28) (.tmp 43) rfl w2.heap.size (.slice ad2 (upP c.pf k).length cap2) (upP c.pf k) [pv / 256, pv % 256] 2 rfl (by decide) rfl wr.heap.size rfl HO2.out KN (by omega) (by decide) HB2.out.size ?_
        intro g' cap' w4 ho4 hb4
        generalize hnl : ((upP c.pf k) ++ [pv / 256, pv % 256]).length = nl at ho4 ⊢
        replace hnl := Lib.hid hnl
        have HO3 := Lib.hid ho4
        have HB3 := Lib.hid (HB2.out.trans hb4)
        refine hK.out _ _ (HCC.out _ HB3.out) (fun hS => ?_)
        clear hK K ho4 hb4 KN BN HO2 HB2
        refine wpAnyH_ready (rs := [17]) (by kernel_rfl) (by simp) ?_
        refine AllReadyH.cons rfl (fun K hK => ?_) AllReadyH.nil
        go_simp
        go_wp2_with (fail)
        refine hK.out _ _ (HCC.out _ HB3.out) (fun hS => ?_)
        clear hK K hS
        refine wpAnyH_done (by kernel_rfl) ?_ _
        try simp only [Act.put, List.setIfInBounds_toArray, List.set_cons_zero, List.set_cons_succ]
        clear HCC hul hel f1 f2 u1 u2 w1' w2' q1 q2 lp yp lp2 yp2
        obtain ⟨e1, e2, e3, e4⟩ := HN.out
        obtain ⟨brr, orr, arr, mrr, rfl, lrr, yrr, drr⟩ := HRA.out w2 B.out k (by omega)
        have hrg : c.pf.regs.getD k [] = (c.regs[k]'(by omega)).1 := by show (c.regs.map (·.1)).getD k [] = _; rw [getD_map, List.getD_eq_getElem?_getD, List.getElem?_eq_getElem (by omega)]; rfl
        have hrb := HSL.out.r _ (show c.pf.regs.getD k [] ∈ c.pf.regs by rw [List.getD_eq_getElem?_getD, List.getElem?_eq_getElem (show k < c.pf.regs.length by rw [HLN.out.2.1]; exact hlt)]; exact List.getElem_mem _)
        rw [hrg] at hrb HNK
        generalize hrl : (c.regs[k]'(by omega)).1 = rl at yrr drr hrb HNK
        clear hrg hrl e1 e2 e3 e4
        have hpl : (upP c.pf k ++ [pv / 256, pv % 256]).length + rl.length ≤ 500000 := by
          have h1 := HUP.out (k + 1) (by rw [HLN.out.1]; omega)
          have h2 := HEL.out
          rw [HNK.out] at h1
          unfold thrE at h1
          simp only [List.length_append, List.length_cons, List.length_nil] at h1 ⊢
          omega
        obtain ⟨p0, hp0⟩ : ∃ z, z = upP c.pf k ++ [pv / 256, pv % 256] := ⟨_, rfl⟩
        rw [← hp0] at HO3 hpl hnl
        have HP0 := Lib.hid hp0
        clear hp0
        obtain ⟨nk, hnk⟩ : ∃ n, n = rl.length := ⟨_, rfl⟩
        rw [← hnk] at yrr drr hpl
        have HNKL := Lib.hid hnk
        clear hnk
        have HRR := Lib.hid (fun (W : World) (h : Below w2.heap.size w2 W) => And.intro ((h.cell (p := ⟨brr, _, none⟩) lrr).trans yrr) (Nat.lt_of_lt_of_le lrr h.size))
        have HRD := Lib.hid drr
        have HRB := Lib.hid hrb
        clear lrr yrr drr hrb
        have KcR := Lib.hid (Kc.out.below HB3.out)
        obtain ⟨cc0, cc1, cc2, cc3, ccl⟩ := bk4 KcR.out
        obtain ⟨yr4, lr4⟩ := HRR.out w4 HB3.out
        have f1 : (0 : Int) ≤ (k : Int) := by omega
        have f2 : (k : Int) < (np : Int) := by omega
        have HLT := Lib.hid hlt
        clear hlt
        generalize gk = gk1 at *
        go_wp2_with fail
        clear cc0 cc1 cc2 cc3 ccl yr4 lr4
        go_loopg [10, 12] nk (fun fuel mv i' wi => ∃ (j : Nat), i' = .int .i64 j ∧ j ≤ nk ∧ nk - j ≤ fuel ∧ OwnY wi w2.heap.size mv (p0 ++ rl.take j) ∧ Below w2.heap.size w2 wi)
        case atStart => exact ⟨0, rfl, Nat.zero_le _, Nat.le_refl _, by rw [List.take_zero, List.append_nil]; exact HO3.out, HB3.out⟩
        case round =>
          clear HO3 HB3 HO HB BR KcR
          obtain ⟨j, rfl, hj, hf', ho, hb⟩ := hrel
          have HB := Lib.hid hb
          have HO := Lib.hid ho
          have KcR := Lib.hid (Kc.out.below hb)
          clear ho hb
          obtain ⟨ad2, cap2, rfl, _⟩ := own_shape' HO.out
          generalize hnv : (p0 ++ rl.take j).length = nv at HO ⊢
          replace hnv := Lib.hid hnv
          obtain ⟨yr4, lr4⟩ := HRR.out wr HB.out
          obtain ⟨cc0, cc1, cc2, cc3, ccl⟩ := bk4 KcR.out
          by_cases hlj : j < nk
          ·
            obtain ⟨b3, o3, rfl, l3, y3⟩ := IntsD.at2 HRD.out j (by rw [← HNKL.out]; exact hlj)
            have hx := HRB.out _ (List.getElem_mem (show j < rl.length by rw [← HNKL.out]; exact hlj))
            have HTK := Lib.hid (take_next rl j (by rw [← HNKL.out]; exact hlj))
            rw [List.getD_eq_getElem?_getD, List.getElem?_eq_getElem (show j < rl.length by rw [← HNKL.out]; exact hlj)] at HTK
            replace HTK : Hid (rl.take (j + 1) = rl.take j ++ [rl[j]'(by rw [← HNKL.out]; exact hlj)]) := HTK
            generalize rl[j]'(by rw [← HNKL.out]; exact hlj) = xv at y3 hx HTK
            have u1 : IntKind.u8.wrap xv = xv := by show xv % 256 = _; omega
            have h1 : (0 : Int) ≤ (j : Int) := by omega
            have h2 : (j : Int) < (nk : Int) := by omega
            have hlen : (p0 ++ rl.take j).length ≤ 1000000 := by rw [List.length_append, List.length_take]; omega
            have y3' := (HB.out.cell (p := ⟨b3, _, none⟩) l3).trans y3
            have l3' := Nat.lt_of_lt_of_le l3 HB.out.size
            have L1 : Hid (Below wr.heap.size wr (wr.alloc (.cells #[.int .u8 xv] 5))) := Lib.hid (bal (Below.refl _ _) _)
            have HCN : Hid (∀ (i : Nat) (u : Value), (rowY [xv])[i]? = some u → (wr.alloc (.cells #[.int .u8 xv] 5)).cell? ⟨wr.heap.size, i, none⟩ = some u) := Lib.hid (fun i u h => ((Bk.new wr 5 #[.int .u8 xv]).cell i).trans (by simpa [rowY] using h))
            go_wp2_with (at_builtin; refine append_byt rfl (.tmp 55) (.tmp 65) rfl w2.heap.size _ (p0 ++ rl.take j) [xv] 1 rfl (by decide) rfl wr.heap.size rfl (own_below HO.out L1.out) HCN.out hlen (by decide) (by have := HB.out.size; have := L1.out.size; omega) ?_; intro g' cap' w5 ho5 hb5; generalize ((p0 ++ rl.take j) ++ [xv]).length = nl2 at ho5 ⊢)
            have B5 := Lib.hid (HB.out.trans (L1.out.mono HB.out.size))
            go_roundg (gk - 1)
            case measure => omega
            case rel => exact ⟨j + 1, by go_num, by omega, by omega, by rw [HTK.out, ← List.append_assoc]; exact ho5, B5.out.trans hb5⟩
          obtain rfl : j = nk := by omega
          replace HO := HO.out
          rw [show rl.take j = rl by rw [HNKL.out, List.take_length]] at HO
          replace HO := Lib.hid HO
          clear hj hf' hlj
          obtain ⟨e1, e2, e3, e4⟩ := HN.out
          obtain ⟨bbb, obb, abf, mbf, rfl, lbf, ybf, dbf⟩ := HBA.out w2 B.out k (by have := HLT.out; omega)
          have hbg : c.pf.buf.getD k [] = (c.buf[k]'(by have := HLT.out; omega)).1 := by show (c.buf.map (·.1)).getD k [] = _; rw [getD_map, List.getD_eq_getElem?_getD, List.getElem?_eq_getElem (by have := HLT.out; omega)]; rfl
          have hbb := HSL.out.b _ (show c.pf.buf.getD k [] ∈ c.pf.buf by rw [List.getD_eq_getElem?_getD, List.getElem?_eq_getElem (show k < c.pf.buf.length by rw [HLN.out.2.2.1]; exact HLT.out)]; exact List.getElem_mem _)
          have HNK2 := HNK.out
          rw [hbg] at hbb HNK2
          generalize hbl : (c.buf[k]'(by have := HLT.out; omega)).1 = bl at ybf dbf hbb HNK2
          replace HNK2 := Lib.hid HNK2
          clear hbg hbl e1 e2 e3 e4
          obtain ⟨mk, hmk⟩ : ∃ n, n = bl.length := ⟨_, rfl⟩
          rw [← hmk] at ybf dbf
          have hmk9 : mk ≤ 24 := by rw [hmk]; exact hbb.1
          have HMK := Lib.hid hmk
          clear hmk
          have HBR := Lib.hid (fun (W : World) (h : Below w2.heap.size w2 W) => And.intro ((h.cell (p := ⟨bbb, _, none⟩) lbf).trans ybf) (Nat.lt_of_lt_of_le lbf h.size))
          have HBD := Lib.hid dbf
          have HBB := Lib.hid hbb.2
          clear lbf ybf dbf hbb
          obtain ⟨yb4, lb4⟩ := HBR.out wr HB.out
          obtain ⟨cc0, cc1, cc2, cc3, ccl⟩ := bk4 (Kc.out.below HB.out)
          have f2 : (k : Int) < (np : Int) := by have := HLT.out; omega
          have u1 : IntKind.u8.wrap (mk : Int) = (mk : Int) := by show (mk : Int) % 256 = _; omega
          obtain ⟨p1, hp1⟩ : ∃ z, z = p0 ++ rl := ⟨_, rfl⟩
          rw [← hp1] at HO
          have hlen : p1.length ≤ 1000000 := by rw [hp1, List.length_append, ← HNKL.out]; omega
          have HP1 := Lib.hid hp1
          clear hp1
          have L1 : Hid (Below wr.heap.size wr (wr.alloc (.cells #[.int .u8 (mk : Int)] 5))) := Lib.hid (bal (Below.refl _ _) _)
          have HCN : Hid (∀ (i : Nat) (u : Value), (rowY [(mk : Int)])[i]? = some u → (wr.alloc (.cells #[.int .u8 (mk : Int)] 5)).cell? ⟨wr.heap.size, i, none⟩ = some u) := Lib.hid (fun i u h => ((Bk.new wr 5 #[.int .u8 (mk : Int)]).cell i).trans (by simpa [rowY] using h))
          go_wp2_with (at_builtin; refine append_byt rfl (.tmp 67) (.tmp 75) rfl w2.heap.size _ (p1) [(mk : Int)] 1 rfl (by decide) rfl wr.heap.size rfl (own_below HO.out L1.out) HCN.out hlen (by decide) (by have := HB.out.size; have := L1.out.size; omega) ?_; intro g' cap' w5 ho5 hb5; generalize ((p1) ++ [(mk : Int)]).length = nl2 at ho5 ⊢)
          have B5 := Lib.hid (HB.out.trans ((L1.out.mono HB.out.size).trans hb5))
          have HO5 := Lib.hid ho5
          clear ho5 hb5 L1 HCN cc0 cc1 cc2 cc3 ccl yb4 lb4 yr4 lr4 KcR
          obtain ⟨p2, hp2⟩ : ∃ z, z = p1 ++ [(mk : Int)] := ⟨_, rfl⟩
          rw [← hp2] at HO5
          have HP2 := Lib.hid hp2
          have hp2l : p2.length ≤ 600000 := by rw [hp2, List.length_append, HP1.out, List.length_append, ← HNKL.out]; simp only [List.length_cons, List.length_nil]; omega
          clear hp2 hlen HO HB u1
          go_loopg [10, 13] mk (fun fuel mv i' wi => ∃ (j : Nat), i' = .int .i64 j ∧ j ≤ mk ∧ mk - j ≤ fuel ∧ OwnY wi w2.heap.size mv (p2 ++ (bl.take j).flatMap entE) ∧ Below w2.heap.size w2 wi)
          case atStart => exact ⟨0, rfl, Nat.zero_le _, Nat.le_refl _, by rw [List.take_zero, List.flatMap_nil, List.append_nil]; exact HO5.out, B5.out⟩
          case round =>
            clear HO5 B5
            obtain ⟨i, rfl, hj, hf', ho, hb⟩ := hrel
            have HB := Lib.hid hb
            have HO := Lib.hid ho
            have KcR := Lib.hid (Kc.out.below hb)
            clear ho hb
            obtain ⟨ad3, cap3, rfl, _⟩ := own_shape' HO.out
            generalize hnv3 : (p2 ++ (bl.take i).flatMap entE).length = nv3 at HO ⊢
            replace hnv3 := Lib.hid hnv3
            obtain ⟨yb4, lb4⟩ := HBR.out wr HB.out
            obtain ⟨cc0, cc1, cc2, cc3, ccl⟩ := bk4 KcR.out
            by_cases hli : i < mk
            ·
              obtain ⟨b4, o4, rfl, l4, y4, z4⟩ := EntsD.at2 HBD.out i (by rw [← HMK.out]; exact hli)
              have hx := HBB.out _ (List.getElem_mem (show i < bl.length by rw [← HMK.out]; exact hli))
              have HTK := Lib.hid (ents_next bl i (by rw [← HMK.out]; exact hli))
              generalize (bl[i]'(by rw [← HMK.out]; exact hli)).1 = ev at y4 hx HTK
              generalize (bl[i]'(by rw [← HMK.out]; exact hli)).2 = nv4 at z4 hx HTK
              have u1 : IntKind.u8.wrap ev = ev := by show ev % 256 = _; omega
              have u2 : IntKind.u8.wrap nv4 = nv4 := by show nv4 % 256 = _; omega
              have h1 : (0 : Int) ≤ (i : Int) := by omega
              have h2 : (i : Int) < (mk : Int) := by omega
              have f2 : (k : Int) < (np : Int) := by have := HLT.out; omega
              have y4' := (HB.out.cell (p := ⟨b4, _, none⟩) l4).trans y4
              have z4' := (HB.out.cell (p := ⟨b4, _, none⟩) l4).trans z4
              have l4' := Nat.lt_of_lt_of_le l4 HB.out.size
              have hlen : (p2 ++ (bl.take i).flatMap entE).length ≤ 1000000 := by rw [List.length_append, ents_len, List.length_take]; omega
              go_wp2_with fail
              clear cc0 cc1 cc2 cc3 ccl y4' z4' l4' yb4 lb4
              have HCC := Lib.hid (fun (W1 : World) (h : Below w2.heap.size w2 W1) => (⟨(h.cell (p := ⟨w.heap.size + 1, _, none⟩) Kc.out.lt).trans (Kc.out.cell 3), (HBR.out W1 h).1, (h.cell (p := ⟨b4, _, none⟩) l4).trans y4, (h.cell (p := ⟨b4, _, none⟩) l4).trans z4, trivial⟩ : (fun W1 => W1.cell? ⟨w.heap.size + 1, 3, none⟩ = some (.slice (some ⟨bbb, obb, none⟩) np cb) ∧ W1.cell? ⟨bbb, obb + k, none⟩ = some (.slice (some ⟨b4, o4, none⟩) mk mbf) ∧ W1.cell? ⟨b4, o4 + i * 2, none⟩ = some (.int .i64 ev) ∧ W1.cell? ⟨b4, o4 + i * 2 + 1, none⟩ = some (.int .i64 nv4) ∧ True) W1))
              refine wp_region_held_drew (S := fun W1 => W1.cell? ⟨w.heap.size + 1, 3, none⟩ = some (.slice (some ⟨bbb, obb, none⟩) np cb) ∧ W1.cell? ⟨bbb, obb + k, none⟩ = some (.slice (some ⟨b4, o4, none⟩) mk mbf) ∧ W1.cell? ⟨b4, o4 + i * 2, none⟩ = some (.int .i64 ev) ∧ W1.cell? ⟨b4, o4 + i * 2 + 1, none⟩ = some (.int .i64 nv4) ∧ True) (by kernel_rfl) (HCC.out _ HB.out.drew) (fun hS => ?_)
              refine wpAnyH_take (i := 0) (v := .slice ad3 nv3 cap3) rfl (by kernel_rfl) (by kernel_rfl) (by kernel_rfl) (fun _ _ _ h => h) (Or.inl ⟨by rfl, fun w hSw => by obtain ⟨s0, s1, s2, s3, _⟩ := hSw; first | (go_simp; done) | (go_simp; with_reducible rfl)⟩) hS ?_
              simp only [Act.put, List.setIfInBounds_toArray, List.set_cons_zero, List.set_cons_succ]
              refine wpAnyH_take (i := 1) (v := .pointer (some ⟨w.heap.size + 1, 3, none⟩)) rfl (by kernel_rfl) (by kernel_rfl) (by kernel_rfl) (fun _ _ _ h => h) (Or.inl ⟨by rfl, fun w hSw => by obtain ⟨s0, s1, s2, s3, _⟩ := hSw; first | (go_simp; done) | (go_simp; with_reducible rfl)⟩) hS ?_
              simp only [Act.put, List.setIfInBounds_toArray, List.set_cons_zero, List.set_cons_succ]
              refine wpAnyH_take (i := 2) (v := .slice (some ⟨bbb, obb, none⟩) np cb) rfl (by kernel_rfl) (by kernel_rfl) (by kernel_rfl) (fun _ _ _ h => h) (Or.inl ⟨by rfl, fun w hSw => by obtain ⟨s0, s1, s2, s3, _⟩ := hSw; first | (go_simp; done) | (go_simp; with_reducible rfl)⟩) hS ?_
              simp only [Act.put, List.setIfInBounds_toArray, List.set_cons_zero, List.set_cons_succ]
              refine wpAnyH_take (i := 3) (v := .int .i64 k) rfl (by kernel_rfl) (by kernel_rfl) (by kernel_rfl) (fun _ _ _ h => h) (Or.inl ⟨by rfl, fun w hSw => by obtain ⟨s0, s1, s2, s3, _⟩ := hSw; first | (go_simp; done) | (go_simp; with_reducible rfl)⟩) hS ?_
              simp only [Act.put, List.setIfInBounds_toArray, List.set_cons_zero, List.set_cons_succ]
              refine wpAnyH_take (i := 4) (v := .pointer (some ⟨bbb, obb + k, none⟩)) rfl (by kernel_rfl) (by kernel_rfl) (by kernel_rfl) (fun _ _ _ h => h) (Or.inl ⟨by rfl, fun w hSw => by obtain ⟨s0, s1, s2, s3, _⟩ := hSw; first | (go_simp; done) | (go_simp; with_reducible rfl)⟩) hS ?_
              simp only [Act.put, List.setIfInBounds_toArray, List.set_cons_zero, List.set_cons_succ]
              refine wpAnyH_take (i := 5) (v := .slice (some ⟨b4, o4, none⟩) mk mbf) rfl (by kernel_rfl) (by kernel_rfl) (by kernel_rfl) (fun _ _ _ h => h) (Or.inl ⟨by rfl, fun w hSw => by obtain ⟨s0, s1, s2, s3, _⟩ := hSw; first | (go_simp; done) | (go_simp; with_reducible rfl)⟩) hS ?_
              simp only [Act.put, List.setIfInBounds_toArray, List.set_cons_zero, List.set_cons_succ]
              refine wpAnyH_take (i := 6) (v := .int .i64 i) rfl (by kernel_rfl) (by kernel_rfl) (by kernel_rfl) (fun _ _ _ h => h) (Or.inl ⟨by rfl, fun w hSw => by obtain ⟨s0, s1, s2, s3, _⟩ := hSw; first | (go_simp; done) | (go_simp; with_reducible rfl)⟩) hS ?_
              simp only [Act.put, List.setIfInBounds_toArray, List.set_cons_zero, List.set_cons_succ]
              refine wpAnyH_take (i := 7) (v := .pointer (some ⟨b4, o4 + i * 2, none⟩)) rfl (by kernel_rfl) (by kernel_rfl) (by kernel_rfl) (fun _ _ _ h => h) (Or.inl ⟨by rfl, fun w hSw => by obtain ⟨s0, s1, s2, s3, _⟩ := hSw; first | (go_simp; done) | (go_simp; with_reducible rfl)⟩) hS ?_
              simp only [Act.put, List.setIfInBounds_toArray, List.set_cons_zero, List.set_cons_succ]
              refine wpAnyH_take (i := 8) (v := .pointer (some ⟨b4, o4 + i * 2, none⟩)) rfl (by kernel_rfl) (by kernel_rfl) (by kernel_rfl) (fun _ _ _ h => h) (Or.inl ⟨by rfl, fun w hSw => by obtain ⟨s0, s1, s2, s3, _⟩ := hSw; first | (go_simp; done) | (go_simp; with_reducible rfl)⟩) hS ?_
              simp only [Act.put, List.setIfInBounds_toArray, List.set_cons_zero, List.set_cons_succ]
              refine wpAnyH_take (i := 9) (v := .int .i64 ev) rfl (by kernel_rfl) (by kernel_rfl) (by kernel_rfl) (fun _ _ _ h => h) (Or.inl ⟨by rfl, fun w hSw => by obtain ⟨s0, s1, s2, s3, _⟩ := hSw; first | (go_simp; done) | (go_simp; with_reducible rfl)⟩) hS ?_
              simp only [Act.put, List.setIfInBounds_toArray, List.set_cons_zero, List.set_cons_succ]
              refine wpAnyH_take (i := 10) (v := .int .u8 ev) rfl (by kernel_rfl) (by kernel_rfl) (by kernel_rfl) (fun _ _ _ h => h) (Or.inl ⟨by rfl, fun w hSw => by obtain ⟨s0, s1, s2, s3, _⟩ := hSw; first | (go_simp; done) | (go_simp; with_reducible rfl)⟩) hS ?_
              simp only [Act.put, List.setIfInBounds_toArray, List.set_cons_zero, List.set_cons_succ]
              refine wpAnyH_take (i := 11) (v := .pointer (some ⟨w.heap.size + 1, 3, none⟩)) rfl (by kernel_rfl) (by kernel_rfl) (by kernel_rfl) (fun _ _ _ h => h) (Or.inl ⟨by rfl, fun w hSw => by obtain ⟨s0, s1, s2, s3, _⟩ := hSw; first | (go_simp; done) | (go_simp; with_reducible rfl)⟩) hS ?_
              simp only [Act.put, List.setIfInBounds_toArray, List.set_cons_zero, List.set_cons_succ]
              refine wpAnyH_take (i := 12) (v := .slice (some ⟨bbb, obb, none⟩) np cb) rfl (by kernel_rfl) (by kernel_rfl) (by kernel_rfl) (fun _ _ _ h => h) (Or.inl ⟨by rfl, fun w hSw => by obtain ⟨s0, s1, s2, s3, _⟩ := hSw; first | (go_simp; done) | (go_simp; with_reducible rfl)⟩) hS ?_
              simp only [Act.put, List.setIfInBounds_toArray, List.set_cons_zero, List.set_cons_succ]
              refine wpAnyH_take (i := 13) (v := .int .i64 k) rfl (by kernel_rfl) (by kernel_rfl) (by kernel_rfl) (fun _ _ _ h => h) (Or.inl ⟨by rfl, fun w hSw => by obtain ⟨s0, s1, s2, s3, _⟩ := hSw; first | (go_simp; done) | (go_simp; with_reducible rfl)⟩) hS ?_
              simp only [Act.put, List.setIfInBounds_toArray, List.set_cons_zero, List.set_cons_succ]
              refine wpAnyH_take (i := 14) (v := .pointer (some ⟨bbb, obb + k, none⟩)) rfl (by kernel_rfl) (by kernel_rfl) (by kernel_rfl) (fun _ _ _ h => h) (Or.inl ⟨by rfl, fun w hSw => by obtain ⟨s0, s1, s2, s3, _⟩ := hSw; first | (go_simp; done) | (go_simp; with_reducible rfl)⟩) hS ?_
              simp only [Act.put, List.setIfInBounds_toArray, List.set_cons_zero, List.set_cons_succ]
              refine wpAnyH_take (i := 15) (v := .slice (some ⟨b4, o4, none⟩) mk mbf) rfl (by kernel_rfl) (by kernel_rfl) (by kernel_rfl) (fun _ _ _ h => h) (Or.inl ⟨by rfl, fun w hSw => by obtain ⟨s0, s1, s2, s3, _⟩ := hSw; first | (go_simp; done) | (go_simp; with_reducible rfl)⟩) hS ?_
              simp only [Act.put, List.setIfInBounds_toArray, List.set_cons_zero, List.set_cons_succ]
              refine wpAnyH_take (i := 16) (v := .int .i64 i) rfl (by kernel_rfl) (by kernel_rfl) (by kernel_rfl) (fun _ _ _ h => h) (Or.inl ⟨by rfl, fun w hSw => by obtain ⟨s0, s1, s2, s3, _⟩ := hSw; first | (go_simp; done) | (go_simp; with_reducible rfl)⟩) hS ?_
              simp only [Act.put, List.setIfInBounds_toArray, List.set_cons_zero, List.set_cons_succ]
              refine wpAnyH_take (i := 17) (v := .pointer (some ⟨b4, o4 + i * 2, none⟩)) rfl (by kernel_rfl) (by kernel_rfl) (by kernel_rfl) (fun _ _ _ h => h) (Or.inl ⟨by rfl, fun w hSw => by obtain ⟨s0, s1, s2, s3, _⟩ := hSw; first | (go_simp; done) | (go_simp; with_reducible rfl)⟩) hS ?_
              simp only [Act.put, List.setIfInBounds_toArray, List.set_cons_zero, List.set_cons_succ]
              refine wpAnyH_take (i := 18) (v := .pointer (some ⟨b4, o4 + i * 2 + 1, none⟩)) rfl (by kernel_rfl) (by kernel_rfl) (by kernel_rfl) (fun _ _ _ h => h) (Or.inl ⟨by rfl, fun w hSw => by obtain ⟨s0, s1, s2, s3, _⟩ := hSw; first | (go_simp; done) | (go_simp; with_reducible rfl)⟩) hS ?_
              simp only [Act.put, List.setIfInBounds_toArray, List.set_cons_zero, List.set_cons_succ]
              refine wpAnyH_take (i := 19) (v := .int .i64 nv4) rfl (by kernel_rfl) (by kernel_rfl) (by kernel_rfl) (fun _ _ _ h => h) (Or.inl ⟨by rfl, fun w hSw => by obtain ⟨s0, s1, s2, s3, _⟩ := hSw; first | (go_simp; done) | (go_simp; with_reducible rfl)⟩) hS ?_
              simp only [Act.put, List.setIfInBounds_toArray, List.set_cons_zero, List.set_cons_succ]
              refine wpAnyH_take (i := 20) (v := .int .u8 nv4) rfl (by kernel_rfl) (by kernel_rfl) (by kernel_rfl) (fun _ _ _ h => h) (Or.inl ⟨by rfl, fun w hSw => by obtain ⟨s0, s1, s2, s3, _⟩ := hSw; first | (go_simp; done) | (go_simp; with_reducible rfl)⟩) hS ?_
              simp only [Act.put, List.setIfInBounds_toArray, List.set_cons_zero, List.set_cons_succ]
              refine wpAnyH_ready (rs := [21]) (by kernel_rfl) (by simp) ?_
              refine AllReadyH.cons rfl (fun K hK => ?_) AllReadyH.nil
              go_simp
              have KN : Bk (World.alloc wr (.cells #[.int .u8 (ev), .int .u8 (nv4)] 5)).drew wr.heap.size 5 #[.int .u8 (ev), .int .u8 (nv4)] := Bk.new wr.drew _ _
              have BN : Below wr.heap.size wr (World.alloc wr (.cells #[.int .u8 (ev), .int .u8 (nv4)] 5)).drew := bdr (bal (Below.refl _ _) _)
              have HO2 := Lib.hid (own_below HO.out BN)
              have HB2 := Lib.hid (HB.out.trans (BN.mono HB.out.size))
              refine hK.out _ _ (HCC.out _ HB2.out) (fun hS => ?_)
              clear hK K
              refine wpAnyH_ready (rs := [22]) (by kernel_rfl) (by simp) ?_
              refine AllReadyH.cons rfl (fun K hK => ?_) AllReadyH.nil
              rw [if_pos (by rfl)]
              refine append_byt_wp (.tmp 87) (.tmp 108) rfl w2.heap.size (.slice ad3 nv3 cap3) (p2 ++ (bl.take i).flatMap entE) [ev, nv4] 2 rfl (by decide) rfl wr.heap.size rfl HO2.out KN (by omega) (by decide) HB2.out.size ?_
              intro g' cap' w7 ho4 hb4
              generalize hnl : ((p2 ++ (bl.take i).flatMap entE) ++ [ev, nv4]).length = nl at ho4 ⊢
              replace hnl := Lib.hid hnl
              have HO3 := Lib.hid ho4
              have HB3 := Lib.hid (HB2.out.trans hb4)
              refine hK.out _ _ (HCC.out _ HB3.out) (fun hS => ?_)
              clear hK K ho4 hb4 KN BN HO2 HB2
              refine wpAnyH_ready (rs := [23]) (by kernel_rfl) (by simp) ?_
              refine AllReadyH.cons rfl (fun K hK => ?_) AllReadyH.nil
              go_simp
              go_wp2_with (fail)
              refine hK.out _ _ (HCC.out _ HB3.out) (fun hS => ?_)
              clear hK K hS
              refine wpAnyH_done (by kernel_rfl) ?_ _
              try simp only [Act.put, List.setIfInBounds_toArray, List.set_cons_zero, List.set_cons_succ]
              go_wp2_with fail
              go_roundg (gk - 1)
              case measure => omega
              case rel => exact ⟨i + 1, by go_num, by omega, by omega, by rw [HTK.out, ← List.append_assoc]; exact HO3.out, HB3.out⟩
            obtain rfl : i = mk := by omega
            replace HO := HO.out
            rw [show bl.take i = bl by rw [HMK.out, List.take_length]] at HO
            have hup : p2 ++ bl.flatMap entE = upP c.pf (k + 1) := by
              rw [HNK2.out, HP2.out, HP1.out, HP0.out, HMK.out]
              unfold thrE
              simp
            rw [hup] at HO
            replace HO := Lib.hid HO
            clear hup
            go_wp2_with fail
            go_roundg (gk1 - 1)
            case measure => have := HLT.out; omega
            case rel => exact ⟨k + 1, by go_num, by have := HLT.out; omega, by have := HLT.out; omega, HO.out, HB.out⟩
      obtain rfl : k = np := by omega
      have hup : upP c.pf k = thsE c.pf.pc c.pf.regs c.pf.buf := by have := up_all HSL.out.lr HSL.out.lb; rw [HLN.out.1] at this; exact this
      obtain ⟨P, hP⟩ : ∃ z, z = upP c.pf k := ⟨_, rfl⟩
      rw [← hP] at HO hup ⊢
      have HUA := Lib.hid hup
      have hPl : P.length ≤ 500000 := by have h1 := HUP.out k (by rw [HLN.out.1]; exact Nat.le_refl _); have h2 := HEL.out; rw [hP]; omega
      generalize hnv0 : P.length = nv0 at HO ⊢
      replace hnv0 := Lib.hid hnv0
      clear hP hup hf hk hlt
      have hm6 := h4
      obtain ⟨cc0, cc1, cc2, cc3, ccl⟩ := bk4 KcR.out
      go_wp2_with fail
      clear cc0 cc1 cc2 cc3 ccl
      go_loopg [10, 14] nm (fun fuel mv i' wi => ∃ (j : Nat), i' = .int .i64 j ∧ j ≤ nm ∧ nm - j ≤ fuel ∧ OwnY wi w2.heap.size mv (P ++ c.mem.take j) ∧ Below w2.heap.size w2 wi)
      case atStart => exact ⟨0, rfl, Nat.zero_le _, Nat.le_refl _, by rw [List.take_zero, List.append_nil]; exact HO.out, HB.out⟩
      case round =>
        clear HO HB BR KcR
        obtain ⟨j, rfl, hj, hf', ho, hb⟩ := hrel
        have HB := Lib.hid hb
        have HO := Lib.hid ho
        have KcR := Lib.hid (Kc.out.below hb)
        clear ho hb
        obtain ⟨ad3, cap3, rfl, _⟩ := own_shape' HO.out
        generalize hnv3 : (P ++ c.mem.take j).length = nv3 at HO ⊢
        replace hnv3 := Lib.hid hnv3
        obtain ⟨cc0, cc1, cc2, cc3, ccl⟩ := bk4 KcR.out
        by_cases hlj : j < nm
        ·
          have hjm : j < c.mem.length := by rw [← HN.out.2.2.1]; exact hlj
          obtain ⟨bm, om, rfl, lm, ym⟩ := HMA.out w2 B.out j hjm
          have hx := HSL.out.m _ (List.getElem_mem (show j < c.pf.mem.length from hjm))
          replace hx : 0 ≤ c.mem[j] ∧ c.mem[j] < 16 := hx
          have HTK := Lib.hid (take_next c.mem j hjm)
          rw [List.getD_eq_getElem?_getD, List.getElem?_eq_getElem hjm] at HTK
          replace HTK : Hid (c.mem.take (j + 1) = c.mem.take j ++ [c.mem[j]]) := HTK
          generalize c.mem[j] = xv at ym hx HTK
          have u1 : IntKind.u8.wrap xv = xv := by show xv % 256 = _; omega
          have h1 : (0 : Int) ≤ (j : Int) := by omega
          have h2 : (j : Int) < (nm : Int) := by omega
          have hlen : (P ++ c.mem.take j).length ≤ 1000000 := by rw [List.length_append, List.length_take]; omega
          have ym' := (HB.out.cell (p := ⟨bm, _, none⟩) lm).trans ym
          have lm' := Nat.lt_of_lt_of_le lm HB.out.size
          have L1 : Hid (Below wr.heap.size wr (wr.alloc (.cells #[.int .u8 xv] 5))) := Lib.hid (bal (Below.refl _ _) _)
          have HCN : Hid (∀ (i : Nat) (u : Value), (rowY [xv])[i]? = some u → (wr.alloc (.cells #[.int .u8 xv] 5)).cell? ⟨wr.heap.size, i, none⟩ = some u) := Lib.hid (fun i u h => ((Bk.new wr 5 #[.int .u8 xv]).cell i).trans (by simpa [rowY] using h))
          go_wp2_with (at_builtin; refine append_byt rfl (.tmp 117) (.tmp 124) rfl w2.heap.size _ (P ++ c.mem.take j) [xv] 1 rfl (by decide) rfl wr.heap.size rfl (own_below HO.out L1.out) HCN.out hlen (by decide) (by have := HB.out.size; have := L1.out.size; omega) ?_; intro g' cap' w5 ho5 hb5; generalize ((P ++ c.mem.take j) ++ [xv]).length = nl2 at ho5 ⊢)
          have B5 := Lib.hid (HB.out.trans (L1.out.mono HB.out.size))
          go_roundg (gk - 1)
          case measure => omega
          case rel => exact ⟨j + 1, by go_num, by omega, by omega, by rw [HTK.out, ← List.append_assoc]; exact ho5, B5.out.trans hb5⟩
        obtain rfl : j = nm := by omega
        replace HO := HO.out
        rw [show c.mem.take j = c.mem by rw [HN.out.2.2.1, List.take_length]] at HO
        have hE : P ++ c.mem = encP c.pf := by unfold encP; rw [HUA.out]; rfl
        rw [hE] at HO
        have hcv := conv_byt HO
        replace HO := Lib.hid HO
        clear hE
        go_wp2_with fail
        refine bodyPost_ret (v := .tuple #[.string (bytZ (encP c.pf)), .int .i64 0]) (by simp [results, Try.results11, go_sem]) rfl ⟨rfl, B.out.trans (HB.out.mono B.out.size)⟩

end Go.Proofs.Ytmkgijedchpgcaa
