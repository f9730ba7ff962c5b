/- Layer 12, the code: Decode. -/
import Derived.Test.YtmkgijedchpgcaaEr
import Derived.Test.YtmkgijedchpgcaaEj
import Derived.Test.YtmkgijedchpgcaaVe
namespace Go.Proofs.Ytmkgijedchpgcaa
set_option linter.unusedSimpArgs false
set_option linter.unusedVariables false
open Go.RowKit

set_option maxRecDepth 100000 in
set_option maxHeartbeats 8000000 in
theorem pdecode_no (u : Un) (s : ByteArray) (model room : Int) (vi vr vc : Value) (w : World) (hu : UnD w vi vr vc u) (hsu : ShortU u) (hr : rightU u = false) :
    Calls Try.prog 15 #[.agg #[.int .i64 u.mod, vi, vr, vc], .string s, .int .i64 model, .int .i64 room] w fun e w' => e = .returned (.tuple #[.agg #[.slice none 0 0, .slice none 0 0, .slice none 0 0, .slice none 0 0], .int .i64 8]) ∧ Below w.heap.size w w' := by
  have HST := Lib.hid (fun (W : World) (h : Below w.heap.size w W) => nstart_no u _ _ _ W (hu.below h) hsu hr)
  obtain ⟨xi, ci, rfl⟩ := hu.i.shape0
  obtain ⟨xr, cr, rfl⟩ := hu.r.shape0
  obtain ⟨xc, cc, rfl⟩ := hu.c.shape0
  generalize u.mod = m at HST ⊢
  generalize u.init.length = ni at HST ⊢
  generalize u.regs.length = nr at HST ⊢
  generalize u.code.length = nc at HST ⊢
  clear hu hsu hr
  go_enter Try.func15, Try.ntmps15
  go_wp2_with fail
  have T2 := Lib.hid (two_new w 25 29 #[.int .i64 m, .slice xi ni ci, .slice xr nr cr, .slice xc nc cc] #[.slice none 0 0, .slice none 0 0, .slice none 0 0, .slice none 0 0])
  obtain ⟨L0, KA0, KB0⟩ := T2.out
  have LL := Lib.hid L0
  have KB := Lib.hid KB0
  clear L0 KA0 KB0 T2
  generalize (w.alloc _).alloc _ = w0 at LL KB ⊢
  refine (HST.out _ LL.out).mono ?_
  rintro e w1 ⟨rfl, b1⟩
  have HBL : Hid (Below w.heap.size w w1) := Lib.hid (LL.out.trans (b1.mono LL.out.size))
  have KC1 := Lib.hid (KB.out.below b1)
  have LT : w.heap.size ≤ w.heap.size + 1 := by omega
  clear b1
  obtain ⟨d0, d1, d2, d3, l1⟩ := bk4 KC1.out
  obtain ⟨f0, f1, f2, f3⟩ := bkf4 KC1.out
  go_wp2_with fail
  have KD := bk_alloc (set4_bk (.slice none 0 0) (.slice none 0 0) (.slice none 0 0) (.slice none 0 0) KC1.out) (.cells #[.slice none 0 0, .slice none 0 0, .slice none 0 0, .slice none 0 0] 29)
  have LD := bal (set4_below (.slice none 0 0) (.slice none 0 0) (.slice none 0 0) (.slice none 0 0) HBL.out LT) (.cells #[.slice none 0 0, .slice none 0 0, .slice none 0 0, .slice none 0 0] 29)
  generalize World.alloc ((((w1.setCell _ _).setCell _ _).setCell _ _).setCell _ _) _ = w9 at KD LD ⊢
  clear d0 d1 d2 d3 f0 f1 f2 f3 l1
  have d0 : w9.cell? ⟨w.heap.size + 1, 0, none⟩ = some _ := KD.cell 0
  have d1 : w9.cell? ⟨w.heap.size + 1, 1, none⟩ = some _ := KD.cell 1
  have d2 : w9.cell? ⟨w.heap.size + 1, 2, none⟩ = some _ := KD.cell 2
  have d3 : w9.cell? ⟨w.heap.size + 1, 3, none⟩ = some _ := KD.cell 3
  refine bodyPost_ret (v := .tuple #[.agg #[.slice none 0 0, .slice none 0 0, .slice none 0 0, .slice none 0 0], .int .i64 8]) (by simp [results, Try.results15, go_sem, d0, d1, d2, d3]) rfl ?_
  exact ⟨rfl, LD⟩


theorem Fr.undrew {B N : Nat} {w w' : World} (h : Fr B N w.drew w') : Fr B N w w' := ⟨(Below.drew (Below.refl B w)).trans h.b, h.k⟩
/-- What Decode gives. -/
def DecAns (o : Option Pf) (w : World) (e : Ending) (w' : World) : Prop :=
  match o with
  | some p => DecIs p w e w'
  | none => e = .returned (.tuple #[.agg #[.slice none 0 0, .slice none 0 0, .slice none 0 0, .slice none 0 0], .int .i64 8]) ∧ Below w.heap.size w w'

set_option maxRecDepth 100000 in
set_option maxHeartbeats 16000000 in
theorem pdecode_yes (u : Un) (s : ByteArray) (model room : Int) (vi vr vc : Value) (w : World) (hu : UnD w vi vr vc u) (hsu : ShortU u) (hr : rightU u = true) (hs : s.size ≤ 100000) :
    Calls Try.prog 15 #[.agg #[.int .i64 u.mod, vi, vr, vc], .string s, .int .i64 model, .int .i64 room] w (DecAns (decZ u s model room) w) := by
  have HST := Lib.hid (fun (W : World) (h : Below w.heap.size w W) => nstart_dj u _ _ _ W (hu.below h) hsu hr)
  have HRT := Lib.hid (fun (W : World) (h : Below w.heap.size w W) (c : Cf) (xp xr xm xb : Value) (hc : CfD W xp xr xm xb c) (hp : c.pf = pfZ u s) => nright_any u c model room _ _ _ _ _ _ _ W (hu.below h) hc hsu (pfZ_short hr hp) (rightZ u (pfZ u s) model room) (right_pfZ hp model room))
  have HDZ := Lib.hid (decZ_iff u s model room)
  have HLB := Lib.hid (fun k => lens_bd hr k)
  have HPB := Lib.hid (fun k hk => pos_bd s hr k hk)
  have hu4 := rightU_lc hr
  have HZ0 := Lib.hid (pfK_zero u s hu4.2.2.2.2.2)
  have HNZ := Lib.hid (nZ_eq u)
  have HN4 : Hid (nZ u ≤ 4 ∧ u.init.length ≤ 6) := Lib.hid (by rw [nZ_eq]; omega)
  have HSS := Lib.hid hs
  obtain ⟨xi, ci, rfl⟩ := hu.i.shape0
  obtain ⟨xr, cr, rfl⟩ := hu.r.shape0
  obtain ⟨xc, cc, rfl⟩ := hu.c.shape0
  generalize hni : u.init.length = ni at HST HRT ⊢
  generalize hnr : u.regs.length = nr at HST HRT ⊢
  generalize hnc : u.code.length = nc at HST HRT ⊢
  generalize hmd : u.mod = md at HST HRT ⊢
  have HNI := Lib.hid hni
  clear hu hsu hr hs hu4 hni hnr hnc hmd
  go_enter Try.func15, Try.ntmps15
  go_wp2_with fail
  have T2 := Lib.hid (two_new w 25 29 #[.int .i64 md, .slice xi ni ci, .slice xr nr cr, .slice xc nc cc] #[.slice none 0 0, .slice none 0 0, .slice none 0 0, .slice none 0 0])
  obtain ⟨L0, KA0, KB0⟩ := T2.out
  have LL := Lib.hid L0
  have KA := Lib.hid KA0
  have KB := Lib.hid KB0
  clear L0 KA0 KB0 T2
  generalize (w.alloc _).alloc _ = w1 at LL KA KB ⊢
  refine (HST.out _ LL.out).mono ?_
  rintro e w2 ⟨c0, xp, xr', xm, xb, rfl, o2, p2, b2, d2⟩
  obtain ⟨B, hB⟩ : ∃ B, B = w1.heap.size := ⟨_, rfl⟩
  obtain ⟨N, hN⟩ : ∃ N, N = w2.heap.size := ⟨_, rfl⟩
  have HBW : Hid (w.heap.size + 1 < B) := Lib.hid (by rw [hB]; exact KB.out.lt)
  have hSt := St.of o2 d2 b2.size
  rw [← hN, ← hB] at hSt
  have HS2 := Lib.hid hSt
  have B2 : Hid (Below B w1 w2) := Lib.hid (by rw [hB]; exact b2)
  have HP2 : Hid (c0.pf = pfK u s 0) := Lib.hid (by rw [p2, HZ0.out])
  have LL2 := Lib.hid (LL.out.trans (b2.mono LL.out.size))
  have HBE := Lib.hid hB
  have HXR : Hid (∀ g, xr'.ownBlock = some g → g < N) := Lib.hid (fun g hg => by rw [hN]; exact (o2.r.h.lt g hg).2)
  clear hSt o2 d2 p2 b2 hB
  obtain ⟨a0, n0, a1, n1, a2, n2, a3, n3, rfl, rfl, rfl, rfl⟩ := HS2.out.o.shapes
  have HLN : Hid (c0.pc.length = nZ u ∧ c0.regs.length = nZ u ∧ c0.mem.length = ni ∧ c0.buf.length = nZ u) := Lib.hid (by
    have h := HP2.out
    unfold Cf.pf pfK at h
    simp only [Pf.mk.injEq] at h
    obtain ⟨h1, h2, h3, h4⟩ := h
    refine ⟨by rw [h1]; exact mix_len _ _ _ _, ?_, by rw [h3]; exact HNI.out, ?_⟩
    · have := congrArg List.length h2
      rw [List.length_map] at this
      rw [this]; exact mix_len _ _ _ _
    · have := congrArg List.length h4
      rw [List.length_map] at this
      rw [this]; exact mix_len _ _ _ _)
  rw [HLN.out.1, HLN.out.2.1, HLN.out.2.2.1, HLN.out.2.2.2] at HS2 ⊢
  rw [HLN.out.2.1] at HXR
  clear HLN
  obtain ⟨n, hn⟩ : ∃ n, n = nZ u := ⟨_, rfl⟩
  rw [← hn] at HS2 HXR HN4 ⊢
  have HNN := Lib.hid hn
  clear hn
  obtain ⟨q, hq⟩ : ∃ q, q = N + 1 := ⟨_, rfl⟩
  have HD2 : Hid (DecS B N q w1 (World.alloc (World.alloc w2 (.cells #[.slice a0 n n0, .slice a1 n n1, .slice a2 ni n2, .slice a3 n n3] 29)) (.cells #[.string s, .bool false] 61)) (.slice a0 n n0) (.slice a1 n n1) (.slice a2 ni n2) (.slice a3 n n3) c0 s 0) := Lib.hid (by
    have bb : Below w2.heap.size w2 (World.alloc (World.alloc w2 (.cells #[.slice a0 n n0, .slice a1 n n1, .slice a2 ni n2, .slice a3 n n3] 29)) (.cells #[.string s, .bool false] 61)) := bal (bal (Below.refl _ _) _) _
    refine ⟨HS2.out.below bb, B2.out.trans (bb.mono (by have := HS2.out.bn; omega)), ?_, ?_, by omega⟩
    · rw [hN]
      exact bk_alloc (Bk.new w2 _ _) _
    · unfold SrcAt srcV
      rw [rest_all, decide_eq_false (by omega), hq, hN]
      exact bk_at2 _ _ _ _)
  rw [hN] at hq
  have HQE := Lib.hid hq
  have HNE := Lib.hid hN
  clear hq
  go_wp2_with fail
  rw [← hN] at ⊢
  rw [show N + 1 = q by have := HQE.out; omega]
  clear hN
  generalize World.alloc (World.alloc w2 _) _ = w3 at HD2 ⊢
  have HKW : Hid (∀ W, Below B w1 W → Below w.heap.size w W ∧ Bk W w.heap.size 25 #[.int .i64 md, .slice xi ni ci, .slice xr nr cr, .slice xc nc cc] ∧ Bk W (w.heap.size + 1) 29 #[.slice none 0 0, .slice none 0 0, .slice none 0 0, .slice none 0 0]) := Lib.hid (fun W h => by
    have h1 := HBW.out
    exact ⟨LL.out.trans (h.mono (by omega)), (h.block _ (by omega)).trans KA.out, (h.block _ h1).trans KB.out⟩)
  have HZ2 : Hid (DecS B N q w1 w3 (.slice a0 n n0) (.slice a1 n n1) (.slice a2 ni n2) (.slice a3 n n3) c0 s (posF (numZ s) (lensZ u) 0 0)) := Lib.hid (by rw [pos_zero]; exact HD2.out)
  clear HS2 B2 LL2 HD2
  go_loopg [28] n (fun fuel i' wr => ∃ (k : Nat) (c : Cf), i' = .int .i64 k ∧ k ≤ n ∧ n - k ≤ fuel ∧ DecS B N q w1 wr (.slice a0 n n0) (.slice a1 n n1) (.slice a2 ni n2) (.slice a3 n n3) c s (posF (numZ s) (lensZ u) 0 k) ∧ c.pf = pfK u s k)
  case atStart => exact ⟨0, c0, rfl, Nat.zero_le _, Nat.le_refl _, HZ2.out, HP2.out⟩
  case round =>
    obtain ⟨k, c, rfl, hk, hf, hd, hp⟩ := hrel
    have HD := Lib.hid hd
    have HP := Lib.hid hp
    clear hd hp HZ2 HP2
    by_cases hlt : k < n
    · have hkz : k < nZ u := by rw [← HNN.out]; exact hlt
      have HKZ := Lib.hid hkz
      have HLT := Lib.hid hlt
      have HPN : Hid (posF (numZ s) (lensZ u) 0 (k + 1) = posF (numZ s) (lensZ u) 0 k + 3 + (lensZ u).getD k 0 + 2 * cntF (numZ s) (lensZ u) 0 k) := Lib.hid (pos_next _ _ _ _ hkz)
      have hr6 := HLB.out k
      obtain ⟨p, hpe⟩ : ∃ p, p = posF (numZ s) (lensZ u) 0 k := ⟨_, rfl⟩
      have HPE := Lib.hid hpe
      rw [← hpe] at HD HPN
      have a0' := atZ_byte (numZ s) (num_bd s) p
      have a1' := atZ_byte (numZ s) (num_bd s) (p + 1)
      have HPC : Hid (pcF (numZ s) (lensZ u) k = 256 * atZ (numZ s) p + atZ (numZ s) (p + 1)) := Lib.hid (by rw [HPE.out]; rfl)
      have hor := or_byte _ _ a0'.1 a0'.2 a1'.1 a1'.2
      have HV1 := Lib.hid (fun (W : World) (h : SrcAt W q s p) => next_any s p q W h)
      have HV2 := Lib.hid (fun (W : World) (h : SrcAt W q s (p + 1)) => next_any s (p + 1) q W h)
      generalize hv1 : atZ (numZ s) p = v1 at HV1 hor a0' HPC
      generalize hv2 : atZ (numZ s) (p + 1) = v2 at HV2 hor a1' HPC
      have hw1 : IntKind.i64.wrap (v1 * 256) = v1 * 256 := IntWalk.i64_in _ (by omega)
      obtain ⟨pv, hpv⟩ : ∃ pv, pv = 256 * v1 + v2 := ⟨_, rfl⟩
      rw [← hpv] at hor HPC
      clear hpe a0' a1' hv1 hv2 hpv hkz
      have f1 : (0 : Int) ≤ (k : Int) := by omega
      have f2 : (k : Int) < (n : Int) := by omega
      go_wp2_with fail
      have HCC := Lib.hid (fun (W : World) (h : Bk W N 29 #[.slice a0 n n0, .slice a1 n n1, .slice a2 ni n2, .slice a3 n n3]) => (⟨h.cell 0, trivial⟩ : (fun W : World => W.cell? ⟨N, 0, none⟩ = some (.slice a0 n n0) ∧ True) W))
      refine wp_region_held_drew (S := fun W : World => W.cell? ⟨N, 0, none⟩ = some (.slice a0 n n0) ∧ True) (by kernel_rfl) (HCC.out _ HD.out.cb) (fun hS => ?_)
      refine wpAnyH_take (i := 0) (v := .pointer (some ⟨N, 0, none⟩)) rfl (by kernel_rfl) (by kernel_rfl) (by kernel_rfl) (fun _ _ _ h => h) (Or.inl ⟨by rfl, fun w hSw => by obtain ⟨s0, _⟩ := hSw; first | (go_simp; done) | (go_simp; with_reducible rfl)⟩) hS ?_
      simp only [Act.put, List.setIfInBounds_toArray, List.set_cons_zero, List.set_cons_succ]
      refine wpAnyH_take (i := 1) (v := .slice a0 n n0) rfl (by kernel_rfl) (by kernel_rfl) (by kernel_rfl) (fun _ _ _ h => h) (Or.inl ⟨by rfl, fun w hSw => by obtain ⟨s0, _⟩ := hSw; first | (go_simp; done) | (go_simp; with_reducible rfl)⟩) hS ?_
      simp only [Act.put, List.setIfInBounds_toArray, List.set_cons_zero, List.set_cons_succ]
      refine wpAnyH_take (i := 2) (v := .int .i64 k) rfl (by kernel_rfl) (by kernel_rfl) (by kernel_rfl) (fun _ _ _ h => h) (Or.inl ⟨by rfl, fun w hSw => by obtain ⟨s0, _⟩ := hSw; first | (go_simp; done) | (go_simp; with_reducible rfl)⟩) hS ?_
      simp only [Act.put, List.setIfInBounds_toArray, List.set_cons_zero, List.set_cons_succ]
      refine wpAnyH_ready (rs := [3]) (by kernel_rfl) (by simp) ?_
      refine AllReadyH.cons rfl (fun K hK => ?_) AllReadyH.nil
      go_simp
      refine (HV1.out wr.drew HD.out.src).mono ?_
      rintro e w4 ⟨rfl, h1, h2⟩
      have HD4 := Lib.hid (HD.out.next h2.undrew h1)
      clear h1 h2
      go_wp2_with (fail)
      refine hK.out _ _ (HCC.out _ HD4.out.cb) (fun hS => ?_)
      clear hK K
      refine wpAnyH_take (i := 4) (v := .int .i64 (v1 * 256)) rfl (by kernel_rfl) (by kernel_rfl) (by kernel_rfl) (fun _ _ _ h => h) (Or.inl ⟨by rfl, fun w hSw => by obtain ⟨s0, _⟩ := hSw; first | (go_simp; done) | (go_simp; with_reducible rfl)⟩) hS ?_
      simp only [Act.put, List.setIfInBounds_toArray, List.set_cons_zero, List.set_cons_succ]
      refine wpAnyH_ready (rs := [5]) (by kernel_rfl) (by simp) ?_
      refine AllReadyH.cons rfl (fun K hK => ?_) AllReadyH.nil
      go_simp
      refine (HV2.out w4 HD4.out.src).mono ?_
      rintro e w5 ⟨rfl, h1, h2⟩
      have HD5 := Lib.hid (HD4.out.next h2 h1)
      clear h1 h2
      go_wp2_with (fail)
      refine hK.out _ _ (HCC.out _ HD5.out.cb) (fun hS => ?_)
      clear hK K HV1 HV2
      have hcp : k < c.pf.pc.length := by rw [HP.out]; show k < (pcK u s k).length; unfold pcK; rw [mix_len]; exact HKZ.out
      obtain ⟨gp, up, rfl, hkm, hBg, hgN, hgl, hgc, hgf, _, hst⟩ := HD5.out.st.putPc k hcp
      obtain ⟨c1, hc1, hs1, hf1⟩ := hst pv
      have HD6 := Lib.hid (HD5.out.row hs1 hf1)
      have HP6 : Hid (c1.pf = pfR u s k 0) := Lib.hid (by
        rw [hc1, HP.out, pfR_zero u s k HKZ.out]
        show ({ pfK u s k with pc := (pcK u s k).set k pv } : Pf) = _
        rw [← HPC.out, pc_next u s k HKZ.out])
      clear hcp hc1 hs1 hf1 hst
      refine wpAnyH_take (i := 6) (v := .int .i64 pv) rfl (by kernel_rfl) (by kernel_rfl) (by kernel_rfl) (fun _ _ _ h => h) (Or.inl ⟨by rfl, fun w hSw => by obtain ⟨s0, _⟩ := hSw; first | (go_simp; done) | (go_simp; with_reducible rfl)⟩) hS ?_
      simp only [Act.put, List.setIfInBounds_toArray, List.set_cons_zero, List.set_cons_succ]
      refine wpAnyH_take (i := 7) (v := .pointer (some ⟨gp, k, none⟩)) rfl (by kernel_rfl) (by kernel_rfl) (by kernel_rfl) (fun _ _ _ h => h) (Or.inl ⟨by rfl, fun w hSw => by obtain ⟨s0, _⟩ := hSw; first | (go_simp; done) | (go_simp; with_reducible rfl)⟩) hS ?_
      simp only [Act.put, List.setIfInBounds_toArray, List.set_cons_zero, List.set_cons_succ]
      refine wpAnyH_ready (rs := [8]) (by kernel_rfl) (by simp) ?_
      refine AllReadyH.cons rfl (fun K hK => ?_) AllReadyH.nil
      go_simp
      go_wp2_with (fail)
      generalize w5.setCell _ _ = w6 at HD6 ⊢
      refine hK.out _ _ (HCC.out _ HD6.out.cb) (fun hS => ?_)
      clear hK K hS hgc hgf hgl hBg hgN hkm HCC
      refine wpAnyH_done (by kernel_rfl) ?_ _
      try simp only [Act.put, List.setIfInBounds_toArray, List.set_cons_zero, List.set_cons_succ]
      have hcr : k < c1.pf.regs.length := by
        rw [HP6.out]
        show k < ((rgK u s k).set k _).length
        rw [List.length_set]; unfold rgK; rw [mix_len]; exact HKZ.out
      obtain ⟨g1, cp1, ar, cr', hx1, hg1l, hg1c⟩ := HD6.out.st.rowAt k hcr
      injection hx1 with hx1 hx2 hx3
      subst hx1
      have hg1N := HXR.out g1 rfl
      rw [show c1.pf.regs.getD k [] = rowJ s (posF (numZ s) (lensZ u) 0 k + 2) ((lensZ u).getD k 0) 0 by rw [HP6.out]; exact pfR_at u s k 0 HKZ.out, rowJ_len] at hg1c
      clear hcr hx2 hx3
      obtain ⟨r, hre⟩ : ∃ r, r = (lensZ u).getD k 0 := ⟨_, rfl⟩
      rw [← hre] at hg1c hr6 HPN
      have HRE := Lib.hid hre
      obtain ⟨cc0, cc1, cc2, cc3, ccl⟩ := bk4 HD6.out.cb
      clear hre
      go_wp2_with fail
      clear cc0 cc1 cc2 cc3 ccl
      have HG1 := Lib.hid hg1c
      have HG2 := Lib.hid hg1N
      have HG3 := Lib.hid hg1l
      clear hg1c hg1N hg1l
      refine (fill_in s (p + 2) q r cr' ar (fun j i W => W.cell? ⟨g1, k, none⟩ = some (.slice ar r cr') ∧ g1 < W.heap.size ∧ ∃ c : Cf, c.pf = pfR u s k j ∧ DecS B N q w1 W (.slice (some ⟨gp, 0, none⟩) n n0) (.slice (some ⟨g1, 0, none⟩) n n1) (.slice a2 ni n2) (.slice a3 n n3) c s i) w6 ⟨HG1.out, HG3.out, c1, HP6.out, HD6.out⟩ ?_ ?_ ?_ (by omega)).mono ?_
      · rintro j i W ⟨_, _, c', _, h⟩
        exact h.src
      · rintro j i W W' ⟨h1, h2, c', h3, h4⟩ hF hS
        have hgq : g1 < q := Nat.lt_trans HG2.out h4.qN
        exact ⟨(hF.b.cell (p := ⟨g1, _, none⟩) hgq).trans h1, Nat.lt_of_lt_of_le h2 hF.b.size, c', h3, h4.next hF hS⟩
      · rintro j i W hj ⟨h1, h2, c', h3, h4⟩
        have hck : k < c'.pf.regs.length := by
          rw [h3]
          show k < ((rgK u s k).set k _).length
          rw [List.length_set]; unfold rgK; rw [mix_len]; exact HKZ.out
        have hcj : j < (c'.pf.regs.getD k []).length := by rw [h3, pfR_at u s k j HKZ.out, rowJ_len, ← HRE.out]; exact hj
        obtain ⟨g1', g, mr, crr, e1, h5, h6, h7, h8, h9, h10, h11, h12⟩ := h4.st.putReg2 k hck j hcj
        injection e1 with e1
        injection e1 with e1
        subst e1
        rw [h1] at h7
        injection h7 with h7
        injection h7 with h7 h7' h7''
        obtain ⟨u', h13, h14, h15, h16⟩ := h12 W (Below.refl _ _)
        obtain ⟨c'', h17, h18, h19⟩ := h16 (atZ (numZ s) (p + 2 + j))
        refine ⟨g, u', h7, h13, h14, h15, ?_, by rw [setCell_size]; exact h2, c'', ?_, h4.row h18 h19⟩
        · rw [World.cell?_setCell_other]
          · exact h1
          · intro e
            injection e with e
            exact h11 e
        · rw [h17, h3, HPE.out]
          exact pfR_next u s k j HKZ.out (by rw [← HRE.out]; exact hj)
      rintro e w7 ⟨rfl, _, _, c2, hc2, hd2⟩
      have HD7 := Lib.hid hd2
      rw [HRE.out, pfR_all u s k HKZ.out] at hc2
      have HP7 := Lib.hid hc2
      clear hc2 hd2 HG1 HG2 HG3 HD6 HP6
      go_wp2_with fail
      have HV3 := Lib.hid (fun (W : World) (h : SrcAt W q s (p + 2 + r)) => next_any s (p + 2 + r) q W h)
      have hci := cnt_int s (lensZ u) k
      rw [← HPE.out, ← HRE.out] at hci
      obtain ⟨cn, hcn⟩ : ∃ cn, cn = cntF (numZ s) (lensZ u) 0 k := ⟨_, rfl⟩
      rw [← hcn] at hci HPN
      have HCN := Lib.hid hcn
      rw [← hci] at HV3
      have hcb : cn ≤ 255 := by rw [hcn]; exact cnt_bd s (lensZ u) k
      clear hcn hci
      have HCC := Lib.hid (fun (W : World) (h : Bk W N 29 #[.slice (some ⟨gp, 0, none⟩) n n0, .slice (some ⟨g1, 0, none⟩) n n1, .slice a2 ni n2, .slice a3 n n3]) => (⟨h.cell 3, trivial⟩ : (fun W : World => W.cell? ⟨N, 3, none⟩ = some (.slice a3 n n3) ∧ True) W))
      refine wp_region_held_drew (S := fun W : World => W.cell? ⟨N, 3, none⟩ = some (.slice a3 n n3) ∧ True) (by kernel_rfl) (HCC.out _ HD7.out.cb) (fun hS => ?_)
      refine wpAnyH_take (i := 0) (v := .pointer (some ⟨N, 3, none⟩)) rfl (by kernel_rfl) (by kernel_rfl) (by kernel_rfl) (fun _ _ _ h => h) (Or.inl ⟨by rfl, fun w hSw => by obtain ⟨s0, _⟩ := hSw; first | (go_simp; done) | (go_simp; with_reducible rfl)⟩) hS ?_
      simp only [Act.put, List.setIfInBounds_toArray, List.set_cons_zero, List.set_cons_succ]
      refine wpAnyH_take (i := 1) (v := .slice a3 n n3) rfl (by kernel_rfl) (by kernel_rfl) (by kernel_rfl) (fun _ _ _ h => h) (Or.inl ⟨by rfl, fun w hSw => by obtain ⟨s0, _⟩ := hSw; first | (go_simp; done) | (go_simp; with_reducible rfl)⟩) hS ?_
      simp only [Act.put, List.setIfInBounds_toArray, List.set_cons_zero, List.set_cons_succ]
      refine wpAnyH_take (i := 2) (v := .int .i64 k) rfl (by kernel_rfl) (by kernel_rfl) (by kernel_rfl) (fun _ _ _ h => h) (Or.inl ⟨by rfl, fun w hSw => by obtain ⟨s0, _⟩ := hSw; first | (go_simp; done) | (go_simp; with_reducible rfl)⟩) hS ?_
      simp only [Act.put, List.setIfInBounds_toArray, List.set_cons_zero, List.set_cons_succ]
      refine wpAnyH_ready (rs := [3]) (by kernel_rfl) (by simp) ?_
      refine AllReadyH.cons rfl (fun K hK => ?_) AllReadyH.nil
      go_simp
      refine (HV3.out w7.drew HD7.out.src).mono ?_
      rintro e w8 ⟨rfl, h1, h2⟩
      have HD8 := Lib.hid (HD7.out.next h2.undrew h1)
      clear h1 h2
      go_wp2_with (fail)
      refine hK.out _ _ (HCC.out _ HD8.out.cb) (fun hS => ?_)
      clear hK K HV3
      refine wpAnyH_ready (rs := [4]) (by kernel_rfl) (by simp) ?_
      refine AllReadyH.cons rfl (fun K hK => ?_) AllReadyH.nil
      go_simp
      refine (entries_any s (p + 2 + r + 1) q cn w8 HD8.out.src (by omega)).mono ?_
      rintro e w9 ⟨rfl, h0, h1, h2⟩
      have HD9 := Lib.hid (HD8.out.next h2 h1)
      have HOE : Hid (OwnE w9 B (.slice (some ⟨w8.heap.size, 0, none⟩) cn cn) (entsZ (numZ s) (p + 2 + r + 1) cn)) := Lib.hid (own_base h0 (by have := HD8.out.st.n; have := HD8.out.st.bn; omega))
      clear h0 h1 h2
      go_wp2_with (fail)
      refine hK.out _ _ (HCC.out _ HD9.out.cb) (fun hS => ?_)
      clear hK K
      have hcp : k < c2.pf.buf.length := by rw [HP7.out]; show k < (bfK u s k).length; unfold bfK; rw [mix_len]; exact HKZ.out
      obtain ⟨gb, ub, rfl, hkm, hBg, hgN, hgl, hgc, hgf, hst⟩ := HD9.out.st.putBuf k hcp
      obtain ⟨c3, hc3, hs3, hf3⟩ := hst _ _ HOE.out
      have HDA := Lib.hid (HD9.out.row hs3 hf3)
      have HPA : Hid (c3.pf = pfK u s (k + 1)) := Lib.hid (by
        rw [hc3, HP7.out]
        show (⟨pcK u s (k + 1), rgK u s (k + 1), u.init, (bfK u s k).set k _⟩ : Pf) = pfK u s (k + 1)
        rw [HCN.out, show p + 2 + r + 1 = posF (numZ s) (lensZ u) 0 k + 3 + (lensZ u).getD k 0 by rw [HPE.out, HRE.out]; omega, bf_next u s k HKZ.out]
        rfl)
      clear hcp hc3 hs3 hf3 hst
      refine wpAnyH_take (i := 5) (v := .pointer (some ⟨gb, k, none⟩)) rfl (by kernel_rfl) (by kernel_rfl) (by kernel_rfl) (fun _ _ _ h => h) (Or.inl ⟨by rfl, fun w hSw => by obtain ⟨s0, _⟩ := hSw; first | (go_simp; done) | (go_simp; with_reducible rfl)⟩) hS ?_
      simp only [Act.put, List.setIfInBounds_toArray, List.set_cons_zero, List.set_cons_succ]
      refine wpAnyH_ready (rs := [6]) (by kernel_rfl) (by simp) ?_
      refine AllReadyH.cons rfl (fun K hK => ?_) AllReadyH.nil
      go_simp
      go_wp2_with (fail)
      generalize w9.setCell _ _ = wa at HDA ⊢
      refine hK.out _ _ (HCC.out _ HDA.out.cb) (fun hS => ?_)
      clear hK K hS hgc hgf hgl hBg hgN hkm HCC
      refine wpAnyH_done (by kernel_rfl) ?_ _
      try simp only [Act.put, List.setIfInBounds_toArray, List.set_cons_zero, List.set_cons_succ]
      have hk4 := HN4.out.1
      have hlt := HLT.out
      have f1 : (0 : Int) ≤ (k : Int) := by omega
      have f2 : (k : Int) < (n : Int) := by omega
      go_wp2_with fail
      go_roundg (gk - 1)
      case measure => omega
      case rel => exact ⟨k + 1, c3, by go_num, by have := HLT.out; omega, by have := HLT.out; omega, by rw [HPN.out, show p + 3 + r + 2 * cn = p + 2 + r + 1 + 2 * cn by omega]; exact HDA.out, HPA.out⟩
    · obtain rfl : k = n := by omega
      obtain ⟨p, hpe⟩ : ∃ p, p = posF (numZ s) (lensZ u) 0 (nZ u) := ⟨_, rfl⟩
      have HPE := Lib.hid hpe
      rw [HNN.out] at HD HP
      rw [← hpe] at HD
      rw [← HNN.out] at HD
      have HP0 : Hid (c.pf = pfM u s 0) := Lib.hid (by rw [pfM_zero]; exact HP.out)
      obtain ⟨cc0, cc1, cc2, cc3, ccl⟩ := bk4 HD.out.cb
      clear hpe HP
      go_wp2_with fail
      clear cc0 cc1 cc2 cc3 ccl
      refine (fill_in s p q ni n2 a2 (fun j i W => ∃ c : Cf, c.pf = pfM u s j ∧ DecS B N q w1 W (.slice a0 k n0) (.slice a1 k n1) (.slice a2 ni n2) (.slice a3 k n3) c s i) wr ⟨c, HP0.out, HD.out⟩ ?_ ?_ ?_ (by have := HN4.out; have := HNI.out; omega)).mono ?_
      · rintro j i W ⟨c', _, h⟩
        exact h.src
      · rintro j i W W' ⟨c', h3, h4⟩ hF hS
        exact ⟨c', h3, h4.next hF hS⟩
      · rintro j i W hj ⟨c', h3, h4⟩
        have hml : c'.pf.mem.length = u.init.length := by rw [h3]; show (memJ u s _ _).length = _; unfold memJ; rw [mix_len]
        obtain ⟨g, u', e1, _, _, _, h5, h6, h7, h8⟩ := h4.st.putMem j (by rw [hml, HNI.out]; exact hj)
        obtain ⟨c'', h9, h10, h11⟩ := h8 (atZ (numZ s) (p + j))
        refine ⟨g, u', e1, h5, h6, h7, c'', ?_, h4.row h10 h11⟩
        rw [h9, h3, HPE.out]
        exact pfM_next u s j (by rw [HNI.out]; exact hj)
      rintro e w4 ⟨rfl, c1, hc1, hd1⟩
      rw [HPE.out, ← HNI.out, pos_end u s, HNI.out] at hd1
      rw [← HNI.out, pfM_all u s] at hc1
      have HD1 := Lib.hid hd1
      have HP1 := Lib.hid hc1
      clear hc1 hd1 HD HP0
      have hdz := HDZ.out
      obtain ⟨ee, hee⟩ : ∃ ee, ee = endF u s := ⟨_, rfl⟩
      rw [← hee] at HD1 hdz
      obtain ⟨bw, ku, kr⟩ := HKW.out w4 HD1.out.bel
      have BW := Lib.hid bw
      have KU := Lib.hid ku
      have KR := Lib.hid kr
      have HRR := Lib.hid (HRT.out w4 bw c1 _ _ _ _ HD1.out.st.data HP1.out)
      obtain ⟨b, hb⟩ : ∃ b, b = rightZ u (pfZ u s) model room := ⟨_, rfl⟩
      rw [← hb] at hdz HRR
      have s0 : w4.cell? ⟨q, 0, none⟩ = some (.string (restZ s ee)) := HD1.out.src.cell 0
      have s1 : w4.cell? ⟨q, 1, none⟩ = some (.bool (decide (s.size < ee))) := HD1.out.src.cell 1
      have sl := HD1.out.src.lt
      obtain ⟨rd0, rd1, rd2, rd3, rdl⟩ := bk4 KR.out
      obtain ⟨rf0, rf1, rf2, rf3⟩ := bkf4 KR.out
      have hrs := rest_size s ee
      have HBS := Lib.hid bw.size
      clear bw ku kr hee hb
      by_cases h1 : s.size < ee
      · rw [decide_eq_true h1] at s1
        rw [if_neg (by rw [decide_eq_false (by omega), Bool.and_false]; exact Bool.false_ne_true)] at hdz
        have HDN : Hid (decZ u s model room = none) := Lib.hid hdz
        clear HRR hdz s0
        go_wp2_with fail
        have LT : w.heap.size ≤ w.heap.size + 1 := by omega
        have KD := set4_bk (.slice none 0 0) (.slice none 0 0) (.slice none 0 0) (.slice none 0 0) KR.out
        have LD := set4_below (.slice none 0 0) (.slice none 0 0) (.slice none 0 0) (.slice none 0 0) BW.out LT
        generalize (((w4.setCell _ _).setCell _ _).setCell _ _).setCell _ _ = w9 at KD LD ⊢
        clear rd0 rd1 rd2 rd3 rdl rf0 rf1 rf2 rf3 s1 sl
        have d0 : w9.cell? ⟨w.heap.size + 1, 0, none⟩ = some _ := KD.cell 0
        have d1 : w9.cell? ⟨w.heap.size + 1, 1, none⟩ = some _ := KD.cell 1
        have d2 : w9.cell? ⟨w.heap.size + 1, 2, none⟩ = some _ := KD.cell 2
        have d3 : w9.cell? ⟨w.heap.size + 1, 3, none⟩ = some _ := KD.cell 3
        refine bodyPost_ret (v := .tuple #[.agg #[.slice none 0 0, .slice none 0 0, .slice none 0 0, .slice none 0 0], .int .i64 8]) (by simp [results, Try.results15, go_sem, d0, d1, d2, d3]) rfl ?_
        rw [HDN.out]
        exact And.intro rfl LD
      rw [decide_eq_false h1] at s1
      by_cases h2 : ee < s.size
      · rw [if_neg (by rw [decide_eq_false (by omega), Bool.and_false]; exact Bool.false_ne_true)] at hdz
        have HDN : Hid (decZ u s model room = none) := Lib.hid hdz
        have hne : ((restZ s ee).toList == []) = false := by
          rw [ByteArray.toList_eq]
          refine beq_eq_false_iff_ne.2 fun e => ?_
          have h6 : (restZ s ee).data.toList.length = 0 := by rw [e]; rfl
          rw [Array.length_toList] at h6
          have h5 : (restZ s ee).data.size = (restZ s ee).size := rfl
          omega
        generalize restZ s ee = rz at s0 hne
        clear HRR hdz hrs
        go_wp2_with fail
        have LT : w.heap.size ≤ w.heap.size + 1 := by omega
        have KD := set4_bk (.slice none 0 0) (.slice none 0 0) (.slice none 0 0) (.slice none 0 0) KR.out
        have LD := set4_below (.slice none 0 0) (.slice none 0 0) (.slice none 0 0) (.slice none 0 0) BW.out LT
        generalize (((w4.setCell _ _).setCell _ _).setCell _ _).setCell _ _ = w9 at KD LD ⊢
        clear rd0 rd1 rd2 rd3 rdl rf0 rf1 rf2 rf3 s1 s0 sl
        have d0 : w9.cell? ⟨w.heap.size + 1, 0, none⟩ = some _ := KD.cell 0
        have d1 : w9.cell? ⟨w.heap.size + 1, 1, none⟩ = some _ := KD.cell 1
        have d2 : w9.cell? ⟨w.heap.size + 1, 2, none⟩ = some _ := KD.cell 2
        have d3 : w9.cell? ⟨w.heap.size + 1, 3, none⟩ = some _ := KD.cell 3
        refine bodyPost_ret (v := .tuple #[.agg #[.slice none 0 0, .slice none 0 0, .slice none 0 0, .slice none 0 0], .int .i64 8]) (by simp [results, Try.results15, go_sem, d0, d1, d2, d3]) rfl ?_
        rw [HDN.out]
        exact And.intro rfl LD
      rw [rest_out s ee (by omega)] at s0
      rw [decide_eq_true (show ee = s.size by omega), Bool.and_true] at hdz
      obtain ⟨cc0, cc1, cc2, cc3, ccl⟩ := bk4 HD1.out.cb
      obtain ⟨uu0, uu1, uu2, uu3, uul⟩ := bk4 KU.out
      clear hrs h1 h2
      have HDZ2 := Lib.hid hdz
      have HCB := Lib.hid (fun W (h : Below w4.heap.size w4 W) => HD1.out.cb.below h)
      clear hdz
      cases b with
      | false =>
        have HDN : Hid (decZ u s model room = none) := Lib.hid (by rw [HDZ2.out]; rfl)
        go_wp2_with fail
        refine HRR.out.mono ?_
        rintro e w5 ⟨rfl, b5⟩
        have KR5 := Lib.hid (KR.out.below b5)
        have BW5 := Lib.hid (BW.out.trans (b5.mono HBS.out))
        clear rd0 rd1 rd2 rd3 rdl rf0 rf1 rf2 rf3 s1 s0 sl cc0 cc1 cc2 cc3 ccl uu0 uu1 uu2 uu3 uul HRR b5
        obtain ⟨rd0, rd1, rd2, rd3, rdl⟩ := bk4 KR5.out
        obtain ⟨rf0, rf1, rf2, rf3⟩ := bkf4 KR5.out
        go_wp2_with fail
        have LT : w.heap.size ≤ w.heap.size + 1 := by omega
        have KD := set4_bk (.slice none 0 0) (.slice none 0 0) (.slice none 0 0) (.slice none 0 0) KR5.out
        have LD := set4_below (.slice none 0 0) (.slice none 0 0) (.slice none 0 0) (.slice none 0 0) BW5.out LT
        generalize (((w5.setCell _ _).setCell _ _).setCell _ _).setCell _ _ = w9 at KD LD ⊢
        clear rd0 rd1 rd2 rd3 rdl rf0 rf1 rf2 rf3
        have d0 : w9.cell? ⟨w.heap.size + 1, 0, none⟩ = some _ := KD.cell 0
        have d1 : w9.cell? ⟨w.heap.size + 1, 1, none⟩ = some _ := KD.cell 1
        have d2 : w9.cell? ⟨w.heap.size + 1, 2, none⟩ = some _ := KD.cell 2
        have d3 : w9.cell? ⟨w.heap.size + 1, 3, none⟩ = some _ := KD.cell 3
        refine bodyPost_ret (v := .tuple #[.agg #[.slice none 0 0, .slice none 0 0, .slice none 0 0, .slice none 0 0], .int .i64 8]) (by simp [results, Try.results15, go_sem, d0, d1, d2, d3]) rfl ?_
        rw [HDN.out]
        exact And.intro rfl LD
      | true =>
        have HDS : Hid (decZ u s model room = some (pfZ u s)) := Lib.hid (by rw [HDZ2.out]; rfl)
        go_wp2_with fail
        refine HRR.out.mono ?_
        rintro e w5 ⟨rfl, b5⟩
        have KR5 := Lib.hid (KR.out.below b5)
        have BW5 := Lib.hid (BW.out.trans (b5.mono HBS.out))
        have KC5 := Lib.hid (HCB.out w5 b5)
        have HO5 := Lib.hid (HD1.out.st.o.below b5)
        clear rd0 rd1 rd2 rd3 rdl rf0 rf1 rf2 rf3 s1 s0 sl cc0 cc1 cc2 cc3 ccl uu0 uu1 uu2 uu3 uul HRR b5
        obtain ⟨rd0, rd1, rd2, rd3, rdl⟩ := bk4 KR5.out
        obtain ⟨rf0, rf1, rf2, rf3⟩ := bkf4 KR5.out
        obtain ⟨cc0, cc1, cc2, cc3, ccl⟩ := bk4 KC5.out
        go_wp2_with fail
        have LT : w.heap.size ≤ w.heap.size + 1 := by omega
        have KD := set4_bk (.slice a0 k n0) (.slice a1 k n1) (.slice a2 ni n2) (.slice a3 k n3) KR5.out
        have LD := set4_below (.slice a0 k n0) (.slice a1 k n1) (.slice a2 ni n2) (.slice a3 k n3) BW5.out LT
        have kp := Lib.hid (set4_kp (w := w5) (B := B) (.slice a0 k n0) (.slice a1 k n1) (.slice a2 ni n2) (.slice a3 k n3) (show w.heap.size + 1 < B from HBW.out))
        generalize (((w5.setCell _ _).setCell _ _).setCell _ _).setCell _ _ = w9 at KD LD kp ⊢
        clear rd0 rd1 rd2 rd3 rdl rf0 rf1 rf2 rf3 cc0 cc1 cc2 cc3 ccl
        have d0 : w9.cell? ⟨w.heap.size + 1, 0, none⟩ = some _ := KD.cell 0
        have d1 : w9.cell? ⟨w.heap.size + 1, 1, none⟩ = some _ := KD.cell 1
        have d2 : w9.cell? ⟨w.heap.size + 1, 2, none⟩ = some _ := KD.cell 2
        have d3 : w9.cell? ⟨w.heap.size + 1, 3, none⟩ = some _ := KD.cell 3
        refine bodyPost_ret (v := .tuple #[.agg #[.slice a0 k n0, .slice a1 k n1, .slice a2 ni n2, .slice a3 k n3], .int .i64 0]) (by simp [results, Try.results15, go_sem, d0, d1, d2, d3]) rfl ?_
        rw [HDS.out]
        exact ⟨c1, _, _, _, _, rfl, (HO5.out.kp kp.out).base (by have := HBW.out; omega), HP1.out, LD⟩

theorem pdecode_some (u : Un) (s : ByteArray) (model room : Int) (p : Pf) (vi vr vc : Value) (w : World) (hu : UnD w vi vr vc u) (hsu : ShortU u) (hs : s.size ≤ 100000) (h : decZ u s model room = some p) :
    Calls Try.prog 15 #[.agg #[.int .i64 u.mod, vi, vr, vc], .string s, .int .i64 model, .int .i64 room] w (DecIs p w) := by
  have hr : rightU u = true := (decZ_some.1 h).1.ru
  have h1 := pdecode_yes u s model room vi vr vc w hu hsu hr hs
  rw [h] at h1
  exact h1
theorem pdecode_none (u : Un) (s : ByteArray) (model room : Int) (vi vr vc : Value) (w : World) (hu : UnD w vi vr vc u) (hsu : ShortU u) (hs : s.size ≤ 100000) (h : decZ u s model room = none) :
    Calls Try.prog 15 #[.agg #[.int .i64 u.mod, vi, vr, vc], .string s, .int .i64 model, .int .i64 room] w fun e w' => e = .returned (.tuple #[.agg #[.slice none 0 0, .slice none 0 0, .slice none 0 0, .slice none 0 0], .int .i64 8]) ∧ Below w.heap.size w w' := by
  cases hr : rightU u with
  | false => exact pdecode_no u s model room vi vr vc w hu hsu hr
  | true =>
    have h1 := pdecode_yes u s model room vi vr vc w hu hsu hr hs
    rw [h] at h1
    exact h1

end Go.Proofs.Ytmkgijedchpgcaa
