/- Layer 12, the document's answer: Decode. -/
import Derived.Test.YtmkgijedchpgcaaEr
import Derived.Test.YtmkgijedchpgcaaEh
import Derived.Test.YtmkgijedchpgcaaWa
import Derived.Test.YtmkgijedchpgcaaEk
namespace Go.Proofs.Ytmkgijedchpgcaa
set_option linter.unusedSimpArgs false
set_option linter.unusedVariables false
open Go.RowKit

/-- What Decode gives. -/
def RecAns (o : Option Pf) (w : World) (e : Ending) (w' : World) : Prop :=
  match o with
  | some p => DecIs p w e w'
  | none => e = .returned (.tuple #[.agg #[.slice none 0 0, .slice none 0 0, .slice none 0 0, .slice none 0 0], .int .i64 8]) ∧ Below w.heap.size w w'

/-- While bytes are read: the configuration, its block. -/
structure RecS (B N : Nat) (w1 w : World) (xp xr xm xb : Value) (c : Cf) : Prop where
  st : St B N w xp xr xm xb c
  bel : Below B w1 w
  cb : Bk w N 29 #[xp, xr, xm, xb]
theorem RecS.below {B N : Nat} {w1 w w' : World} {xp xr xm xb : Value} {c : Cf} (h : RecS B N w1 w xp xr xm xb c) (hb : Below w.heap.size w w') : RecS B N w1 w' xp xr xm xb c :=
  ⟨h.st.below hb, h.bel.trans (hb.mono (Nat.le_trans h.st.bn h.st.n)), h.cb.below hb⟩
theorem RecS.drew {B N : Nat} {w1 w : World} {xp xr xm xb : Value} {c : Cf} (h : RecS B N w1 w xp xr xm xb c) : RecS B N w1 w.drew xp xr xm xb c := h.below (Below.drew (Below.refl _ _))
theorem RecS.row {B N : Nat} {w1 w w' : World} {xp xr xm xb : Value} {c c' : Cf} (h : RecS B N w1 w xp xr xm xb c) (hs : St B N w' xp xr xm xb c') (hf : Fr B N w w') : RecS B N w1 w' xp xr xm xb c' :=
  ⟨hs, h.bel.trans hf.b, hf.bk (Nat.le_refl _) h.cb⟩
theorem enc_is {u : Un} {s : ByteArray} (h : endF u s = s.size) : bytZ (encP (pfZ u s)) = s := by
  unfold pfZ
  rw [enc_dec _ (num_bd s), show posF (numZ s) (lensZ u) 0 (lensZ u).length + u.init.length = s.size from h]
  rw [(nums_self (numZ s) s.size).2 (num_len s).symm, byt_num]
theorem enc_not {u : Un} {s : ByteArray} (h : ¬ endF u s = s.size) : bytZ (encP (pfZ u s)) ≠ s := by
  intro e
  apply h
  have h1 := congrArg ByteArray.size e
  rw [byt_len] at h1
  unfold pfZ at h1
  rw [enc_dec _ (num_bd s), nums_len] at h1
  exact h1
theorem ents_snoc (s : List Int) (i n : Nat) : entsZ s i (n + 1) = entsZ s i n ++ [(atZ s (i + 2 * n), atZ s (i + 2 * n + 1))] := by
  unfold entsZ
  rw [List.range_succ, List.map_append]
  rfl

set_option maxRecDepth 100000 in
set_option maxHeartbeats 8000000 in
theorem rdecode_no (u : Un) (s : ByteArray) (model room : Int) (vi vr vc : Value) (w : World) (hu : UnD w vi vr vc u) (hsu : ShortU u) (hr : rightU u = false) :
    Calls Try.prog 16 #[.agg #[.int .i64 u.mod, vi, vr, vc], .string s, .int .i64 model, .int .i64 room] w fun e w' => e = .returned (.tuple #[.agg #[.slice none 0 0, .slice none 0 0, .slice none 0 0, .slice none 0 0], .int .i64 8]) ∧ Below w.heap.size w w' := by
  have HST := Lib.hid (fun (W : World) (h : Below w.heap.size w W) => rstart_no u _ _ _ W (hu.below h) hsu hr)
  obtain ⟨xi, ci, rfl⟩ := hu.i.shape0
  obtain ⟨xr, cr, rfl⟩ := hu.r.shape0
  obtain ⟨xc, cc, rfl⟩ := hu.c.shape0
  generalize u.mod = m at HST ⊢
  generalize u.init.length = ni at HST ⊢
  generalize u.regs.length = nr at HST ⊢
  generalize u.code.length = nc at HST ⊢
  clear hu hsu hr
  go_enter Try.func16, Try.ntmps16
  go_wp2_with fail
  have T2 := Lib.hid (two_new w 25 29 #[.int .i64 m, .slice xi ni ci, .slice xr nr cr, .slice xc nc cc] #[.slice none 0 0, .slice none 0 0, .slice none 0 0, .slice none 0 0])
  obtain ⟨L0, KA0, KB0⟩ := T2.out
  have LL := Lib.hid L0
  have KB := Lib.hid KB0
  clear L0 KA0 KB0 T2
  generalize (w.alloc _).alloc _ = w0 at LL KB ⊢
  refine (HST.out _ LL.out).mono ?_
  rintro e w1 ⟨rfl, b1⟩
  have HBL : Hid (Below w.heap.size w w1) := Lib.hid (LL.out.trans (b1.mono LL.out.size))
  have KC1 := Lib.hid (KB.out.below b1)
  have LT : w.heap.size ≤ w.heap.size + 1 := by omega
  clear b1
  obtain ⟨d0, d1, d2, d3, l1⟩ := bk4 KC1.out
  obtain ⟨f0, f1, f2, f3⟩ := bkf4 KC1.out
  go_wp2_with fail
  have KD := bk_alloc (set4_bk (.slice none 0 0) (.slice none 0 0) (.slice none 0 0) (.slice none 0 0) KC1.out) (.cells #[.slice none 0 0, .slice none 0 0, .slice none 0 0, .slice none 0 0] 29)
  have LD := bal (set4_below (.slice none 0 0) (.slice none 0 0) (.slice none 0 0) (.slice none 0 0) HBL.out LT) (.cells #[.slice none 0 0, .slice none 0 0, .slice none 0 0, .slice none 0 0] 29)
  generalize World.alloc ((((w1.setCell _ _).setCell _ _).setCell _ _).setCell _ _) _ = w9 at KD LD ⊢
  clear d0 d1 d2 d3 f0 f1 f2 f3 l1
  have d0 : w9.cell? ⟨w.heap.size + 1, 0, none⟩ = some _ := KD.cell 0
  have d1 : w9.cell? ⟨w.heap.size + 1, 1, none⟩ = some _ := KD.cell 1
  have d2 : w9.cell? ⟨w.heap.size + 1, 2, none⟩ = some _ := KD.cell 2
  have d3 : w9.cell? ⟨w.heap.size + 1, 3, none⟩ = some _ := KD.cell 3
  refine bodyPost_ret (v := .tuple #[.agg #[.slice none 0 0, .slice none 0 0, .slice none 0 0, .slice none 0 0], .int .i64 8]) (by simp [results, Try.results16, go_sem, d0, d1, d2, d3]) rfl ?_
  exact ⟨rfl, LD⟩

set_option maxRecDepth 100000 in
set_option maxHeartbeats 16000000 in
theorem rdecode_yes (u : Un) (s : ByteArray) (model room : Int) (vi vr vc : Value) (w : World) (hu : UnD w vi vr vc u) (hsu : ShortU u) (hr : rightU u = true) (hs : s.size ≤ 100000) :
    Calls Try.prog 16 #[.agg #[.int .i64 u.mod, vi, vr, vc], .string s, .int .i64 model, .int .i64 room] w (RecAns (decZ u s model room) w) := by
  have HST := Lib.hid (fun (W : World) (h : Below w.heap.size w W) => rstart_dj u _ _ _ W (hu.below h) hsu hr)
  have HRT := Lib.hid (fun (W : World) (h : Below w.heap.size w W) (c : Cf) (xp xr xm xb : Value) (hc : CfD W xp xr xm xb c) (hp : c.pf = pfZ u s) => renc_any u c model room _ _ _ _ _ _ _ W (hu.below h) hc hsu (pfZ_short hr hp) (rightZ u (pfZ u s) model room) (right_pfZ hp model room))
  have HDZ := Lib.hid (decZ_iff u s model room)
  have HLB := Lib.hid (fun k => lens_bd hr k)
  have HPB := Lib.hid (fun k hk => pos_bd s hr k hk)
  have hu4 := rightU_lc hr
  have HZ0 := Lib.hid (pfK_zero u s hu4.2.2.2.2.2)
  have HN4 : Hid (nZ u ≤ 4 ∧ u.init.length ≤ 6) := Lib.hid (by rw [nZ_eq]; omega)
  have HAT := Lib.hid (fun (i : Nat) (W : World) => rat_any s i W)
  obtain ⟨xi, ci, rfl⟩ := hu.i.shape0
  obtain ⟨xr, cr, rfl⟩ := hu.r.shape0
  obtain ⟨xc, cc, rfl⟩ := hu.c.shape0
  generalize hni : u.init.length = ni at HST HRT ⊢
  generalize hnr : u.regs.length = nr at HST HRT ⊢
  generalize hnc : u.code.length = nc at HST HRT ⊢
  generalize hmd : u.mod = md at HST HRT ⊢
  have HNI := Lib.hid hni
  clear hu hsu hr hs hu4 hni hnr hnc hmd
  go_enter Try.func16, Try.ntmps16
  go_wp2_with fail
  have T2 := Lib.hid (two_new w 25 29 #[.int .i64 md, .slice xi ni ci, .slice xr nr cr, .slice xc nc cc] #[.slice none 0 0, .slice none 0 0, .slice none 0 0, .slice none 0 0])
  obtain ⟨L0, KA0, KB0⟩ := T2.out
  have LL := Lib.hid L0
  have KA := Lib.hid KA0
  have KB := Lib.hid KB0
  clear L0 KA0 KB0 T2
  generalize (w.alloc _).alloc _ = w1 at LL KA KB ⊢
  refine (HST.out _ LL.out).mono ?_
  rintro e w2 ⟨c0, xp, xr', xm, xb, rfl, o2, p2, b2, d2⟩
  obtain ⟨B, hB⟩ : ∃ B, B = w1.heap.size := ⟨_, rfl⟩
  obtain ⟨N, hN⟩ : ∃ N, N = w2.heap.size := ⟨_, rfl⟩
  have HBW : Hid (w.heap.size + 1 < B) := Lib.hid (by rw [hB]; exact KB.out.lt)
  have hSt := St.of o2 d2 b2.size
  rw [← hN, ← hB] at hSt
  have HS2 := Lib.hid hSt
  have B2 : Hid (Below B w1 w2) := Lib.hid (by rw [hB]; exact b2)
  have HP2 : Hid (c0.pf = pfK u s 0) := Lib.hid (by rw [p2, HZ0.out])
  have HXR : Hid (∀ g, xr'.ownBlock = some g → g < N) := Lib.hid (fun g hg => by rw [hN]; exact (o2.r.h.lt g hg).2)
  clear hSt o2 d2 p2 b2 hB
  obtain ⟨a0, n0, a1, n1, a2, n2, a3, n3, rfl, rfl, rfl, rfl⟩ := HS2.out.o.shapes
  have HLN : Hid (c0.pc.length = nZ u ∧ c0.regs.length = nZ u ∧ c0.mem.length = ni ∧ c0.buf.length = nZ u) := Lib.hid (by
    have h := HP2.out
    unfold Cf.pf pfK at h
    simp only [Pf.mk.injEq] at h
    obtain ⟨h1, h2, h3, h4⟩ := h
    refine ⟨by rw [h1]; exact mix_len _ _ _ _, ?_, by rw [h3]; exact HNI.out, ?_⟩
    · have := congrArg List.length h2
      rw [List.length_map] at this
      rw [this]; exact mix_len _ _ _ _
    · have := congrArg List.length h4
      rw [List.length_map] at this
      rw [this]; exact mix_len _ _ _ _)
  rw [HLN.out.1, HLN.out.2.1, HLN.out.2.2.1, HLN.out.2.2.2] at HS2 ⊢
  rw [HLN.out.2.1] at HXR
  clear HLN
  obtain ⟨n, hn⟩ : ∃ n, n = nZ u := ⟨_, rfl⟩
  rw [← hn] at HS2 HXR HN4 ⊢
  have HNN := Lib.hid hn
  clear hn
  have HD2 : Hid (RecS B N w1 (World.alloc w2 (.cells #[.slice a0 n n0, .slice a1 n n1, .slice a2 ni n2, .slice a3 n n3] 29)) (.slice a0 n n0) (.slice a1 n n1) (.slice a2 ni n2) (.slice a3 n n3) c0) := Lib.hid (by
    have bb : Below w2.heap.size w2 (World.alloc w2 (.cells #[.slice a0 n n0, .slice a1 n n1, .slice a2 ni n2, .slice a3 n n3] 29)) := bal (Below.refl _ _) _
    refine ⟨HS2.out.below bb, B2.out.trans (bb.mono (by have := HS2.out.bn; omega)), ?_⟩
    rw [hN]
    exact Bk.new w2 _ _)
  go_wp2_with fail
  rw [← hN] at ⊢
  clear hN
  generalize World.alloc w2 _ = w3 at HD2 ⊢
  have HKW : Hid (∀ W, Below B w1 W → Below w.heap.size w W ∧ Bk W w.heap.size 25 #[.int .i64 md, .slice xi ni ci, .slice xr nr cr, .slice xc nc cc] ∧ Bk W (w.heap.size + 1) 29 #[.slice none 0 0, .slice none 0 0, .slice none 0 0, .slice none 0 0]) := Lib.hid (fun W h => by
    have h1 := HBW.out
    exact ⟨LL.out.trans (h.mono (by omega)), (h.block _ (by omega)).trans KA.out, (h.block _ h1).trans KB.out⟩)
  have HZ2 : Hid (((0 : Nat) : Int) = ((posF (numZ s) (lensZ u) 0 0 : Nat) : Int)) := Lib.hid (by rw [pos_zero])
  clear HS2 B2
  go_loopg [12, 13] n (fun fuel s' i' wr => ∃ (k : Nat) (c : Cf), i' = .int .i64 k ∧ s' = .int .i64 ((posF (numZ s) (lensZ u) 0 k : Nat) : Int) ∧ k ≤ n ∧ n - k ≤ fuel ∧ RecS B N w1 wr (.slice a0 n n0) (.slice a1 n n1) (.slice a2 ni n2) (.slice a3 n n3) c ∧ c.pf = pfK u s k)
  case atStart => exact ⟨0, c0, rfl, by rw [← HZ2.out]; rfl, Nat.zero_le _, Nat.le_refl _, HD2.out, HP2.out⟩
  case round =>
    obtain ⟨k, c, rfl, rfl, hk, hf, hd, hp⟩ := hrel
    obtain ⟨ga, rfl⟩ : ∃ a, a = gk := ⟨_, rfl⟩
    have HD := Lib.hid hd
    have HP := Lib.hid hp
    clear hd hp HZ2 HP2 HD2
    by_cases hlt : k < n
    · have hkz : k < nZ u := by rw [← HNN.out]; exact hlt
      have HKZ := Lib.hid hkz
      have HLT := Lib.hid hlt
      have HPN : Hid (posF (numZ s) (lensZ u) 0 (k + 1) = posF (numZ s) (lensZ u) 0 k + 3 + (lensZ u).getD k 0 + 2 * cntF (numZ s) (lensZ u) 0 k) := Lib.hid (pos_next _ _ _ _ hkz)
      have hr6 := HLB.out k
      have hpb := HPB.out k (by rw [← HNN.out]; exact hk)
      have hn4 := HN4.out.1
      have hpb2 : posF (numZ s) (lensZ u) 0 k ≤ 3000 := by
        have : k * 519 ≤ 4 * 519 := Nat.mul_le_mul_right _ (by omega)
        omega
      obtain ⟨p, hpe⟩ : ∃ p, p = posF (numZ s) (lensZ u) 0 k := ⟨_, rfl⟩
      have HPE := Lib.hid hpe
      rw [← hpe] at HPN hpb2 ⊢
      have HP3 := Lib.hid hpb2
      have a0' := atZ_byte (numZ s) (num_bd s) p
      have a1' := atZ_byte (numZ s) (num_bd s) (p + 1)
      have HPC : Hid (pcF (numZ s) (lensZ u) k = 256 * atZ (numZ s) p + atZ (numZ s) (p + 1)) := Lib.hid (by rw [HPE.out]; rfl)
      have HV1 := Lib.hid (fun (W : World) => HAT.out p W)
      have HV2 := Lib.hid (fun (W : World) => (show Calls Try.prog 29 #[.string s, .int .i64 ((p : Int) + 1)] W _ from HAT.out (p + 1) W))
      generalize hv1 : atZ (numZ s) p = v1 at HV1 a0' HPC
      generalize hv2 : atZ (numZ s) (p + 1) = v2 at HV2 a1' HPC
      have hw1 : IntKind.i64.wrap (256 * v1) = 256 * v1 := IntWalk.i64_in _ (by omega)
      have hw2 : IntKind.i64.wrap (256 * v1 + v2) = 256 * v1 + v2 := IntWalk.i64_in _ (by omega)
      have hw3 : IntKind.i64.wrap ((p : Int) + 1) = (p : Int) + 1 := IntWalk.i64_in _ (by omega)
      clear hpe a0' a1' hv1 hv2 hkz hpb hpb2 hn4
      have f1 : (0 : Int) ≤ (k : Int) := by omega
      have f2 : (k : Int) < (n : Int) := by omega
      obtain ⟨cc0, cc1, cc2, cc3, ccl⟩ := bk4 HD.out.cb
      go_wp2_with fail
      clear cc0 cc1 cc2 cc3 ccl
      have HCC := Lib.hid (fun (W : World) (h : Bk W N 29 #[.slice a0 n n0, .slice a1 n n1, .slice a2 ni n2, .slice a3 n n3]) => (⟨h.cell 0, trivial⟩ : (fun W : World => W.cell? ⟨N, 0, none⟩ = some (.slice a0 n n0) ∧ True) W))
      refine wp_region_held_drew (S := fun W : World => W.cell? ⟨N, 0, none⟩ = some (.slice a0 n n0) ∧ True) (by kernel_rfl) (HCC.out _ HD.out.cb) (fun hS => ?_)
      refine wpAnyH_take (i := 0) (v := .pointer (some ⟨N, 0, none⟩)) rfl (by kernel_rfl) (by kernel_rfl) (by kernel_rfl) (fun _ _ _ h => h) (Or.inl ⟨by rfl, fun w hSw => by obtain ⟨s0, _⟩ := hSw; first | (go_simp; done) | (go_simp; with_reducible rfl)⟩) hS ?_
      simp only [Act.put, List.setIfInBounds_toArray, List.set_cons_zero, List.set_cons_succ]
      refine wpAnyH_take (i := 1) (v := .slice a0 n n0) rfl (by kernel_rfl) (by kernel_rfl) (by kernel_rfl) (fun _ _ _ h => h) (Or.inl ⟨by rfl, fun w hSw => by obtain ⟨s0, _⟩ := hSw; first | (go_simp; done) | (go_simp; with_reducible rfl)⟩) hS ?_
      simp only [Act.put, List.setIfInBounds_toArray, List.set_cons_zero, List.set_cons_succ]
      refine wpAnyH_take (i := 2) (v := .int .i64 k) rfl (by kernel_rfl) (by kernel_rfl) (by kernel_rfl) (fun _ _ _ h => h) (Or.inl ⟨by rfl, fun w hSw => by obtain ⟨s0, _⟩ := hSw; first | (go_simp; done) | (go_simp; with_reducible rfl)⟩) hS ?_
      simp only [Act.put, List.setIfInBounds_toArray, List.set_cons_zero, List.set_cons_succ]
      refine wpAnyH_take (i := 3) (v := .string s) rfl (by kernel_rfl) (by kernel_rfl) (by kernel_rfl) (fun _ _ _ h => h) (Or.inl ⟨by rfl, fun w hSw => by obtain ⟨s0, _⟩ := hSw; first | (go_simp; done) | (go_simp; with_reducible rfl)⟩) hS ?_
      simp only [Act.put, List.setIfInBounds_toArray, List.set_cons_zero, List.set_cons_succ]
      refine wpAnyH_take (i := 4) (v := .int .i64 p) rfl (by kernel_rfl) (by kernel_rfl) (by kernel_rfl) (fun _ _ _ h => h) (Or.inl ⟨by rfl, fun w hSw => by obtain ⟨s0, _⟩ := hSw; first | (go_simp; done) | (go_simp; with_reducible rfl)⟩) hS ?_
      simp only [Act.put, List.setIfInBounds_toArray, List.set_cons_zero, List.set_cons_succ]
      refine wpAnyH_take (i := 7) (v := .string s) rfl (by kernel_rfl) (by kernel_rfl) (by kernel_rfl) (fun _ _ _ h => h) (Or.inl ⟨by rfl, fun w hSw => by obtain ⟨s0, _⟩ := hSw; first | (go_simp; done) | (go_simp; with_reducible rfl)⟩) hS ?_
      simp only [Act.put, List.setIfInBounds_toArray, List.set_cons_zero, List.set_cons_succ]
      refine wpAnyH_take (i := 8) (v := .int .i64 p) rfl (by kernel_rfl) (by kernel_rfl) (by kernel_rfl) (fun _ _ _ h => h) (Or.inl ⟨by rfl, fun w hSw => by obtain ⟨s0, _⟩ := hSw; first | (go_simp; done) | (go_simp; with_reducible rfl)⟩) hS ?_
      simp only [Act.put, List.setIfInBounds_toArray, List.set_cons_zero, List.set_cons_succ]
      refine wpAnyH_take (i := 9) (v := .int .i64 ((p : Int) + 1)) rfl (by kernel_rfl) (by kernel_rfl) (by kernel_rfl) (fun _ _ _ h => h) (Or.inl ⟨by rfl, fun w hSw => by obtain ⟨s0, _⟩ := hSw; first | (go_simp; done) | (go_simp; with_reducible rfl)⟩) hS ?_
      simp only [Act.put, List.setIfInBounds_toArray, List.set_cons_zero, List.set_cons_succ]
      refine wpAnyH_ready (rs := [5]) (by kernel_rfl) (by simp) ?_
      refine AllReadyH.cons rfl (fun K hK => ?_) AllReadyH.nil
      go_simp
      refine (HV1.out wr.drew).mono ?_
      rintro e w4 ⟨rfl, rfl⟩
      replace HD := Lib.hid HD.out.drew
      generalize wr.drew = wr at HD ⊢
      go_wp2_with (fail)
      refine hK.out _ _ (HCC.out _ HD.out.cb) (fun hS => ?_)
      clear hK K
      refine wpAnyH_take (i := 6) (v := .int .i64 (256 * v1)) rfl (by kernel_rfl) (by kernel_rfl) (by kernel_rfl) (fun _ _ _ h => h) (Or.inl ⟨by rfl, fun w hSw => by obtain ⟨s0, _⟩ := hSw; first | (go_simp; done) | (go_simp; with_reducible rfl)⟩) hS ?_
      simp only [Act.put, List.setIfInBounds_toArray, List.set_cons_zero, List.set_cons_succ]
      refine wpAnyH_ready (rs := [10]) (by kernel_rfl) (by simp) ?_
      refine AllReadyH.cons rfl (fun K hK => ?_) AllReadyH.nil
      go_simp
      refine (HV2.out wr).mono ?_
      rintro e w5 ⟨rfl, rfl⟩
      go_wp2_with (fail)
      refine hK.out _ _ (HCC.out _ HD.out.cb) (fun hS => ?_)
      clear hK K HV1 HV2
      have hcp : k < c.pf.pc.length := by rw [HP.out]; show k < (pcK u s k).length; unfold pcK; rw [mix_len]; exact HKZ.out
      obtain ⟨gp, up, rfl, hkm, hBg, hgN, hgl, hgc, hgf, _, hst⟩ := HD.out.st.putPc k hcp
      obtain ⟨c1, hc1, hs1, hf1⟩ := hst (256 * v1 + v2)
      have HD6 := Lib.hid (HD.out.row hs1 hf1)
      have HP6 : Hid (c1.pf = pfR u s k 0) := Lib.hid (by
        rw [hc1, HP.out, pfR_zero u s k HKZ.out]
        show ({ pfK u s k with pc := (pcK u s k).set k (256 * v1 + v2) } : Pf) = _
        rw [← HPC.out, pc_next u s k HKZ.out])
      clear hcp hc1 hs1 hf1 hst
      refine wpAnyH_take (i := 11) (v := .int .i64 (256 * v1 + v2)) rfl (by kernel_rfl) (by kernel_rfl) (by kernel_rfl) (fun _ _ _ h => h) (Or.inl ⟨by rfl, fun w hSw => by obtain ⟨s0, _⟩ := hSw; first | (go_simp; done) | (go_simp; with_reducible rfl)⟩) hS ?_
      simp only [Act.put, List.setIfInBounds_toArray, List.set_cons_zero, List.set_cons_succ]
      refine wpAnyH_take (i := 12) (v := .pointer (some ⟨gp, k, none⟩)) rfl (by kernel_rfl) (by kernel_rfl) (by kernel_rfl) (fun _ _ _ h => h) (Or.inl ⟨by rfl, fun w hSw => by obtain ⟨s0, _⟩ := hSw; first | (go_simp; done) | (go_simp; with_reducible rfl)⟩) hS ?_
      simp only [Act.put, List.setIfInBounds_toArray, List.set_cons_zero, List.set_cons_succ]
      refine wpAnyH_ready (rs := [13]) (by kernel_rfl) (by simp) ?_
      refine AllReadyH.cons rfl (fun K hK => ?_) AllReadyH.nil
      go_simp
      go_wp2_with (fail)
      generalize wr.setCell _ _ = w6 at HD6 ⊢
      refine hK.out _ _ (HCC.out _ HD6.out.cb) (fun hS => ?_)
      clear hK K hS hgc hgf hgl hBg hgN hkm HCC
      refine wpAnyH_done (by kernel_rfl) ?_ _
      try simp only [Act.put, List.setIfInBounds_toArray, List.set_cons_zero, List.set_cons_succ]
      have hcr : k < c1.pf.regs.length := by
        rw [HP6.out]
        show k < ((rgK u s k).set k _).length
        rw [List.length_set]; unfold rgK; rw [mix_len]; exact HKZ.out
      obtain ⟨g1, cp1, ar, cr', hx1, hg1l, hg1c⟩ := HD6.out.st.rowAt k hcr
      injection hx1 with hx1 hx2 hx3
      subst hx1
      have hg1N := HXR.out g1 rfl
      rw [show c1.pf.regs.getD k [] = rowJ s (posF (numZ s) (lensZ u) 0 k + 2) ((lensZ u).getD k 0) 0 by rw [HP6.out]; exact pfR_at u s k 0 HKZ.out, rowJ_len] at hg1c
      clear hcr hx2 hx3
      obtain ⟨r, hre⟩ : ∃ r, r = (lensZ u).getD k 0 := ⟨_, rfl⟩
      rw [← hre] at hg1c hr6 HPN
      have HRE := Lib.hid hre
      have HR6 := Lib.hid hr6
      have hw4 : IntKind.i64.wrap ((p : Int) + 2) = (p : Int) + 2 := IntWalk.i64_in _ (by have := HP3.out; omega)
      clear hre
      go_wp2_with fail
      have HG1 := Lib.hid hg1c
      have HG2 := Lib.hid hg1N
      have HG3 := Lib.hid hg1l
      clear hg1c hg1N hg1l hw1 hw2 hw3 hw4
      go_loopg [12, 14] r (fun fuel s' i' wi => ∃ (j : Nat), i' = .int .i64 j ∧ s' = .int .i64 (((p + 2 + j : Nat)) : Int) ∧ j ≤ r ∧ r - j ≤ fuel ∧ wi.cell? ⟨g1, k, none⟩ = some (.slice ar r cr') ∧ g1 < wi.heap.size ∧ ∃ c : Cf, c.pf = pfR u s k j ∧ RecS B N w1 wi (.slice (some ⟨gp, 0, none⟩) n n0) (.slice (some ⟨g1, 0, none⟩) n n1) (.slice a2 ni n2) (.slice a3 n n3) c)
      case atStart => exact ⟨0, rfl, by go_num, Nat.zero_le _, Nat.le_refl _, HG1.out, HG3.out, c1, HP6.out, HD6.out⟩
      case round =>
        obtain ⟨j, rfl, rfl, hj, hfj, hg1c, hg1l, c2, hc2, hd2⟩ := hrel
        have HC2 := Lib.hid hc2
        have HD7 := Lib.hid hd2
        clear hc2 hd2
        by_cases hjl : j < r
        · have f1 : (0 : Int) ≤ (k : Int) := by omega
          have f2 : (k : Int) < (n : Int) := by have := HLT.out; omega
          have f3 : (0 : Int) ≤ (j : Int) := by omega
          have f4 : (j : Int) < (r : Int) := by omega
          have HJL := Lib.hid hjl
          obtain ⟨q, hq⟩ : ∃ q, q = p + 2 + j := ⟨_, rfl⟩
          have hq2 : q ≤ 4000 := by have := HP3.out; omega
          rw [← hq]
          have HQ := Lib.hid hq
          have HV3 := Lib.hid (fun (W : World) => HAT.out q W)
          have HVV : Hid (atZ (numZ s) q = atZ (numZ s) (posF (numZ s) (lensZ u) 0 k + 2 + j)) := Lib.hid (by rw [hq, HPE.out])
          generalize atZ (numZ s) q = v at HV3 HVV
          clear hq
          have HG4 := Lib.hid hg1c
          have HG5 := Lib.hid hg1l
          obtain ⟨cc0, cc1, cc2, cc3, ccl⟩ := bk4 HD7.out.cb
          go_wp2_with fail
          clear cc0 cc1 cc2 cc3 ccl hg1c hg1l
          have HCC := Lib.hid (fun (W : World) (h : Bk W N 29 #[.slice (some ⟨gp, 0, none⟩) n n0, .slice (some ⟨g1, 0, none⟩) n n1, .slice a2 ni n2, .slice a3 n n3]) (h2 : W.cell? ⟨g1, k, none⟩ = some (.slice ar r cr')) => (⟨h.cell 1, h2, trivial⟩ : (fun W : World => W.cell? ⟨N, 1, none⟩ = some (.slice (some ⟨g1, 0, none⟩) n n1) ∧ W.cell? ⟨g1, k, none⟩ = some (.slice ar r cr') ∧ True) W))
          refine wp_region_held_drew (S := fun W : World => W.cell? ⟨N, 1, none⟩ = some (.slice (some ⟨g1, 0, none⟩) n n1) ∧ W.cell? ⟨g1, k, none⟩ = some (.slice ar r cr') ∧ True) (by kernel_rfl) (HCC.out _ HD7.out.cb HG4.out) (fun hS => ?_)
          refine wpAnyH_take (i := 0) (v := .pointer (some ⟨N, 1, none⟩)) rfl (by kernel_rfl) (by kernel_rfl) (by kernel_rfl) (fun _ _ _ h => h) (Or.inl ⟨by rfl, fun w hSw => by obtain ⟨s0, s1, _⟩ := hSw; first | (go_simp; done) | (go_simp; with_reducible rfl)⟩) hS ?_
          simp only [Act.put, List.setIfInBounds_toArray, List.set_cons_zero, List.set_cons_succ]
          refine wpAnyH_take (i := 1) (v := .slice (some ⟨g1, 0, none⟩) n n1) rfl (by kernel_rfl) (by kernel_rfl) (by kernel_rfl) (fun _ _ _ h => h) (Or.inl ⟨by rfl, fun w hSw => by obtain ⟨s0, s1, _⟩ := hSw; first | (go_simp; done) | (go_simp; with_reducible rfl)⟩) hS ?_
          simp only [Act.put, List.setIfInBounds_toArray, List.set_cons_zero, List.set_cons_succ]
          refine wpAnyH_take (i := 2) (v := .int .i64 k) rfl (by kernel_rfl) (by kernel_rfl) (by kernel_rfl) (fun _ _ _ h => h) (Or.inl ⟨by rfl, fun w hSw => by obtain ⟨s0, s1, _⟩ := hSw; first | (go_simp; done) | (go_simp; with_reducible rfl)⟩) hS ?_
          simp only [Act.put, List.setIfInBounds_toArray, List.set_cons_zero, List.set_cons_succ]
          refine wpAnyH_take (i := 3) (v := .pointer (some ⟨g1, k, none⟩)) rfl (by kernel_rfl) (by kernel_rfl) (by kernel_rfl) (fun _ _ _ h => h) (Or.inl ⟨by rfl, fun w hSw => by obtain ⟨s0, s1, _⟩ := hSw; first | (go_simp; done) | (go_simp; with_reducible rfl)⟩) hS ?_
          simp only [Act.put, List.setIfInBounds_toArray, List.set_cons_zero, List.set_cons_succ]
          refine wpAnyH_take (i := 4) (v := .slice ar r cr') rfl (by kernel_rfl) (by kernel_rfl) (by kernel_rfl) (fun _ _ _ h => h) (Or.inl ⟨by rfl, fun w hSw => by obtain ⟨s0, s1, _⟩ := hSw; first | (go_simp; done) | (go_simp; with_reducible rfl)⟩) hS ?_
          simp only [Act.put, List.setIfInBounds_toArray, List.set_cons_zero, List.set_cons_succ]
          refine wpAnyH_take (i := 5) (v := .int .i64 j) rfl (by kernel_rfl) (by kernel_rfl) (by kernel_rfl) (fun _ _ _ h => h) (Or.inl ⟨by rfl, fun w hSw => by obtain ⟨s0, s1, _⟩ := hSw; first | (go_simp; done) | (go_simp; with_reducible rfl)⟩) hS ?_
          simp only [Act.put, List.setIfInBounds_toArray, List.set_cons_zero, List.set_cons_succ]
          refine wpAnyH_take (i := 6) (v := .string s) rfl (by kernel_rfl) (by kernel_rfl) (by kernel_rfl) (fun _ _ _ h => h) (Or.inl ⟨by rfl, fun w hSw => by obtain ⟨s0, s1, _⟩ := hSw; first | (go_simp; done) | (go_simp; with_reducible rfl)⟩) hS ?_
          simp only [Act.put, List.setIfInBounds_toArray, List.set_cons_zero, List.set_cons_succ]
          refine wpAnyH_take (i := 7) (v := .int .i64 q) rfl (by kernel_rfl) (by kernel_rfl) (by kernel_rfl) (fun _ _ _ h => h) (Or.inl ⟨by rfl, fun w hSw => by obtain ⟨s0, s1, _⟩ := hSw; first | (go_simp; done) | (go_simp; with_reducible rfl)⟩) hS ?_
          simp only [Act.put, List.setIfInBounds_toArray, List.set_cons_zero, List.set_cons_succ]
          refine wpAnyH_ready (rs := [8]) (by kernel_rfl) (by simp) ?_
          refine AllReadyH.cons rfl (fun K hK => ?_) AllReadyH.nil
          go_simp
          refine (HV3.out wr.drew).mono ?_
          rintro e w4 ⟨rfl, rfl⟩
          replace HD7 := Lib.hid HD7.out.drew
          replace HG4 := Lib.hid (show wr.drew.cell? ⟨g1, k, none⟩ = _ from HG4.out)
          replace HG5 := Lib.hid (show g1 < wr.drew.heap.size from HG5.out)
          generalize wr.drew = wr at HD7 HG4 HG5 ⊢
          go_wp2_with (fail)
          refine hK.out _ _ (HCC.out _ HD7.out.cb HG4.out) (fun hS => ?_)
          clear hK K HV3
          have hck : k < c2.pf.regs.length := by
            rw [HC2.out]
            show k < ((rgK u s k).set k _).length
            rw [List.length_set]; unfold rgK; rw [mix_len]; exact HKZ.out
          have hcj : j < (c2.pf.regs.getD k []).length := by rw [HC2.out, pfR_at u s k j HKZ.out, rowJ_len, ← HRE.out]; exact HJL.out
          obtain ⟨g1', g, mr, crr, e1, h5, h6, h7, h8, h9, h10, h11, h12⟩ := HD7.out.st.putReg2 k hck j hcj
          injection e1 with e1
          injection e1 with e1
          subst e1
          have h7' := HG4.out
          rw [h7] at h7'
          injection h7' with h7'
          injection h7' with e7 e8 e9
          subst e7 e8 e9
          obtain ⟨u', h13, h14, h15, h16⟩ := h12 wr (Below.refl _ _)
          obtain ⟨c3, h17, h18, h19⟩ := h16 v
          have HD8 := Lib.hid (HD7.out.row h18 h19)
          have HG6 : Hid ((wr.setCell ⟨g, j, none⟩ (.int .i64 v)).cell? ⟨g1, k, none⟩ = some (.slice (some ⟨g, 0, none⟩) mr crr)) := Lib.hid (by
            rw [World.cell?_setCell_other]
            · exact HG4.out
            · intro e
              injection e with e
              exact h11 e)
          have HG7 : Hid (g1 < (wr.setCell ⟨g, j, none⟩ (.int .i64 v)).heap.size) := Lib.hid (by rw [setCell_size]; exact HG5.out)
          have HC3 : Hid (c3.pf = pfR u s k (j + 1)) := Lib.hid (by
            rw [h17, HC2.out, HVV.out]
            exact pfR_next u s k j HKZ.out (by rw [← HRE.out]; exact HJL.out))
          clear hck hcj h5 h6 h7 h9 h10 h12 h16 h17 h18 h19
          refine wpAnyH_take (i := 9) (v := .pointer (some ⟨g, j, none⟩)) rfl (by kernel_rfl) (by kernel_rfl) (by kernel_rfl) (fun _ _ _ h => h) (Or.inl ⟨by rfl, fun w hSw => by obtain ⟨s0, s1, _⟩ := hSw; first | (go_simp; done) | (go_simp; with_reducible rfl)⟩) hS ?_
          simp only [Act.put, List.setIfInBounds_toArray, List.set_cons_zero, List.set_cons_succ]
          refine wpAnyH_ready (rs := [10]) (by kernel_rfl) (by simp) ?_
          refine AllReadyH.cons rfl (fun K hK => ?_) AllReadyH.nil
          go_simp
          go_wp2_with (fail)
          generalize wr.setCell _ _ = w9 at HD8 HG6 HG7 ⊢
          refine hK.out _ _ (HCC.out _ HD8.out.cb HG6.out) (fun hS => ?_)
          clear hK K hS h13 h14 h15 h11 HCC
          refine wpAnyH_done (by kernel_rfl) ?_ _
          try simp only [Act.put, List.setIfInBounds_toArray, List.set_cons_zero, List.set_cons_succ]
          have hwq : IntKind.i64.wrap ((q : Int) + 1) = (q : Int) + 1 := IntWalk.i64_in _ (by omega)
          have hwj : IntKind.i64.wrap ((j : Int) + 1) = (j : Int) + 1 := IntWalk.i64_in _ (by have := HJL.out; have := HR6.out; omega)
          go_wp2_with fail
          have hjl := HJL.out
          go_roundg (gk - 1)
          case measure => omega
          case rel => exact ⟨j + 1, by go_num, by have := HQ.out; exact congrArg (Value.int .i64) (by omega), by omega, by omega, HG6.out, HG7.out, c3, HC3.out, HD8.out⟩
        · obtain rfl : j = r := by omega
          rw [HRE.out, pfR_all u s k HKZ.out] at HC2
          have f1 : (0 : Int) ≤ (k : Int) := by omega
          have f2 : (k : Int) < (n : Int) := by have := HLT.out; omega
          obtain ⟨q, hq⟩ : ∃ q, q = p + 2 + j := ⟨_, rfl⟩
          have hq2 : q ≤ 4000 := by have := HP3.out; omega
          rw [← hq]
          have HQ := Lib.hid hq
          have HV3 := Lib.hid (fun (W : World) => HAT.out q W)
          have hci := cnt_int s (lensZ u) k
          rw [← HPE.out, ← HRE.out, ← hq] at hci
          obtain ⟨cn, hcn⟩ : ∃ cn, cn = cntF (numZ s) (lensZ u) 0 k := ⟨_, rfl⟩
          rw [← hcn] at hci HPN
          have HCN := Lib.hid hcn
          rw [← hci] at HV3
          have hcb : cn ≤ 255 := by rw [hcn]; exact cnt_bd s (lensZ u) k
          have HCB := Lib.hid hcb
          clear hcn hci hq
          obtain ⟨cc0, cc1, cc2, cc3, ccl⟩ := bk4 HD7.out.cb
          go_wp2_with fail
          clear cc0 cc1 cc2 cc3 ccl hg1c hg1l
          refine (HV3.out wr).mono ?_
          rintro e w7 ⟨rfl, rfl⟩
          have hwq : IntKind.i64.wrap ((q : Int) + 1) = (q : Int) + 1 := IntWalk.i64_in _ (by omega)
          go_wp2_with fail
          clear HV3 hwq
          obtain ⟨w7, rfl⟩ : ∃ z, z = wr := ⟨_, rfl⟩
          have BR : Hid (Below w7.heap.size w7 w7) := Lib.hid (Below.refl _ _)
          go_loopg [12, 16, 17] cn (fun fuel s' v' i' wi => ∃ (m : Nat), i' = .int .i64 m ∧ s' = .int .i64 (((q + 1 + 2 * m : Nat)) : Int) ∧ m ≤ cn ∧ cn - m ≤ fuel ∧ OwnE wi w7.heap.size v' (entsZ (numZ s) (q + 1) m) ∧ Below w7.heap.size w7 wi)
          case atStart => exact ⟨0, rfl, by exact congrArg (Value.int .i64) (by omega), Nat.zero_le _, Nat.le_refl _, World.ownsRow_nil _ _ _ _, BR.out⟩
          case round =>
            obtain ⟨m, rfl, rfl, hm, hfm, hov, hbw⟩ := hrel
            have HOV := Lib.hid hov
            have HBW2 := Lib.hid hbw
            obtain ⟨av, kv, rfl, _⟩ := own_shape' hov
            clear hov hbw
            have hel : (entsZ (numZ s) (q + 1) m).length = m := by simp [entsZ]
            have HEL := Lib.hid hel
            rw [hel] at HOV ⊢
            clear hel
            by_cases hml : m < cn
            · have HML := Lib.hid hml
              obtain ⟨i0, hi0⟩ : ∃ i0, i0 = q + 1 + 2 * m := ⟨_, rfl⟩
              have hi5 : i0 ≤ 5000 := by have := HCB.out; omega
              rw [← hi0]
              have HI0 := Lib.hid hi0
              have HV1 := Lib.hid (fun (W : World) => HAT.out i0 W)
              have HV2 := Lib.hid (fun (W : World) => (show Calls Try.prog 29 #[.string s, .int .i64 ((i0 : Int) + 1)] W _ from HAT.out (i0 + 1) W))
              have HSN : Hid (entsZ (numZ s) (q + 1) m ++ [(atZ (numZ s) i0, atZ (numZ s) (i0 + 1))] = entsZ (numZ s) (q + 1) (m + 1)) := Lib.hid (by rw [ents_snoc, hi0])
              generalize atZ (numZ s) i0 = v1 at HV1 HSN
              generalize atZ (numZ s) (i0 + 1) = v2 at HV2 HSN
              have hw3 : IntKind.i64.wrap ((i0 : Int) + 1) = (i0 : Int) + 1 := IntWalk.i64_in _ (by omega)
              clear hi0
              go_wp2_with fail
              refine (HV1.out wr).mono ?_
              rintro e w8 ⟨rfl, rfl⟩
              go_wp2_with fail
              refine (HV2.out wr).mono ?_
              rintro e w8 ⟨rfl, rfl⟩
              have HBN : Hid (Below wr.heap.size wr (World.alloc wr (.cells #[.int .i64 v1, .int .i64 v2] 50))) := Lib.hid (bal (Below.refl _ _) _)
              have HKN : Hid (EntsD (World.alloc wr (.cells #[.int .i64 v1, .int .i64 v2] 50)) (.slice (some ⟨wr.heap.size, 0, none⟩) 1 1) [(v1, v2)]) := Lib.hid (entsD_of_bk (xs := [(v1, v2)]) (Bk.new wr 50 #[.int .i64 v1, .int .i64 v2]) rfl (by simp))
              have HOV2 := Lib.hid (own_below HOV.out HBN.out)
              clear HV1 HV2 hw3
              go_wp2_with (at_builtin; refine append_ents rfl (.tmp 83) (.tmp 92) rfl w7.heap.size (.slice av m kv) (entsZ (numZ s) (q + 1) m) [(v1, v2)] rfl (some ⟨wr.heap.size, 0, none⟩) 1 1 rfl HOV2.out HKN.out (by rw [HEL.out]; have := HCB.out; show m + 1 ≤ _; omega) (by have := HBW2.out.size; have := HBN.out.size; omega) _ HSN.out ?_)
              intro v' w9 HO9 hb9
              have HB9 := Lib.hid (HBW2.out.trans ((HBN.out.mono HBW2.out.size).trans hb9))
              clear hb9 HBN HKN HOV2
              have hw4 : IntKind.i64.wrap ((i0 : Int) + 2) = (i0 : Int) + 2 := IntWalk.i64_in _ (by omega)
              have hw5 : IntKind.i64.wrap ((m : Int) + 1) = (m : Int) + 1 := IntWalk.i64_in _ (by have := HML.out; have := HCB.out; omega)
              go_wp2_with fail
              have hml := HML.out
              go_roundg (gk - 1)
              case measure => omega
              case rel => exact ⟨m + 1, by go_num, by have := HI0.out; exact congrArg (Value.int .i64) (by omega), by omega, by omega, HO9.out, HB9.out⟩
            · obtain rfl : m = cn := by omega
              have HD8 := Lib.hid (HD7.out.below HBW2.out)
              have HOE : Hid (OwnE wr B (.slice av m kv) (entsZ (numZ s) (q + 1) m)) := Lib.hid (by
                have h7 : B ≤ w7.heap.size := by have := HD7.out.st.n; have := HD7.out.st.bn; omega
                exact own_base (B' := B) HOV.out h7)
              have hcp : k < c2.pf.buf.length := by rw [HC2.out]; show k < (bfK u s k).length; unfold bfK; rw [mix_len]; exact HKZ.out
              obtain ⟨gb, ub, rfl, hkm, hBg, hgN, hgl, hgc, hgf, hst⟩ := HD8.out.st.putBuf k hcp
              obtain ⟨c3, hc3, hs3, hf3⟩ := hst _ _ HOE.out
              have HDA := Lib.hid (HD8.out.row hs3 hf3)
              have HPA : Hid (c3.pf = pfK u s (k + 1)) := Lib.hid (by
                rw [hc3, HC2.out]
                show (⟨pcK u s (k + 1), rgK u s (k + 1), u.init, (bfK u s k).set k _⟩ : Pf) = pfK u s (k + 1)
                rw [show q + 1 = posF (numZ s) (lensZ u) 0 k + 3 + (lensZ u).getD k 0 by rw [HQ.out, HPE.out, HRE.out]; omega, HCN.out, bf_next u s k HKZ.out]
                rfl)
              clear hcp hc3 hs3 hf3 hst
              obtain ⟨cc0, cc1, cc2, cc3, ccl⟩ := bk4 HD8.out.cb
              have f1 : (0 : Int) ≤ (k : Int) := by omega
              have f2 : (k : Int) < (n : Int) := by have := HLT.out; omega
              have hwk : IntKind.i64.wrap ((k : Int) + 1) = (k : Int) + 1 := IntWalk.i64_in _ (by have := HLT.out; have := HN4.out.1; omega)
              go_wp2_with fail
              generalize wr.setCell _ _ = wa at HDA ⊢
              clear cc0 cc1 cc2 cc3 ccl hgc hgf hgl hBg hgN hkm
              have hlt := HLT.out
              go_roundg (ga - 1)
              case measure => omega
              case rel => exact ⟨k + 1, c3, by go_num, by rw [HPN.out]; have := HQ.out; exact congrArg (Value.int .i64) (by omega), by omega, by omega, HDA.out, HPA.out⟩
    · obtain rfl : k = n := by omega
      obtain ⟨p, hpe⟩ : ∃ p, p = posF (numZ s) (lensZ u) 0 (nZ u) := ⟨_, rfl⟩
      have HPE := Lib.hid hpe
      have hp3 : p ≤ 3000 := by
        have h1 := HPB.out (nZ u) (Nat.le_refl _)
        have h2 := HN4.out.1
        rw [HNN.out] at h2
        have : nZ u * 519 ≤ 4 * 519 := Nat.mul_le_mul_right _ h2
        omega
      rw [HNN.out] at HP
      have HP0 : Hid (c.pf = pfM u s 0) := Lib.hid (by rw [pfM_zero]; exact HP.out)
      rw [show posF (numZ s) (lensZ u) 0 k = p by rw [HNN.out]; exact hpe.symm]
      have HP3 := Lib.hid hp3
      have HNI6 : Hid (ni ≤ 6) := Lib.hid (by have := HN4.out.2; have := HNI.out; omega)
      obtain ⟨cc0, cc1, cc2, cc3, ccl⟩ := bk4 HD.out.cb
      clear hpe HP hp3
      go_wp2_with fail
      clear cc0 cc1 cc2 cc3 ccl
      go_loopg [12, 18] ni (fun fuel s' i' wi => ∃ (j : Nat) (c : Cf), i' = .int .i64 j ∧ s' = .int .i64 ((p + j : Nat) : Int) ∧ j ≤ ni ∧ ni - j ≤ fuel ∧ RecS B N w1 wi (.slice a0 k n0) (.slice a1 k n1) (.slice a2 ni n2) (.slice a3 k n3) c ∧ c.pf = pfM u s j)
      case atStart => exact ⟨0, c, rfl, by go_num, Nat.zero_le _, Nat.le_refl _, HD.out, HP0.out⟩
      case round =>
        obtain ⟨j, c2, rfl, rfl, hj, hfj, hd, hp⟩ := hrel
        have HD2 := Lib.hid hd
        have HC2 := Lib.hid hp
        clear hd hp
        by_cases hjl : j < ni
        · have HJL := Lib.hid hjl
          obtain ⟨q, hq⟩ : ∃ q, q = p + j := ⟨_, rfl⟩
          have hq2 : q ≤ 4000 := by have := HP3.out; have := HNI6.out; omega
          rw [← hq]
          have HQ := Lib.hid hq
          have HV3 := Lib.hid (fun (W : World) => HAT.out q W)
          have HVV : Hid (atZ (numZ s) q = atZ (numZ s) (posF (numZ s) (lensZ u) 0 (nZ u) + j)) := Lib.hid (by rw [hq, HPE.out])
          generalize atZ (numZ s) q = v at HV3 HVV
          clear hq
          have f3 : (0 : Int) ≤ (j : Int) := by omega
          have f4 : (j : Int) < (ni : Int) := by omega
          obtain ⟨cc0, cc1, cc2, cc3, ccl⟩ := bk4 HD2.out.cb
          go_wp2_with fail
          clear cc0 cc1 cc2 cc3 ccl
          have HCC := Lib.hid (fun (W : World) (h : Bk W N 29 #[.slice a0 k n0, .slice a1 k n1, .slice a2 ni n2, .slice a3 k n3]) => (⟨h.cell 2, trivial⟩ : (fun W : World => W.cell? ⟨N, 2, none⟩ = some (.slice a2 ni n2) ∧ True) W))
          refine wp_region_held_drew (S := fun W : World => W.cell? ⟨N, 2, none⟩ = some (.slice a2 ni n2) ∧ True) (by kernel_rfl) (HCC.out _ HD2.out.cb) (fun hS => ?_)
          refine wpAnyH_take (i := 0) (v := .pointer (some ⟨N, 2, none⟩)) rfl (by kernel_rfl) (by kernel_rfl) (by kernel_rfl) (fun _ _ _ h => h) (Or.inl ⟨by rfl, fun w hSw => by obtain ⟨s0, _⟩ := hSw; first | (go_simp; done) | (go_simp; with_reducible rfl)⟩) hS ?_
          simp only [Act.put, List.setIfInBounds_toArray, List.set_cons_zero, List.set_cons_succ]
          refine wpAnyH_take (i := 1) (v := .slice a2 ni n2) rfl (by kernel_rfl) (by kernel_rfl) (by kernel_rfl) (fun _ _ _ h => h) (Or.inl ⟨by rfl, fun w hSw => by obtain ⟨s0, _⟩ := hSw; first | (go_simp; done) | (go_simp; with_reducible rfl)⟩) hS ?_
          simp only [Act.put, List.setIfInBounds_toArray, List.set_cons_zero, List.set_cons_succ]
          refine wpAnyH_take (i := 2) (v := .int .i64 j) rfl (by kernel_rfl) (by kernel_rfl) (by kernel_rfl) (fun _ _ _ h => h) (Or.inl ⟨by rfl, fun w hSw => by obtain ⟨s0, _⟩ := hSw; first | (go_simp; done) | (go_simp; with_reducible rfl)⟩) hS ?_
          simp only [Act.put, List.setIfInBounds_toArray, List.set_cons_zero, List.set_cons_succ]
          refine wpAnyH_take (i := 3) (v := .string s) rfl (by kernel_rfl) (by kernel_rfl) (by kernel_rfl) (fun _ _ _ h => h) (Or.inl ⟨by rfl, fun w hSw => by obtain ⟨s0, _⟩ := hSw; first | (go_simp; done) | (go_simp; with_reducible rfl)⟩) hS ?_
          simp only [Act.put, List.setIfInBounds_toArray, List.set_cons_zero, List.set_cons_succ]
          refine wpAnyH_take (i := 4) (v := .int .i64 q) rfl (by kernel_rfl) (by kernel_rfl) (by kernel_rfl) (fun _ _ _ h => h) (Or.inl ⟨by rfl, fun w hSw => by obtain ⟨s0, _⟩ := hSw; first | (go_simp; done) | (go_simp; with_reducible rfl)⟩) hS ?_
          simp only [Act.put, List.setIfInBounds_toArray, List.set_cons_zero, List.set_cons_succ]
          refine wpAnyH_ready (rs := [5]) (by kernel_rfl) (by simp) ?_
          refine AllReadyH.cons rfl (fun K hK => ?_) AllReadyH.nil
          go_simp
          refine (HV3.out wr.drew).mono ?_
          rintro e w4 ⟨rfl, rfl⟩
          replace HD2 := Lib.hid HD2.out.drew
          generalize wr.drew = wr at HD2 ⊢
          go_wp2_with (fail)
          refine hK.out _ _ (HCC.out _ HD2.out.cb) (fun hS => ?_)
          clear hK K HV3
          have hml : c2.pf.mem.length = u.init.length := by rw [HC2.out]; show (memJ u s _ _).length = _; unfold memJ; rw [mix_len]
          obtain ⟨g, u', rfl, _, _, _, h5, h6, h7, h8⟩ := HD2.out.st.putMem j (by rw [hml, HNI.out]; exact HJL.out)
          obtain ⟨c3, h9, h10, h11⟩ := h8 v
          have HD3 := Lib.hid (HD2.out.row h10 h11)
          have HC3 : Hid (c3.pf = pfM u s (j + 1)) := Lib.hid (by
            rw [h9, HC2.out, HVV.out]
            exact pfM_next u s j (by rw [HNI.out]; exact HJL.out))
          clear hml h8 h9 h10 h11
          refine wpAnyH_take (i := 6) (v := .pointer (some ⟨g, j, none⟩)) rfl (by kernel_rfl) (by kernel_rfl) (by kernel_rfl) (fun _ _ _ h => h) (Or.inl ⟨by rfl, fun w hSw => by obtain ⟨s0, _⟩ := hSw; first | (go_simp; done) | (go_simp; with_reducible rfl)⟩) hS ?_
          simp only [Act.put, List.setIfInBounds_toArray, List.set_cons_zero, List.set_cons_succ]
          refine wpAnyH_ready (rs := [7]) (by kernel_rfl) (by simp) ?_
          refine AllReadyH.cons rfl (fun K hK => ?_) AllReadyH.nil
          go_simp
          go_wp2_with (fail)
          generalize wr.setCell _ _ = w9 at HD3 ⊢
          refine hK.out _ _ (HCC.out _ HD3.out.cb) (fun hS => ?_)
          clear hK K hS h5 h6 h7 HCC
          refine wpAnyH_done (by kernel_rfl) ?_ _
          try simp only [Act.put, List.setIfInBounds_toArray, List.set_cons_zero, List.set_cons_succ]
          have hwq : IntKind.i64.wrap ((q : Int) + 1) = (q : Int) + 1 := IntWalk.i64_in _ (by omega)
          have hwj : IntKind.i64.wrap ((j : Int) + 1) = (j : Int) + 1 := IntWalk.i64_in _ (by have := HJL.out; have := HNI6.out; omega)
          go_wp2_with fail
          have hjl := HJL.out
          go_roundg (gk - 1)
          case measure => omega
          case rel => exact ⟨j + 1, c3, by go_num, by have := HQ.out; exact congrArg (Value.int .i64) (by omega), by omega, by omega, HD3.out, HC3.out⟩
        · obtain rfl : j = ni := by omega
          have hc1 := HC2.out
          rw [← HNI.out, pfM_all u s] at hc1
          have HP1 := Lib.hid hc1
          clear hc1
          have hdz := HDZ.out
          obtain ⟨ee, hee⟩ : ∃ ee, ee = endF u s := ⟨_, rfl⟩
          obtain ⟨bw, ku, kr⟩ := HKW.out wr HD2.out.bel
          have BW := Lib.hid bw
          have KU := Lib.hid ku
          have KR := Lib.hid kr
          have HRR := Lib.hid (HRT.out wr bw c2 _ _ _ _ HD2.out.st.data HP1.out)
          rw [HP1.out] at HRR
          obtain ⟨b, hb⟩ : ∃ b, b = rightZ u (pfZ u s) model room := ⟨_, rfl⟩
          rw [← hb] at hdz HRR
          rw [← hee] at hdz
          have HBS := Lib.hid bw.size
          have HEE := Lib.hid hee
          clear bw ku kr hb hee
          obtain ⟨cc0, cc1, cc2, cc3, ccl⟩ := bk4 HD2.out.cb
          obtain ⟨uu0, uu1, uu2, uu3, uul⟩ := bk4 KU.out
          have HDZ2 := Lib.hid hdz
          clear hdz
          go_wp2_with fail
          clear cc0 cc1 cc2 cc3 ccl uu0 uu1 uu2 uu3 uul
          refine HRR.out.mono ?_
          rintro e w5 ⟨rfl, b5⟩
          have KR5 := Lib.hid (KR.out.below b5)
          have BW5 := Lib.hid (BW.out.trans (b5.mono HBS.out))
          have KC5 := Lib.hid (HD2.out.cb.below b5)
          have HO5 := Lib.hid (HD2.out.st.o.below b5)
          clear HRR b5
          obtain ⟨rd0, rd1, rd2, rd3, rdl⟩ := bk4 KR5.out
          obtain ⟨rf0, rf1, rf2, rf3⟩ := bkf4 KR5.out
          by_cases hok : b = true ∧ ee = s.size
          · obtain ⟨hb1, he1⟩ := hok
            subst hb1
            have HDS : Hid (decZ u s model room = some (pfZ u s)) := Lib.hid (by rw [HDZ2.out, decide_eq_true he1]; rfl)
            have hes : bytZ (encP (pfZ u s)) = s := enc_is (by rw [← HEE.out]; exact he1)
            rw [if_pos rfl, if_pos rfl, hes]
            have hse : (s.toList == s.toList) = true := by simp
            clear hes he1
            obtain ⟨cc0, cc1, cc2, cc3, ccl⟩ := bk4 KC5.out
            go_wp2_with fail
            have LT : w.heap.size ≤ w.heap.size + 1 := by omega
            have KD := set4_bk (.slice a0 k n0) (.slice a1 k n1) (.slice a2 j n2) (.slice a3 k n3) KR5.out
            have LD := set4_below (.slice a0 k n0) (.slice a1 k n1) (.slice a2 j n2) (.slice a3 k n3) BW5.out LT
            have kp := Lib.hid (set4_kp (w := w5) (B := B) (.slice a0 k n0) (.slice a1 k n1) (.slice a2 j n2) (.slice a3 k n3) (show w.heap.size + 1 < B from HBW.out))
            generalize (((w5.setCell _ _).setCell _ _).setCell _ _).setCell _ _ = w9 at KD LD kp ⊢
            clear rd0 rd1 rd2 rd3 rdl rf0 rf1 rf2 rf3 cc0 cc1 cc2 cc3 ccl
            have d0 : w9.cell? ⟨w.heap.size + 1, 0, none⟩ = some _ := KD.cell 0
            have d1 : w9.cell? ⟨w.heap.size + 1, 1, none⟩ = some _ := KD.cell 1
            have d2 : w9.cell? ⟨w.heap.size + 1, 2, none⟩ = some _ := KD.cell 2
            have d3 : w9.cell? ⟨w.heap.size + 1, 3, none⟩ = some _ := KD.cell 3
            refine bodyPost_ret (v := .tuple #[.agg #[.slice a0 k n0, .slice a1 k n1, .slice a2 j n2, .slice a3 k n3], .int .i64 0]) (by simp [results, Try.results16, go_sem, d0, d1, d2, d3]) rfl ?_
            rw [HDS.out]
            exact ⟨c2, _, _, _, _, rfl, (HO5.out.kp kp.out).base (by have := HBW.out; omega), HP1.out, LD⟩
          · have HDN : Hid (decZ u s model room = none) := Lib.hid (by
              rw [HDZ2.out]
              refine if_neg fun h => hok ?_
              rw [Bool.and_eq_true] at h
              exact ⟨h.1, of_decide_eq_true h.2⟩)
            have HNE : Hid (b = true → ((bytZ (encP (pfZ u s))).toList == s.toList) = false) := Lib.hid (fun h0 => str_ne (enc_not (by rw [← HEE.out]; exact fun e => hok ⟨h0, e⟩)))
            generalize bytZ (encP (pfZ u s)) = es at HNE ⊢
            clear hok HDZ2
            cases b with
            | false =>
              rw [if_neg Bool.false_ne_true, if_neg Bool.false_ne_true]
              go_wp2_with fail
              have LT : w.heap.size ≤ w.heap.size + 1 := by omega
              have KD := set4_bk (.slice none 0 0) (.slice none 0 0) (.slice none 0 0) (.slice none 0 0) KR5.out
              have LD := set4_below (.slice none 0 0) (.slice none 0 0) (.slice none 0 0) (.slice none 0 0) BW5.out LT
              generalize (((w5.setCell _ _).setCell _ _).setCell _ _).setCell _ _ = w9 at KD LD ⊢
              clear rd0 rd1 rd2 rd3 rdl rf0 rf1 rf2 rf3
              have d0 : w9.cell? ⟨w.heap.size + 1, 0, none⟩ = some _ := KD.cell 0
              have d1 : w9.cell? ⟨w.heap.size + 1, 1, none⟩ = some _ := KD.cell 1
              have d2 : w9.cell? ⟨w.heap.size + 1, 2, none⟩ = some _ := KD.cell 2
              have d3 : w9.cell? ⟨w.heap.size + 1, 3, none⟩ = some _ := KD.cell 3
              refine bodyPost_ret (v := .tuple #[.agg #[.slice none 0 0, .slice none 0 0, .slice none 0 0, .slice none 0 0], .int .i64 8]) (by simp [results, Try.results16, go_sem, d0, d1, d2, d3]) rfl ?_
              rw [HDN.out]
              exact And.intro rfl LD
            | true =>
              rw [if_pos rfl, if_pos rfl]
              have hne : (es.toList == s.toList) = false := HNE.out rfl
              go_wp2_with fail
              have LT : w.heap.size ≤ w.heap.size + 1 := by omega
              have KD := set4_bk (.slice none 0 0) (.slice none 0 0) (.slice none 0 0) (.slice none 0 0) KR5.out
              have LD := set4_below (.slice none 0 0) (.slice none 0 0) (.slice none 0 0) (.slice none 0 0) BW5.out LT
              generalize (((w5.setCell _ _).setCell _ _).setCell _ _).setCell _ _ = w9 at KD LD ⊢
              clear rd0 rd1 rd2 rd3 rdl rf0 rf1 rf2 rf3
              have d0 : w9.cell? ⟨w.heap.size + 1, 0, none⟩ = some _ := KD.cell 0
              have d1 : w9.cell? ⟨w.heap.size + 1, 1, none⟩ = some _ := KD.cell 1
              have d2 : w9.cell? ⟨w.heap.size + 1, 2, none⟩ = some _ := KD.cell 2
              have d3 : w9.cell? ⟨w.heap.size + 1, 3, none⟩ = some _ := KD.cell 3
              refine bodyPost_ret (v := .tuple #[.agg #[.slice none 0 0, .slice none 0 0, .slice none 0 0, .slice none 0 0], .int .i64 8]) (by simp [results, Try.results16, go_sem, d0, d1, d2, d3]) rfl ?_
              rw [HDN.out]
              exact And.intro rfl LD

theorem rdecode_any (u : Un) (s : ByteArray) (model room : Int) (vi vr vc : Value) (w : World) (hu : UnD w vi vr vc u) (hsu : ShortU u) (hs : s.size ≤ 100000) :
    Calls Try.prog 16 #[.agg #[.int .i64 u.mod, vi, vr, vc], .string s, .int .i64 model, .int .i64 room] w (RecAns (decZ u s model room) w) := by
  cases hr : rightU u with
  | false =>
    have h : decZ u s model room = none := by
      cases hd : decZ u s model room with
      | none => rfl
      | some p =>
        have h1 := (decZ_some.1 hd).1.ru
        rw [hr] at h1
        cases h1
    rw [h]
    exact rdecode_no u s model room vi vr vc w hu hsu hr
  | true => exact rdecode_yes u s model room vi vr vc w hu hsu hr hs

end Go.Proofs.Ytmkgijedchpgcaa
