/- Layer 12, the code: Encode. -/
import Derived.Test.YtmkgijedchpgcaaEs
import Derived.Test.YtmkgijedchpgcaaEq
import Derived.Test.YtmkgijedchpgcaaVe
import Derived.Test.YtmkgijedchpgcaaEp
namespace Go.Proofs.Ytmkgijedchpgcaa
set_option linter.unusedSimpArgs false
set_option linter.unusedVariables false
open Go.RowKit

theorem PutAt.below {w w' : World} {g r N : Nat} {done : List Int} (h : PutAt w g r N done) (hb : Below w.heap.size w w') : PutAt w' g r N done := by
  obtain ⟨dp, h1, h2⟩ := h.box
  exact ⟨h.le, h.row.below hb, ⟨dp, h1, h2.below hb⟩, h.lt⟩
theorem put_bk {w W : World} {g r N : Nat} {done : List Int} (xs : List Int) (q m : Nat) (h : PutAt w g r N done) (hw : Below w.heap.size w W) (hg : g ≤ w.heap.size) (hb : Bk W q 5 (rowY xs).toArray) (hm : xs.length = m) (hfit : done.length + m ≤ N) (hN : N ≤ 1000000) :
    Calls Try.prog 23 #[.slice (some ⟨q, 0, none⟩) m m, .pointer (some ⟨r, 0, none⟩)] W fun e w' => e = .returned (.tuple #[]) ∧ PutAt w' g r N (done ++ xs) ∧ Fr g (r + 1) w w' := by
  refine (put_any g r N done xs _ m m W (h.below hw) hm (Nat.le_refl _) hfit hN fun _ => ⟨_, rfl, fun j v hj => ?_⟩).mono ?_
  · rw [show (⟨q, 0, none⟩ : Addr).add j = ⟨q, j, none⟩ by unfold Addr.add; split <;> simp_all, hb.cell j]
    simpa using hj
  · rintro e w' ⟨h1, h2, h3⟩
    exact ⟨h1, h2, (Fr.below hw hg).trans h3⟩

set_option maxRecDepth 100000 in
set_option maxHeartbeats 16000000 in
theorem pencode_any (u : Un) (c : Cf) (model room : Int) (vi vr vc xp xr xm xb : Value) (w : World) (hu : UnD w vi vr vc u) (hc : CfD w xp xr xm xb c) (hsu : ShortU u) (hs : ShortC c) (q : Bool) (hq : rightC u c model room = q) :
    Calls Try.prog 10 #[.agg #[.int .i64 u.mod, vi, vr, vc], .agg #[xp, xr, xm, xb], .int .i64 model, .int .i64 room] w fun e w' => e = .returned (.tuple #[.string (if q = true then bytZ (encP c.pf) else ⟨#[]⟩), .int .i64 (if q = true then 0 else 8)]) ∧ Below w.heap.size w w' := by
  have HRT := Lib.hid (fun (W : World) (h : Below w.heap.size w W) => nright_any u c model room _ _ _ _ _ _ _ W (hu.below h) (hc.below h) hsu hs q hq)
  have HSZ := Lib.hid (fun (W : World) (h : Below w.heap.size w W) => psize_any c _ _ _ _ W (hc.below h) hs)
  have HQ := Lib.hid hq
  have HC := Lib.hid hc
  obtain ⟨ap, cp, rfl⟩ := hc.p.shape0
  obtain ⟨ar, cr, rfl⟩ := hc.r.shape0
  obtain ⟨am, cm, rfl⟩ := hc.m.shape0
  obtain ⟨ab, cb, rfl⟩ := hc.b.shape0
  have HPA := Lib.hid (fun (W : World) (h : Below w.heap.size w W) (k : Nat) (hk : k < c.pc.length) => IntsD.at2 (HC.out.below h).p k hk)
  have HRA := Lib.hid (fun (W : World) (h : Below w.heap.size w W) (k : Nat) (hk : k < c.regs.length) => AllD.at2 (HC.out.below h).r k hk)
  have HBA := Lib.hid (fun (W : World) (h : Below w.heap.size w W) (k : Nat) (hk : k < c.buf.length) => BufsD.at2 (HC.out.below h).b k hk)
  have HSM : Hid (q = true → Small c.pf ∧ c.regs.length = c.pc.length ∧ c.buf.length = c.pc.length ∧ c.pc.length ≤ 4 ∧ c.mem.length ≤ 6) := Lib.hid (fun h => by
    have hR := (rightC_iff u c model room).1 (hq.trans h)
    have h1 := rightU_lc hR.ru
    have h2 : c.pc.length = u.regs.length := hR.lp
    have h3 : c.mem.length = u.init.length := hR.lm
    have h4 : c.regs.length = u.regs.length := by have := hR.lr; simpa [Cf.pf] using this
    have h5 : c.buf.length = u.regs.length := by have := hR.lb; simpa [Cf.pf] using this
    exact ⟨hR.small, by omega, by omega, by omega, by omega⟩)
  have HSH := Lib.hid hs
  clear hu hc hsu hs hq
  obtain ⟨np, hnp⟩ : ∃ n, n = c.pc.length := ⟨_, rfl⟩
  obtain ⟨nr, hnr⟩ : ∃ n, n = c.regs.length := ⟨_, rfl⟩
  obtain ⟨nm, hnm⟩ : ∃ n, n = c.mem.length := ⟨_, rfl⟩
  obtain ⟨nb, hnb⟩ : ∃ n, n = c.buf.length := ⟨_, rfl⟩
  rw [← hnp, ← hnr, ← hnm, ← hnb] at HRT HSZ ⊢
  have HN := Lib.hid (And.intro hnp (And.intro hnr (And.intro hnm hnb)))
  rw [← hnp, ← hnr, ← hnm, ← hnb] at HSM
  clear hnp hnr hnm hnb
  have L2 := two_new w 25 29 #[.int .i64 u.mod, vi, vr, vc] #[.slice ap np cp, .slice ar nr cr, .slice am nm cm, .slice ab nb cb]
  have B := Lib.hid L2.1
  have Ku := Lib.hid L2.2.1
  have Kc := Lib.hid L2.2.2
  clear L2
  go_enter Try.func10, Try.ntmps10
  go_wp2_with fail
  generalize World.alloc (World.alloc w _) _ = w1 at B Ku Kc ⊢
  refine (HRT.out w1 B.out).mono ?_
  rintro e w2 ⟨rfl, b⟩
  replace Ku := Lib.hid (Ku.out.below b)
  replace Kc := Lib.hid (Kc.out.below b)
  replace B := Lib.hid (B.out.trans (b.mono B.out.size))
  clear b HRT
  cases q with
  | false =>
    go_wp2_with fail
    refine bodyPost_ret (v := .tuple #[.string ⟨#[]⟩, .int .i64 8]) (by simp [results, Try.results10, go_sem]) rfl ⟨rfl, B.out⟩
  | true =>
    obtain ⟨hsm, h1, h2, h3, h4⟩ := HSM.out rfl
    have HSL := Lib.hid hsm
    clear hsm HSM
    have h1 := h1.symm
    subst h1
    have h2 := h2.symm
    subst h2
    have HLN : Hid (c.pf.pc.length = np ∧ c.pf.regs.length = np ∧ c.pf.buf.length = np ∧ c.pf.mem.length = nm) := Lib.hid (by obtain ⟨e1, e2, e3, e4⟩ := HN.out; refine ⟨e1.symm, ?_, ?_, e3.symm⟩ <;> simp [Cf.pf] <;> omega)
    have HEL : Hid ((encP c.pf).length ≤ 500000) := Lib.hid (by
      rw [HSL.out.len, size_cf]
      have r1 := sumF_le (regF c) 100000 c.regs.length (fun k hk => by unfold regF; rw [List.getD_eq_getElem?_getD, List.getElem?_eq_getElem hk]; exact HSH.out.rr _ (List.getElem_mem hk))
      have r2 := sumF_le (bufF c) 48 c.buf.length (fun k hk => by unfold bufF; rw [List.getD_eq_getElem?_getD, List.getElem?_eq_getElem hk]; have h9 := (HSL.out.b (c.buf[k]).1 (List.mem_map_of_mem (List.getElem_mem hk))).1; show 2 * (c.buf[k]).1.length ≤ 48; omega)
      obtain ⟨e1, e2, e3, e4⟩ := HN.out
      omega)
    have HUP := Lib.hid (fun k (hk : k ≤ c.pf.pc.length) => up_len HSL.out k hk)
    have HNX := Lib.hid (fun k (hk : k < c.pf.pc.length) => up_next HSL.out.lr HSL.out.lb k hk)
    obtain ⟨N, hNN⟩ : ∃ N, N = sizeP c.pf := ⟨_, rfl⟩
    have HNE : Hid ((encP c.pf).length = N) := Lib.hid (by rw [hNN]; exact HSL.out.len)
    rw [← hNN] at HSZ
    clear hNN
    have hN6 : N ≤ 1000000 := by have := HNE.out; have := HEL.out; omega
    obtain ⟨cc0, cc1, cc2, cc3, ccl⟩ := bk4 Kc.out
    go_wp2_with fail
    clear cc0 cc1 cc2 cc3 ccl
    refine (HSZ.out w2 B.out).mono ?_
    rintro e w3 ⟨rfl, b⟩
    replace Ku := Lib.hid (Ku.out.below b)
    replace Kc := Lib.hid (Kc.out.below b)
    replace B := Lib.hid (B.out.trans (b.mono B.out.size))
    clear b HSZ
    go_wp2_with (refine make_one rfl (.tmp 24) (.tmp 24) 56 5 zY 1 Try.underlying56 info_u8 rfl (by decide) rfl N rfl rfl hN6 ?_)
    intro w4 Z HZ G4 b4
    obtain ⟨g, hg⟩ : ∃ g, g = w3.heap.size := ⟨_, rfl⟩
    rw [← hg] at G4 ⊢
    have HG := Lib.hid hg
    have K3 := Lib.hid Kc.out
    replace Ku := Lib.hid (Ku.out.below b4)
    replace Kc := Lib.hid (Kc.out.below b4)
    replace B := Lib.hid (B.out.trans (b4.mono B.out.size))
    have G4s : g < w4.heap.size := (show Bk w4 g _ _ from G4.out).lt
    have P0 : Hid (PutAt (World.alloc w4 (.cells #[.slice (some ⟨g, 0, none⟩) N N] 56)) g w4.heap.size N []) := Lib.hid (by
      refine ⟨Nat.zero_le _, ?_, ⟨some ⟨g, 0, none⟩, fun _ => rfl, Bk.new _ _ _⟩, G4s⟩
      have h := G4.out
      rw [HZ.out] at h
      exact bk_alloc (show Bk w4 g _ _ from h) _)
    have HB5 := Lib.hid (bal b4 (.cells #[.slice (some ⟨g, 0, none⟩) N N] 56))
    have HR : Hid (g < w4.heap.size) := Lib.hid G4s
    have Kc5 := Lib.hid (bk_alloc Kc.out (.cells #[.slice (some ⟨g, 0, none⟩) N N] 56))
    have HRLT : Hid (w4.heap.size < (World.alloc w4 (.cells #[.slice (some ⟨g, 0, none⟩) N N] 56)).heap.size) := Lib.hid (by rw [alloc_size]; omega)
    obtain ⟨cc0, cc1, cc2, cc3, ccl⟩ := bk4 Kc.out
    clear hg HZ G4 b4 G4s
    go_wp2_with fail
    clear cc0 cc1 cc2 cc3 ccl
    obtain ⟨r, hr⟩ : ∃ r, r = w4.heap.size := ⟨_, rfl⟩
    rw [← hr] at P0 HR HRLT ⊢
    have Ku5 := Lib.hid (bk_alloc Ku.out (.cells #[.slice (some ⟨g, 0, none⟩) N N] 56))
    have B5 := Lib.hid (bal B.out (.cells #[.slice (some ⟨g, 0, none⟩) N N] 56))
    have HGW : Hid (w.heap.size + 1 < g) := Lib.hid (by
      have h1 := HG.out
      have h2 := (show Bk w3 (w.heap.size + 1) _ _ from K3.out).lt
      omega)
    clear hr Ku Kc B
    generalize World.alloc w4 _ = w5 at P0 HRLT HB5 Kc5 Ku5 B5 ⊢
    have HFB : Hid (∀ W, Fr g (r + 1) w5 W → Below w.heap.size w W ∧ Bk W (w.heap.size + 1) 29 #[.slice ap np cp, .slice ar np cr, .slice am nm cm, .slice ab np cb] ∧ g ≤ W.heap.size) := Lib.hid (fun W h => by
      have h1 := HGW.out
      have h2 := h.b.size
      have h3 := HRLT.out
      have h4 := HR.out
      exact ⟨B5.out.trans (h.b.mono (by omega)), (h.b.block _ h1).trans Kc5.out, by omega⟩)
    go_loopg [31] np (fun fuel i' wr => ∃ (k : Nat), i' = .int .i64 k ∧ k ≤ np ∧ np - k ≤ fuel ∧ PutAt wr g r N (upP c.pf k) ∧ Fr g (r + 1) w5 wr)
    case atStart => exact ⟨0, rfl, Nat.zero_le _, Nat.le_refl _, by rw [up_zero]; exact P0.out, Fr.refl _ _ _⟩
    case round =>
      obtain ⟨k, rfl, hk, hf, hp, hfr⟩ := hrel
      obtain ⟨ga, rfl⟩ : ∃ a, a = gk := ⟨_, rfl⟩
      have HP := Lib.hid hp
      have HF := Lib.hid hfr
      obtain ⟨bw, kw, gw⟩ := HFB.out _ hfr
      have BW := Lib.hid bw
      have KW := Lib.hid kw
      have GW := Lib.hid gw
      clear hp hfr bw kw gw P0
      by_cases hlt : k < np
      · have hkp : k < c.pc.length := by rw [← HN.out.1]; exact hlt
        have hkr : k < c.regs.length := by rw [← HN.out.2.1]; exact hlt
        have hkb : k < c.buf.length := by rw [← HN.out.2.2.2]; exact hlt
        have hkf : k < c.pf.pc.length := hkp
        have HNK := Lib.hid (HNX.out k hkf)
        have hu1 := HUP.out (k + 1) (by omega)
        rw [HNK.out, List.length_append, thr_len, HNE.out] at hu1
        have hg1 : c.pf.pc.getD k 0 = c.pc[k] := by rw [show c.pf.pc = c.pc from rfl, List.getD_eq_getElem?_getD, List.getElem?_eq_getElem hkp]; rfl
        have hg2 : c.pf.regs.getD k [] = (c.regs[k]).1 := by rw [show c.pf.regs = c.regs.map (·.1) from rfl, getD_map, List.getD_eq_getElem?_getD, List.getElem?_eq_getElem hkr]; rfl
        have hg3 : c.pf.buf.getD k [] = (c.buf[k]).1 := by rw [show c.pf.buf = c.buf.map (·.1) from rfl, getD_map, List.getD_eq_getElem?_getD, List.getElem?_eq_getElem hkb]; rfl
        rw [hg1, hg2, hg3] at HNK
        rw [hg2, hg3] at hu1
        have hpb := HSL.out.pc _ (List.getElem_mem hkf)
        replace hpb : 0 ≤ c.pc[k] ∧ c.pc[k] < 1000 := hpb
        have hrb := HSL.out.r (c.regs[k]).1 (List.mem_map_of_mem (List.getElem_mem hkr))
        have hbb := HSL.out.b (c.buf[k]).1 (List.mem_map_of_mem (List.getElem_mem hkb))
        have HPK := Lib.hid (fun (W : World) (h : Below w.heap.size w W) => HPA.out W h k hkp)
        have HRK := Lib.hid (fun (W : World) (h : Below w.heap.size w W) => HRA.out W h k hkr)
        obtain ⟨bb, ob, ay, my, rfl, lb0, yb0, ib0⟩ := HBA.out w (Below.refl _ _) k hkb
        have HBK := Lib.hid (fun (W : World) (h : Below w.heap.size w W) => (⟨Nat.lt_of_lt_of_le lb0 h.size, (h.cell (p := ⟨bb, _, none⟩) lb0).trans yb0, EntsD.below ib0 h⟩ : bb < W.heap.size ∧ W.cell? ⟨bb, ob + k, none⟩ = some (.slice ay (c.buf[k]).1.length my) ∧ EntsD W (.slice ay (c.buf[k]).1.length my) (c.buf[k]).1))
        clear lb0 yb0 ib0
        generalize c.pc[k] = pv at hpb HNK HPK
        generalize (c.regs[k]).1 = rl at hu1 hrb HNK HRK
        generalize (c.buf[k]).1 = bl at hu1 hbb HNK HBK
        clear hkp hkr hkb hkf hg1 hg2 hg3
        obtain ⟨D0, hD0⟩ : ∃ D, D = upP c.pf k := ⟨_, rfl⟩
        rw [← hD0] at HP HNK hu1
        clear hD0
        obtain ⟨rn, hrn⟩ : ∃ n, n = rl.length := ⟨_, rfl⟩
        obtain ⟨bn, hbn⟩ : ∃ n, n = bl.length := ⟨_, rfl⟩
        have HRN := Lib.hid hrn
        have HBN := Lib.hid hbn
        rw [← hrn, ← hbn] at hu1
        rw [← hrn] at HRK
        rw [← hbn] at HBK hbb
        have HU1 := Lib.hid hu1
        have HRB := Lib.hid hrb
        have HBB := Lib.hid hbb
        obtain ⟨bp, op, rfl, lp, yp⟩ := HPK.out wr BW.out
        have w1' : IntKind.i64.wrap (pv / 256) = pv / 256 := IntWalk.i64_in _ (by omega)
        have u1 : IntKind.u8.wrap (pv / 256) = pv / 256 := by show (pv / 256) % 256 = _; omega
        have u2 : IntKind.u8.wrap pv = pv % 256 := rfl
        have f1 : (0 : Int) ≤ (k : Int) := by omega
        have f2 : (k : Int) < (np : Int) := by omega
        clear hrn hbn hu1 hrb hbb
        replace hpb := Lib.hid hpb
        go_wp2_with fail
        refine (put_bk [pv / 256, pv % 256] wr.heap.size 2 HP.out (bal (Below.refl _ _) _) GW.out (Bk.new _ _ _) rfl (by have := HU1.out; omega) hN6).mono ?_
        rintro e wa ⟨rfl, pa, fa⟩
        replace HP := Lib.hid pa
        replace HF := Lib.hid (HF.out.trans fa)
        obtain ⟨bw, kw, gw⟩ := HFB.out _ HF.out
        replace BW := Lib.hid bw
        replace KW := Lib.hid kw
        replace GW := Lib.hid gw
        clear pa fa bw kw gw
        clear yp lp w1' u1 u2
        have HDL : Hid ((D0 ++ [pv / 256, pv % 256]).length = D0.length + 2) := Lib.hid (by simp)
        generalize hD1 : D0 ++ [pv / 256, pv % 256] = D1 at HP HDL
        replace hD1 := Lib.hid hD1
        obtain ⟨br, or', ax, mx, rfl, lr, yr, ir⟩ := HRK.out wa BW.out
        have HIR := Lib.hid ir
        obtain ⟨cc0, cc1, cc2, cc3, ccl⟩ := bk4 KW.out
        have HBY := Lib.hid (bytesOf_any rl _ wa ir (by have := HU1.out; have := HRN.out; omega) (fun n hn => by have := HRB.out n hn; omega))
        rw [← HRN.out] at HBY
        clear ir
        go_wp2_with fail
        refine HBY.out.mono ?_
        rintro e wb ⟨rfl, kb, bb⟩
        have KB := Lib.hid kb
        have BB := Lib.hid bb
        clear kb bb cc0 cc1 cc2 cc3 ccl yr lr HBY
        go_wp2_with fail
        refine (put_bk rl wa.heap.size rn HP.out BB.out GW.out KB.out HRN.out.symm (by have := HU1.out; have := HDL.out; omega) hN6).mono ?_
        rintro e wc ⟨rfl, pa, fa⟩
        replace HP := Lib.hid pa
        replace HF := Lib.hid (HF.out.trans fa)
        obtain ⟨bw, kw, gw⟩ := HFB.out _ HF.out
        replace BW := Lib.hid bw
        replace KW := Lib.hid kw
        replace GW := Lib.hid gw
        clear pa fa bw kw gw
        clear KB BB HIR
        have HDM : Hid ((D1 ++ rl).length = D0.length + 2 + rn) := Lib.hid (by rw [List.length_append, HDL.out, HRN.out])
        generalize hD2 : D1 ++ rl = D2 at HP HDM
        replace hD2 := Lib.hid hD2
        obtain ⟨lb, yb, ib⟩ := HBK.out wc BW.out
        have f1 : (0 : Int) ≤ (k : Int) := by omega
        have hb24 : bn ≤ 24 := HBB.out.1
        have u3 : IntKind.u8.wrap (bn : Int) = (bn : Int) := by show (bn : Int) % 256 = _; omega
        obtain ⟨cc0, cc1, cc2, cc3, ccl⟩ := bk4 KW.out
        go_wp2_with fail
        clear cc0 cc1 cc2 cc3 ccl
        refine (put_bk [(bn : Int)] wc.heap.size 1 HP.out (bal (Below.refl _ _) _) GW.out (Bk.new _ _ _) rfl (by have := HU1.out; have := HDM.out; omega) hN6).mono ?_
        rintro e wd ⟨rfl, pa, fa⟩
        replace HP := Lib.hid pa
        replace HF := Lib.hid (HF.out.trans fa)
        obtain ⟨bw, kw, gw⟩ := HFB.out _ HF.out
        replace BW := Lib.hid bw
        replace KW := Lib.hid kw
        replace GW := Lib.hid gw
        clear pa fa bw kw gw
        clear yb lb ib u3
        have HDN : Hid ((D2 ++ [(bn : Int)]).length = D0.length + 3 + rn) := Lib.hid (by rw [List.length_append, HDM.out]; show _ + 1 = _; omega)
        generalize hD3 : D2 ++ [(bn : Int)] = D3 at HP HDN
        replace hD3 := Lib.hid hD3
        obtain ⟨lb, yb, ib⟩ := HBK.out wd BW.out
        clear ib
        obtain ⟨cc0, cc1, cc2, cc3, ccl⟩ := bk4 KW.out
        go_wp2_with fail
        clear cc0 cc1 cc2 cc3 ccl yb lb
        have HEND : Hid (D3 ++ bl.flatMap entE = upP c.pf (k + 1)) := Lib.hid (by
          rw [HNK.out, ← hD3.out, ← hD2.out, ← hD1.out]
          unfold thrE
          rw [← HBN.out]
          simp)
        go_loopg [68] bn (fun fuel i' wr2 => ∃ (j : Nat), i' = .int .i64 j ∧ j ≤ bn ∧ bn - j ≤ fuel ∧ PutAt wr2 g r N (D3 ++ (bl.take j).flatMap entE) ∧ Fr g (r + 1) w5 wr2)
        case atStart => exact ⟨0, rfl, Nat.zero_le _, Nat.le_refl _, by simpa using HP.out, HF.out⟩
        case round =>
          obtain ⟨j, rfl, hj, hfj, hp, hfr⟩ := hrel
          replace HP := Lib.hid hp
          replace HF := Lib.hid hfr
          obtain ⟨bw, kw, gw⟩ := HFB.out _ hfr
          replace BW := Lib.hid bw
          replace KW := Lib.hid kw
          replace GW := Lib.hid gw
          clear hp hfr bw kw gw
          by_cases hjl : j < bn
          · have hjb : j < bl.length := by rw [← HBN.out]; exact hjl
            obtain ⟨_, _, ib⟩ := HBK.out wr BW.out
            obtain ⟨b4, o4, rfl, l4, y4, z4⟩ := EntsD.at2 ib j hjb
            have hex := HBB.out.2 _ (List.getElem_mem hjb)
            have HEN := Lib.hid (ents_next bl j hjb)
            have HJL : Hid (((bl.take j).flatMap entE).length = 2 * j) := Lib.hid (by rw [ents_len, List.length_take]; omega)
            generalize bl[j] = ev at y4 z4 hex HEN
            obtain ⟨e1, e2⟩ := ev
            simp only at y4 z4 hex HEN
            clear ib hjb
            have u4 : IntKind.u8.wrap e1 = e1 := by show e1 % 256 = _; omega
            have u5 : IntKind.u8.wrap e2 = e2 := by show e2 % 256 = _; omega
            have f3 : (0 : Int) ≤ (j : Int) := by omega
            have f4 : (j : Int) < (bn : Int) := by omega
            go_wp2_with fail
            refine (put_bk [e1, e2] (wr.heap.size + 1) 2 HP.out (bal (bal (Below.refl _ _) _) _) GW.out (bk_at2 _ _ _ _) rfl (by have := HU1.out; have := HDN.out; have := HJL.out; rw [List.length_append]; omega) hN6).mono ?_
            rintro e we ⟨rfl, pa, fa⟩
            replace HP := Lib.hid pa
            replace HF := Lib.hid (HF.out.trans fa)
            obtain ⟨bw, kw, gw⟩ := HFB.out _ HF.out
            replace BW := Lib.hid bw
            replace KW := Lib.hid kw
            replace GW := Lib.hid gw
            clear pa fa bw kw gw
            go_wp2_with fail
            go_roundg (gk - 1)
            case measure => omega
            case rel => exact ⟨j + 1, by go_num, by omega, by omega, by rw [HEN.out, ← List.append_assoc]; exact HP.out, HF.out⟩
          · obtain rfl : j = bn := by omega
            replace HP : Hid (PutAt wr g r N (upP c.pf (k + 1))) := Lib.hid (by
              have h := HP.out
              rw [show bl.take j = bl by rw [HBN.out, List.take_length], HEND.out] at h
              exact h)
            go_wp2_with fail
            go_roundg (ga - 1)
            case measure => omega
            case rel => exact ⟨k + 1, by go_num, by omega, by omega, HP.out, HF.out⟩
      · obtain rfl : k = np := by omega
        have HUA : Hid (upP c.pf k = thsE c.pf.pc c.pf.regs c.pf.buf) := Lib.hid (by rw [← up_all HSL.out.lr HSL.out.lb, HLN.out.1])
        obtain ⟨P, hP⟩ : ∃ P, P = upP c.pf k := ⟨_, rfl⟩
        rw [← hP] at HP HUA
        clear hP
        have HEQ : Hid (P ++ c.mem = encP c.pf) := Lib.hid (by unfold encP; rw [HUA.out]; rfl)
        have HPL : Hid (P.length + nm = N) := Lib.hid (by rw [← HNE.out, ← HEQ.out, List.length_append, HN.out.2.2.1])
        have HMB : Hid (∀ n ∈ c.mem, 0 ≤ n ∧ n < 256) := Lib.hid (fun n hn => by have := HSL.out.m n hn; omega)
        have HBY := Lib.hid (bytesOf_any c.mem _ wr (HC.out.below BW.out).m (by have := HN.out.2.2.1; omega) HMB.out)
        rw [← HN.out.2.2.1] at HBY
        obtain ⟨cc0, cc1, cc2, cc3, ccl⟩ := bk4 KW.out
        go_wp2_with fail
        clear cc0 cc1 cc2 cc3 ccl
        refine HBY.out.mono ?_
        rintro e wb ⟨rfl, kb, bb⟩
        have KB := Lib.hid kb
        have BB := Lib.hid bb
        clear kb bb HBY
        go_wp2_with fail
        refine (put_bk c.mem wr.heap.size nm HP.out BB.out GW.out KB.out HN.out.2.2.1.symm (by have := HPL.out; omega) hN6).mono ?_
        rintro e wc ⟨rfl, pa, fa⟩
        have hPT := pa.row
        rw [HEQ.out, HNE.out, Nat.sub_self, List.replicate_zero, List.append_nil] at hPT
        have HO : Hid (OwnY wc w.heap.size (.slice (some ⟨g, 0, none⟩) N N) (encP c.pf)) := Lib.hid (by
          unfold OwnY
          rw [HNE.out]
          exact own_of_bk hPT rfl (by have := HGW.out; omega) (by unfold rowY; rw [List.length_map, HNE.out, Nat.mul_one]) hN6)
        have BF := Lib.hid (HFB.out wc (HF.out.trans fa)).1
        have hcv := conv_byt HO.out
        clear hPT pa fa KB BB
        go_wp2_with fail
        refine bodyPost_ret (v := .tuple #[.string (bytZ (encP c.pf)), .int .i64 0]) (by simp [results, Try.results10, go_sem]) rfl ⟨rfl, BF.out⟩

end Go.Proofs.Ytmkgijedchpgcaa
