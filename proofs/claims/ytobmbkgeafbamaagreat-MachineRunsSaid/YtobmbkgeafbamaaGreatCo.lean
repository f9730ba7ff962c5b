/- MachineRuns: its walk. -/
import Derived.Test.YtobmbkgeafbamaaGreatCf
import Derived.Test.YtobmbkgeafbamaaGreatCk
import Derived.Test.YtobmbkgeafbamaaGreatWa
import Derived.Test.YtobmbkgeafbamaaGreatUo
namespace Go.Proofs.YtobmbkgeafbamaaGreat
set_option linter.unusedSimpArgs false
set_option linter.unusedVariables false
open Go.RowKit

def ByAt (w : World) (b off : Nat) (x : Int) : Prop := w.cell? ⟨b, off, none⟩ = some (.int .u8 x) ∧ 0 ≤ x ∧ x < 256
abbrev BytesD := SlD 1 ByAt
theorem BytesD.below {w w' : World} {v : Value} {xs : List Int} (h : BytesD w v xs) (hb : Below w.heap.size w w') : BytesD w' v xs := h.mono hb.size fun _ _ _ hl h => ⟨(hb.cell (p := ⟨_, _, none⟩) hl).trans h.1, h.2⟩
theorem BytesD.at2 {w : World} {ad : Option Addr} {n cap : Nat} {xs : List Int} (h : BytesD w (.slice ad n cap) xs) (k : Nat) (hk : k < xs.length) : ∃ b off, ad = some ⟨b, off, none⟩ ∧ b < w.heap.size ∧ w.cell? ⟨b, off + k, none⟩ = some (.int .u8 xs[k]) ∧ 0 ≤ xs[k] ∧ xs[k] < 256 := by
  obtain ⟨b, off, he, hl, h1⟩ := SlD.at h k hk
  rw [Nat.mul_one] at h1
  exact ⟨b, off, he, hl, h1.1, h1.2⟩
/-- A configuration that is set anew: its rows are those of the new one. -/
theorem set4_data {w : World} {B g : Nat} {xp xr xm xb : Value} {c : Cf} (h : OwnC w B xp xr xm xb c) (hg : g < B) (x0 x1 x2 x3 : Value) : CfD ((((w.setCell ⟨g, 0, none⟩ x0).setCell ⟨g, 1, none⟩ x1).setCell ⟨g, 2, none⟩ x2).setCell ⟨g, 3, none⟩ x3) xp xr xm xb c :=
  (h.kp (set4_kp x0 x1 x2 x3 hg)).data

attribute [local go_sem ↓] Go.wp_at_zero Go.wp_at_succ
set_option maxRecDepth 100000 in
set_option maxHeartbeats 16000000 in
theorem mruns_in (hkn : ∀ W : World, Calls Tryz.prog 23 #[] W fun e w' => e = .returned (.bool true) ∧ Below W.heap.size W w') (u : Un) (h0 h1 : Int) (hb0 : 0 ≤ h0 ∧ h0 < 256) (hb1 : 0 ≤ h1 ∧ h1 < 256) (ys : List Int) (vi vr vc vs : Value) (w : World) (hu : UnD w vi vr vc u) (hy : BytesD w vs ys) :
    Calls Tryz.prog 8 #[.agg #[.int .i64 u.mod, vi, vr, vc], .agg #[.int .u8 h0, .int .u8 h1], vs] w fun e w' => e = .returned (.bool true) ∧ Below w.heap.size w w' := by
  have HKN := Lib.hid hkn
  have HU := Lib.hid hu
  have HY := Lib.hid hy
  obtain ⟨ai, ci, rfl⟩ := hu.i.shape0
  obtain ⟨ar, cr, rfl⟩ := hu.r.shape0
  obtain ⟨ac, cc, rfl⟩ := hu.c.shape0
  obtain ⟨sa, sc, rfl⟩ := hy.shape0
  clear hu hy hkn
  have HLT := Lib.hid (fun (W : World) (h : Below w.heap.size w W) => ulight_any u _ _ _ W (HU.out.below h) _ rfl)
  have HRT := Lib.hid (fun (hl : lightU u = true) (W : World) (h : Below w.heap.size w W) => uright_any u _ _ _ W (HU.out.below h) (lightU_short hl) _ rfl)
  have HST := Lib.hid (fun (hs : ShortU u) (hr : rightU u = true) (W : World) (h : Below w.heap.size w W) => rstart_yes u _ _ _ W (HU.out.below h) hs hr)
  have HAN := Lib.hid (fun (hs : ShortU u) (hr : rightU u = true) (model : Int) (W : World) (h : Below w.heap.size w W) => magents_any u model _ _ _ W (HU.out.below h) (ltU_right hr) hs _ rfl)
  have HEN := Lib.hid (fun (hus : ∀ k pc, (iiAt u k pc).x.e.length ≤ 100000 ∧ (iiAt u k pc).x.f.length ≤ 100000) (model room a : Int) (c : Cf) (xp xr xm xb : Value) (W : World) (h : Below w.heap.size w W) (hc : CfD W xp xr xm xb c) (hR : RightP u c.pf model room) => menabled_any u c model room a _ _ _ xp xr xm xb W (HU.out.below h) hc hus hR _ rfl)
  have HAC := Lib.hid (fun (hus : ∀ k pc, (iiAt u k pc).x.e.length ≤ 100000 ∧ (iiAt u k pc).x.f.length ≤ 100000) (model room a : Int) (c : Cf) (xp xr xm xb : Value) (W : World) (h : Below w.heap.size w W) (hc : CfD W xp xr xm xb c) (hR : RightP u c.pf model room) => mact_any u c model room a _ _ _ xp xr xm xb W (HU.out.below h) hc hus hR)
  have HRC := Lib.hid (fun (hs : ShortU u) (model room : Int) (c : Cf) (xp xr xm xb : Value) (W : World) (h : Below w.heap.size w W) (hc : CfD W xp xr xm xb c) (hR : RightP u c.pf model room) => rcright_any u c model room _ _ _ xp xr xm xb W (HU.out.below h) hc hs (short_right hR) true ((rightC_iff u c model room).2 hR))
  clear HU
  obtain ⟨ns, hns⟩ : ∃ n, n = ys.length := ⟨_, rfl⟩
  rw [← hns]
  obtain ⟨q1, hq1⟩ : ∃ q, lightU u = q := ⟨_, rfl⟩
  obtain ⟨q2, hq2⟩ : ∃ q, rightU u = q := ⟨_, rfl⟩
  rw [hq1] at HLT HRT
  rw [hq2] at HRT
  have HQ1 := Lib.hid hq1
  have HQ2 := Lib.hid hq2
  have HNS := Lib.hid hns
  clear hq1 hq2 hns
  have HSH : Hid (q1 = true → ShortU u) := Lib.hid (fun h => lightU_short (HQ1.out.trans h))
  have HUS : Hid (q1 = true → ∀ k pc, (iiAt u k pc).x.e.length ≤ 100000 ∧ (iiAt u k pc).x.f.length ≤ 100000) := Lib.hid (fun h => usL (HQ1.out.trans h))
  generalize u.init.length = ni at HLT HRT HST HAN HEN HAC HRC ⊢
  generalize u.regs.length = nr at HLT HRT HST HAN HEN HAC HRC ⊢
  generalize u.code.length = nc at HLT HRT HST HAN HEN HAC HRC ⊢
  generalize hmd : u.mod = md at HLT HRT HST HAN HEN HAC HRC ⊢
  have HMD := Lib.hid hmd
  clear hmd
  obtain ⟨BB, KU0, KH0⟩ := two_new w 25 59 #[.int .i64 md, .slice ai ni ci, .slice ar nr cr, .slice ac nc cc] #[.int .u8 h0, .int .u8 h1]
  have B := Lib.hid BB
  have Ku := Lib.hid KU0
  have Kh := Lib.hid KH0
  clear BB KU0 KH0
  go_enter Tryz.func8, Tryz.ntmps8
  go_wp2_with fail
  generalize World.alloc (World.alloc w _) _ = w1 at B Ku Kh ⊢
  refine (HLT.out w1 B.out).mono ?_
  rintro e w2 ⟨rfl, b⟩
  replace Ku := Lib.hid (Ku.out.below b)
  replace Kh := Lib.hid (Kh.out.below b)
  replace B := Lib.hid (B.out.trans (b.mono B.out.size))
  clear b
  cases q1 with
  | false =>
    go_wp2_with fail
    refine (HKN.out w2).mono ?_
    rintro e w3 ⟨rfl, b⟩
    replace Ku := Lib.hid (Ku.out.below b)
    replace Kh := Lib.hid (Kh.out.below b)
    replace B := Lib.hid (B.out.trans (b.mono B.out.size))
    clear b
    go_wp2
    go_ret
    exact ⟨ret_bool rfl, B.out⟩
  | true =>
    replace HRT := Lib.hid (HRT.out rfl)
    replace HSH := Lib.hid (HSH.out rfl)
    replace HUS := Lib.hid (HUS.out rfl)
    obtain ⟨uc0, uc1, uc2, uc3, ucl, hc0, hc1, hcl⟩ : w2.cell? ⟨w.heap.size, 0, none⟩ = some (.int .i64 md) ∧ w2.cell? ⟨w.heap.size, 1, none⟩ = some (.slice ai ni ci) ∧ w2.cell? ⟨w.heap.size, 2, none⟩ = some (.slice ar nr cr) ∧ w2.cell? ⟨w.heap.size, 3, none⟩ = some (.slice ac nc cc) ∧ w.heap.size < w2.heap.size ∧ w2.cell? ⟨w.heap.size + 1, 0, none⟩ = some (.int .u8 h0) ∧ w2.cell? ⟨w.heap.size + 1, 1, none⟩ = some (.int .u8 h1) ∧ w.heap.size + 1 < w2.heap.size := ⟨Ku.out.cell 0, Ku.out.cell 1, Ku.out.cell 2, Ku.out.cell 3, Ku.out.lt, Kh.out.cell 0, Kh.out.cell 1, Kh.out.lt⟩
    go_wp2_with fail
    clear uc0 uc1 uc2 uc3 ucl hc0 hc1 hcl
    refine (HRT.out w2 B.out).mono ?_
    rintro e w3 ⟨rfl, b⟩
    replace Ku := Lib.hid (Ku.out.below b)
    replace Kh := Lib.hid (Kh.out.below b)
    replace B := Lib.hid (B.out.trans (b.mono B.out.size))
    clear b
    cases q2 with
    | false =>
      go_wp2_with fail
      refine (HKN.out w3).mono ?_
      rintro e w4 ⟨rfl, b⟩
      replace Ku := Lib.hid (Ku.out.below b)
      replace Kh := Lib.hid (Kh.out.below b)
      replace B := Lib.hid (B.out.trans (b.mono B.out.size))
      clear b
      go_wp2
      go_ret
      exact ⟨ret_bool rfl, B.out⟩
    | true =>
      obtain ⟨r0, hr0⟩ : ∃ r : Nat, h0.tmod 3 = (r : Int) ∧ r < 3 := ⟨(h0 % 3).toNat, by rw [Int.tmod_eq_emod_of_nonneg hb0.1]; omega, by omega⟩
      obtain ⟨r1, hr1⟩ : ∃ r : Nat, h1.tmod 4 = (r : Int) ∧ r < 4 := ⟨(h1 % 4).toNat, by rw [Int.tmod_eq_emod_of_nonneg hb1.1]; omega, by omega⟩
      obtain ⟨hr0, hr0b⟩ := hr0
      obtain ⟨hr1, hr1b⟩ := hr1
      have e1 : IntKind.i64.wrap h0 = h0 := IntWalk.i64_in _ (by omega)
      have e2 : IntKind.i64.wrap h1 = h1 := IntWalk.i64_in _ (by omega)
      have e3 : IntKind.i64.wrap (r0 : Int) = (r0 : Int) := IntWalk.i64_in _ (by omega)
      have e4 : IntKind.i64.wrap (r1 : Int) = (r1 : Int) := IntWalk.i64_in _ (by omega)
      obtain ⟨model, hmo⟩ : ∃ m : Int, 1 + (r0 : Int) = m := ⟨_, rfl⟩
      obtain ⟨room, hro⟩ : ∃ m : Int, 1 + (r1 : Int) = m := ⟨_, rfl⟩
      have HM : Hid (1 ≤ model ∧ model ≤ 3) := Lib.hid (by omega)
      have HR : Hid (1 ≤ room ∧ room ≤ 4) := Lib.hid (by omega)
      have e5 : IntKind.i64.wrap (1 + (r0 : Int)) = model := by rw [IntWalk.i64_in _ (by omega)]; exact hmo
      have e6 : IntKind.i64.wrap (1 + (r1 : Int)) = room := by rw [IntWalk.i64_in _ (by omega)]; exact hro
      clear hmo hro
      obtain ⟨uc0, uc1, uc2, uc3, ucl, hc0, hc1, hcl⟩ : w3.cell? ⟨w.heap.size, 0, none⟩ = some (.int .i64 md) ∧ w3.cell? ⟨w.heap.size, 1, none⟩ = some (.slice ai ni ci) ∧ w3.cell? ⟨w.heap.size, 2, none⟩ = some (.slice ar nr cr) ∧ w3.cell? ⟨w.heap.size, 3, none⟩ = some (.slice ac nc cc) ∧ w.heap.size < w3.heap.size ∧ w3.cell? ⟨w.heap.size + 1, 0, none⟩ = some (.int .u8 h0) ∧ w3.cell? ⟨w.heap.size + 1, 1, none⟩ = some (.int .u8 h1) ∧ w.heap.size + 1 < w3.heap.size := ⟨Ku.out.cell 0, Ku.out.cell 1, Ku.out.cell 2, Ku.out.cell 3, Ku.out.lt, Kh.out.cell 0, Kh.out.cell 1, Kh.out.lt⟩
      go_wp2_with fail
      clear uc0 uc1 uc2 uc3 ucl hc0 hc1 hcl
      clear e1 e2 e3 e4 e5 e6 hr0 hr1
      refine (HST.out HSH.out HQ2.out w3 B.out).mono ?_
      rintro e w4 ⟨cv, xp, xr, xm, xb, rfl, oc, pcf, b⟩
      have HR0 : Hid (RightP u cv.pf model room) := Lib.hid ((rightC_iff u cv model room).1 (start_right HQ2.out pcf HM.out HR.out))
      clear pcf
      replace Ku := Lib.hid (Ku.out.below b)
      replace Kh := Lib.hid (Kh.out.below b)
      replace B := Lib.hid (B.out.trans (b.mono B.out.size))
      clear b HST
      have B4 := Lib.hid B.out
      have Ku4 := Lib.hid Ku.out
      obtain ⟨ca0, ck0, rfl, _⟩ := own_shape' oc.p
      obtain ⟨ca1, ck1, rfl, _⟩ := own_shape' oc.r.h
      obtain ⟨ca2, ck2, rfl, _⟩ := own_shape' oc.m
      obtain ⟨ca3, ck3, rfl, _⟩ := own_shape' oc.b.h
      have Dc := Lib.hid oc.data
      clear oc
      have Kc := Lib.hid (Bk.new w4 29 #[.slice ca0 cv.pc.length ck0, .slice ca1 cv.regs.length ck1, .slice ca2 cv.mem.length ck2, .slice ca3 cv.buf.length ck3])
      have BW : Hid (Below w4.heap.size w4 (World.alloc w4 (.cells #[.slice ca0 cv.pc.length ck0, .slice ca1 cv.regs.length ck1, .slice ca2 cv.mem.length ck2, .slice ca3 cv.buf.length ck3] 29))) := Lib.hid (bal (Below.refl _ _) _)
      obtain ⟨w5, hw5⟩ : ∃ z, World.alloc w4 (.cells #[.slice ca0 cv.pc.length ck0, .slice ca1 cv.regs.length ck1, .slice ca2 cv.mem.length ck2, .slice ca3 cv.buf.length ck3] 29) = z := ⟨_, rfl⟩
      rw [hw5] at Kc BW
      replace Dc := Lib.hid (Dc.out.below BW.out)
      replace Ku := Lib.hid (Ku.out.below BW.out)
      replace Kh := Lib.hid (Kh.out.below BW.out)
      replace B := Lib.hid (B.out.trans (BW.out.mono B.out.size))
      clear BW
      have B5 : Hid (Below w4.heap.size w4 w5) := Lib.hid (by rw [← hw5]; exact bal (Below.refl _ _) _)
      obtain ⟨N, hN⟩ : ∃ N, agA u model = N := ⟨_, rfl⟩
      have HN : Hid (0 < N ∧ N ≤ 28) := Lib.hid (by rw [← hN]; unfold agA; rw [if_pos HQ2.out]; have h1 := rightU_lc HQ2.out; have h2 := agN_thr u.code.length u.init.length model HM.out; have h3 := agN_le HQ2.out model; omega)
      replace HAN := Lib.hid (HAN.out HSH.out HQ2.out model)
      rw [hN] at HAN
      replace HEN := Lib.hid (HEN.out HUS.out model room)
      replace HAC := Lib.hid (HAC.out HUS.out model room)
      replace HRC := Lib.hid (HRC.out HSH.out model room)
      obtain ⟨uc0, uc1, uc2, uc3, ucl, cc0, cc1, cc2, cc3, ccl⟩ : w5.cell? ⟨w.heap.size, 0, none⟩ = some (.int .i64 md) ∧ w5.cell? ⟨w.heap.size, 1, none⟩ = some (.slice ai ni ci) ∧ w5.cell? ⟨w.heap.size, 2, none⟩ = some (.slice ar nr cr) ∧ w5.cell? ⟨w.heap.size, 3, none⟩ = some (.slice ac nc cc) ∧ w.heap.size < w5.heap.size ∧ w5.cell? ⟨w4.heap.size, 0, none⟩ = some (.slice ca0 cv.pc.length ck0) ∧ w5.cell? ⟨w4.heap.size, 1, none⟩ = some (.slice ca1 cv.regs.length ck1) ∧ w5.cell? ⟨w4.heap.size, 2, none⟩ = some (.slice ca2 cv.mem.length ck2) ∧ w5.cell? ⟨w4.heap.size, 3, none⟩ = some (.slice ca3 cv.buf.length ck3) ∧ w4.heap.size < w5.heap.size := ⟨Ku.out.cell 0, Ku.out.cell 1, Ku.out.cell 2, Ku.out.cell 3, Ku.out.lt, Kc.out.cell 0, Kc.out.cell 1, Kc.out.cell 2, Kc.out.cell 3, Kc.out.lt⟩
      go_wp2_with fail
      clear uc0 uc1 uc2 uc3 ucl cc0 cc1 cc2 cc3 ccl
      refine (HAN.out w5 B.out).mono ?_
      rintro e w6 ⟨rfl, b⟩
      have b6 := b
      replace Ku := Lib.hid (Ku.out.below b)
      replace Kc := Lib.hid (Kc.out.below b)
      replace Dc := Lib.hid (Dc.out.below b)
      replace B := Lib.hid (B.out.trans (b.mono B.out.size))
      clear b
      obtain ⟨hn0, hn28⟩ := HN.out
      have hnb : ((N : Int) == 0) = false := by simpa using (show ¬ N = 0 by omega)
      go_wp2_with fail
      clear hnb
      have HY40 := Lib.hid (fun (k : Nat) (hk : k < ns) => BytesD.at2 HY.out k (by rw [← HNS.out]; exact hk))
      go_loopg [12] 40 (fun fuel i' wr => ∃ (k : Nat) (cv : Cf) (a0 a1 a2 a3 : Option Addr) (k0 k1 k2 k3 : Nat), i' = .int .i64 k ∧ k ≤ 40 ∧ 40 - k ≤ fuel ∧ Hid (Bk wr w4.heap.size 29 #[.slice a0 cv.pc.length k0, .slice a1 cv.regs.length k1, .slice a2 cv.mem.length k2, .slice a3 cv.buf.length k3]) ∧ Hid (CfD wr (.slice a0 cv.pc.length k0) (.slice a1 cv.regs.length k1) (.slice a2 cv.mem.length k2) (.slice a3 cv.buf.length k3) cv) ∧ Hid (RightP u cv.pf model room) ∧ Hid (Below w4.heap.size w4 wr))
      case atStart => exact ⟨0, cv, _, _, _, _, _, _, _, _, rfl, by omega, by omega, Kc, Dc, HR0, Lib.hid (B5.out.trans (b6.mono B5.out.size))⟩
      case round =>
        obtain ⟨k, sv, a0, a1, a2, a3, k0, k1, k2, k3, rfl, hk, hf, Ks, Ds, HRS, HB⟩ := hrel
        have Bw := Lib.hid (B4.out.trans (HB.out.mono B4.out.size))
        have Kw := Lib.hid (Ku4.out.below HB.out)
        by_cases h40 : k < 40
        ·
          by_cases hns : k < ns
          ·
            obtain ⟨bs, os, hsa, hbs, y1, y2, y3⟩ := HY40.out k hns
            subst hsa
            have z1 := (Bw.out.cell (p := ⟨bs, _, none⟩) hbs).trans y1
            have z2 : bs < wr.heap.size := Nat.lt_of_lt_of_le hbs Bw.out.size
            clear y1 hbs
            generalize ys[k]'(by rw [← HNS.out]; exact hns) = x at z1 y2 y3
            obtain ⟨a, ha⟩ : ∃ a : Nat, x.tmod (N : Int) = (a : Int) ∧ a < N := ⟨(x % (N : Int)).toNat, by rw [Int.tmod_eq_emod_of_nonneg y2]; have := Int.emod_nonneg x (show (N : Int) ≠ 0 by omega); omega, by have := Int.emod_nonneg x (show (N : Int) ≠ 0 by omega); have := Int.emod_lt_of_pos x (show (0 : Int) < N by omega); omega⟩
            obtain ⟨ha, haN⟩ := ha
            have e1 : IntKind.i64.wrap x = x := IntWalk.i64_in _ (by omega)
            have e2 : IntKind.i64.wrap (a : Int) = (a : Int) := IntWalk.i64_in _ (by omega)
            have g1 : (0 : Int) ≤ (k : Int) := by omega
            have g2 : (k : Int) < (ns : Int) := by omega
            have g3 : (k : Int) < 40 := by omega
            obtain ⟨q, hq⟩ : ∃ q, enA u sv.pf model room (a : Int) = q := ⟨_, rfl⟩
            have HX := Lib.hid (HEN.out (a : Int) sv _ _ _ _ wr Bw.out Ds.out HRS.out)
            rw [hq] at HX
            have HPF : Hid (q = false → acA u sv.pf model room (a : Int) = sv.pf) := Lib.hid (fun h => acG_no (hq.trans h))
            have HPR := Lib.hid (acG_right HRS.out (agOf u.code.length u.init.length model (a : Int)))
            replace hq := Lib.hid hq
            obtain ⟨wc0, wc1, wc2, wc3, wcl, sc0, sc1, sc2, sc3, scl⟩ : wr.cell? ⟨w.heap.size, 0, none⟩ = some (.int .i64 md) ∧ wr.cell? ⟨w.heap.size, 1, none⟩ = some (.slice ai ni ci) ∧ wr.cell? ⟨w.heap.size, 2, none⟩ = some (.slice ar nr cr) ∧ wr.cell? ⟨w.heap.size, 3, none⟩ = some (.slice ac nc cc) ∧ w.heap.size < wr.heap.size ∧ wr.cell? ⟨w4.heap.size, 0, none⟩ = some (.slice a0 sv.pc.length k0) ∧ wr.cell? ⟨w4.heap.size, 1, none⟩ = some (.slice a1 sv.regs.length k1) ∧ wr.cell? ⟨w4.heap.size, 2, none⟩ = some (.slice a2 sv.mem.length k2) ∧ wr.cell? ⟨w4.heap.size, 3, none⟩ = some (.slice a3 sv.buf.length k3) ∧ w4.heap.size < wr.heap.size := ⟨Kw.out.cell 0, Kw.out.cell 1, Kw.out.cell 2, Kw.out.cell 3, Kw.out.lt, Ks.out.cell 0, Ks.out.cell 1, Ks.out.cell 2, Ks.out.cell 3, Ks.out.lt⟩
            go_wp2_with fail
            clear wc0 wc1 wc2 wc3 wcl sc0 sc1 sc2 sc3 scl
            clear z1 z2 e1 e2 g1 g2 g3 ha
            refine HX.out.mono ?_
            rintro e w7 ⟨rfl, b⟩
            clear HX
            replace Kw := Lib.hid (Kw.out.below b)
            replace Ks := Lib.hid (Ks.out.below b)
            replace Ds := Lib.hid (Ds.out.below b)
            replace Bw := Lib.hid (Bw.out.trans (b.mono Bw.out.size))
            replace HB := Lib.hid (HB.out.trans (b.mono HB.out.size))
            clear b
            have HA := Lib.hid (HAC.out (a : Int) sv _ _ _ _ w7 Bw.out Ds.out HRS.out)
            rw [hq.out] at HA
            obtain ⟨wc0, wc1, wc2, wc3, wcl, sc0, sc1, sc2, sc3, scl⟩ : w7.cell? ⟨w.heap.size, 0, none⟩ = some (.int .i64 md) ∧ w7.cell? ⟨w.heap.size, 1, none⟩ = some (.slice ai ni ci) ∧ w7.cell? ⟨w.heap.size, 2, none⟩ = some (.slice ar nr cr) ∧ w7.cell? ⟨w.heap.size, 3, none⟩ = some (.slice ac nc cc) ∧ w.heap.size < w7.heap.size ∧ w7.cell? ⟨w4.heap.size, 0, none⟩ = some (.slice a0 sv.pc.length k0) ∧ w7.cell? ⟨w4.heap.size, 1, none⟩ = some (.slice a1 sv.regs.length k1) ∧ w7.cell? ⟨w4.heap.size, 2, none⟩ = some (.slice a2 sv.mem.length k2) ∧ w7.cell? ⟨w4.heap.size, 3, none⟩ = some (.slice a3 sv.buf.length k3) ∧ w4.heap.size < w7.heap.size := ⟨Kw.out.cell 0, Kw.out.cell 1, Kw.out.cell 2, Kw.out.cell 3, Kw.out.lt, Ks.out.cell 0, Ks.out.cell 1, Ks.out.cell 2, Ks.out.cell 3, Ks.out.lt⟩
            go_wp2_with fail
            clear wc0 wc1 wc2 wc3 wcl sc0 sc1 sc2 sc3 scl
            refine HA.out.mono ?_
            rintro e w8 ⟨dv, xp, xr, xm, xb, rfl, oc, pd, b⟩
            clear HA
            have HLW : Hid (w4.heap.size < w7.heap.size) := Lib.hid Ks.out.lt
            replace Kw := Lib.hid (Kw.out.below b)
            replace Ks := Lib.hid (Ks.out.below b)
            replace Ds := Lib.hid (Ds.out.below b)
            replace Bw := Lib.hid (Bw.out.trans (b.mono Bw.out.size))
            replace HB := Lib.hid (HB.out.trans (b.mono HB.out.size))
            clear b
            have Pd := Lib.hid pd
            clear pd
            have OC := Lib.hid oc
            replace HPR : Hid (RightP u dv.pf model room) := Lib.hid (by rw [Pd.out]; exact HPR.out)
            obtain ⟨da0, dk0, rfl, _⟩ := own_shape' oc.p
            obtain ⟨da1, dk1, rfl, _⟩ := own_shape' oc.r.h
            obtain ⟨da2, dk2, rfl, _⟩ := own_shape' oc.m
            obtain ⟨da3, dk3, rfl, _⟩ := own_shape' oc.b.h
            have Dd := Lib.hid oc.data
            clear oc
            have Kd := Lib.hid (Bk.new w8 29 #[.slice da0 dv.pc.length dk0, .slice da1 dv.regs.length dk1, .slice da2 dv.mem.length dk2, .slice da3 dv.buf.length dk3])
            have BW : Hid (Below w8.heap.size w8 (World.alloc w8 (.cells #[.slice da0 dv.pc.length dk0, .slice da1 dv.regs.length dk1, .slice da2 dv.mem.length dk2, .slice da3 dv.buf.length dk3] 29))) := Lib.hid (bal (Below.refl _ _) _)
            obtain ⟨w9, hw9⟩ : ∃ z, World.alloc w8 (.cells #[.slice da0 dv.pc.length dk0, .slice da1 dv.regs.length dk1, .slice da2 dv.mem.length dk2, .slice da3 dv.buf.length dk3] 29) = z := ⟨_, rfl⟩
            rw [hw9] at Kd BW
            replace Dd := Lib.hid (Dd.out.below BW.out)
            replace Kw := Lib.hid (Kw.out.below BW.out)
            replace Ks := Lib.hid (Ks.out.below BW.out)
            replace Ds := Lib.hid (Ds.out.below BW.out)
            replace Bw := Lib.hid (Bw.out.trans (BW.out.mono Bw.out.size))
            replace HB := Lib.hid (HB.out.trans (BW.out.mono HB.out.size))
            clear BW
            replace OC := Lib.hid (OC.out.below (show Below w8.heap.size w8 w9 by rw [← hw9]; exact bal (Below.refl _ _) _))
            have HRI := Lib.hid (HRC.out dv _ _ _ _ w9 Bw.out Dd.out HPR.out)
            cases q with
            | false =>
              obtain ⟨wc0, wc1, wc2, wc3, wcl, sc0, sc1, sc2, sc3, scl, dc0, dc1, dc2, dc3, dcl⟩ : w9.cell? ⟨w.heap.size, 0, none⟩ = some (.int .i64 md) ∧ w9.cell? ⟨w.heap.size, 1, none⟩ = some (.slice ai ni ci) ∧ w9.cell? ⟨w.heap.size, 2, none⟩ = some (.slice ar nr cr) ∧ w9.cell? ⟨w.heap.size, 3, none⟩ = some (.slice ac nc cc) ∧ w.heap.size < w9.heap.size ∧ w9.cell? ⟨w4.heap.size, 0, none⟩ = some (.slice a0 sv.pc.length k0) ∧ w9.cell? ⟨w4.heap.size, 1, none⟩ = some (.slice a1 sv.regs.length k1) ∧ w9.cell? ⟨w4.heap.size, 2, none⟩ = some (.slice a2 sv.mem.length k2) ∧ w9.cell? ⟨w4.heap.size, 3, none⟩ = some (.slice a3 sv.buf.length k3) ∧ w4.heap.size < w9.heap.size ∧ w9.cell? ⟨w8.heap.size, 0, none⟩ = some (.slice da0 dv.pc.length dk0) ∧ w9.cell? ⟨w8.heap.size, 1, none⟩ = some (.slice da1 dv.regs.length dk1) ∧ w9.cell? ⟨w8.heap.size, 2, none⟩ = some (.slice da2 dv.mem.length dk2) ∧ w9.cell? ⟨w8.heap.size, 3, none⟩ = some (.slice da3 dv.buf.length dk3) ∧ w8.heap.size < w9.heap.size := ⟨Kw.out.cell 0, Kw.out.cell 1, Kw.out.cell 2, Kw.out.cell 3, Kw.out.lt, Ks.out.cell 0, Ks.out.cell 1, Ks.out.cell 2, Ks.out.cell 3, Ks.out.lt, Kd.out.cell 0, Kd.out.cell 1, Kd.out.cell 2, Kd.out.cell 3, Kd.out.lt⟩
              go_wp2_with fail
              clear wc0 wc1 wc2 wc3 wcl sc0 sc1 sc2 sc3 scl dc0 dc1 dc2 dc3 dcl
              refine (HRI.out).mono ?_
              rintro e w10 ⟨rfl, b⟩
              replace Kw := Lib.hid (Kw.out.below b)
              replace Ks := Lib.hid (Ks.out.below b)
              replace Kd := Lib.hid (Kd.out.below b)
              replace Ds := Lib.hid (Ds.out.below b)
              replace Dd := Lib.hid (Dd.out.below b)
              replace OC := Lib.hid (OC.out.below b)
              replace Bw := Lib.hid (Bw.out.trans (b.mono Bw.out.size))
              replace HB := Lib.hid (HB.out.trans (b.mono HB.out.size))
              clear b
              have HSM := Lib.hid (csame_any sv dv _ _ _ _ _ _ _ _ w10 Ds.out Dd.out (short_right HRS.out) true (by rw [sameC_pf]; exact decide_eq_true (by rw [Pd.out, HPF.out (by simp)])))
              obtain ⟨wc0, wc1, wc2, wc3, wcl, sc0, sc1, sc2, sc3, scl, dc0, dc1, dc2, dc3, dcl⟩ : w10.cell? ⟨w.heap.size, 0, none⟩ = some (.int .i64 md) ∧ w10.cell? ⟨w.heap.size, 1, none⟩ = some (.slice ai ni ci) ∧ w10.cell? ⟨w.heap.size, 2, none⟩ = some (.slice ar nr cr) ∧ w10.cell? ⟨w.heap.size, 3, none⟩ = some (.slice ac nc cc) ∧ w.heap.size < w10.heap.size ∧ w10.cell? ⟨w4.heap.size, 0, none⟩ = some (.slice a0 sv.pc.length k0) ∧ w10.cell? ⟨w4.heap.size, 1, none⟩ = some (.slice a1 sv.regs.length k1) ∧ w10.cell? ⟨w4.heap.size, 2, none⟩ = some (.slice a2 sv.mem.length k2) ∧ w10.cell? ⟨w4.heap.size, 3, none⟩ = some (.slice a3 sv.buf.length k3) ∧ w4.heap.size < w10.heap.size ∧ w10.cell? ⟨w8.heap.size, 0, none⟩ = some (.slice da0 dv.pc.length dk0) ∧ w10.cell? ⟨w8.heap.size, 1, none⟩ = some (.slice da1 dv.regs.length dk1) ∧ w10.cell? ⟨w8.heap.size, 2, none⟩ = some (.slice da2 dv.mem.length dk2) ∧ w10.cell? ⟨w8.heap.size, 3, none⟩ = some (.slice da3 dv.buf.length dk3) ∧ w8.heap.size < w10.heap.size := ⟨Kw.out.cell 0, Kw.out.cell 1, Kw.out.cell 2, Kw.out.cell 3, Kw.out.lt, Ks.out.cell 0, Ks.out.cell 1, Ks.out.cell 2, Ks.out.cell 3, Ks.out.lt, Kd.out.cell 0, Kd.out.cell 1, Kd.out.cell 2, Kd.out.cell 3, Kd.out.lt⟩
              go_wp2_with fail
              clear wc0 wc1 wc2 wc3 wcl sc0 sc1 sc2 sc3 scl dc0 dc1 dc2 dc3 dcl
              refine (HSM.out).mono ?_
              rintro e w11 ⟨rfl, b⟩
              replace Kw := Lib.hid (Kw.out.below b)
              replace Ks := Lib.hid (Ks.out.below b)
              replace Kd := Lib.hid (Kd.out.below b)
              replace Ds := Lib.hid (Ds.out.below b)
              replace Dd := Lib.hid (Dd.out.below b)
              replace OC := Lib.hid (OC.out.below b)
              replace Bw := Lib.hid (Bw.out.trans (b.mono Bw.out.size))
              replace HB := Lib.hid (HB.out.trans (b.mono HB.out.size))
              clear b
              have KF := Lib.hid (set4_bk (.slice da0 dv.pc.length dk0) (.slice da1 dv.regs.length dk1) (.slice da2 dv.mem.length dk2) (.slice da3 dv.buf.length dk3) Ks.out)
              have DF := Lib.hid (set4_data OC.out HLW.out (.slice da0 dv.pc.length dk0) (.slice da1 dv.regs.length dk1) (.slice da2 dv.mem.length dk2) (.slice da3 dv.buf.length dk3))
              have BF := Lib.hid (set4_below (.slice da0 dv.pc.length dk0) (.slice da1 dv.regs.length dk1) (.slice da2 dv.mem.length dk2) (.slice da3 dv.buf.length dk3) HB.out (Nat.le_refl _))
              obtain ⟨f0, f1, f2, f3⟩ : w11.frozen? ⟨w4.heap.size, 0, none⟩ = false ∧ w11.frozen? ⟨w4.heap.size, 1, none⟩ = false ∧ w11.frozen? ⟨w4.heap.size, 2, none⟩ = false ∧ w11.frozen? ⟨w4.heap.size, 3, none⟩ = false := ⟨Ks.out.fz 0, Ks.out.fz 1, Ks.out.fz 2, Ks.out.fz 3⟩
              obtain ⟨wc0, wc1, wc2, wc3, wcl, sc0, sc1, sc2, sc3, scl, dc0, dc1, dc2, dc3, dcl⟩ : w11.cell? ⟨w.heap.size, 0, none⟩ = some (.int .i64 md) ∧ w11.cell? ⟨w.heap.size, 1, none⟩ = some (.slice ai ni ci) ∧ w11.cell? ⟨w.heap.size, 2, none⟩ = some (.slice ar nr cr) ∧ w11.cell? ⟨w.heap.size, 3, none⟩ = some (.slice ac nc cc) ∧ w.heap.size < w11.heap.size ∧ w11.cell? ⟨w4.heap.size, 0, none⟩ = some (.slice a0 sv.pc.length k0) ∧ w11.cell? ⟨w4.heap.size, 1, none⟩ = some (.slice a1 sv.regs.length k1) ∧ w11.cell? ⟨w4.heap.size, 2, none⟩ = some (.slice a2 sv.mem.length k2) ∧ w11.cell? ⟨w4.heap.size, 3, none⟩ = some (.slice a3 sv.buf.length k3) ∧ w4.heap.size < w11.heap.size ∧ w11.cell? ⟨w8.heap.size, 0, none⟩ = some (.slice da0 dv.pc.length dk0) ∧ w11.cell? ⟨w8.heap.size, 1, none⟩ = some (.slice da1 dv.regs.length dk1) ∧ w11.cell? ⟨w8.heap.size, 2, none⟩ = some (.slice da2 dv.mem.length dk2) ∧ w11.cell? ⟨w8.heap.size, 3, none⟩ = some (.slice da3 dv.buf.length dk3) ∧ w8.heap.size < w11.heap.size := ⟨Kw.out.cell 0, Kw.out.cell 1, Kw.out.cell 2, Kw.out.cell 3, Kw.out.lt, Ks.out.cell 0, Ks.out.cell 1, Ks.out.cell 2, Ks.out.cell 3, Ks.out.lt, Kd.out.cell 0, Kd.out.cell 1, Kd.out.cell 2, Kd.out.cell 3, Kd.out.lt⟩
              go_wp2_with fail
              clear wc0 wc1 wc2 wc3 wcl sc0 sc1 sc2 sc3 scl dc0 dc1 dc2 dc3 dcl
              clear f0 f1 f2 f3
              go_roundg (gk - 1)
              case measure => omega
              case rel => exact ⟨k + 1, dv, _, _, _, _, _, _, _, _, by go_num, by omega, by omega, KF, DF, HPR, BF⟩
            | true =>
              obtain ⟨wc0, wc1, wc2, wc3, wcl, sc0, sc1, sc2, sc3, scl, dc0, dc1, dc2, dc3, dcl⟩ : w9.cell? ⟨w.heap.size, 0, none⟩ = some (.int .i64 md) ∧ w9.cell? ⟨w.heap.size, 1, none⟩ = some (.slice ai ni ci) ∧ w9.cell? ⟨w.heap.size, 2, none⟩ = some (.slice ar nr cr) ∧ w9.cell? ⟨w.heap.size, 3, none⟩ = some (.slice ac nc cc) ∧ w.heap.size < w9.heap.size ∧ w9.cell? ⟨w4.heap.size, 0, none⟩ = some (.slice a0 sv.pc.length k0) ∧ w9.cell? ⟨w4.heap.size, 1, none⟩ = some (.slice a1 sv.regs.length k1) ∧ w9.cell? ⟨w4.heap.size, 2, none⟩ = some (.slice a2 sv.mem.length k2) ∧ w9.cell? ⟨w4.heap.size, 3, none⟩ = some (.slice a3 sv.buf.length k3) ∧ w4.heap.size < w9.heap.size ∧ w9.cell? ⟨w8.heap.size, 0, none⟩ = some (.slice da0 dv.pc.length dk0) ∧ w9.cell? ⟨w8.heap.size, 1, none⟩ = some (.slice da1 dv.regs.length dk1) ∧ w9.cell? ⟨w8.heap.size, 2, none⟩ = some (.slice da2 dv.mem.length dk2) ∧ w9.cell? ⟨w8.heap.size, 3, none⟩ = some (.slice da3 dv.buf.length dk3) ∧ w8.heap.size < w9.heap.size := ⟨Kw.out.cell 0, Kw.out.cell 1, Kw.out.cell 2, Kw.out.cell 3, Kw.out.lt, Ks.out.cell 0, Ks.out.cell 1, Ks.out.cell 2, Ks.out.cell 3, Ks.out.lt, Kd.out.cell 0, Kd.out.cell 1, Kd.out.cell 2, Kd.out.cell 3, Kd.out.lt⟩
              go_wp2_with fail
              clear wc0 wc1 wc2 wc3 wcl sc0 sc1 sc2 sc3 scl dc0 dc1 dc2 dc3 dcl
              refine (HRI.out).mono ?_
              rintro e w10 ⟨rfl, b⟩
              replace Kw := Lib.hid (Kw.out.below b)
              replace Ks := Lib.hid (Ks.out.below b)
              replace Kd := Lib.hid (Kd.out.below b)
              replace Ds := Lib.hid (Ds.out.below b)
              replace Dd := Lib.hid (Dd.out.below b)
              replace OC := Lib.hid (OC.out.below b)
              replace Bw := Lib.hid (Bw.out.trans (b.mono Bw.out.size))
              replace HB := Lib.hid (HB.out.trans (b.mono HB.out.size))
              clear b
              have KF := Lib.hid (set4_bk (.slice da0 dv.pc.length dk0) (.slice da1 dv.regs.length dk1) (.slice da2 dv.mem.length dk2) (.slice da3 dv.buf.length dk3) Ks.out)
              have DF := Lib.hid (set4_data OC.out HLW.out (.slice da0 dv.pc.length dk0) (.slice da1 dv.regs.length dk1) (.slice da2 dv.mem.length dk2) (.slice da3 dv.buf.length dk3))
              have BF := Lib.hid (set4_below (.slice da0 dv.pc.length dk0) (.slice da1 dv.regs.length dk1) (.slice da2 dv.mem.length dk2) (.slice da3 dv.buf.length dk3) HB.out (Nat.le_refl _))
              obtain ⟨f0, f1, f2, f3⟩ : w10.frozen? ⟨w4.heap.size, 0, none⟩ = false ∧ w10.frozen? ⟨w4.heap.size, 1, none⟩ = false ∧ w10.frozen? ⟨w4.heap.size, 2, none⟩ = false ∧ w10.frozen? ⟨w4.heap.size, 3, none⟩ = false := ⟨Ks.out.fz 0, Ks.out.fz 1, Ks.out.fz 2, Ks.out.fz 3⟩
              obtain ⟨wc0, wc1, wc2, wc3, wcl, sc0, sc1, sc2, sc3, scl, dc0, dc1, dc2, dc3, dcl⟩ : w10.cell? ⟨w.heap.size, 0, none⟩ = some (.int .i64 md) ∧ w10.cell? ⟨w.heap.size, 1, none⟩ = some (.slice ai ni ci) ∧ w10.cell? ⟨w.heap.size, 2, none⟩ = some (.slice ar nr cr) ∧ w10.cell? ⟨w.heap.size, 3, none⟩ = some (.slice ac nc cc) ∧ w.heap.size < w10.heap.size ∧ w10.cell? ⟨w4.heap.size, 0, none⟩ = some (.slice a0 sv.pc.length k0) ∧ w10.cell? ⟨w4.heap.size, 1, none⟩ = some (.slice a1 sv.regs.length k1) ∧ w10.cell? ⟨w4.heap.size, 2, none⟩ = some (.slice a2 sv.mem.length k2) ∧ w10.cell? ⟨w4.heap.size, 3, none⟩ = some (.slice a3 sv.buf.length k3) ∧ w4.heap.size < w10.heap.size ∧ w10.cell? ⟨w8.heap.size, 0, none⟩ = some (.slice da0 dv.pc.length dk0) ∧ w10.cell? ⟨w8.heap.size, 1, none⟩ = some (.slice da1 dv.regs.length dk1) ∧ w10.cell? ⟨w8.heap.size, 2, none⟩ = some (.slice da2 dv.mem.length dk2) ∧ w10.cell? ⟨w8.heap.size, 3, none⟩ = some (.slice da3 dv.buf.length dk3) ∧ w8.heap.size < w10.heap.size := ⟨Kw.out.cell 0, Kw.out.cell 1, Kw.out.cell 2, Kw.out.cell 3, Kw.out.lt, Ks.out.cell 0, Ks.out.cell 1, Ks.out.cell 2, Ks.out.cell 3, Ks.out.lt, Kd.out.cell 0, Kd.out.cell 1, Kd.out.cell 2, Kd.out.cell 3, Kd.out.lt⟩
              go_wp2_with fail
              clear wc0 wc1 wc2 wc3 wcl sc0 sc1 sc2 sc3 scl dc0 dc1 dc2 dc3 dcl
              clear f0 f1 f2 f3
              go_roundg (gk - 1)
              case measure => omega
              case rel => exact ⟨k + 1, dv, _, _, _, _, _, _, _, _, by go_num, by omega, by omega, KF, DF, HPR, BF⟩
          ·
            have g1 : ¬ (k : Int) < (ns : Int) := by omega
            go_wp2_with fail
            refine (HKN.out wr).mono ?_
            rintro e w7 ⟨rfl, b⟩
            go_wp2
            go_ret
            exact ⟨ret_bool rfl, Bw.out.trans (b.mono Bw.out.size)⟩
        ·
          obtain rfl : k = 40 := by omega
          by_cases hns : 40 < ns
          ·
            have g1 : (40 : Int) < (ns : Int) := by omega
            go_wp2_with fail
            refine (HKN.out wr).mono ?_
            rintro e w7 ⟨rfl, b⟩
            go_wp2
            go_ret
            exact ⟨ret_bool rfl, Bw.out.trans (b.mono Bw.out.size)⟩
          ·
            have g1 : ¬ (40 : Int) < (ns : Int) := by omega
            go_wp2_with fail
            refine (HKN.out wr).mono ?_
            rintro e w7 ⟨rfl, b⟩
            go_wp2
            go_ret
            exact ⟨ret_bool rfl, Bw.out.trans (b.mono Bw.out.size)⟩

end Go.Proofs.YtobmbkgeafbamaaGreat
