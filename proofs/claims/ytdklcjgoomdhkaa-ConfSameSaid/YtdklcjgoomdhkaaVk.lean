/- ConfBegins: its walk. -/
import Derived.Test.YtdklcjgoomdhkaaVj
import Derived.Test.YtdklcjgoomdhkaaVl
import Derived.Test.YtdklcjgoomdhkaaUm
import Derived.Test.YtdklcjgoomdhkaaVi
namespace Go.Proofs.Ytdklcjgoomdhkaa
set_option linter.unusedSimpArgs false
set_option linter.unusedVariables false
open Go.RowKit

theorem lightU_short {u : Un} (h : lightU u = true) : ShortU u := by
  unfold lightU at h
  simp only [Bool.and_eq_true, decide_eq_true_eq, List.all_eq_true] at h
  obtain ⟨h1, h2, h3, h4⟩ := h
  refine ⟨by omega, by omega, fun r hr => ?_⟩
  have h5 := h4 r hr
  unfold lightR at h5
  simp only [Bool.and_eq_true, decide_eq_true_eq, List.all_eq_true] at h5
  refine ⟨by omega, fun t ht => ?_⟩
  have h6 := h5.2 t ht
  unfold lightI at h6
  simp only [Bool.and_eq_true, decide_eq_true_eq] at h6
  omega

set_option maxRecDepth 100000 in
set_option maxHeartbeats 8000000 in
theorem begins_in (u : Un) (vi vr vc : Value) (model room : Int) (w : World) (hu : UnD w vi vr vc u) (hm : 0 ≤ model ∧ model ≤ 255) (hr : 0 ≤ room ∧ room ≤ 255) :
    Calls Try.prog 6 #[.agg #[.int .i64 u.mod, vi, vr, vc], .int .u8 model, .int .u8 room] w fun e w' => e = .returned (.bool true) ∧ Below w.heap.size w w' := by
  have HL := Lib.hid (fun (W : World) (h : Below w.heap.size w W) => ulight_any u vi vr vc W (hu.below h) _ rfl)
  have HKN := Lib.hid known_any
  have HRT := Lib.hid (fun (hl : lightU u = true) (W : World) (h : Below w.heap.size w W) => uright_any u vi vr vc W (hu.below h) (lightU_short hl) _ rfl)
  have HST := Lib.hid (fun (hl : lightU u = true) (hr : rightU u = true) (W : World) (h : Below w.heap.size w W) => nstart_yes u vi vr vc W (hu.below h) (lightU_short hl) hr)
  obtain ⟨ql, hql⟩ : ∃ q, lightU u = q := ⟨_, rfl⟩
  obtain ⟨qr, hqr⟩ : ∃ q, rightU u = q := ⟨_, rfl⟩
  rw [hql] at HL
  rw [hqr] at HRT
  have HQL := Lib.hid hql
  have HQR := Lib.hid hqr
  have HU := Lib.hid hu
  obtain ⟨xi, ci, rfl⟩ := hu.i.shape0
  obtain ⟨xr, cr, rfl⟩ := hu.r.shape0
  obtain ⟨xc, cc, rfl⟩ := hu.c.shape0
  obtain ⟨m, hm0⟩ : ∃ m, m = u.mod := ⟨_, rfl⟩
  obtain ⟨ni, hni⟩ : ∃ n, n = u.init.length := ⟨_, rfl⟩
  obtain ⟨nr, hnr⟩ : ∃ n, n = u.regs.length := ⟨_, rfl⟩
  obtain ⟨nc, hnc⟩ : ∃ n, n = u.code.length := ⟨_, rfl⟩
  have HNC := Lib.hid hnc
  have HM0 := Lib.hid hm0
  rw [← hm0] at HL HRT HST ⊢
  rw [← hni] at HL HRT HST HU ⊢
  rw [← hnr] at HL HRT HST HU ⊢
  rw [← hnc] at HL HRT HST HU ⊢
  clear hu hql hqr hm0 hni hnr hnc
  have KA := Lib.hid (Bk.new w 25 #[.int .i64 m, .slice xi ni ci, .slice xr nr cr, .slice xc nc cc])
  have LA : Hid (Below w.heap.size w (w.alloc (.cells #[.int .i64 m, .slice xi ni ci, .slice xr nr cr, .slice xc nc cc] 25))) := (Below.refl _ _).alloc (Nat.le_refl _) _
  go_enter Try.func6, Try.ntmps6
  go_wp2_with fail
  generalize w.alloc _ = w0 at KA LA ⊢
  refine (HL.out _ LA.out).mono ?_
  rintro e w1 ⟨rfl, b1⟩
  have K1 := Lib.hid (KA.out.below b1)
  have L1 := Lib.hid (LA.out.trans (b1.mono LA.out.size))
  clear b1 KA LA HL
  cases ql with
  | false =>
    go_wp2_with fail
    refine (HKN.out _).mono ?_
    rintro e w2 ⟨rfl, b2⟩
    have L2 := Lib.hid (L1.out.trans (b2.mono L1.out.size))
    clear b2
    go_wp2
    go_ret
    exact ⟨rfl, L2.out⟩
  | true =>
    have c0 : w1.cell? ⟨w.heap.size, 0, none⟩ = some (.int .i64 m) := K1.out.cell 0
    have c1 : w1.cell? ⟨w.heap.size, 1, none⟩ = some (.slice xi ni ci) := K1.out.cell 1
    have c2 : w1.cell? ⟨w.heap.size, 2, none⟩ = some (.slice xr nr cr) := K1.out.cell 2
    have c3 : w1.cell? ⟨w.heap.size, 3, none⟩ = some (.slice xc nc cc) := K1.out.cell 3
    have l1 := K1.out.lt
    go_wp2_with fail
    refine (HRT.out HQL.out _ L1.out).mono ?_
    rintro e w2 ⟨rfl, b2⟩
    have K2 := Lib.hid (K1.out.below b2)
    have L2 := Lib.hid (L1.out.trans (b2.mono L1.out.size))
    clear b2 K1 L1 HRT c0 c1 c2 c3 l1
    cases qr with
    | false =>
      go_wp2_with fail
      refine (HKN.out _).mono ?_
      rintro e w3 ⟨rfl, b3⟩
      have L3 := Lib.hid (L2.out.trans (b3.mono L2.out.size))
      clear b3
      go_wp2
      go_ret
      exact ⟨rfl, L3.out⟩
    | true =>
      have c0 : w2.cell? ⟨w.heap.size, 0, none⟩ = some (.int .i64 m) := K2.out.cell 0
      have c1 : w2.cell? ⟨w.heap.size, 1, none⟩ = some (.slice xi ni ci) := K2.out.cell 1
      have c2 : w2.cell? ⟨w.heap.size, 2, none⟩ = some (.slice xr nr cr) := K2.out.cell 2
      have c3 : w2.cell? ⟨w.heap.size, 3, none⟩ = some (.slice xc nc cc) := K2.out.cell 3
      have l2 := K2.out.lt
      go_wp2_with fail
      refine (HST.out HQL.out HQR.out _ L2.out).mono ?_
      rintro e w3 ⟨c, yp, yr, ym, yb, rfl, oc, pc, b3⟩
      have OC := Lib.hid oc
      have PC := Lib.hid pc
      obtain ⟨a0, k0, a1, k1, a2, k2, a3, k3, rfl, rfl, rfl, rfl⟩ := oc.shapes
      have L3 := Lib.hid (L2.out.trans (b3.mono L2.out.size))
      have K3 := Lib.hid (K2.out.below b3)
      clear b3 K2 L2 HST c0 c1 c2 c3 l2 oc pc
      generalize c.pc.length = np at OC ⊢
      generalize c.regs.length = mr at OC ⊢
      generalize c.mem.length = mm at OC ⊢
      generalize c.buf.length = mb at OC ⊢
      have KC := Lib.hid (Bk.new w3 31 #[.slice a0 np k0, .slice a1 mr k1, .slice a2 mm k2, .slice a3 mb k3])
      have LC : Hid (Below w3.heap.size w3 (w3.alloc (.cells #[.slice a0 np k0, .slice a1 mr k1, .slice a2 mm k2, .slice a3 mb k3] 31))) := (Below.refl _ _).alloc (Nat.le_refl _) _
      have c3 : w3.cell? ⟨w.heap.size, 3, none⟩ = some (.slice xc nc cc) := K3.out.cell 3
      have l3 := K3.out.lt
      go_wp2_with fail
      generalize w3.alloc _ = w4 at KC LC ⊢
      have K4 := Lib.hid (K3.out.below LC.out)
      have M4 := Lib.hid (L3.out.trans (LC.out.mono L3.out.size))
      have OC4 := Lib.hid (OC.out.below LC.out)
      have DU4 := Lib.hid (HU.out.below M4.out)
      clear K3 L3 LC OC c3 l3
      go_loopg [9, 10] nc (fun fuel o' i' wr => ∃ (k : Nat) (o : Bool), i' = .int .i64 k ∧ o' = .bool o ∧ o = overU (u.code.take k) ∧ k ≤ nc ∧ nc - k ≤ fuel ∧ wr = w4)
      case atStart => exact ⟨0, true, rfl, rfl, rfl, Nat.zero_le _, Nat.le_refl _, rfl⟩
      case round =>
        obtain ⟨k, o, rfl, rfl, ho, hk, hf, rfl⟩ := hrel
        have HO := Lib.hid ho
        clear ho
        have l4 := K4.out.lt
        by_cases hlt : k < nc
        · have hk1 : k < u.code.length := by rw [← HNC.out]; exact hlt
          obtain ⟨b5, o5, rfl, hb5, hx⟩ := SlD.at DU4.out.c k hk1
          obtain ⟨x5, m5, hxv⟩ := hx.r.shape0
          have y5 := hx.c
          rw [Nat.mul_one, hxv] at y5
          have HT := Lib.hid (overU_at u.code k hk1)
          rw [← HO.out] at HT
          have c3 : wr.cell? ⟨w.heap.size, 3, none⟩ = some (.slice (some ⟨b5, o5, none⟩) nc cc) := K4.out.cell 3
          generalize u.code[k].1.length = nl at y5 HT
          clear hx hxv hk1
          have e1 : (0 : Int) ≤ (k : Int) := Int.natCast_nonneg _
          have e2 : (k : Int) < (nc : Int) := by omega
          have e3 : k < nc := hlt
          have hn9 : nc ≤ 9223372036854775807 := by have := DU4.out.c.bd; have := HNC.out; omega
          cases o with
          | false =>
            go_wp2
            go_roundg (gk - 1)
            case measure => omega
            case rel => exact ⟨k + 1, false, by go_num, rfl, by rw [HT.out]; rfl, by omega, by omega, rfl⟩
          | true =>
            by_cases h1 : nl = 1
            · have g1 : ((nl : Int) == 1) = true := by simp; omega
              have HQ : Hid (overU (u.code.take (k + 1)) = true) := Lib.hid (by rw [HT.out, decide_eq_true h1]; rfl)
              clear h1
              go_wp2
              go_roundg (gk - 1)
              case measure => omega
              case rel => exact ⟨k + 1, true, by go_num, rfl, HQ.out.symm, by omega, by omega, rfl⟩
            · have g1 : ((nl : Int) == 1) = false := by simp; omega
              have HQ : Hid (overU (u.code.take (k + 1)) = false) := Lib.hid (by rw [HT.out, decide_eq_false h1]; rfl)
              clear h1
              go_wp2
              go_roundg (gk - 1)
              case measure => omega
              case rel => exact ⟨k + 1, false, by go_num, rfl, HQ.out.symm, by omega, by omega, rfl⟩
        · have hkn : k = nc := by omega
          have HO2 : Hid (overU u.code = o) := Lib.hid (by rw [HO.out, hkn, HNC.out, List.take_length])
          clear HO
          subst hkn
          have hsu := lightU_short HQL.out
          have hsc := start_short HQR.out PC.out
          have HGR := Lib.hid (fun (W : World) (hb : Below wr.heap.size wr W) => nright_any u c (1 + model % 3) (1 + room % 4) _ _ _ _ _ _ _ W (DU4.out.below hb) (OC4.out.data.below hb) hsu hsc true (start_right HQR.out PC.out (by omega) (by omega)))
          have HGQ := Lib.hid (fun (W : World) (hb : Below wr.heap.size wr W) => nquiet_any c _ _ _ _ W (OC4.out.data.below hb) hsc.b true (start_quiet PC.out))
          have HGF := Lib.hid (fun (W : World) (hb : Below wr.heap.size wr W) => nfinal_any u c _ _ _ _ _ _ _ W (DU4.out.below hb) (OC4.out.data.below hb) (by have := HNC.out; have := hsc.p; have := PC.out; have h5 := HQR.out; unfold rightU at h5; rw [Bool.and_eq_true] at h5; have := of_decide_eq_true h5.1; omega) hsc.b o ((start_final HQR.out PC.out).trans HO2.out))
          rw [← HM0.out] at HGR HGF
          have KK := Lib.hid (fun (W : World) (hb : Below wr.heap.size wr W) => (⟨(K4.out.below hb).cell 0, (K4.out.below hb).cell 1, (K4.out.below hb).cell 2, (K4.out.below hb).cell 3, (KC.out.below hb).cell 0, (KC.out.below hb).cell 1, (KC.out.below hb).cell 2, (KC.out.below hb).cell 3, (K4.out.below hb).lt, (KC.out.below hb).lt⟩ :
            W.cell? ⟨w.heap.size, 0, none⟩ = some (.int .i64 m) ∧ W.cell? ⟨w.heap.size, 1, none⟩ = some (.slice xi ni ci) ∧ W.cell? ⟨w.heap.size, 2, none⟩ = some (.slice xr nr cr) ∧ W.cell? ⟨w.heap.size, 3, none⟩ = some (.slice xc k cc) ∧
            W.cell? ⟨w3.heap.size, 0, none⟩ = some (.slice a0 np k0) ∧ W.cell? ⟨w3.heap.size, 1, none⟩ = some (.slice a1 mr k1) ∧ W.cell? ⟨w3.heap.size, 2, none⟩ = some (.slice a2 mm k2) ∧ W.cell? ⟨w3.heap.size, 3, none⟩ = some (.slice a3 mb k3) ∧ w.heap.size < W.heap.size ∧ w3.heap.size < W.heap.size))
          obtain ⟨c0, c1, c2, c3, d0, d1, d2, d3, l1, l2⟩ := KK.out wr (Below.refl _ _)
          clear hsu hsc l4 OC4 DU4 K4 KC HO2 HU
          go_wp2_with fail
          refine (HGR.out _ (Below.refl _ _)).mono ?_
          rintro e w5 ⟨rfl, b5⟩
          clear c0 c1 c2 c3 d0 d1 d2 d3 l1 l2
          have B5 := Lib.hid b5
          obtain ⟨c0, c1, c2, c3, d0, d1, d2, d3, l1, l2⟩ := KK.out w5 b5
          clear b5 HGR
          go_wp2_with fail
          refine (HGQ.out _ B5.out).mono ?_
          rintro e w6 ⟨rfl, b6⟩
          clear c0 c1 c2 c3 d0 d1 d2 d3 l1 l2
          have B6 := Lib.hid (B5.out.trans (b6.mono B5.out.size))
          obtain ⟨c0, c1, c2, c3, d0, d1, d2, d3, l1, l2⟩ := KK.out w6 B6.out
          clear b6 HGQ B5
          go_wp2_with fail
          refine (HGF.out _ B6.out).mono ?_
          rintro e w7 ⟨rfl, b7⟩
          clear c0 c1 c2 c3 d0 d1 d2 d3 l1 l2
          have B7 := Lib.hid (B6.out.trans (b7.mono B6.out.size))
          clear b7 HGF B6
          go_wp2_with fail
          refine (HKN.out _).mono ?_
          rintro e w8 ⟨rfl, b8⟩
          have B8 := Lib.hid (B7.out.trans (b8.mono B7.out.size))
          clear b8 B7
          go_wp2
          go_ret
          exact ⟨rfl, M4.out.trans (B8.out.mono M4.out.size)⟩

end Go.Proofs.Ytdklcjgoomdhkaa
