/- The reference's Flushes. The reference's Flush. -/
import Derived.Test.YtacbanfnakgecaaGreatYn
import Derived.Test.YtacbanfnakgecaaGreatXn
import Derived.Test.YtacbanfnakgecaaGreatWd
namespace Go.Proofs.YtacbanfnakgecaaGreat
set_option linter.unusedSimpArgs false
set_option linter.unusedVariables false
open Go.RowKit
set_option maxRecDepth 100000 in
set_option maxHeartbeats 4000000 in
theorem rflushes_any (c : Cf) (model t loc : Int) (xp xr xm xb : Value) (w : World) (hc : CfD w xp xr xm xb c) (hb : ∀ r ∈ c.buf, r.1.length ≤ 100000) (q : Bool) (hq : (popC c model t loc).2.2 = q) :
    Calls Tryz.prog 64 #[.agg #[xp, xr, xm, xb], .int .i64 model, .int .i64 t, .int .i64 loc] w fun e w' => e = .returned (.bool q) ∧ Below w.heap.size w w' := by
  have HC := Lib.hid hc
  obtain ⟨yb, db, rfl⟩ := hc.b.shape0
  obtain ⟨mb, hmb⟩ : ∃ n, n = c.buf.length := ⟨_, rfl⟩
  have HMB := Lib.hid hmb
  have HQ := Lib.hid hq
  have HB := Lib.hid hb
  rw [← hmb] at HC ⊢
  clear hc hb hq hmb
  have K := Lib.hid (Bk.new w 29 #[xp, xr, xm, .slice yb mb db])
  have B : Hid (Below w.heap.size w (w.alloc (.cells #[xp, xr, xm, .slice yb mb db] 29))) := (Below.refl _ _).alloc (Nat.le_refl _) _
  by_cases h0 : t < 0
  · have hZ : q = false := by rw [← HQ.out]; unfold popC; rw [if_neg (by omega)]
    subst hZ
    go_enter Tryz.func64, Tryz.ntmps64
    go_wp2
    go_ret
    exact ⟨rfl, B.out⟩
  · obtain ⟨k, rfl⟩ : ∃ k : Nat, t = (k : Int) := ⟨t.toNat, by omega⟩
    by_cases hk : k < mb
    · have hk1 : k < c.buf.length := by rw [← HMB.out]; omega
      obtain ⟨b2, o2, a2, m2, rfl, hb2, hx1, hx2⟩ := BufsD.at2 HC.out.b k hk1
      have hg : c.buf.getD k ([], undef) = c.buf[k] := by rw [List.getD_eq_getElem?_getD, List.getElem?_eq_getElem hk1]; rfl
      have hlen : (c.buf[k]).1.length ≤ 100000 := HB.out _ (List.getElem_mem hk1)
      obtain ⟨z, hz⟩ : ∃ z, popL (c.buf[k]).1 model loc = z := ⟨_, rfl⟩
      obtain ⟨z, ⟨x, y⟩, q'⟩ := z
      have hqq : q' = q := by
        have h1 := HQ.out
        unfold popC at h1
        rw [if_pos (by rw [← HMB.out]; omega), Int.toNat_natCast, hg, hz] at h1
        exact h1
      subst hqq
      have HPO := Lib.hid (fun (W : World) (h : Below w.heap.size w W) => rpop_own (c.buf[k]).1 _ model loc W (EntsD.below hx2 h) hlen z x y q' hz)
      generalize (c.buf[k]).1.length = nb at hx1 HPO
      clear HQ hz hlen hg hx2 HC HB HMB hk1
      generalize hW : World.alloc w _ = W at K B
      have c3 : W.cell? ⟨w.heap.size, 3, none⟩ = some (.slice (some ⟨b2, o2, none⟩) mb db) := K.out.cell 3
      have l1 := K.out.lt
      have x1 : W.cell? ⟨b2, o2 + k, none⟩ = some (.slice a2 nb m2) := (B.out.cell (p := ⟨b2, _, none⟩) hb2).trans hx1
      have hb3 : b2 < W.heap.size := Nat.lt_of_lt_of_le hb2 B.out.size
      have e1 : (k : Int) < (mb : Int) := by omega
      have e0 : (0 : Int) ≤ (k : Int) := by omega
      clear hx1
      go_enter Tryz.func64, Tryz.ntmps64
      go_wp2_with fail
      refine (HPO.out _ B.out).mono ?_
      rintro e w3 ⟨v', rfl, ow, b3⟩
      go_wp2
      go_ret
      first
        | exact ⟨rfl, B.out.trans (b3.mono B.out.size)⟩
        | exact ⟨rfl, (B.out.trans (b3.mono B.out.size)).alloc (Nat.le_trans B.out.size b3.size) _⟩
    · have hZ : q = false := by rw [← HQ.out]; unfold popC; rw [if_neg (by rw [← HMB.out]; omega)]
      subst hZ
      have c3 : (w.alloc (.cells #[xp, xr, xm, .slice yb mb db] 29)).cell? ⟨w.heap.size, 3, none⟩ = some (.slice yb mb db) := K.out.cell 3
      go_enter Tryz.func64, Tryz.ntmps64
      go_wp2
      all_goals
        go_ret
        exact ⟨rfl, B.out⟩
end Go.Proofs.YtacbanfnakgecaaGreat

namespace Go.Proofs.YtacbanfnakgecaaGreat
set_option linter.unusedSimpArgs false
set_option linter.unusedVariables false
open Go.RowKit
set_option maxRecDepth 100000 in
set_option maxHeartbeats 4000000 in
theorem rflush_any (c : Cf) (model t loc : Int) (xp xr xm xb : Value) (w : World) (hc : CfD w xp xr xm xb c) (hs : ShortC c) (z : List Ent) (x y : Int) (q : Bool) (hq : popC c model t loc = (z, (x, y), q)) (hx : q = true → 0 ≤ t ∧ t < c.buf.length ∧ 0 ≤ x ∧ x < c.mem.length) :
    Calls Tryz.prog 44 #[.agg #[xp, xr, xm, xb], .int .i64 model, .int .i64 t, .int .i64 loc] w fun e w' => ∃ (d : Cf) (yp yr ym yb : Value), e = .returned (.tuple #[.agg #[yp, yr, ym, yb], .bool q]) ∧ OwnC w' w.heap.size yp yr ym yb d ∧
      d.pf = (if q = true then ⟨c.pc, c.regs.map (·.1), c.mem.set x.toNat y, (c.buf.map (·.1)).set t.toNat z⟩ else c.pf) ∧ Below w.heap.size w w' := by
  obtain ⟨yb', db', rfl⟩ := hc.b.shape0
  have HCP := Lib.hid (fun (W : World) (h : Below w.heap.size w W) => rcopy_any c _ _ _ _ W (hc.below h) hs)
  have HP := Lib.hid (fun (W : World) (h : Below w.heap.size w W) => rflushes_any c model t loc _ _ _ _ W (hc.below h) hs.bb q (by rw [hq]))
  have HX := Lib.hid hx
  have HC := Lib.hid hc
  have HQ := Lib.hid hq
  have HS := Lib.hid hs
  clear hc hs hq hx
  have T2 := Lib.hid (two_new w 29 29 #[xp, xr, xm, .slice yb' c.buf.length db'] #[.slice none 0 0, .slice none 0 0, .slice none 0 0, .slice none 0 0])
  go_enter Tryz.func44, Tryz.ntmps44
  go_wp2_with fail
  obtain ⟨L0, KA0, KB0⟩ := T2.out
  have SZ : Hid (((w.alloc (.cells #[xp, xr, xm, .slice yb' c.buf.length db'] 29)).alloc (.cells #[.slice none 0 0, .slice none 0 0, .slice none 0 0, .slice none 0 0] 29)).heap.size = w.heap.size + 1 + 1) := Lib.hid (by simp only [alloc_size])
  generalize (w.alloc _).alloc _ = w0 at L0 KA0 KB0 SZ ⊢
  have LL := Lib.hid L0
  have KA := Lib.hid KA0
  have KB := Lib.hid KB0
  clear L0 KA0 KB0 T2
  refine (HCP.out _ LL.out).mono ?_
  rintro e w1 ⟨d, yp, yr, ym, yb, rfl, od, hpf, b1, dj⟩
  have HPF := Lib.hid hpf
  obtain ⟨a0, n0, a1, n1, a2, n2, a3, n3, rfl, rfl, rfl, rfl⟩ := od.shapes
  have S1 := Lib.hid (St.of od dj b1.size)
  have B1 := Lib.hid b1
  have KZ := Lib.hid (Bk.new w1 29 #[.slice none 0 0, .slice none 0 0, .slice none 0 0, .slice none 0 0])
  have BZ : Hid (Below w1.heap.size w1 (w1.alloc (.cells #[.slice none 0 0, .slice none 0 0, .slice none 0 0, .slice none 0 0] 29))) := Lib.hid (bal (Below.refl _ _) _)
  generalize hz : w1.alloc (.cells #[.slice none 0 0, .slice none 0 0, .slice none 0 0, .slice none 0 0] 29) = wz at KZ BZ
  have KN := Lib.hid (set4_bk (.slice a0 d.pc.length n0) (.slice a1 d.regs.length n1) (.slice a2 d.mem.length n2) (.slice a3 d.buf.length n3) KZ.out)
  have BA : Hid (Below w1.heap.size w1 ((((wz.setCell ⟨w1.heap.size, 0, none⟩ (.slice a0 d.pc.length n0)).setCell ⟨w1.heap.size, 1, none⟩ (.slice a1 d.regs.length n1)).setCell ⟨w1.heap.size, 2, none⟩ (.slice a2 d.mem.length n2)).setCell ⟨w1.heap.size, 3, none⟩ (.slice a3 d.buf.length n3))) := Lib.hid (set4_below _ _ _ _ BZ.out (Nat.le_refl _))
  have S2 := Lib.hid (S1.out.below BA.out)
  have B2 : Hid (Below w0.heap.size w0 ((((wz.setCell ⟨w1.heap.size, 0, none⟩ (.slice a0 d.pc.length n0)).setCell ⟨w1.heap.size, 1, none⟩ (.slice a1 d.regs.length n1)).setCell ⟨w1.heap.size, 2, none⟩ (.slice a2 d.mem.length n2)).setCell ⟨w1.heap.size, 3, none⟩ (.slice a3 d.buf.length n3))) := Lib.hid (B1.out.trans (BA.out.mono B1.out.size))
  obtain ⟨z0, z1, z2, z3, y0, y1, y2, y3, lz⟩ : wz.cell? ⟨w1.heap.size, 0, none⟩ = some (.slice none 0 0) ∧ wz.cell? ⟨w1.heap.size, 1, none⟩ = some (.slice none 0 0) ∧ wz.cell? ⟨w1.heap.size, 2, none⟩ = some (.slice none 0 0) ∧ wz.cell? ⟨w1.heap.size, 3, none⟩ = some (.slice none 0 0) ∧ wz.frozen? ⟨w1.heap.size, 0, none⟩ = false ∧ wz.frozen? ⟨w1.heap.size, 1, none⟩ = false ∧ wz.frozen? ⟨w1.heap.size, 2, none⟩ = false ∧ wz.frozen? ⟨w1.heap.size, 3, none⟩ = false ∧ w1.heap.size < wz.heap.size := ⟨KZ.out.cell 0, KZ.out.cell 1, KZ.out.cell 2, KZ.out.cell 3, KZ.out.fz 0, KZ.out.fz 1, KZ.out.fz 2, KZ.out.fz 3, KZ.out.lt⟩
  clear od hpf b1 dj S1 BA HCP
  have KAZ := Lib.hid (KA.out.below (B1.out.trans (BZ.out.mono B1.out.size)))
  obtain ⟨c0, c1, c2, c3, l0⟩ : wz.cell? ⟨w.heap.size, 0, none⟩ = some xp ∧ wz.cell? ⟨w.heap.size, 1, none⟩ = some xr ∧ wz.cell? ⟨w.heap.size, 2, none⟩ = some xm ∧ wz.cell? ⟨w.heap.size, 3, none⟩ = some (.slice yb' c.buf.length db') ∧ w.heap.size < wz.heap.size := ⟨KAZ.out.cell 0, KAZ.out.cell 1, KAZ.out.cell 2, KAZ.out.cell 3, KAZ.out.lt⟩
  have hne : ¬ w.heap.size = w1.heap.size := by have h1 := SZ.out; have h2 := B1.out.size; omega
  have hne' : ¬ w1.heap.size = w.heap.size := fun h => hne h.symm
  go_wp2_with fail
  generalize (((wz.setCell _ _).setCell _ _).setCell _ _).setCell _ _ = w2 at KN S2 B2 ⊢
  refine (HP.out _ (LL.out.trans (B2.out.mono LL.out.size))).mono ?_
  rintro e w3 ⟨rfl, b3⟩
  have KA3 := Lib.hid (KA.out.below (B2.out.trans (b3.mono B2.out.size)))
  have S3 := Lib.hid (S2.out.below b3)
  have KN3 := Lib.hid (KN.out.below b3)
  have KB3 := Lib.hid (KB.out.below (B2.out.trans (b3.mono B2.out.size)))
  have B3 := Lib.hid (LL.out.trans ((B2.out.trans (b3.mono B2.out.size)).mono LL.out.size))
  have hlt1 : w1.heap.size < w3.heap.size := KN3.out.lt
  have hlt2 : w.heap.size + 1 < w3.heap.size := KB3.out.lt
  have hne2 : ¬ w.heap.size + 1 = w1.heap.size := by have h1 := SZ.out; have h2 := B1.out.size; omega
  have hne3 : ¬ w1.heap.size = w.heap.size + 1 := fun h => hne2 h.symm
  clear b3 KZ BZ KAZ c0 c1 c2 c3 l0 z0 z1 z2 z3 y0 y1 y2 y3 lz S2 KN B2 hne hne' HP
  obtain ⟨n0', n1', n2', n3'⟩ : w3.cell? ⟨w1.heap.size, 0, none⟩ = some (.slice a0 d.pc.length n0) ∧ w3.cell? ⟨w1.heap.size, 1, none⟩ = some (.slice a1 d.regs.length n1) ∧ w3.cell? ⟨w1.heap.size, 2, none⟩ = some (.slice a2 d.mem.length n2) ∧ w3.cell? ⟨w1.heap.size, 3, none⟩ = some (.slice a3 d.buf.length n3) := ⟨KN3.out.cell 0, KN3.out.cell 1, KN3.out.cell 2, KN3.out.cell 3⟩
  obtain ⟨r0, r1, r2, r3, g0, g1, g2, g3⟩ : w3.cell? ⟨w.heap.size + 1, 0, none⟩ = some (.slice none 0 0) ∧ w3.cell? ⟨w.heap.size + 1, 1, none⟩ = some (.slice none 0 0) ∧ w3.cell? ⟨w.heap.size + 1, 2, none⟩ = some (.slice none 0 0) ∧ w3.cell? ⟨w.heap.size + 1, 3, none⟩ = some (.slice none 0 0) ∧ w3.frozen? ⟨w.heap.size + 1, 0, none⟩ = false ∧ w3.frozen? ⟨w.heap.size + 1, 1, none⟩ = false ∧ w3.frozen? ⟨w.heap.size + 1, 2, none⟩ = false ∧ w3.frozen? ⟨w.heap.size + 1, 3, none⟩ = false := ⟨KB3.out.cell 0, KB3.out.cell 1, KB3.out.cell 2, KB3.out.cell 3, KB3.out.fz 0, KB3.out.fz 1, KB3.out.fz 2, KB3.out.fz 3⟩
  have HLW : Hid (w.heap.size ≤ w0.heap.size) := Lib.hid (by have := SZ.out; omega)
  cases q with
  | false =>
    have KF := Lib.hid (set4_bk (.slice a0 d.pc.length n0) (.slice a1 d.regs.length n1) (.slice a2 d.mem.length n2) (.slice a3 d.buf.length n3) KB3.out)
    have kp := Lib.hid (set4_kp (w := w3) (B := w0.heap.size) (.slice a0 d.pc.length n0) (.slice a1 d.regs.length n1) (.slice a2 d.mem.length n2) (.slice a3 d.buf.length n3) (show w.heap.size + 1 < w0.heap.size by have := SZ.out; omega))
    have BF := Lib.hid (set4_below (.slice a0 d.pc.length n0) (.slice a1 d.regs.length n1) (.slice a2 d.mem.length n2) (.slice a3 d.buf.length n3) B3.out (show w.heap.size ≤ w.heap.size + 1 by omega))
    go_wp2
    generalize (((w3.setCell _ _).setCell _ _).setCell _ _).setCell _ _ = w4 at KF kp BF ⊢
    have d0 : w4.cell? ⟨w.heap.size + 1, 0, none⟩ = some _ := KF.out.cell 0
    have d1 : w4.cell? ⟨w.heap.size + 1, 1, none⟩ = some _ := KF.out.cell 1
    have d2 : w4.cell? ⟨w.heap.size + 1, 2, none⟩ = some _ := KF.out.cell 2
    have d3 : w4.cell? ⟨w.heap.size + 1, 3, none⟩ = some _ := KF.out.cell 3
    refine bodyPost_ret (v := .tuple #[.agg #[.slice a0 d.pc.length n0, .slice a1 d.regs.length n1, .slice a2 d.mem.length n2, .slice a3 d.buf.length n3], .bool false]) (by simp [results, Tryz.results44, go_sem, d0, d1, d2, d3]) rfl ?_
    exact ⟨d, _, _, _, _, rfl, (S3.out.o.kp kp.out).base HLW.out, HPF.out, BF.out⟩
  | true =>
    obtain ⟨hx1, hx2, hx3, hx4⟩ := HX.out rfl
    obtain ⟨k, rfl⟩ : ∃ k : Nat, t = (k : Int) := ⟨t.toNat, by omega⟩
    obtain ⟨j, rfl⟩ : ∃ j : Nat, x = (j : Int) := ⟨x.toNat, by omega⟩
    have hkc : k < c.buf.length := by omega
    obtain ⟨b2, o2, a2', m2, rfl, hb2, hxx1, hxx2⟩ := BufsD.at2 HC.out.b k hkc
    have hP : popL (c.buf[k]).1 model loc = (z, ((j : Int), y), true) := by
      have h1 := HQ.out
      unfold popC at h1
      rw [if_pos (by omega), Int.toNat_natCast, List.getD_eq_getElem?_getD, List.getElem?_eq_getElem hkc] at h1
      exact h1
    have HPO := Lib.hid (fun (W : World) (h : Below w.heap.size w W) => rpop_own (c.buf[k]).1 _ model loc W (EntsD.below hxx2 h) (HS.out.bb _ (List.getElem_mem hkc)) z j y true hP)
    have x1 : w3.cell? ⟨b2, o2 + k, none⟩ = some (.slice a2' (c.buf[k]).1.length m2) := (B3.out.cell (p := ⟨b2, _, none⟩) hb2).trans hxx1
    have xl : b2 < w3.heap.size := Nat.lt_of_lt_of_le hb2 B3.out.size
    have x3 : w3.cell? ⟨w.heap.size, 3, none⟩ = some (.slice (some ⟨b2, o2, none⟩) c.buf.length db') := KA3.out.cell 3
    have x4 := KA3.out.lt
    have q3 : (k : Int) < (c.buf.length : Int) := by omega
    have q4 : (0 : Int) ≤ (k : Int) := by omega
    generalize (c.buf[k]).1.length = nb at x1 HPO
    clear hP hxx1 hxx2
    go_wp2_with fail
    refine (HPO.out w3 B3.out).mono ?_
    rintro e w3' ⟨v', rfl, ow, b3⟩
    have OW := Lib.hid (own_base ow (Nat.le_trans S3.out.bn S3.out.n))
    replace S3 := Lib.hid (S3.out.below b3)
    replace KN3 := Lib.hid (KN3.out.below b3)
    replace KB3 := Lib.hid (KB3.out.below b3)
    replace B3 := Lib.hid (B3.out.trans (b3.mono B3.out.size))
    replace hlt1 : w1.heap.size < w3'.heap.size := KN3.out.lt
    replace hlt2 : w.heap.size + 1 < w3'.heap.size := KB3.out.lt
    clear b3 ow x1 xl x3 x4 n0' n1' n2' n3' r0 r1 r2 r3 g0 g1 g2 g3 KA3
    obtain ⟨av, cv, rfl, _⟩ := own_shape' OW.out
    have hpm : d.mem = c.mem := congrArg Pf.mem HPF.out
    have hpb : d.buf.length = c.buf.length := by have := congrArg (fun p : Pf => p.buf.length) HPF.out; simpa [Cf.pf] using this
    have hk : k < d.buf.length := by omega
    have hj : j < d.mem.length := by rw [hpm]; omega
    clear hpm hpb
    have HFIN : Hid ((({ d with buf := d.buf.set k (z, .slice av z.length cv) } : Cf).setM j y).pf = ⟨c.pc, c.regs.map (·.1), c.mem.set (j : Int).toNat y, (c.buf.map (·.1)).set (k : Int).toNat z⟩) := Lib.hid (by
      have h0 := HPF.out
      unfold Cf.pf at h0
      injection h0 with h1 h2 h3 h4
      unfold Cf.setM Cf.pf
      simp only [Int.toNat_natCast, List.map_set, h1, h2, h3, h4])
    have E0 := Lib.hid (Bk.new w3' 70 #[.int .i64 j, .int .i64 y])
    have BE : Hid (Below w3'.heap.size w3' (w3'.alloc (.cells #[.int .i64 j, .int .i64 y] 70))) := Lib.hid (bal (Below.refl _ _) _)
    generalize hw4 : w3'.alloc (.cells #[.int .i64 j, .int .i64 y] 70) = w4 at E0 BE
    have S4 := Lib.hid (S3.out.below BE.out)
    have KN4 := Lib.hid (KN3.out.below BE.out)
    have KB4 := Lib.hid (KB3.out.below BE.out)
    have B4 := Lib.hid (B3.out.trans (BE.out.mono B3.out.size))
    have OW4 : Hid (OwnE w4 w0.heap.size (.slice av z.length cv) z) := Lib.hid (own_below OW.out BE.out)
    obtain ⟨g, cap, hxb, hg, hl, hc, hf, hst⟩ := S4.out.bufAt k hk
    obtain ⟨z0, z1, zl⟩ : w4.cell? ⟨w3'.heap.size, 0, none⟩ = some (.int .i64 j) ∧ w4.cell? ⟨w3'.heap.size, 1, none⟩ = some (.int .i64 y) ∧ w3'.heap.size < w4.heap.size := ⟨E0.out.cell 0, E0.out.cell 1, E0.out.lt⟩
    have hge1 : ¬ g = w3'.heap.size := by omega
    have hge2 : ¬ w3'.heap.size = g := fun h => hge1 h.symm
    injection hxb with hxa _ hcc
    subst hxa
    subst hcc
    have HST := Lib.hid (hst z _ OW4.out)
    have S5 := Lib.hid HST.out.1
    have F5 := Lib.hid HST.out.2
    have KN5 := Lib.hid (F5.out.bk (Nat.le_refl _) KN4.out)
    have KB5 := Lib.hid (bkBelow F5.out.b (show w.heap.size + 1 < w0.heap.size by have := SZ.out; omega) KB4.out)
    have E5 := Lib.hid (F5.out.bk (Nat.le_of_lt hlt1) E0.out)
    have hgne1 : ¬ g = w1.heap.size := by omega
    have hgne2 : ¬ w1.heap.size = g := fun h => hgne1 h.symm
    have m1 : ∀ i, w4.cell? ⟨w1.heap.size, i, none⟩ = _ := fun i => KN4.out.cell i
    obtain ⟨p0, p1, p2, p3, pl⟩ : w4.cell? ⟨w1.heap.size, 0, none⟩ = some (.slice a0 d.pc.length n0) ∧ w4.cell? ⟨w1.heap.size, 1, none⟩ = some (.slice a1 d.regs.length n1) ∧ w4.cell? ⟨w1.heap.size, 2, none⟩ = some (.slice a2 d.mem.length n2) ∧ w4.cell? ⟨w1.heap.size, 3, none⟩ = some (.slice (some ⟨g, 0, none⟩) d.buf.length n3) ∧ w1.heap.size < w4.heap.size := ⟨KN4.out.cell 0, KN4.out.cell 1, KN4.out.cell 2, KN4.out.cell 3, KN4.out.lt⟩
    have q1 : (0 : Int) ≤ (k : Int) := by omega
    have q2 : (k : Int) < (d.buf.length : Int) := by omega
    clear hst m1
    have hj5 : j < ({ d with buf := d.buf.set k (z, .slice av z.length cv) } : Cf).mem.length := hj
    have B5 := Lib.hid (B4.out.trans (F5.out.b.mono HLW.out))
    go_wp2_with fail
    generalize w4.setCell ⟨g, k, none⟩ _ = w5 at HST S5 F5 KN5 KB5 E5 B5 ⊢
    clear p0 p1 p2 p3 pl z0 z1 zl hc hf hl hg hge1 hge2 hgne1 hgne2 hw4 q1 q2
    obtain ⟨gm, capm, hxm, hgm, hlm, hcm, hfm, hstm⟩ := S5.out.memAt j hj5
    injection hxm with hxa _ hcc
    subst hxa
    subst hcc
    have HSM := Lib.hid (hstm y)
    have S6 := Lib.hid HSM.out.1
    have F6 := Lib.hid HSM.out.2
    have KN6 := Lib.hid (F6.out.bk (Nat.le_refl _) KN5.out)
    have KB6 := Lib.hid (bkBelow F6.out.b (show w.heap.size + 1 < w0.heap.size by have := SZ.out; omega) KB5.out)
    have B6 := Lib.hid (B5.out.trans (F6.out.b.mono HLW.out))
    clear hstm
    have hge3 : ¬ gm = w3'.heap.size := by omega
    have hge4 : ¬ w3'.heap.size = gm := fun h => hge3 h.symm
    have hge5 : ¬ gm = w1.heap.size := by omega
    have hge6 : ¬ w1.heap.size = gm := fun h => hge5 h.symm
    obtain ⟨z0, z1, zl⟩ : w5.cell? ⟨w3'.heap.size, 0, none⟩ = some (.int .i64 j) ∧ w5.cell? ⟨w3'.heap.size, 1, none⟩ = some (.int .i64 y) ∧ w3'.heap.size < w5.heap.size := ⟨E5.out.cell 0, E5.out.cell 1, E5.out.lt⟩
    obtain ⟨p0, p1, p2, p3, pl⟩ : w5.cell? ⟨w1.heap.size, 0, none⟩ = some (.slice a0 d.pc.length n0) ∧ w5.cell? ⟨w1.heap.size, 1, none⟩ = some (.slice a1 d.regs.length n1) ∧ w5.cell? ⟨w1.heap.size, 2, none⟩ = some (.slice (some ⟨gm, 0, none⟩) d.mem.length n2) ∧ w5.cell? ⟨w1.heap.size, 3, none⟩ = some (.slice (some ⟨g, 0, none⟩) d.buf.length n3) ∧ w1.heap.size < w5.heap.size := ⟨KN5.out.cell 0, KN5.out.cell 1, KN5.out.cell 2, KN5.out.cell 3, KN5.out.lt⟩
    have q1 : (0 : Int) ≤ (j : Int) := by omega
    have q2 : (j : Int) < (d.mem.length : Int) := by have : j < d.mem.length := hj5; omega
    have hgb := (S5.out.o.m.lt gm rfl).1
    have hge7 : ¬ gm = w.heap.size + 1 := by have := SZ.out; omega
    have hge8 : ¬ w.heap.size + 1 = gm := fun h => hge7 h.symm
    obtain ⟨r0, r1, r2, r3, g0, g1, g2, g3, rl⟩ : w5.cell? ⟨w.heap.size + 1, 0, none⟩ = some (.slice none 0 0) ∧ w5.cell? ⟨w.heap.size + 1, 1, none⟩ = some (.slice none 0 0) ∧ w5.cell? ⟨w.heap.size + 1, 2, none⟩ = some (.slice none 0 0) ∧ w5.cell? ⟨w.heap.size + 1, 3, none⟩ = some (.slice none 0 0) ∧ w5.frozen? ⟨w.heap.size + 1, 0, none⟩ = false ∧ w5.frozen? ⟨w.heap.size + 1, 1, none⟩ = false ∧ w5.frozen? ⟨w.heap.size + 1, 2, none⟩ = false ∧ w5.frozen? ⟨w.heap.size + 1, 3, none⟩ = false ∧ w.heap.size + 1 < w5.heap.size := ⟨KB5.out.cell 0, KB5.out.cell 1, KB5.out.cell 2, KB5.out.cell 3, KB5.out.fz 0, KB5.out.fz 1, KB5.out.fz 2, KB5.out.fz 3, KB5.out.lt⟩
    go_wp2
    generalize w5.setCell ⟨gm, j, none⟩ _ = w6 at HSM S6 F6 KN6 KB6 B6 ⊢
    clear p0 p1 p2 p3 pl z0 z1 zl hge3 hge4 hge5 hge6 hcm hfm hlm r0 r1 r2 r3 g0 g1 g2 g3 rl
    have KF := Lib.hid (set4_bk (.slice a0 d.pc.length n0) (.slice a1 d.regs.length n1) (.slice (some ⟨gm, 0, none⟩) d.mem.length n2) (.slice (some ⟨g, 0, none⟩) d.buf.length n3) KB6.out)
    have kp := Lib.hid (set4_kp (w := w6) (B := w0.heap.size) (.slice a0 d.pc.length n0) (.slice a1 d.regs.length n1) (.slice (some ⟨gm, 0, none⟩) d.mem.length n2) (.slice (some ⟨g, 0, none⟩) d.buf.length n3) (show w.heap.size + 1 < w0.heap.size by have := SZ.out; omega))
    have BF := Lib.hid (set4_below (.slice a0 d.pc.length n0) (.slice a1 d.regs.length n1) (.slice (some ⟨gm, 0, none⟩) d.mem.length n2) (.slice (some ⟨g, 0, none⟩) d.buf.length n3) B6.out (show w.heap.size ≤ w.heap.size + 1 by omega))
    generalize (((w6.setCell _ _).setCell _ _).setCell _ _).setCell _ _ = w7 at KF kp BF ⊢
    have d0 : w7.cell? ⟨w.heap.size + 1, 0, none⟩ = some _ := KF.out.cell 0
    have d1 : w7.cell? ⟨w.heap.size + 1, 1, none⟩ = some _ := KF.out.cell 1
    have d2 : w7.cell? ⟨w.heap.size + 1, 2, none⟩ = some _ := KF.out.cell 2
    have d3 : w7.cell? ⟨w.heap.size + 1, 3, none⟩ = some _ := KF.out.cell 3
    refine bodyPost_ret (v := .tuple #[.agg #[.slice a0 d.pc.length n0, .slice a1 d.regs.length n1, .slice (some ⟨gm, 0, none⟩) d.mem.length n2, .slice (some ⟨g, 0, none⟩) d.buf.length n3], .bool true]) (by simp [results, Tryz.results44, go_sem, d0, d1, d2, d3]) rfl ?_
    exact ⟨_, _, _, _, _, rfl, (S6.out.o.kp kp.out).base HLW.out, HFIN.out, BF.out⟩
end Go.Proofs.YtacbanfnakgecaaGreat
