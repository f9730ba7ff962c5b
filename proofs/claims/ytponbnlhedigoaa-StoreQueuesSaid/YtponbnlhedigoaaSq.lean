/- Layer 8: the walk of StoreQueues. -/
import Derived.Test.YtponbnlhedigoaaSp
import Derived.Deep.RegionHeld3
namespace Go.Proofs.Ytponbnlhedigoaa
open Go.RowKit

/-- append of a row of entries to a row of one's own: what becomes of other blocks. -/
theorem append_entsG {w : World} {ops : Array Oper} {rest : List Oper} {o : Oper} {a : Act} {Q : Exit → Act → World → Prop} (hgd : o.guard = none) (s x : Operand)
    (ho : o.op = .call { callee := .builtin .append, args := #[s, x], argTypes := #[22, 22] }) (base : Nat) (v : Value) (xs ys : List Ent) (hs : a.eval s = v) (ad : Addr) (m cap : Nat) (hx : a.eval x = .slice (some ad) m cap)
    (hown : w.ownsRow base 25 2 v xs.length (rowE xs)) (hys : EntsD w (.slice (some ad) m cap) ys) (hn : xs.length + ys.length ≤ 1000000) (hbase : base ≤ w.heap.size) (zs : List Ent) (hz : xs ++ ys = zs)
    (h : ∀ v' w', w'.ownsRow base 25 2 v' zs.length (rowE zs) → w.grownBy w' v.ownBlock → Below base w w' → wpList Try.prog ops Q rest (a.put o.dst v') w') : wpList Try.prog ops Q (o :: rest) a w := by
  subst hz
  obtain ⟨i0, hi, hz0, hz1, hz2⟩ := info_parts info_ent
  have hm : ys.length = m := by
    obtain ⟨ad', cap', hv, _, _, _⟩ := hys
    injection hv with e1 e2 e3
    exact e2.symm
  subst hm
  refine wpList_append_own _ hgd s x 22 ho base 25 i0 (.agg #[.int .i64 0, .int .i64 0]) 2 16 Try.underlying22 hi hz0 hz1 hz2 rfl (by decide) v xs.length (rowE xs) hs hown ad ys.length cap (rowE ys) hx (rowE_len ys) (ents_flat hys) (rowE_one ys) (by unfold maxLen; omega) (by omega) hbase ?_
  intro v' w' h1 h2 _
  refine h v' w' ?_ h2 ((Below.refl base w).grown h2 hbase (fun k hk => (hown.lt k hk).1))
  show World.ownsRow _ _ _ _ _ _ _
  rw [List.length_append, rowE_app]
  exact h1

/-- Two rows lie apart. -/
def ApartV (u v : Value) : Prop := u.ownBlock = none ∨ u.ownBlock ≠ v.ownBlock

theorem EntsD.at2 {w : World} {ad : Option Addr} {n cap : Nat} {xs : List Ent} (h : EntsD w (.slice ad n cap) xs) (k : Nat) (hk : k < xs.length) : ∃ b off, ad = some ⟨b, off, none⟩ ∧ b < w.heap.size ∧ w.cell? ⟨b, off + k * 2, none⟩ = some (.int .i64 xs[k].1) ∧ w.cell? ⟨b, off + k * 2 + 1, none⟩ = some (.int .i64 xs[k].2) := by
  obtain ⟨ad', cap', hv, _, _, hc⟩ := h
  injection hv with e1 _ _
  obtain ⟨b, off, he, hl, h3, h4⟩ := hc _ hk
  exact ⟨b, off, e1.trans he, hl, h3, h4⟩

theorem IntsD.at2 {w : World} {ad : Option Addr} {n cap : Nat} {xs : List Int} (h : IntsD w (.slice ad n cap) xs) (k : Nat) (hk : k < xs.length) : ∃ b off, ad = some ⟨b, off, none⟩ ∧ b < w.heap.size ∧ w.cell? ⟨b, off + k, none⟩ = some (.int .i64 xs[k]) := by
  obtain ⟨ad', cap', hv, _, _, hc⟩ := h
  injection hv with e1 _ _
  obtain ⟨b, off, he, hl, h3⟩ := hc _ hk
  simp only [IntAt, Nat.mul_one] at h3
  exact ⟨b, off, e1.trans he, hl, h3⟩

theorem apart_new {w w' : World} {B B' n n' e e' s s' : Nat} {u v : Value} {xs ys : List Value} (h : w'.ownsRow B e s v n xs) (h2 : w.ownsRow B' e' s' u n' ys) (hB : w.heap.size ≤ B) : ApartV v u := by
  by_cases hv : v.ownBlock = none
  · exact .inl hv
  · refine .inr fun he => ?_
    obtain ⟨g, hg⟩ := Option.ne_none_iff_exists'.1 hv
    have h1 := (h.lt g hg).1
    have h3 := (h2.lt g (he ▸ hg)).2
    omega

theorem land_bd (x : Int) (m : Nat) (hm : m < 100) : 0 ≤ bits BinOp.and IntKind.i64 x m ∧ bits BinOp.and IntKind.i64 x m ≤ m := by
  have h1 : (BitVec.ofInt 64 x &&& BitVec.ofInt 64 (m : Int)).toNat ≤ m := by
    rw [BitVec.toNat_and]
    refine Nat.le_trans Nat.and_le_right ?_
    rw [BitVec.toNat_ofInt]
    omega
  show 0 ≤ IntKind.i64.wrap ((BitVec.ofInt 64 x &&& BitVec.ofInt 64 (m : Int)).toNat : Int) ∧ IntKind.i64.wrap ((BitVec.ofInt 64 x &&& BitVec.ofInt 64 (m : Int)).toNat : Int) ≤ m
  generalize (BitVec.ofInt 64 x &&& BitVec.ofInt 64 (m : Int)).toNat = z at h1
  rw [IntKind.wrap_i64]
  omega

set_option maxRecDepth 100000 in
set_option maxHeartbeats 8000000 in
theorem queues_in (l : List Ent) (v : Value) (pso : Bool) (w : World) (hv : EntsD w v l) :
    Calls Try.prog 3 #[v, .bool pso] w fun e w' => e = .returned (.bool true) ∧ Below w.heap.size w w' := by
  obtain ⟨ad, cap, rfl, _⟩ := hv.shape
  have D0 := Lib.hid hv
  by_cases hn : l.length ≤ 4
  · have q1 : ¬ (4 : Int) < (l.length : Int) := by omega
    have HN := Lib.hid hn
    obtain ⟨n, hN⟩ : ∃ n, n = l.length := ⟨_, rfl⟩
    rw [← hN] at D0 q1 ⊢
    have HNN := Lib.hid hN
    clear hv hN hn
    cases pso with
    | false =>
      go_enter Try.func3, Try.ntmps3
      go_wp2_with fail
      go_loopg [6, 7, 8] n (fun fuel b' in' i' wr => ∃ (k : Nat) (bs q : List Ent), i' = .int .i64 k ∧ wr.ownsRow w.heap.size 25 2 b' bs.length (rowE bs) ∧ wr.ownsRow w.heap.size 25 2 in' q.length (rowE q) ∧ QRel 2 bs q ∧ q.length = k ∧ k ≤ n ∧ n - k ≤ fuel ∧ Below w.heap.size w wr)
      case atStart => exact ⟨0, [], [], rfl, World.ownsRow_nil _ _ _ _, World.ownsRow_nil _ _ _ _, QRel.start 2 (by decide), rfl, Nat.zero_le _, Nat.le_refl _, Below.refl _ _⟩
      case round =>
        obtain ⟨k, bs, q, rfl, hob, hoi, hq, hqk, hk, hf, hb⟩ := hrel
        have HB := Lib.hid hb
        have OB := Lib.hid hob
        have OI := Lib.hid hoi
        have OIW := Lib.hid hoi
        have QR := Lib.hid hq
        have QK := Lib.hid hqk
        have hww := hb.size
        obtain ⟨ado, capo, rfl, _⟩ := own_shape' hob
        obtain ⟨adi, capi, rfl, _⟩ := own_shape' hoi
        clear hb hob hoi hq hqk
        by_cases hlt : k < n
        · have hk' : k < l.length := by have := HNN.out; omega
          obtain ⟨b, off, rfl, hbl, x0, x1⟩ := EntsD.at2 D0.out k hk'
          obtain ⟨⟨xl, xn⟩, hx⟩ : ∃ x, x = l[k] := ⟨_, rfl⟩
          rw [← hx] at x0 x1
          have c0 : wr.cell? ⟨b, off + k * 2, none⟩ = some (.int .i64 xl) := (HB.out.cell (p := ⟨b, _, none⟩) hbl).trans x0
          have c1 : wr.cell? ⟨b, off + k * 2 + 1, none⟩ = some (.int .i64 xn) := (HB.out.cell (p := ⟨b, _, none⟩) hbl).trans x1
          have hbl' : b < wr.heap.size := Nat.lt_of_lt_of_le hbl hww
          have g1 : (0 : Int) ≤ (k : Int) := Int.natCast_nonneg _
          have g2 : (k : Int) < (n : Int) := by omega
          clear x0 x1 hx
          go_wp2_with fail
          go_region
          go_wp2_with fail
          have hpr : 0 ≤ bits BinOp.and IntKind.i64 xl 3 ∧ bits BinOp.and IntKind.i64 xl 3 < 4 ∧ 0 ≤ bits BinOp.and IntKind.i64 xn 7 ∧ bits BinOp.and IntKind.i64 xn 7 < 8 := by
            have h1 := land_bd xl 3 (by decide); have h2 := land_bd xn 7 (by decide); rw [show ((3 : Nat) : Int) = 3 from rfl] at h1; rw [show ((7 : Nat) : Int) = 7 from rfl] at h2; omega
          generalize bits BinOp.and IntKind.i64 xl 3 = p at hpr ⊢
          generalize bits BinOp.and IntKind.i64 xn 7 = r at hpr ⊢
          have L1 : Hid (Below wr.heap.size wr (wr.alloc (.cells #[.int .i64 p, .int .i64 r] 25)).drew) := ((Below.refl _ _).alloc (Nat.le_refl _) _).drew
          have K1 := Lib.hid ((Bk.new wr 25 #[.int .i64 p, .int .i64 r]).below (below_draws' _))
          have PR := Lib.hid hpr
          have hl4 : q.length < 4 := by have := QK.out; have := HNN.out; have := HN.out; omega
          have HL4 := Lib.hid hl4
          have hbl5 : bs.length ≤ 100000 := by have := QR.out.len; omega
          have HBL := Lib.hid hbl5
          clear c0 c1 hbl' hbl hpr hl4 hbl5
          generalize (wr.alloc _).drew = w1 at L1 K1 ⊢
          have OB1 := Lib.hid (own_below OB.out L1.out)
          have OI1 := Lib.hid (own_below OI.out L1.out)
          have B1 := Lib.hid (HB.out.trans (L1.out.mono hww))
          refine (room_any bs _ 2 4 p w1 (entsD_of_own OB1.out) HBL.out _ (QR.out.room HL4.out p)).mono ?_
          rintro e w2 ⟨rfl, b2⟩
          have OB2 := Lib.hid (own_below OB1.out b2)
          have OI2 := Lib.hid (own_below OI1.out b2)
          have B2 := Lib.hid (B1.out.trans (b2.mono B1.out.size))
          have K2 := Lib.hid (K1.out.below b2)
          have c0 : w2.cell? ⟨wr.heap.size, 0, none⟩ = some (.int .i64 p) := K2.out.cell 0
          have c1 : w2.cell? ⟨wr.heap.size, 1, none⟩ = some (.int .i64 r) := K2.out.cell 1
          have hlt2 := K2.out.lt
          clear b2 K1 L1 OB1 OI1 OB OI
          go_wp2_with fail
          obtain ⟨zs, hzs⟩ : ∃ zs, pushL bs 2 (p, r) = zs := ⟨_, rfl⟩
          have HZ := Lib.hid hzs
          clear hzs
          refine (push_own bs _ 2 p r w2 (entsD_of_own OB2.out) HBL.out zs HZ.out (by decide)).mono ?_
          rintro e w3 ⟨v3, rfl, o3, b3⟩
          have AP3 := Lib.hid (apart_new o3 OI2.out (Nat.le_refl _))
          have OB3 := Lib.hid (own_base o3 B2.out.size)
          have OI3 := Lib.hid (own_below OI2.out b3)
          have B3 := Lib.hid (B2.out.trans (b3.mono B2.out.size))
          have K3 := Lib.hid (K2.out.below b3)
          have d0 : w3.cell? ⟨wr.heap.size, 0, none⟩ = some (.int .i64 p) := K3.out.cell 0
          have d1 : w3.cell? ⟨wr.heap.size, 1, none⟩ = some (.int .i64 r) := K3.out.cell 1
          have hlt3 := K3.out.lt
          obtain ⟨ad3, cap3, rfl, _⟩ := own_shape' o3
          clear b3 o3 K2 OB2 OI2 c0 c1 hlt2
          have KA := Lib.hid (Bk.new w3 25 #[.int .i64 p, .int .i64 r])
          have LA : Hid (Below w3.heap.size w3 (w3.alloc (.cells #[.int .i64 p, .int .i64 r] 25))) := (Below.refl _ _).alloc (Nat.le_refl _) _
          have BA := Lib.hid (B3.out.trans (LA.out.mono B3.out.size))
          have OBA := Lib.hid (own_below OB3.out LA.out)
          have OIA := Lib.hid (own_below OI3.out LA.out)
          obtain ⟨q', hq'⟩ : ∃ q', q ++ [(p, r)] = q' := ⟨_, rfl⟩
          have HQ' := Lib.hid hq'
          have one6 : 1 ≤ 1000000 := by decide
          have hn6 : q.length + 1 ≤ 1000000 := by have := HL4.out; omega
          have N6 := Lib.hid hn6
          have KAR := Lib.hid (K3.out.below LA.out)
          clear hq' hn6 OB3 OI3 K3 B3 LA
          go_wp2_with (at_builtin; go_loud (refine append_entsG rfl (.tmp 52) (.tmp 54) rfl w.heap.size (.slice adi q.length capi) q [(p, r)] rfl ⟨w3.heap.size, 0, none⟩ 1 1 rfl OIA.out (entsD_of_bk (xs := [(p, r)]) KA.out rfl one6) N6.out BA.out.size q' HQ'.out ?_))
          intro v4 w4 o4 g4 b4
          have OI4 := Lib.hid o4
          have OB4 := Lib.hid (OBA.out.kept g4 AP3.out)
          have B4 := Lib.hid (BA.out.trans b4)
          obtain ⟨ad4, cap4, rfl, _⟩ := own_shape' o4
          have QR4 : Hid (QRel 2 zs q') := Lib.hid (by rw [← HZ.out, ← HQ'.out]; exact QR.out.push HL4.out (p, r) PR.out)
          have hzl : zs.length ≤ 100000 := by have := QR4.out.len; have := QR4.out.few; omega
          have HZL := Lib.hid hzl
          have K4 := Lib.hid (KAR.out)
          have hgn : wr.heap.size < w3.heap.size + 1 := by have := KAR.out.lt; rw [alloc_size] at this; exact this
          have hne : (some wr.heap.size : Option Nat) ≠ (Value.slice adi q.length capi).ownBlock := by
            intro he
            have := (OIW.out.lt wr.heap.size he.symm).2
            omega
          have K4 : Hid (Bk w4 wr.heap.size 25 #[.int .i64 p, .int .i64 r]) := Lib.hid ((g4.block _ KAR.out.lt hne).trans KAR.out)
          clear o4 g4 b4 hzl hgn hne KA BA OBA OIA KAR N6 AP3 d0 d1 hlt3 one6
          go_wp2_with fail
          refine (right_any zs _ 2 4 8 4 w4 (entsD_of_own OB4.out) HZL.out (by decide) (by decide) true QR4.out.right).mono ?_
          rintro e w5 ⟨rfl, b5⟩
          have OB5 := Lib.hid (own_below OB4.out b5)
          have OI5 := Lib.hid (own_below OI4.out b5)
          have B5 := Lib.hid (B4.out.trans (b5.mono B4.out.size))
          have K5 := Lib.hid (K4.out.below b5)
          have d0 : w5.cell? ⟨wr.heap.size, 0, none⟩ = some (.int .i64 p) := K5.out.cell 0
          have d1 : w5.cell? ⟨wr.heap.size, 1, none⟩ = some (.int .i64 r) := K5.out.cell 1
          have hlt5 := K5.out.lt
          clear b5 OB4 OI4 K4 B4
          go_wp2_with fail
          refine (last_any zs _ p w5 (entsD_of_own OB5.out) HZL.out r true (by rw [← HZ.out]; exact QR.out.last (p, r))).mono ?_
          rintro e w6 ⟨rfl, b6⟩
          have OB6 := Lib.hid (own_below OB5.out b6)
          have OI6 := Lib.hid (own_below OI5.out b6)
          have B6 := Lib.hid (B5.out.trans (b6.mono B5.out.size))
          have K6 := Lib.hid (K5.out.below b6)
          have d0 : w6.cell? ⟨wr.heap.size, 0, none⟩ = some (.int .i64 p) := K6.out.cell 0
          have d1 : w6.cell? ⟨wr.heap.size, 1, none⟩ = some (.int .i64 r) := K6.out.cell 1
          have hlt6 := K6.out.lt
          clear b6 OB5 OI5 K5 B5 hlt5
          go_wp2_with fail
          go_roundg (gk - 1)
          case measure => omega
          case rel => exact ⟨k + 1, zs, q', by go_num, OB6.out, OI6.out, QR4.out, by rw [← HQ'.out, List.length_append]; have := QK.out; simp only [List.length_cons, List.length_nil]; omega, by omega, by omega, B6.out⟩
        · have g2 : ¬ (k : Int) < (n : Int) := by omega
          have DB := Lib.hid (entsD_of_own OB.out)
          have DI := Lib.hid (entsD_of_own OI.out)
          have QF := Lib.hid (QR.out.few)
          clear OB OI OIW QK
          go_wp2_with fail
          go_loopg [6, 7] 5 (fun fuel b' in' wl => ∃ (bs q : List Ent), EntsD wl b' bs ∧ EntsD wl in' q ∧ QRel 2 bs q ∧ q.length < fuel + 1 ∧ Below w.heap.size w wl)
          case atStart => exact ⟨bs, q, DB.out, DI.out, QR.out, by have := QF.out; omega, HB.out⟩
          case round =>
            clear DB DI QF QR HB g2
            obtain ⟨bs, q, hdb, hdi, hq, hf, hb⟩ := hrel
            have HB := Lib.hid hb
            have DB := Lib.hid hdb
            have DI := Lib.hid hdi
            have QR := Lib.hid hq
            have hww := hb.size
            obtain ⟨ado, capo, rfl, _⟩ := hdb.shape
            obtain ⟨adi, capi, rfl, hci1, hci2⟩ := hdi.shape
            clear hb hdb hdi
            by_cases h0 : 0 < q.length
            · obtain ⟨hs, kk, x1, x2, cs, q1, q2, hh, hpos, hlast, hfirst, hqe, hx1, hq1, hpop, hcl, hqr⟩ := hq.pop h0
              have HH := Lib.hid hh
              have HQE := Lib.hid hqe
              have HQ1 := Lib.hid hq1
              have HPOP := Lib.hid hpop
              have HQR := Lib.hid hqr
              have HHL := Lib.hid hlast
              have HHF := Lib.hid (hfirst rfl)
              have HCL := Lib.hid hcl
              have HX1 := Lib.hid hx1
              have hl6 : bs.length ≤ 100000 := by have := hq.len; have := hq.few; omega
              have H6 := Lib.hid hl6
              obtain ⟨lq, hlq⟩ : ∃ m, m = q.length := ⟨_, rfl⟩
              obtain ⟨lb, hlb⟩ : ∃ m, m = bs.length := ⟨_, rfl⟩
              obtain ⟨lh, hlh⟩ : ∃ m, m = hs.length := ⟨_, rfl⟩
              have HLQ := Lib.hid hlq
              have HLB := Lib.hid hlb
              have HLH := Lib.hid hlh
              have hq4 : lq ≤ 4 := by rw [hlq]; exact hq.few
              have hf' : lq < gk + 1 := by rw [hlq]; exact hf
              obtain ⟨gO, hgO⟩ : ∃ g, g = gk := ⟨_, rfl⟩
              rw [← hlq] at h0 hci1 DI ⊢
              rw [← hlb] at DB ⊢
              rw [← hlh] at hpos
              have hb4 : lb = lq := by rw [hlb, hlq]; exact hq.len
              have HB4 := Lib.hid hb4
              have e1 : (0 : Int) < (lq : Int) := by omega
              clear hh hqe hq1 hpop hqr hlast hfirst hcl hx1 hl6 hlq hlb hlh hq hf hb4
              go_wp2_with fail
              refine (heads_any bs _ 2 wr DB.out H6.out hs HH.out).mono ?_
              rintro e w1 ⟨v1, rfl, dh, b1⟩
              have DH := Lib.hid dh
              have B1 := Lib.hid (HB.out.trans (b1.mono hww))
              have DB1 := Lib.hid (EntsD.below DB.out b1)
              have DI1 := Lib.hid (EntsD.below DI.out b1)
              obtain ⟨adh, caph, rfl, hch1, hch2⟩ := dh.shape
              rw [← HLH.out] at hch1 DH ⊢
              clear dh b1 DB DI
              obtain ⟨bi, offi, rfl, hbi, y0, y1⟩ := EntsD.at2 DI1.out 0 (by rw [← HLQ.out]; exact h0)
              obtain ⟨bh, offh, rfl, hbh, z0⟩ := IntsD.at2 DH.out 0 (by rw [← HLH.out]; exact hpos)
              obtain ⟨f0, hf0⟩ : ∃ f, f = (q.getD 0 (0, 0)).1 := ⟨_, rfl⟩
              have z0 : w1.cell? ⟨bh, offh, none⟩ = some (.int .i64 f0) := by
                have h1 := HHF.out
                rw [List.getElem?_eq_getElem (by rw [← HLH.out]; exact hpos)] at h1
                rw [Nat.add_zero, Option.some.inj h1, ← hf0] at z0
                exact z0
              have y0 : w1.cell? ⟨bi, offi, none⟩ = some (.int .i64 f0) := by
                rw [Nat.zero_mul, Nat.add_zero, ← getD_at q 0 (by rw [← HLQ.out]; exact h0), ← hf0] at y0
                exact y0
              have e2 : ((lh : Int) == 0) = false := by simp; omega
              have e3 : (0 : Int) < (lh : Int) := by omega
              clear y1 hf0
              go_wp2_with fail
              go_quiet (fail)
              have B2 := Lib.hid (below_drewN' B1.out nq)
              have DB2 := Lib.hid (EntsD.below DB1.out (below_drewN' (Below.refl _ _) nq))
              have DI2 := Lib.hid (EntsD.below DI1.out (below_drewN' (Below.refl _ _) nq))
              have DH2 := Lib.hid (IntsD.below DH.out (below_drewN' (Below.refl _ _) nq))
              generalize w1.drewN nq = w2 at B2 DB2 DI2 DH2 ⊢
              obtain ⟨t, ht⟩ : ∃ t, t = q1.length := ⟨_, rfl⟩
              have HT := Lib.hid ht
              have htq : t < lq := by rw [ht, HLQ.out, HQE.out, List.length_append, List.length_cons]; omega
              obtain ⟨lh1, hlh1⟩ : ∃ m, m = lh - 1 := ⟨_, rfl⟩
              have e4 : IntKind.i64.wrap ((lh : Int) - 1) = (lh1 : Int) := by rw [IntKind.wrap_i64]; omega
              have e5 : (0 : Int) ≤ (lh1 : Int) := Int.natCast_nonneg _
              have e6 : (lh1 : Int) < (lh : Int) := by omega
              have HQD := Lib.hid (fun (j : Nat) (hj : j < t) => (by
                have h1 : j < q1.length := by rw [← HT.out]; exact hj
                have h2 : q.getD j (0, 0) = q1[j] := by
                  rw [HQE.out, List.getD_eq_getElem?_getD, List.getElem?_append_left h1, List.getElem?_eq_getElem h1]; rfl
                rw [h2]
                exact HQ1.out _ (List.getElem_mem h1) : (q.getD j (0, 0)).1 ≠ kk))
              have HQT : Hid (q.getD t (0, 0) = (x1, x2)) := Lib.hid (by
                rw [HQE.out, List.getD_eq_getElem?_getD, ht, List.getElem?_append_right (Nat.le_refl _), Nat.sub_self]; rfl)
              have HZ1 := Lib.hid (fun (W : World) (hb : Below w2.heap.size w2 W) => (by
                obtain ⟨b', off', hbb, _, h1⟩ := IntsD.at2 (IntsD.below DH2.out hb) lh1 (by rw [← HLH.out]; omega)
                have h2 := HHL.out
                rw [← HLH.out, ← hlh1, List.getElem?_eq_getElem (by rw [← HLH.out]; omega)] at h2
                rw [Option.some.inj h2] at h1
                injection hbb with hbb; injection hbb with hb1 hb2
                subst hb1; subst hb2
                exact h1 : W.cell? ⟨bh, offh + lh1, none⟩ = some (.int .i64 kk)))
              clear hlh1 ht y0 z0 hbi hbh B1 DB1 DI1 DH e2 e3 HHF
              go_wp2_with fail
              go_loopg [13] (t + 1) (fun fuel at' wi => ∃ (j : Nat), at' = .int .i64 j ∧ j ≤ t ∧ t - j < fuel + 1 ∧ Below w2.heap.size w2 wi)
              case atStart => exact ⟨0, rfl, Nat.zero_le _, by omega, Below.refl _ _⟩
              case round =>
                obtain ⟨j, rfl, hj, hfj, hbj⟩ := hrel
                have HBJ := Lib.hid hbj
                have z1 := HZ1.out _ hbj
                have hww2 := hbj.size
                obtain ⟨b', off', hbb, hbi, y0, _⟩ := EntsD.at2 (EntsD.below DI2.out hbj) j (by rw [← HLQ.out]; omega)
                injection hbb with hbb
                injection hbb with hb1 hb2
                subst hb1
                subst hb2
                rw [← getD_at q j (by rw [← HLQ.out]; omega)] at y0
                have hbh := (cell_spot z1).2
                have e7 : (0 : Int) ≤ (j : Int) := Int.natCast_nonneg _
                have e8 : (j : Int) < (lq : Int) := by omega
                have e9 : j < lq := by omega
                have e10 : lh1 < lh := by omega
                clear hbj
                by_cases hjt : j < t
                · obtain ⟨pj, hpj⟩ : ∃ p, (q.getD j (0, 0)).1 = p := ⟨_, rfl⟩
                  have hne := HQD.out j hjt
                  rw [hpj] at y0 hne
                  have e11 : (pj == kk) = false := by simpa using hne
                  have e12 : ((j : Int) + 1 == (lq : Int)) = false := by simp; omega
                  clear hpj hne
                  go_wp2_with fail
                  go_quiet (fail)
                  go_wp2_with fail
                  go_roundg (gk - 1)
                  case measure => omega
                  case rel => exact ⟨j + 1, by go_num, by omega, by omega, below_drewN' HBJ.out _⟩
                · obtain rfl : j = t := by omega
                  have hx := HQT.out
                  rw [hx] at y0
                  have e11 : (x1 == kk) = true := by simpa using HX1.out
                  clear hx
                  go_wp2_with fail
                  go_quiet (fail)
                  have BW := Lib.hid (below_drewN' HBJ.out nq)
                  generalize wr.drewN nq = w3 at BW ⊢
                  clear HBJ z1 y0
                  have z1 := HZ1.out _ BW.out
                  have hbh := (cell_spot z1).2
                  go_wp2_with fail
                  refine (pop_any bs _ 2 kk w3 (EntsD.below DB2.out BW.out) H6.out cs x1 x2 true HPOP.out).mono ?_
                  rintro e w4 ⟨v4, rfl, dc, b4⟩
                  obtain ⟨adc, capc, rfl, _⟩ := dc.shape
                  obtain ⟨lc, hlc⟩ : ∃ m, m = cs.length := ⟨_, rfl⟩
                  have HLC := Lib.hid hlc
                  rw [← hlc] at dc ⊢
                  have hlb1 : lc + 1 = lb := by rw [hlc, HLB.out]; exact HCL.out
                  have ew : IntKind.i64.wrap ((lb : Int) - 1) = (lc : Int) := by rw [IntKind.wrap_i64]; omega
                  have DC := Lib.hid dc
                  have B4 := Lib.hid (B2.out.trans (BW.out.trans (b4.mono BW.out.size) |>.mono B2.out.size))
                  have DI4 := Lib.hid (EntsD.below DI2.out (BW.out.trans (b4.mono BW.out.size)))
                  have KE := Lib.hid (Bk.new w4 25 #[.int .i64 x1, .int .i64 x2])
                  have LE : Hid (Below w4.heap.size w4 (w4.alloc (.cells #[.int .i64 x1, .int .i64 x2] 25))) := (Below.refl _ _).alloc (Nat.le_refl _) _
                  have B5 := Lib.hid (B4.out.trans (LE.out.mono B4.out.size))
                  have DI5 := Lib.hid (EntsD.below DI4.out LE.out)
                  have DC5 := Lib.hid (EntsD.below DC.out LE.out)
                  clear hlc dc b4 hlb1 HZ1 z1 hbh hbi DI2 DH2 DB2 BW B2 B4 DI4 DC
                  go_wp2_with fail
                  generalize hw5 : w4.alloc _ = w5 at KE LE B5 DI5 DC5 ⊢
                  have c0 : w5.cell? ⟨w4.heap.size, 0, none⟩ = some (.int .i64 x1) := KE.out.cell 0
                  have c1 : w5.cell? ⟨w4.heap.size, 1, none⟩ = some (.int .i64 x2) := KE.out.cell 1
                  have hlt5 := KE.out.lt
                  obtain ⟨b', off', hbb, hbi, y0, y1⟩ := EntsD.at2 DI5.out j (by rw [← HLQ.out]; exact e9)
                  injection hbb with hbb
                  injection hbb with hb1 hb2
                  subst hb1
                  subst hb2
                  rw [← getD_at q j (by rw [← HLQ.out]; exact e9), HQT.out] at y0 y1
                  simp only [] at y0 y1
                  clear hw5 KE LE
                  go_quiet (fail)
                  have BY := Lib.hid (below_drewN' B5.out nq)
                  have DI6 := Lib.hid (EntsD.below DI5.out (below_drewN' (Below.refl _ _) nq))
                  have DC6 := Lib.hid (EntsD.below DC5.out (below_drewN' (Below.refl _ _) nq))
                  generalize w5.drewN nq = w6 at BY DI6 DC6 ⊢
                  clear B5 DI5 DC5 c0 c1 y0 y1 hbi hlt5
                  have hjl : j ≤ lq := Nat.le_of_lt e9
                  obtain ⟨T1, hT1⟩ : ∃ T, [] ++ q.take j = T := ⟨_, rfl⟩
                  have HT1 := Lib.hid hT1
                  have hn6 : ([] : List Ent).length + (q.take j).length ≤ 1000000 := by
                    rw [List.length_take]; simp only [List.length_nil]; omega
                  have HN6 := Lib.hid hn6
                  have HCI := Lib.hid hci1
                  clear hT1 hn6
                  go_wp2_with (at_builtin; go_loud (refine append_ents rfl (.tmp 148) (.tmp 151) rfl w6.heap.size (.slice none 0 0) [] (q.take j) rfl (some ⟨bi, offi, none⟩) j capi rfl (World.ownsRow_nil _ _ _ _) (SlD.take DI6.out j capi hjl (Nat.le_trans hjl HCI.out) (Nat.le_refl _)) HN6.out (Nat.le_refl _) T1 HT1.out ?_))
                  intro v7 w7 o7 b7
                  have BZ := Lib.hid (BY.out.trans (b7.mono BY.out.size))
                  have DI7 := Lib.hid (EntsD.below DI6.out b7)
                  obtain ⟨ad7, cap7, rfl, _⟩ := own_shape' o7.out
                  have H67 := Lib.hid b7.size
                  have B67 := Lib.hid b7
                  clear b7 DI6
                  obtain ⟨T2, hT2⟩ : ∃ T, T1 ++ q.drop (j + 1) = T := ⟨_, rfl⟩
                  have HT2 := Lib.hid hT2
                  have hT12 : T2 = q1 ++ q2 := by
                    rw [← hT2, ← HT1.out, List.nil_append, HQE.out, HT.out, List.take_left, List.drop_append]; simp
                  have hn6 : T1.length + (q.drop (j + 1)).length ≤ 1000000 := by
                    rw [← HT1.out, List.length_drop, List.nil_append, List.length_take, ← HLQ.out]; omega
                  have HN7 := Lib.hid hn6
                  have HT12 := Lib.hid hT12
                  have hj1 : j + 1 ≤ lq := e9
                  have HJ1 := Lib.hid hj1
                  clear hT2 hn6 hT12 hj1
                  go_wp2_with (at_builtin; go_loud (refine append_ents rfl (.tmp 153) (.tmp 157) rfl w6.heap.size (.slice ad7 T1.length cap7) T1 (q.drop (j + 1)) rfl (if capi = j + 1 then some ⟨bi, offi, none⟩ else some ⟨bi, offi + (j + 1) * 2, none⟩) (lq - (j + 1)) (capi - (j + 1)) rfl o7.out (SlD.drop DI7.out (j + 1) 2 rfl HJ1.out) HN7.out H67.out T2 HT2.out ?_))
                  all_goals
                    intro v8 w8 o8 b8
                    have BV := Lib.hid (BY.out.trans ((Below.trans B67.out b8).mono BY.out.size))
                    have DC8 := Lib.hid (EntsD.below DC6.out (Below.trans B67.out b8))
                    have QR8 : Hid (QRel 2 cs T2) := Lib.hid (by rw [HT12.out]; exact HQR.out)
                    have hl8 : T2.length + 1 = lq := by
                      rw [HT12.out, HLQ.out, HQE.out]; simp only [List.length_append, List.length_cons]; omega
                    obtain ⟨ad8, cap8, rfl, _⟩ := own_shape' o8.out
                    clear b8
                    go_wp2_with fail
                    go_roundg (gO - 1)
                    case measure => omega
                    case rel => exact ⟨cs, T2, DC8.out, entsD_of_own o8.out, QR8.out, by omega, BV.out⟩
            · have hq0 : q = [] := List.eq_nil_of_length_eq_zero (by omega)
              subst hq0
              obtain rfl := QR.out.stop
              have e0 : ¬ (0 : Int) < ((([] : List Ent).length : Nat) : Int) := by decide
              have HH : Hid (headsL [] 2 = []) := Lib.hid rfl
              clear h0
              go_wp2_with fail
              refine (heads_any [] _ 2 wr DB.out (by decide) [] HH.out).mono ?_
              rintro e w1 ⟨v1, rfl, dh, b1⟩
              obtain ⟨adh, caph, rfl, _⟩ := dh.shape
              have B1 := Lib.hid (HB.out.trans (b1.mono hww))
              clear dh b1
              go_wp2_with fail
              refine (known_any w1).mono ?_
              rintro e wB ⟨rfl, bB⟩
              have BB := Lib.hid (B1.out.trans (bB.mono B1.out.size))
              clear bB
              go_wp2
              go_ret
              exact ⟨rfl, BB.out⟩
    | true =>
      go_enter Try.func3, Try.ntmps3
      go_wp2_with fail
      go_loopg [6, 7, 8] n (fun fuel b' in' i' wr => ∃ (k : Nat) (bs q : List Ent), i' = .int .i64 k ∧ wr.ownsRow w.heap.size 25 2 b' bs.length (rowE bs) ∧ wr.ownsRow w.heap.size 25 2 in' q.length (rowE q) ∧ QRel 3 bs q ∧ q.length = k ∧ k ≤ n ∧ n - k ≤ fuel ∧ Below w.heap.size w wr)
      case atStart => exact ⟨0, [], [], rfl, World.ownsRow_nil _ _ _ _, World.ownsRow_nil _ _ _ _, QRel.start 3 (by decide), rfl, Nat.zero_le _, Nat.le_refl _, Below.refl _ _⟩
      case round =>
        obtain ⟨k, bs, q, rfl, hob, hoi, hq, hqk, hk, hf, hb⟩ := hrel
        have HB := Lib.hid hb
        have OB := Lib.hid hob
        have OI := Lib.hid hoi
        have OIW := Lib.hid hoi
        have QR := Lib.hid hq
        have QK := Lib.hid hqk
        have hww := hb.size
        obtain ⟨ado, capo, rfl, _⟩ := own_shape' hob
        obtain ⟨adi, capi, rfl, _⟩ := own_shape' hoi
        clear hb hob hoi hq hqk
        by_cases hlt : k < n
        · have hk' : k < l.length := by have := HNN.out; omega
          obtain ⟨b, off, rfl, hbl, x0, x1⟩ := EntsD.at2 D0.out k hk'
          obtain ⟨⟨xl, xn⟩, hx⟩ : ∃ x, x = l[k] := ⟨_, rfl⟩
          rw [← hx] at x0 x1
          have c0 : wr.cell? ⟨b, off + k * 2, none⟩ = some (.int .i64 xl) := (HB.out.cell (p := ⟨b, _, none⟩) hbl).trans x0
          have c1 : wr.cell? ⟨b, off + k * 2 + 1, none⟩ = some (.int .i64 xn) := (HB.out.cell (p := ⟨b, _, none⟩) hbl).trans x1
          have hbl' : b < wr.heap.size := Nat.lt_of_lt_of_le hbl hww
          have g1 : (0 : Int) ≤ (k : Int) := Int.natCast_nonneg _
          have g2 : (k : Int) < (n : Int) := by omega
          clear x0 x1 hx
          go_wp2_with fail
          go_region
          go_wp2_with fail
          have hpr : 0 ≤ bits BinOp.and IntKind.i64 xl 3 ∧ bits BinOp.and IntKind.i64 xl 3 < 4 ∧ 0 ≤ bits BinOp.and IntKind.i64 xn 7 ∧ bits BinOp.and IntKind.i64 xn 7 < 8 := by
            have h1 := land_bd xl 3 (by decide); have h2 := land_bd xn 7 (by decide); rw [show ((3 : Nat) : Int) = 3 from rfl] at h1; rw [show ((7 : Nat) : Int) = 7 from rfl] at h2; omega
          generalize bits BinOp.and IntKind.i64 xl 3 = p at hpr ⊢
          generalize bits BinOp.and IntKind.i64 xn 7 = r at hpr ⊢
          have L1 : Hid (Below wr.heap.size wr (wr.alloc (.cells #[.int .i64 p, .int .i64 r] 25)).drew) := ((Below.refl _ _).alloc (Nat.le_refl _) _).drew
          have K1 := Lib.hid ((Bk.new wr 25 #[.int .i64 p, .int .i64 r]).below (below_draws' _))
          have PR := Lib.hid hpr
          have hl4 : q.length < 4 := by have := QK.out; have := HNN.out; have := HN.out; omega
          have HL4 := Lib.hid hl4
          have hbl5 : bs.length ≤ 100000 := by have := QR.out.len; omega
          have HBL := Lib.hid hbl5
          clear c0 c1 hbl' hbl hpr hl4 hbl5
          generalize (wr.alloc _).drew = w1 at L1 K1 ⊢
          have OB1 := Lib.hid (own_below OB.out L1.out)
          have OI1 := Lib.hid (own_below OI.out L1.out)
          have B1 := Lib.hid (HB.out.trans (L1.out.mono hww))
          refine (room_any bs _ 3 4 p w1 (entsD_of_own OB1.out) HBL.out _ (QR.out.room HL4.out p)).mono ?_
          rintro e w2 ⟨rfl, b2⟩
          have OB2 := Lib.hid (own_below OB1.out b2)
          have OI2 := Lib.hid (own_below OI1.out b2)
          have B2 := Lib.hid (B1.out.trans (b2.mono B1.out.size))
          have K2 := Lib.hid (K1.out.below b2)
          have c0 : w2.cell? ⟨wr.heap.size, 0, none⟩ = some (.int .i64 p) := K2.out.cell 0
          have c1 : w2.cell? ⟨wr.heap.size, 1, none⟩ = some (.int .i64 r) := K2.out.cell 1
          have hlt2 := K2.out.lt
          clear b2 K1 L1 OB1 OI1 OB OI
          go_wp2_with fail
          obtain ⟨zs, hzs⟩ : ∃ zs, pushL bs 3 (p, r) = zs := ⟨_, rfl⟩
          have HZ := Lib.hid hzs
          clear hzs
          refine (push_own bs _ 3 p r w2 (entsD_of_own OB2.out) HBL.out zs HZ.out (by decide)).mono ?_
          rintro e w3 ⟨v3, rfl, o3, b3⟩
          have AP3 := Lib.hid (apart_new o3 OI2.out (Nat.le_refl _))
          have OB3 := Lib.hid (own_base o3 B2.out.size)
          have OI3 := Lib.hid (own_below OI2.out b3)
          have B3 := Lib.hid (B2.out.trans (b3.mono B2.out.size))
          have K3 := Lib.hid (K2.out.below b3)
          have d0 : w3.cell? ⟨wr.heap.size, 0, none⟩ = some (.int .i64 p) := K3.out.cell 0
          have d1 : w3.cell? ⟨wr.heap.size, 1, none⟩ = some (.int .i64 r) := K3.out.cell 1
          have hlt3 := K3.out.lt
          obtain ⟨ad3, cap3, rfl, _⟩ := own_shape' o3
          clear b3 o3 K2 OB2 OI2 c0 c1 hlt2
          have KA := Lib.hid (Bk.new w3 25 #[.int .i64 p, .int .i64 r])
          have LA : Hid (Below w3.heap.size w3 (w3.alloc (.cells #[.int .i64 p, .int .i64 r] 25))) := (Below.refl _ _).alloc (Nat.le_refl _) _
          have BA := Lib.hid (B3.out.trans (LA.out.mono B3.out.size))
          have OBA := Lib.hid (own_below OB3.out LA.out)
          have OIA := Lib.hid (own_below OI3.out LA.out)
          obtain ⟨q', hq'⟩ : ∃ q', q ++ [(p, r)] = q' := ⟨_, rfl⟩
          have HQ' := Lib.hid hq'
          have one6 : 1 ≤ 1000000 := by decide
          have hn6 : q.length + 1 ≤ 1000000 := by have := HL4.out; omega
          have N6 := Lib.hid hn6
          have KAR := Lib.hid (K3.out.below LA.out)
          clear hq' hn6 OB3 OI3 K3 B3 LA
          go_wp2_with (at_builtin; go_loud (refine append_entsG rfl (.tmp 52) (.tmp 54) rfl w.heap.size (.slice adi q.length capi) q [(p, r)] rfl ⟨w3.heap.size, 0, none⟩ 1 1 rfl OIA.out (entsD_of_bk (xs := [(p, r)]) KA.out rfl one6) N6.out BA.out.size q' HQ'.out ?_))
          intro v4 w4 o4 g4 b4
          have OI4 := Lib.hid o4
          have OB4 := Lib.hid (OBA.out.kept g4 AP3.out)
          have B4 := Lib.hid (BA.out.trans b4)
          obtain ⟨ad4, cap4, rfl, _⟩ := own_shape' o4
          have QR4 : Hid (QRel 3 zs q') := Lib.hid (by rw [← HZ.out, ← HQ'.out]; exact QR.out.push HL4.out (p, r) PR.out)
          have hzl : zs.length ≤ 100000 := by have := QR4.out.len; have := QR4.out.few; omega
          have HZL := Lib.hid hzl
          have K4 := Lib.hid (KAR.out)
          have hgn : wr.heap.size < w3.heap.size + 1 := by have := KAR.out.lt; rw [alloc_size] at this; exact this
          have hne : (some wr.heap.size : Option Nat) ≠ (Value.slice adi q.length capi).ownBlock := by
            intro he
            have := (OIW.out.lt wr.heap.size he.symm).2
            omega
          have K4 : Hid (Bk w4 wr.heap.size 25 #[.int .i64 p, .int .i64 r]) := Lib.hid ((g4.block _ KAR.out.lt hne).trans KAR.out)
          clear o4 g4 b4 hzl hgn hne KA BA OBA OIA KAR N6 AP3 d0 d1 hlt3 one6
          go_wp2_with fail
          refine (right_any zs _ 3 4 8 4 w4 (entsD_of_own OB4.out) HZL.out (by decide) (by decide) true QR4.out.right).mono ?_
          rintro e w5 ⟨rfl, b5⟩
          have OB5 := Lib.hid (own_below OB4.out b5)
          have OI5 := Lib.hid (own_below OI4.out b5)
          have B5 := Lib.hid (B4.out.trans (b5.mono B4.out.size))
          have K5 := Lib.hid (K4.out.below b5)
          have d0 : w5.cell? ⟨wr.heap.size, 0, none⟩ = some (.int .i64 p) := K5.out.cell 0
          have d1 : w5.cell? ⟨wr.heap.size, 1, none⟩ = some (.int .i64 r) := K5.out.cell 1
          have hlt5 := K5.out.lt
          clear b5 OB4 OI4 K4 B4
          go_wp2_with fail
          refine (last_any zs _ p w5 (entsD_of_own OB5.out) HZL.out r true (by rw [← HZ.out]; exact QR.out.last (p, r))).mono ?_
          rintro e w6 ⟨rfl, b6⟩
          have OB6 := Lib.hid (own_below OB5.out b6)
          have OI6 := Lib.hid (own_below OI5.out b6)
          have B6 := Lib.hid (B5.out.trans (b6.mono B5.out.size))
          have K6 := Lib.hid (K5.out.below b6)
          have d0 : w6.cell? ⟨wr.heap.size, 0, none⟩ = some (.int .i64 p) := K6.out.cell 0
          have d1 : w6.cell? ⟨wr.heap.size, 1, none⟩ = some (.int .i64 r) := K6.out.cell 1
          have hlt6 := K6.out.lt
          clear b6 OB5 OI5 K5 B5 hlt5
          go_wp2_with fail
          go_roundg (gk - 1)
          case measure => omega
          case rel => exact ⟨k + 1, zs, q', by go_num, OB6.out, OI6.out, QR4.out, by rw [← HQ'.out, List.length_append]; have := QK.out; simp only [List.length_cons, List.length_nil]; omega, by omega, by omega, B6.out⟩
        · have g2 : ¬ (k : Int) < (n : Int) := by omega
          have DB := Lib.hid (entsD_of_own OB.out)
          have DI := Lib.hid (entsD_of_own OI.out)
          have QF := Lib.hid (QR.out.few)
          clear OB OI OIW QK
          go_wp2_with fail
          go_loopg [6, 7] 5 (fun fuel b' in' wl => ∃ (bs q : List Ent), EntsD wl b' bs ∧ EntsD wl in' q ∧ QRel 3 bs q ∧ q.length < fuel + 1 ∧ Below w.heap.size w wl)
          case atStart => exact ⟨bs, q, DB.out, DI.out, QR.out, by have := QF.out; omega, HB.out⟩
          case round =>
            clear DB DI QF QR HB g2
            obtain ⟨bs, q, hdb, hdi, hq, hf, hb⟩ := hrel
            have HB := Lib.hid hb
            have DB := Lib.hid hdb
            have DI := Lib.hid hdi
            have QR := Lib.hid hq
            have hww := hb.size
            obtain ⟨ado, capo, rfl, _⟩ := hdb.shape
            obtain ⟨adi, capi, rfl, hci1, hci2⟩ := hdi.shape
            clear hb hdb hdi
            by_cases h0 : 0 < q.length
            · obtain ⟨hs, kk, x1, x2, cs, q1, q2, hh, hpos, hlast, hfirst, hqe, hx1, hq1, hpop, hcl, hqr⟩ := hq.pop h0
              have HH := Lib.hid hh
              have HQE := Lib.hid hqe
              have HQ1 := Lib.hid hq1
              have HPOP := Lib.hid hpop
              have HQR := Lib.hid hqr
              have HHL := Lib.hid hlast
              have HCL := Lib.hid hcl
              have HX1 := Lib.hid hx1
              have hl6 : bs.length ≤ 100000 := by have := hq.len; have := hq.few; omega
              have H6 := Lib.hid hl6
              obtain ⟨lq, hlq⟩ : ∃ m, m = q.length := ⟨_, rfl⟩
              obtain ⟨lb, hlb⟩ : ∃ m, m = bs.length := ⟨_, rfl⟩
              obtain ⟨lh, hlh⟩ : ∃ m, m = hs.length := ⟨_, rfl⟩
              have HLQ := Lib.hid hlq
              have HLB := Lib.hid hlb
              have HLH := Lib.hid hlh
              have hq4 : lq ≤ 4 := by rw [hlq]; exact hq.few
              have hf' : lq < gk + 1 := by rw [hlq]; exact hf
              obtain ⟨gO, hgO⟩ : ∃ g, g = gk := ⟨_, rfl⟩
              rw [← hlq] at h0 hci1 DI ⊢
              rw [← hlb] at DB ⊢
              rw [← hlh] at hpos
              have hb4 : lb = lq := by rw [hlb, hlq]; exact hq.len
              have HB4 := Lib.hid hb4
              have e1 : (0 : Int) < (lq : Int) := by omega
              clear hh hqe hq1 hpop hqr hlast hfirst hcl hx1 hl6 hlq hlb hlh hq hf hb4
              go_wp2_with fail
              refine (heads_any bs _ 3 wr DB.out H6.out hs HH.out).mono ?_
              rintro e w1 ⟨v1, rfl, dh, b1⟩
              have DH := Lib.hid dh
              have B1 := Lib.hid (HB.out.trans (b1.mono hww))
              have DB1 := Lib.hid (EntsD.below DB.out b1)
              have DI1 := Lib.hid (EntsD.below DI.out b1)
              obtain ⟨adh, caph, rfl, hch1, hch2⟩ := dh.shape
              rw [← HLH.out] at hch1 DH ⊢
              clear dh b1 DB DI
              obtain ⟨bi, offi, rfl, hbi, y0, y1⟩ := EntsD.at2 DI1.out 0 (by rw [← HLQ.out]; exact h0)
              obtain ⟨bh, offh, rfl, hbh, z0⟩ := IntsD.at2 DH.out 0 (by rw [← HLH.out]; exact hpos)
              obtain ⟨f0, hf0⟩ : ∃ f, f = (q.getD 0 (0, 0)).1 := ⟨_, rfl⟩
              have e2 : ((lh : Int) == 0) = false := by simp; omega
              have e3 : (0 : Int) < (lh : Int) := by omega
              clear y1 hf0
              go_wp2_with fail
              go_quiet (fail)
              have B2 := Lib.hid (below_drewN' B1.out nq)
              have DB2 := Lib.hid (EntsD.below DB1.out (below_drewN' (Below.refl _ _) nq))
              have DI2 := Lib.hid (EntsD.below DI1.out (below_drewN' (Below.refl _ _) nq))
              have DH2 := Lib.hid (IntsD.below DH.out (below_drewN' (Below.refl _ _) nq))
              generalize w1.drewN nq = w2 at B2 DB2 DI2 DH2 ⊢
              obtain ⟨t, ht⟩ : ∃ t, t = q1.length := ⟨_, rfl⟩
              have HT := Lib.hid ht
              have htq : t < lq := by rw [ht, HLQ.out, HQE.out, List.length_append, List.length_cons]; omega
              obtain ⟨lh1, hlh1⟩ : ∃ m, m = lh - 1 := ⟨_, rfl⟩
              have e4 : IntKind.i64.wrap ((lh : Int) - 1) = (lh1 : Int) := by rw [IntKind.wrap_i64]; omega
              have e5 : (0 : Int) ≤ (lh1 : Int) := Int.natCast_nonneg _
              have e6 : (lh1 : Int) < (lh : Int) := by omega
              have HQD := Lib.hid (fun (j : Nat) (hj : j < t) => (by
                have h1 : j < q1.length := by rw [← HT.out]; exact hj
                have h2 : q.getD j (0, 0) = q1[j] := by
                  rw [HQE.out, List.getD_eq_getElem?_getD, List.getElem?_append_left h1, List.getElem?_eq_getElem h1]; rfl
                rw [h2]
                exact HQ1.out _ (List.getElem_mem h1) : (q.getD j (0, 0)).1 ≠ kk))
              have HQT : Hid (q.getD t (0, 0) = (x1, x2)) := Lib.hid (by
                rw [HQE.out, List.getD_eq_getElem?_getD, ht, List.getElem?_append_right (Nat.le_refl _), Nat.sub_self]; rfl)
              have HZ1 := Lib.hid (fun (W : World) (hb : Below w2.heap.size w2 W) => (by
                obtain ⟨b', off', hbb, _, h1⟩ := IntsD.at2 (IntsD.below DH2.out hb) lh1 (by rw [← HLH.out]; omega)
                have h2 := HHL.out
                rw [← HLH.out, ← hlh1, List.getElem?_eq_getElem (by rw [← HLH.out]; omega)] at h2
                rw [Option.some.inj h2] at h1
                injection hbb with hbb; injection hbb with hb1 hb2
                subst hb1; subst hb2
                exact h1 : W.cell? ⟨bh, offh + lh1, none⟩ = some (.int .i64 kk)))
              clear hlh1 ht y0 z0 hbi hbh B1 DB1 DI1 DH e2 e3
              go_wp2_with fail
              go_loopg [13] (t + 1) (fun fuel at' wi => ∃ (j : Nat), at' = .int .i64 j ∧ j ≤ t ∧ t - j < fuel + 1 ∧ Below w2.heap.size w2 wi)
              case atStart => exact ⟨0, rfl, Nat.zero_le _, by omega, Below.refl _ _⟩
              case round =>
                obtain ⟨j, rfl, hj, hfj, hbj⟩ := hrel
                have HBJ := Lib.hid hbj
                have z1 := HZ1.out _ hbj
                have hww2 := hbj.size
                obtain ⟨b', off', hbb, hbi, y0, _⟩ := EntsD.at2 (EntsD.below DI2.out hbj) j (by rw [← HLQ.out]; omega)
                injection hbb with hbb
                injection hbb with hb1 hb2
                subst hb1
                subst hb2
                rw [← getD_at q j (by rw [← HLQ.out]; omega)] at y0
                have hbh := (cell_spot z1).2
                have e7 : (0 : Int) ≤ (j : Int) := Int.natCast_nonneg _
                have e8 : (j : Int) < (lq : Int) := by omega
                have e9 : j < lq := by omega
                have e10 : lh1 < lh := by omega
                clear hbj
                by_cases hjt : j < t
                · obtain ⟨pj, hpj⟩ : ∃ p, (q.getD j (0, 0)).1 = p := ⟨_, rfl⟩
                  have hne := HQD.out j hjt
                  rw [hpj] at y0 hne
                  have e11 : (pj == kk) = false := by simpa using hne
                  have e12 : ((j : Int) + 1 == (lq : Int)) = false := by simp; omega
                  clear hpj hne
                  go_wp2_with fail
                  go_quiet (fail)
                  go_wp2_with fail
                  go_roundg (gk - 1)
                  case measure => omega
                  case rel => exact ⟨j + 1, by go_num, by omega, by omega, below_drewN' HBJ.out _⟩
                · obtain rfl : j = t := by omega
                  have hx := HQT.out
                  rw [hx] at y0
                  have e11 : (x1 == kk) = true := by simpa using HX1.out
                  clear hx
                  go_wp2_with fail
                  go_quiet (fail)
                  have BW := Lib.hid (below_drewN' HBJ.out nq)
                  generalize wr.drewN nq = w3 at BW ⊢
                  clear HBJ z1 y0
                  have z1 := HZ1.out _ BW.out
                  have hbh := (cell_spot z1).2
                  go_wp2_with fail
                  refine (pop_any bs _ 3 kk w3 (EntsD.below DB2.out BW.out) H6.out cs x1 x2 true HPOP.out).mono ?_
                  rintro e w4 ⟨v4, rfl, dc, b4⟩
                  obtain ⟨adc, capc, rfl, _⟩ := dc.shape
                  obtain ⟨lc, hlc⟩ : ∃ m, m = cs.length := ⟨_, rfl⟩
                  have HLC := Lib.hid hlc
                  rw [← hlc] at dc ⊢
                  have hlb1 : lc + 1 = lb := by rw [hlc, HLB.out]; exact HCL.out
                  have ew : IntKind.i64.wrap ((lb : Int) - 1) = (lc : Int) := by rw [IntKind.wrap_i64]; omega
                  have DC := Lib.hid dc
                  have B4 := Lib.hid (B2.out.trans (BW.out.trans (b4.mono BW.out.size) |>.mono B2.out.size))
                  have DI4 := Lib.hid (EntsD.below DI2.out (BW.out.trans (b4.mono BW.out.size)))
                  have KE := Lib.hid (Bk.new w4 25 #[.int .i64 x1, .int .i64 x2])
                  have LE : Hid (Below w4.heap.size w4 (w4.alloc (.cells #[.int .i64 x1, .int .i64 x2] 25))) := (Below.refl _ _).alloc (Nat.le_refl _) _
                  have B5 := Lib.hid (B4.out.trans (LE.out.mono B4.out.size))
                  have DI5 := Lib.hid (EntsD.below DI4.out LE.out)
                  have DC5 := Lib.hid (EntsD.below DC.out LE.out)
                  clear hlc dc b4 hlb1 HZ1 z1 hbh hbi DI2 DH2 DB2 BW B2 B4 DI4 DC
                  go_wp2_with fail
                  generalize hw5 : w4.alloc _ = w5 at KE LE B5 DI5 DC5 ⊢
                  have c0 : w5.cell? ⟨w4.heap.size, 0, none⟩ = some (.int .i64 x1) := KE.out.cell 0
                  have c1 : w5.cell? ⟨w4.heap.size, 1, none⟩ = some (.int .i64 x2) := KE.out.cell 1
                  have hlt5 := KE.out.lt
                  obtain ⟨b', off', hbb, hbi, y0, y1⟩ := EntsD.at2 DI5.out j (by rw [← HLQ.out]; exact e9)
                  injection hbb with hbb
                  injection hbb with hb1 hb2
                  subst hb1
                  subst hb2
                  rw [← getD_at q j (by rw [← HLQ.out]; exact e9), HQT.out] at y0 y1
                  simp only [] at y0 y1
                  clear hw5 KE LE
                  go_quiet (fail)
                  have BY := Lib.hid (below_drewN' B5.out nq)
                  have DI6 := Lib.hid (EntsD.below DI5.out (below_drewN' (Below.refl _ _) nq))
                  have DC6 := Lib.hid (EntsD.below DC5.out (below_drewN' (Below.refl _ _) nq))
                  generalize w5.drewN nq = w6 at BY DI6 DC6 ⊢
                  clear B5 DI5 DC5 c0 c1 y0 y1 hbi hlt5
                  have hjl : j ≤ lq := Nat.le_of_lt e9
                  obtain ⟨T1, hT1⟩ : ∃ T, [] ++ q.take j = T := ⟨_, rfl⟩
                  have HT1 := Lib.hid hT1
                  have hn6 : ([] : List Ent).length + (q.take j).length ≤ 1000000 := by
                    rw [List.length_take]; simp only [List.length_nil]; omega
                  have HN6 := Lib.hid hn6
                  have HCI := Lib.hid hci1
                  clear hT1 hn6
                  go_wp2_with (at_builtin; go_loud (refine append_ents rfl (.tmp 148) (.tmp 151) rfl w6.heap.size (.slice none 0 0) [] (q.take j) rfl (some ⟨bi, offi, none⟩) j capi rfl (World.ownsRow_nil _ _ _ _) (SlD.take DI6.out j capi hjl (Nat.le_trans hjl HCI.out) (Nat.le_refl _)) HN6.out (Nat.le_refl _) T1 HT1.out ?_))
                  intro v7 w7 o7 b7
                  have BZ := Lib.hid (BY.out.trans (b7.mono BY.out.size))
                  have DI7 := Lib.hid (EntsD.below DI6.out b7)
                  obtain ⟨ad7, cap7, rfl, _⟩ := own_shape' o7.out
                  have H67 := Lib.hid b7.size
                  have B67 := Lib.hid b7
                  clear b7 DI6
                  obtain ⟨T2, hT2⟩ : ∃ T, T1 ++ q.drop (j + 1) = T := ⟨_, rfl⟩
                  have HT2 := Lib.hid hT2
                  have hT12 : T2 = q1 ++ q2 := by
                    rw [← hT2, ← HT1.out, List.nil_append, HQE.out, HT.out, List.take_left, List.drop_append]; simp
                  have hn6 : T1.length + (q.drop (j + 1)).length ≤ 1000000 := by
                    rw [← HT1.out, List.length_drop, List.nil_append, List.length_take, ← HLQ.out]; omega
                  have HN7 := Lib.hid hn6
                  have HT12 := Lib.hid hT12
                  have hj1 : j + 1 ≤ lq := e9
                  have HJ1 := Lib.hid hj1
                  clear hT2 hn6 hT12 hj1
                  go_wp2_with (at_builtin; go_loud (refine append_ents rfl (.tmp 153) (.tmp 157) rfl w6.heap.size (.slice ad7 T1.length cap7) T1 (q.drop (j + 1)) rfl (if capi = j + 1 then some ⟨bi, offi, none⟩ else some ⟨bi, offi + (j + 1) * 2, none⟩) (lq - (j + 1)) (capi - (j + 1)) rfl o7.out (SlD.drop DI7.out (j + 1) 2 rfl HJ1.out) HN7.out H67.out T2 HT2.out ?_))
                  all_goals
                    intro v8 w8 o8 b8
                    have BV := Lib.hid (BY.out.trans ((Below.trans B67.out b8).mono BY.out.size))
                    have DC8 := Lib.hid (EntsD.below DC6.out (Below.trans B67.out b8))
                    have QR8 : Hid (QRel 3 cs T2) := Lib.hid (by rw [HT12.out]; exact HQR.out)
                    have hl8 : T2.length + 1 = lq := by
                      rw [HT12.out, HLQ.out, HQE.out]; simp only [List.length_append, List.length_cons]; omega
                    obtain ⟨ad8, cap8, rfl, _⟩ := own_shape' o8.out
                    clear b8
                    go_wp2_with fail
                    go_roundg (gO - 1)
                    case measure => omega
                    case rel => exact ⟨cs, T2, DC8.out, entsD_of_own o8.out, QR8.out, by omega, BV.out⟩
            · have hq0 : q = [] := List.eq_nil_of_length_eq_zero (by omega)
              subst hq0
              obtain rfl := QR.out.stop
              have e0 : ¬ (0 : Int) < ((([] : List Ent).length : Nat) : Int) := by decide
              have HH : Hid (headsL [] 3 = []) := Lib.hid rfl
              clear h0
              go_wp2_with fail
              refine (heads_any [] _ 3 wr DB.out (by decide) [] HH.out).mono ?_
              rintro e w1 ⟨v1, rfl, dh, b1⟩
              obtain ⟨adh, caph, rfl, _⟩ := dh.shape
              have B1 := Lib.hid (HB.out.trans (b1.mono hww))
              clear dh b1
              go_wp2_with fail
              refine (known_any w1).mono ?_
              rintro e wB ⟨rfl, bB⟩
              have BB := Lib.hid (B1.out.trans (bB.mono B1.out.size))
              clear bB
              go_wp2
              go_ret
              exact ⟨rfl, BB.out⟩
  · have q1 : (4 : Int) < (l.length : Int) := by omega
    generalize l.length = n at D0 q1
    clear hv hn
    go_enter Try.func3, Try.ntmps3
    go_wp2_with fail
    refine (known_any w).mono ?_
    rintro e wB ⟨rfl, bB⟩
    go_wp2
    go_ret
    exact ⟨rfl, bB⟩

end Go.Proofs.Ytponbnlhedigoaa
