/- CodeValues: the law's walk. -/
import Derived.Test.YtpidodeekogcfaaMo
import Derived.Deep.RegionHeld3
namespace Go.Proofs.Ytpidodeekogcfaa
open Go.RowKit

set_option maxRecDepth 100000 in
set_option maxHeartbeats 2000000 in
theorem values_long (l : List Opn) (v : Value) (m : Int) (ov av mv : Value) (w : World) (hv : OpsD w v l) (hn : 400 < l.length) (hl : l.length ≤ maxLen) :
    Calls Try.prog 4 #[v, .agg #[.int .i64 m, ov, av, mv]] w fun e w' => e = .returned (.bool true) ∧ Below w.heap.size w w' := by
  have BB : Hid (Below w.heap.size w (w.alloc (.cells #[.int .i64 m, ov, av, mv] 41))) := Lib.hid ((Below.refl _ _).alloc (Nat.le_refl _) _)
  obtain ⟨ad, cap, rfl⟩ := hv.shape
  generalize l.length = n at hn hl ⊢
  unfold maxLen at hl
  have q1 : decide ((400 : Int) < (n : Int)) = true := decide_eq_true (by omega)
  have q2 : decide (400 < n) = true := decide_eq_true hn
  clear hv
  go_enter Try.func4, Try.ntmps4
  go_wp2_with fail
  refine (known_any _).mono ?_
  rintro e w2 ⟨rfl, b2⟩
  go_wp2
  go_ret
  exact ⟨rfl, BB.out.trans (b2.mono BB.out.size)⟩

set_option maxRecDepth 100000 in
set_option maxHeartbeats 2000000 in
theorem values_heavy (l : List Opn) (v : Value) (m : Int) (own : List Int) (rs : List (List Int × Value)) (mem : List Int) (ov av mv : Value) (w : World) (hv : OpsD w v l) (hn : l.length ≤ 400) (ho : IntsD w ov own) (ha : AllD w av rs) (hm : IntsD w mv mem) (h1 : own.length ≤ maxLen) (h2 : rs.length ≤ maxLen) (h3 : mem.length ≤ maxLen) (h4 : ∀ x ∈ rs, x.1.length ≤ maxLen) (hb : light6B own rs mem = false) :
    Calls Try.prog 4 #[v, .agg #[.int .i64 m, ov, av, mv]] w fun e w' => e = .returned (.bool true) ∧ Below w.heap.size w w' := by
  have BB : Hid (Below w.heap.size w (w.alloc (.cells #[.int .i64 m, ov, av, mv] 41))) := Lib.hid ((Below.refl _ _).alloc (Nat.le_refl _) _)
  have HL := Lib.hid (light6_any m own rs mem ov av mv _ (IntsD.below ho BB.out) (AllD.below ha BB.out) (IntsD.below hm BB.out) h1 h2 h3 h4 false hb)
  obtain ⟨ad, cap, rfl⟩ := hv.shape
  obtain ⟨ado, capo, rfl⟩ := ho.shape
  obtain ⟨ada, capa, rfl⟩ := ha.shape
  obtain ⟨adm, capm, rfl⟩ := hm.shape
  generalize l.length = n at hn ⊢
  generalize own.length = no at HL BB ⊢
  generalize rs.length = na at HL BB ⊢
  generalize mem.length = nm at HL BB ⊢
  have q1 : decide ((400 : Int) < (n : Int)) = false := decide_eq_false (by omega)
  have q2 : decide (400 < n) = false := decide_eq_false (by omega)
  clear hv ho ha hm h1 h2 h3 h4 hb
  go_enter Try.func4, Try.ntmps4
  go_wp2_with fail
  refine HL.out.mono ?_
  rintro e w1 ⟨rfl, b1⟩
  have B1 := Lib.hid (BB.out.trans (b1.mono BB.out.size))
  clear b1
  go_wp2_with fail
  refine (known_any _).mono ?_
  rintro e w2 ⟨rfl, b2⟩
  go_wp2
  go_ret
  exact ⟨rfl, B1.out.trans (b2.mono B1.out.size)⟩

set_option maxRecDepth 100000 in
set_option maxHeartbeats 8000000 in
theorem values_light (l : List Opn) (v : Value) (s : Nbs) (rs : List (List Int × Value)) (ov av mv : Value) (w : World) (hv : OpsD w v l) (hn : l.length ≤ 400) (hd : NbD w ov av mv rs s) (hb : light6B s.own rs s.mem = true) :
    Calls Try.prog 4 #[v, .agg #[.int .i64 s.mod, ov, av, mv]] w fun e w' => e = .returned (.bool true) ∧ Below w.heap.size w w' := by
  have BB : Hid (Below w.heap.size w (w.alloc (.cells #[.int .i64 s.mod, ov, av, mv] 41))) := Lib.hid ((Below.refl _ _).alloc (Nat.le_refl _) _)
  have KB := Lib.hid (Bk.new w 41 #[.int .i64 s.mod, ov, av, mv])
  have HL := Lib.hid (light6_any s.mod s.own rs s.mem ov av mv _ (IntsD.below hd.o BB.out) (AllD.below hd.a BB.out) (IntsD.below hd.m BB.out) (Nat.le_trans hd.lo (by unfold maxLen; decide)) (Nat.le_trans hd.la (by unfold maxLen; decide)) (Nat.le_trans hd.lm (by unfold maxLen; decide)) (fun x hx => Nat.le_trans (hd.lr x hx) (by unfold maxLen; decide)) true hb)
  obtain ⟨⟨z, b⟩, hz⟩ : ∃ zb, valO l s = zb := ⟨_, rfl⟩
  obtain ⟨d, hdp⟩ : ∃ d, (htsL l 0 0).1 = d := ⟨_, rfl⟩
  obtain ⟨r, hr⟩ : ∃ r, rightO l (lenI rs) s.own.length s.mem.length = r := ⟨_, rfl⟩
  have HV1 := Lib.hid (fun (W : World) (h : Below w.heap.size w W) (o2 : Value) (ho2 : IntsD W o2 s.own) => value_code l s rs o2 av mv v W ⟨ho2, AllD.below hd.a h, hd.e, IntsD.below hd.m h, hd.lo, hd.la, hd.lr, hd.lm⟩ (OpsD.below hv h) (by omega) z b hz)
  have HV2 := Lib.hid (fun (W : World) (h : Below w.heap.size w W) => rvalue_any s rs ov av mv l v W (hd.below h) (OpsD.below hv h) (by omega) z b hz)
  have HDC := Lib.hid (fun (W : World) (h : Below w.heap.size w W) => depth_code l v W (OpsD.below hv h) (by omega) d hdp)
  have HDR := Lib.hid (fun (W : World) (h : Below w.heap.size w W) => (rdepth_code l v W (OpsD.below hv h) (by omega) d hdp).mono fun e w' (h : e = .returned (.int .i64 d) ∧ W = w') => (⟨h.1, h.2 ▸ Below.refl _ _⟩ : e = .returned (.int .i64 d) ∧ Below W.heap.size W w'))
  have HLE := Lib.hid (fun (W : World) (h : Below w.heap.size w W) => lengths6_any s.mod rs ov av mv W (AllD.below hd.a h) hd.la hd.lr (by obtain ⟨a, c, h⟩ := hd.o.shape; exact ⟨a, _, c, h⟩) (by obtain ⟨a, c, h⟩ := hd.m.shape; exact ⟨a, _, c, h⟩))
  have HRC := Lib.hid (fun (W : World) (h : Below w.heap.size w W) (rv : Value) (hrv : IntsD W rv (lenI rs)) => right_code l (lenI rs) v rv s.own.length s.mem.length W (OpsD.below hv h) hrv (by omega) r hr)
  have HRR := Lib.hid (fun (W : World) (h : Below w.heap.size w W) (rv : Value) (hrv : IntsD W rv (lenI rs)) => rright_code l (lenI rs) v rv s.own.length s.mem.length W (OpsD.below hv h) hrv (by omega) r hr)
  have HOI := Lib.hid hd.o
  have hlo := hd.lo
  obtain ⟨ad, cap, rfl⟩ := hv.shape
  obtain ⟨ado, capo, hov⟩ := hd.o.shape
  obtain ⟨ada, capa, rfl⟩ := hd.a.shape
  obtain ⟨adm, capm, hmv⟩ := hd.m.shape
  subst hov hmv
  obtain ⟨n, hnn⟩ : ∃ n, n = l.length := ⟨_, rfl⟩
  obtain ⟨no, hno⟩ : ∃ n, n = s.own.length := ⟨_, rfl⟩
  obtain ⟨nm, hnm⟩ : ∃ n, n = s.mem.length := ⟨_, rfl⟩
  obtain ⟨na, hna⟩ : ∃ n, n = rs.length := ⟨_, rfl⟩
  obtain ⟨m, hm⟩ : ∃ m, m = s.mod := ⟨_, rfl⟩
  rw [← hno, ← hnm, ← hna, ← hm] at BB KB HL HV2 HLE
  rw [← hno, ← hnm, ← hna, ← hm]
  rw [← hnm, ← hna, ← hm] at HV1
  rw [← hno, ← hnm] at HRC HRR
  rw [← hnn] at hn HV1 HV2 HDC HDR HRC HRR ⊢
  rw [← hno] at HOI hlo
  have HNO := Lib.hid hno
  have q1 : decide ((400 : Int) < (n : Int)) = false := decide_eq_false (by omega)
  have q2 : decide (400 < n) = false := decide_eq_false (by omega)
  clear hv hd hb hz hdp hr hnn hno hnm hna hm
  go_enter Try.func4, Try.ntmps4
  go_wp2_with fail
  refine HL.out.mono ?_
  rintro e w1 ⟨rfl, b1⟩
  have B1 := Lib.hid (BB.out.trans (b1.mono BB.out.size))
  have K1 := Lib.hid (KB.out.below b1)
  have O1 := Lib.hid (IntsD.below HOI.out B1.out)
  clear b1 HL BB KB
  have k0 := K1.out.cell 0
  have k1 := K1.out.cell 1
  have k2 := K1.out.cell 2
  have k3 := K1.out.cell 3
  have kl := K1.out.lt
  have K0 : Hid ((w1.alloc (.cells #[] 3)).ownsRow w1.heap.size 3 1 (.slice (some ⟨w1.heap.size, 0, none⟩) 0 0) ([] : List Int).length (intV [])) :=
    ⟨rfl, .inr ⟨w1.heap.size, 0, _, rfl, Nat.le_refl _, heap_alloc_new w1 _, Nat.le_refl _, by unfold maxLen; decide, rfl, rfl⟩⟩
  have L0 : Hid (Below w1.heap.size w1 (w1.alloc (.cells #[] 3))) := (Below.refl _ _).alloc (Nat.le_refl _) _
  have hnl : ([] : List Int).length + s.own.length ≤ 1000000 := by rw [← HNO.out]; simp; omega
  have HNL := Lib.hid hnl
  clear hnl
  go_wp2_with (first
    | (at_builtin; refine append_ints rfl (.tmp 20) (.tmp 22) rfl w1.heap.size _ _ [] s.own rfl rfl K0.out (IntsD.below O1.out L0.out) HNL.out L0.out.size ?_; intro v2 w2 ho2 hb2; have L2 := Lib.hid (L0.out.trans hb2); have B2 := Lib.hid (B1.out.trans (L2.out.mono B1.out.size)); have K2 := Lib.hid (K1.out.below L2.out); have ho3 : w2.ownsRow w1.heap.size 3 1 v2 s.own.length (intV s.own) := ho2; have I2 := Lib.hid (intsD_of_own ho3); obtain ⟨ad2, cap2, rfl, _⟩ := own_shape' ho3; rw [← HNO.out] at I2 ⊢; clear ho2 ho3 hb2; have k0 := K2.out.cell 0; have k1 := K2.out.cell 1; have k2 := K2.out.cell 2; have k3 := K2.out.cell 3; have kl := K2.out.lt)
    | (go_at_call 17; refine (HV1.out w2 B2.out _ I2.out).mono ?_; rintro e w3 ⟨rfl, b3⟩; have B3 := Lib.hid (B2.out.trans (b3.mono B2.out.size)); have K3 := Lib.hid (K2.out.below b3); have I3 := Lib.hid (IntsD.below I2.out b3); clear b3; have k0 := K3.out.cell 0; have k1 := K3.out.cell 1; have k2 := K3.out.cell 2; have k3 := K3.out.cell 3; have kl := K3.out.lt)
    | (go_at_call 18; refine (HV2.out w3 B3.out).mono ?_; rintro e w4 ⟨rfl, b4⟩; have B4 := Lib.hid (B3.out.trans (b4.mono B3.out.size)); have K4 := Lib.hid (K3.out.below b4); have I4 := Lib.hid (IntsD.below I3.out b4); have J4 := Lib.hid (IntsD.below HOI.out B4.out); clear b4))
  go_loopg [10] no (fun fuel i' wr => ∃ k : Nat, i' = .int .i64 k ∧ k ≤ no ∧ no - k ≤ fuel ∧ Below w4.heap.size w4 wr)
  case atStart => exact ⟨0, rfl, Nat.zero_le _, Nat.le_refl _, Below.refl _ _⟩
  case round =>
    obtain ⟨k, rfl, hk, hf, hb⟩ := hrel
    have HB := Lib.hid hb
    have hsz := hb.size
    have K5 := Lib.hid (K4.out.below hb)
    clear hb
    have k0 := K5.out.cell 0
    have k1 := K5.out.cell 1
    have k2 := K5.out.cell 2
    have k3 := K5.out.cell 3
    have kl := K5.out.lt
    by_cases hlt : k < no
    · have hk' : k < s.own.length := by have := HNO.out; omega
      obtain ⟨ad5, cap5, hv5, _, _, hc5⟩ := I4.out
      obtain ⟨ad6, cap6, hv6, _, _, hc6⟩ := J4.out
      obtain ⟨g, off, ha5, hl5, x5⟩ := hc5 k hk'
      obtain ⟨g6, off6, ha6, hl6, x6⟩ := hc6 k hk'
      obtain rfl : ad2 = some ⟨g, off, none⟩ := by injection hv5 with h1 _ _; rw [h1, ha5]
      obtain rfl : ado = some ⟨g6, off6, none⟩ := by injection hv6 with h1 _ _; rw [h1, ha6]
      obtain ⟨x, hx⟩ : ∃ x, x = s.own[k] := ⟨_, rfl⟩
      unfold IntAt at x5 x6
      rw [Nat.mul_one, ← hx] at x5 x6
      have c5 : wr.cell? ⟨g, off + k, none⟩ = some (.int .i64 x) := (HB.out.cell (p := ⟨g, _, none⟩) hl5).trans x5
      have c6 : wr.cell? ⟨g6, off6 + k, none⟩ = some (.int .i64 x) := (HB.out.cell (p := ⟨g6, _, none⟩) hl6).trans x6
      have hl7 : g < wr.heap.size := by omega
      have hl8 : g6 < wr.heap.size := by omega
      clear hc5 hc6 hv5 hv6 ha5 ha6 x5 x6 hx
      go_wp2
      go_quiet (fail)
      go_wp2
      go_roundg (gk - 1)
      case measure => omega
      case rel => exact ⟨k + 1, by go_num, by omega, by omega, HB.out.trans (below_end _)⟩
    · have B5 := Lib.hid (B4.out.trans (HB.out.mono B4.out.size))
      have KK := Lib.hid (fun (W : World) (h : Below wr.heap.size wr W) => (⟨(K5.out.below h).cell 0, (K5.out.below h).cell 1, (K5.out.below h).cell 2, (K5.out.below h).cell 3, (K5.out.below h).lt⟩ : W.cell? ⟨w.heap.size, 0, none⟩ = some (.int .i64 m) ∧ W.cell? ⟨w.heap.size, 1, none⟩ = some (.slice ado no capo) ∧ W.cell? ⟨w.heap.size, 2, none⟩ = some (.slice ada na capa) ∧ W.cell? ⟨w.heap.size, 3, none⟩ = some (.slice adm nm capm) ∧ w.heap.size < W.heap.size))
      have HDC2 := Lib.hid (fun (W : World) (h : Below wr.heap.size wr W) => HDC.out W (B5.out.trans (h.mono B5.out.size)))
      have HDR2 := Lib.hid (fun (W : World) (h : Below wr.heap.size wr W) => HDR.out W (B5.out.trans (h.mono B5.out.size)))
      have HLE2 := Lib.hid (fun (W : World) (h : Below wr.heap.size wr W) => HLE.out W (B5.out.trans (h.mono B5.out.size)))
      have HRC2 := Lib.hid (fun (W : World) (h : Below wr.heap.size wr W) => HRC.out W (B5.out.trans (h.mono B5.out.size)))
      have HRR2 := Lib.hid (fun (W : World) (h : Below wr.heap.size wr W) => HRR.out W (B5.out.trans (h.mono B5.out.size)))
      have bb : Below wr.heap.size wr wr := Below.refl _ _
      clear HDC HDR HLE HRC HRR HV1 HV2 HOI I4 J4 K4 HB
      go_wp2_with fail
      go_region_held3 (fun w' => w'.cell? ⟨w.heap.size, 0, none⟩ = some (.int .i64 m) ∧ w'.cell? ⟨w.heap.size, 1, none⟩ = some (.slice ado no capo) ∧ w'.cell? ⟨w.heap.size, 2, none⟩ = some (.slice ada na capa) ∧ w'.cell? ⟨w.heap.size, 3, none⟩ = some (.slice adm nm capm) ∧ Below wr.heap.size wr w')
        (first | exact ⟨k0, k1, k2, k3, Below.refl _ _⟩ | exact ⟨k0, k1, k2, k3, (Below.refl _ _).drew⟩ | assumption | (go_split_ands; exact ⟨(KK.out _ bb).1, (KK.out _ bb).2.1, (KK.out _ bb).2.2.1, (KK.out _ bb).2.2.2.1, bb⟩))
        ((first
          | (go_split_ands; (with_reducible refine Calls.mono (HDC2.out _ (by assumption)) ?_); rintro e wn ⟨rfl, bn⟩; have bb : Below wr.heap.size wr wn := Below.trans (by assumption) (bn.mono (Below.size (by assumption))))
          | (go_split_ands; (with_reducible refine Calls.mono (HDR2.out _ (by assumption)) ?_); rintro e wn ⟨rfl, bn⟩; have bb : Below wr.heap.size wr wn := Below.trans (by assumption) (bn.mono (Below.size (by assumption))))
          | (go_split_ands; (with_reducible refine Calls.mono (HLE2.out _ (by assumption)) ?_); rintro e wn ⟨zv, rfl, jn, bn⟩; obtain ⟨adz, capz, rfl⟩ := jn.shape; (try have i2 := IntsD.below i1 bn); have i1 := jn; have bb : Below wr.heap.size wr wn := Below.trans (by assumption) (bn.mono (Below.size (by assumption))))
          | (go_split_ands; (with_reducible refine Calls.mono (HRC2.out _ (by assumption) _ ?_) ?_); (first | exact i1 | exact i2); rintro e wn ⟨rfl, bn⟩; (try have i2 := IntsD.below i2 bn); (try have i1 := IntsD.below i1 bn); have bb : Below wr.heap.size wr wn := Below.trans (by assumption) (bn.mono (Below.size (by assumption))))
          | (go_split_ands; (with_reducible refine Calls.mono (HRR2.out _ (by assumption) _ ?_) ?_); (first | exact i1 | exact i2); rintro e wn ⟨rfl, bn⟩; (try have i2 := IntsD.below i2 bn); (try have i1 := IntsD.below i1 bn); have bb : Below wr.heap.size wr wn := Below.trans (by assumption) (bn.mono (Below.size (by assumption))))
          | (go_split_ands; (with_reducible refine Calls.mono (known_any _) ?_); rintro e wn ⟨rfl, bn⟩; have bb : Below wr.heap.size wr wn := Below.trans (by assumption) (bn.mono (Below.size (by assumption))))))
      all_goals
        go_split_ands
        go_wp2
        go_ret
        exact ⟨rfl, B5.out.trans (Below.mono (by assumption) B5.out.size)⟩

end Go.Proofs.Ytpidodeekogcfaa
