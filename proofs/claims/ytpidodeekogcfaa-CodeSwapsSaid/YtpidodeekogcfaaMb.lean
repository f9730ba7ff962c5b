/- CodeSwaps: one operator between two registers; the law's walk. -/
import Derived.Test.YtpidodeekogcfaaMa
import Derived.StillTailTactics
namespace Go.Proofs.Ytpidodeekogcfaa
open Go.RowKit

theorem ar_two (op : Int) (h1 : 6 ≤ op) (h2 : op ≤ 14) : ar op = 2 := by have := ar_kind op; omega

theorem two_right {m a b : Int} (hm : 2 ≤ m ∧ m ≤ 16) (ha : 0 ≤ a ∧ a < m) (hb : 0 ≤ b ∧ b < m) : rightN ⟨m, [a, b], [], []⟩ = true := by
  simp [rightN, allB, okI, hm.1, hm.2, ha.1, ha.2, hb.1, hb.2]

theorem one_val (op : Int) (h1 : 6 ≤ op) (h2 : op ≤ 14) (x y : Int) (hx : x = 0 ∨ x = 1) (hy : y = 0 ∨ y = 1) (m a b : Int) (hm : 2 ≤ m ∧ m ≤ 16) (ha : 0 ≤ a ∧ a < m) (hb : 0 ≤ b ∧ b < m) :
    valO [⟨2, x, 0⟩, ⟨2, y, 0⟩, ⟨op, 0, 0⟩] ⟨m, [a, b], [], []⟩ = (twoO op (if x = 0 then a else b) (if y = 0 then a else b) m, true) := by
  have har := ar_two op h1 h2
  have hr : ar 2 = 0 := rfl
  rw [valO_yes]
  · congr 1
    show (stO _ ⟨op, 0, 0⟩ (stO _ ⟨2, y, 0⟩ (stO _ ⟨2, x, 0⟩ []))).getD 0 0 = _
    rw [stO_zero _ ⟨2, x, 0⟩ _ hr, stO_zero _ ⟨2, y, 0⟩ _ hr, stO_two _ ⟨op, 0, 0⟩ _ _ _ har]
    have e : ∀ z, (z = 0 ∨ z = 1) → rdO ⟨m, [a, b], [], []⟩ ⟨2, z, 0⟩ % m = if z = 0 then a else b := by
      rintro z (rfl | rfl)
      · exact Int.emod_eq_of_lt ha.1 ha.2
      · exact Int.emod_eq_of_lt hb.1 hb.2
    rw [← e x hx, ← e y hy]; rfl
  · rw [two_right hm ha hb, Bool.true_and]
    have e : ∀ z : Int, (z = 0 ∨ z = 1) → okO [] 2 0 ⟨2, z, 0⟩ = true := by rintro z (rfl | rfl) <;> rfl
    have e2 : okO [] 2 0 ⟨op, 0, 0⟩ = true := by
      unfold okO; simp only []
      rw [if_neg (by omega), if_neg (by omega), if_neg (by omega), if_neg (by omega)]
    have e3 : (htsL [⟨2, x, 0⟩, ⟨2, y, 0⟩, ⟨op, 0, 0⟩] 0 0).2 = 1 := by
      simp [htsL, hr, har]
    unfold rightO
    rw [e3]
    show (true && ([⟨2, x, 0⟩, ⟨2, y, 0⟩, ⟨op, 0, 0⟩] : List Opn).all (okO [] 2 0)) = true
    simp [e x hx, e y hy, e2]

set_option maxRecDepth 100000 in
set_option maxHeartbeats 2000000 in
theorem one_any (op : Int) (h1 : 6 ≤ op) (h2 : op ≤ 14) (x y : Int) (hx : x = 0 ∨ x = 1) (hy : y = 0 ∨ y = 1) (m a b : Int) (hm : 2 ≤ m ∧ m ≤ 16) (ha : 0 ≤ a ∧ a < m) (hb : 0 ≤ b ∧ b < m) (ov : Value) (w : World) (hov : IntsD w ov [a, b]) (z : Int) (hz : twoO op (if x = 0 then a else b) (if y = 0 then a else b) m = z) :
    Calls Try.prog 24 #[.int .i64 op, .int .i64 x, .int .i64 y, .int .i64 m, ov] w fun e w' => e = .returned (.int .i64 z) ∧ Below w.heap.size w w' := by
  have hk := Bk.new w 53 #[.int .i64 2, .int .i64 x, .int .i64 0, .int .i64 2, .int .i64 y, .int .i64 0, .int .i64 op, .int .i64 0, .int .i64 0]
  have hb1 : Below w.heap.size w (w.alloc (.cells #[.int .i64 2, .int .i64 x, .int .i64 0, .int .i64 2, .int .i64 y, .int .i64 0, .int .i64 op, .int .i64 0, .int .i64 0] 53)) := (Below.refl _ _).alloc (Nat.le_refl _) _
  have HV := Lib.hid (value_code [⟨2, x, 0⟩, ⟨2, y, 0⟩, ⟨op, 0, 0⟩] ⟨m, [a, b], [], []⟩ [] _ _ _ _ _ ⟨IntsD.below hov hb1, allD_nil, rfl, intsD_nil, (show 2 ≤ 100000 by decide), by decide, (fun x hx => by cases hx), (show 0 ≤ 100000 by decide)⟩ (opsD_of_bk hk rfl (show 3 ≤ 1000000 by decide)) (show 3 ≤ 100000 by decide) z true (by rw [one_val op h1 h2 x y hx hy m a b hm ha hb, hz]))
  have HB := Lib.hid hb1
  obtain ⟨ad, cap, rfl⟩ := hov.shape
  have hl : ([a, b] : List Int).length = 2 := rfl
  rw [hl] at HV ⊢
  clear hz hov hk hb1 hx hy ha hb hm h1 h2 hl
  go_enter Try.func24, Try.ntmps24
  go_wp2_with fail
  refine HV.out.mono ?_
  rintro e w2 ⟨rfl, b2⟩
  have B2 := Lib.hid (HB.out.trans (b2.mono HB.out.size))
  clear b2
  go_wp2
  go_ret
  exact ⟨rfl, B2.out⟩

theorem back_val (m a b s : Int) (hm : 2 ≤ m ∧ m ≤ 16) (ha : 0 ≤ a ∧ a < m) (hb : 0 ≤ b ∧ b < m) (hs : (a + b) % m = s) (hs2 : 0 ≤ s ∧ s < m) :
    valO [⟨1, s, 0⟩, ⟨2, 1, 0⟩, ⟨7, 0, 0⟩] ⟨m, [a, b], [], []⟩ = (a, true) := by
  rw [valO_yes]
  · congr 1
    show (stO _ ⟨7, 0, 0⟩ (stO _ ⟨2, 1, 0⟩ (stO _ ⟨1, s, 0⟩ []))).getD 0 0 = _
    rw [stO_zero _ ⟨1, s, 0⟩ _ rfl, stO_zero _ ⟨2, 1, 0⟩ _ rfl, stO_two _ ⟨7, 0, 0⟩ _ _ _ rfl]
    show (s % m - b % m + m) % m = a
    rw [Int.emod_eq_of_lt hs2.1 hs2.2, Int.emod_eq_of_lt hb.1 hb.2, ← hs, Int.add_emod_right, Int.emod_sub_emod, Int.add_sub_cancel]
    exact Int.emod_eq_of_lt ha.1 ha.2
  · rw [two_right hm ha hb, Bool.true_and]
    have e : okO [] 2 0 ⟨1, s, 0⟩ = true := by
      show inB s 10000 = true
      exact decide_eq_true (by omega)
    show (true && ([⟨1, s, 0⟩, ⟨2, 1, 0⟩, ⟨7, 0, 0⟩] : List Opn).all (okO [] 2 0)) = true
    simp only [List.all_cons, e]; rfl

theorem tru_not (b : Bool) : tru b + tru (!b) = 1 := by cases b <;> rfl

set_option maxRecDepth 100000 in
set_option maxHeartbeats 8000000 in
theorem codeSwaps_in (x y n : Int) (w : World) (hx : 0 ≤ x ∧ x ≤ 255) (hy : 0 ≤ y ∧ y ≤ 255) (hn : 0 ≤ n ∧ n ≤ 255) :
    Calls Try.prog 6 #[.int .u8 x, .int .u8 y, .int .u8 n] w fun e w' => e = .returned (.bool true) ∧ Below w.heap.size w w' := by
  obtain ⟨hx0, hx1⟩ := hx
  obtain ⟨hy0, hy1⟩ := hy
  obtain ⟨hn0, hn1⟩ := hn
  go_enter Try.func6, Try.ntmps6
  go_wp2_with fail
  obtain ⟨m, hm⟩ : ∃ m, 2 + n % 15 = m := ⟨_, rfl⟩
  have hm1 : 2 ≤ m := by omega
  have hm2 : m ≤ 16 := by omega
  rw [hm]
  obtain ⟨a, ha⟩ : ∃ a, x.tmod m = a := ⟨_, rfl⟩
  obtain ⟨b, hb⟩ : ∃ b, y.tmod m = b := ⟨_, rfl⟩
  have ha' : x % m = a := by rw [← ha, Int.tmod_eq_emod_of_nonneg hx0]
  have hb' : y % m = b := by rw [← hb, Int.tmod_eq_emod_of_nonneg hy0]
  have ha0 : 0 ≤ a := by rw [← ha']; exact Int.emod_nonneg _ (by omega)
  have ha1 : a < m := by rw [← ha']; exact Int.emod_lt_of_pos _ (by omega)
  have hb0 : 0 ≤ b := by rw [← hb']; exact Int.emod_nonneg _ (by omega)
  have hb1 : b < m := by rw [← hb']; exact Int.emod_lt_of_pos _ (by omega)
  have hmz : ¬ m = 0 := by omega
  clear hm ha' hb'
  go_region
  have K1 := Bk.new w 3 #[.int .i64 a, .int .i64 b]
  have B1 : Below w.heap.size w (w.alloc (.cells #[.int .i64 a, .int .i64 b] 3)).drew := ((Below.refl _ _).alloc (Nat.le_refl _) _).drew
  have K1' : Bk (w.alloc (.cells #[.int .i64 a, .int .i64 b] 3)).drew w.heap.size 3 #[.int .i64 a, .int .i64 b] := K1
  generalize (w.alloc (.cells #[.int .i64 a, .int .i64 b] 3)).drew = w1 at B1 K1' ⊢
  have HB1 := Lib.hid B1
  have HK1 := Lib.hid K1'
  have HI1 := Lib.hid (intsD_of_bk (xs := [a, b]) K1' rfl (show 2 ≤ 1000000 by decide))
  have hma : 0 ≤ a ∧ a < m := ⟨ha0, ha1⟩
  have hmb : 0 ≤ b ∧ b < m := ⟨hb0, hb1⟩
  have HONE := Lib.hid (fun (W : World) (h : Below w1.heap.size w1 W) (op : Int) (h1 : 6 ≤ op) (h2 : op ≤ 14) (x y : Int) (hx : x = 0 ∨ x = 1) (hy : y = 0 ∨ y = 1) (z : Int) (hz : twoO op (if x = 0 then a else b) (if y = 0 then a else b) m = z) =>
    one_any op h1 h2 x y hx hy m a b ⟨hm1, hm2⟩ hma hmb _ W (IntsD.below HI1.out h) z hz)
  have hl2 : ([a, b] : List Int).length = 2 := rfl
  rw [hl2] at HONE HI1
  obtain ⟨s, hs⟩ : ∃ s, twoO 6 a b m = s := ⟨_, rfl⟩
  obtain ⟨q, hq⟩ : ∃ q, twoO 8 a b m = q := ⟨_, rfl⟩
  obtain ⟨c, hc⟩ : ∃ c, twoO 9 a b m = c := ⟨_, rfl⟩
  obtain ⟨d, hd⟩ : ∃ d, twoO 10 a b m = d := ⟨_, rfl⟩
  obtain ⟨l, hl⟩ : ∃ l, twoO 11 a b m = l := ⟨_, rfl⟩
  obtain ⟨o, ho⟩ : ∃ o, twoO 12 b a m = o := ⟨_, rfl⟩
  have hs' : twoO 6 b a m = s := by rw [← hs]; show (b + a) % m = (a + b) % m; rw [Int.add_comm]
  have hq' : twoO 8 b a m = q := by rw [← hq]; show b * a % m = a * b % m; rw [Int.mul_comm]
  have hc' : twoO 9 b a m = c := by
    rw [← hc]; show tru (decide (b = a)) = tru (decide (a = b))
    congr 1; exact decide_eq_decide.2 ⟨Eq.symm, Eq.symm⟩
  have hcd : c + d = 1 := by
    rw [← hc, ← hd]; show tru (decide (a = b)) + tru (decide (a ≠ b)) = 1
    rw [show decide (a ≠ b) = !decide (a = b) by simp]; exact tru_not _
  have hlo : l + o = 1 := by
    rw [← hl, ← ho]; show tru (decide (a < b)) + tru (decide (b ≤ a)) = 1
    rw [show decide (b ≤ a) = !decide (a < b) by rw [← decide_not]; exact decide_eq_decide.2 (by omega)]; exact tru_not _
  have hc01 : 0 ≤ c ∧ c ≤ 1 := by rw [← hc]; exact tru_b _
  have hd01 : 0 ≤ d ∧ d ≤ 1 := by rw [← hd]; exact tru_b _
  have hl01 : 0 ≤ l ∧ l ≤ 1 := by rw [← hl]; exact tru_b _
  have ho01 : 0 ≤ o ∧ o ≤ 1 := by rw [← ho]; exact tru_b _
  have hs0 : 0 ≤ s := by rw [← hs]; exact Int.emod_nonneg _ (by omega)
  have hs1 : s < m := by rw [← hs]; exact Int.emod_lt_of_pos _ (by omega)
  obtain ⟨c0, c1⟩ := hc01
  obtain ⟨d0, d1⟩ := hd01
  obtain ⟨l0, l1⟩ := hl01
  obtain ⟨o0, o1⟩ := ho01
  have HBK := Lib.hid (back_val m a b s ⟨hm1, hm2⟩ hma hmb hs ⟨hs0, hs1⟩)
  have HS := Lib.hid hs
  have HS' := Lib.hid hs'
  have HQ := Lib.hid hq
  have HQ' := Lib.hid hq'
  have HC := Lib.hid hc
  have HC' := Lib.hid hc'
  have HD := Lib.hid hd
  have HLL := Lib.hid hl
  have HO := Lib.hid ho
  have HCD := Lib.hid hcd
  have HLO := Lib.hid hlo
  have C1 : Hid (Below w1.heap.size w1 w1) := Below.refl _ _
  clear K1 K1' B1 hs hs' hq hq' hc hc' hd hl ho ha hb hma hmb hl2 hcd hlo hmz
  go_wp2_with fail
  refine (HONE.out _ C1.out 6 (by decide) (by decide) 0 1 (.inl rfl) (.inr rfl) s HS.out).mono ?_
  rintro e w2 ⟨rfl, b2⟩
  have C2 := Lib.hid (C1.out.trans (b2.mono C1.out.size))
  clear b2 C1
  have K3 := Lib.hid (Bk.new w2 53 #[.int .i64 1, .int .i64 s, .int .i64 0, .int .i64 2, .int .i64 1, .int .i64 0, .int .i64 7, .int .i64 0, .int .i64 0])
  have L3 : Hid (Below w2.heap.size w2 (w2.alloc (.cells #[.int .i64 1, .int .i64 s, .int .i64 0, .int .i64 2, .int .i64 1, .int .i64 0, .int .i64 7, .int .i64 0, .int .i64 0] 53))) := (Below.refl _ _).alloc (Nat.le_refl _) _
  go_wp2_with fail
  generalize w2.alloc _ = w3 at K3 L3 ⊢
  refine (value_code [⟨1, s, 0⟩, ⟨2, 1, 0⟩, ⟨7, 0, 0⟩] ⟨m, [a, b], [], []⟩ [] _ _ _ _ w3 ⟨IntsD.below (IntsD.below HI1.out C2.out) L3.out, allD_nil, rfl, intsD_nil, (show 2 ≤ 100000 by decide), by decide, (fun x hx => by cases hx), (show 0 ≤ 100000 by decide)⟩ (opsD_of_bk K3.out rfl (show 3 ≤ 1000000 by decide)) (show 3 ≤ 100000 by decide) a true HBK.out).mono ?_
  rintro e w4 ⟨rfl, b4⟩
  have C4 := Lib.hid (C2.out.trans ((L3.out.trans (b4.mono L3.out.size)).mono C2.out.size))
  clear b4 L3 K3 C2
  go_wp2_with fail
  refine (HONE.out _ C4.out 6 (by decide) (by decide) 1 0 (.inr rfl) (.inl rfl) s HS'.out).mono ?_
  rintro e w5 ⟨rfl, b5⟩
  have C5 := Lib.hid (C4.out.trans (b5.mono C4.out.size))
  clear b5 C4
  go_wp2_with fail
  refine (HONE.out _ C5.out 8 (by decide) (by decide) 0 1 (.inl rfl) (.inr rfl) q HQ.out).mono ?_
  rintro e w6 ⟨rfl, b6⟩
  have C6 := Lib.hid (C5.out.trans (b6.mono C5.out.size))
  clear b6 C5
  go_wp2_with fail
  refine (HONE.out _ C6.out 8 (by decide) (by decide) 1 0 (.inr rfl) (.inl rfl) q HQ'.out).mono ?_
  rintro e w7 ⟨rfl, b7⟩
  have C7 := Lib.hid (C6.out.trans (b7.mono C6.out.size))
  clear b7 C6
  go_wp2_with fail
  refine (HONE.out _ C7.out 9 (by decide) (by decide) 0 1 (.inl rfl) (.inr rfl) c HC.out).mono ?_
  rintro e w8 ⟨rfl, b8⟩
  have C8 := Lib.hid (C7.out.trans (b8.mono C7.out.size))
  clear b8 C7
  go_wp2_with fail
  refine (HONE.out _ C8.out 9 (by decide) (by decide) 1 0 (.inr rfl) (.inl rfl) c HC'.out).mono ?_
  rintro e w9 ⟨rfl, b9⟩
  have C9 := Lib.hid (C8.out.trans (b9.mono C8.out.size))
  clear b9 C8
  go_wp2_with fail
  refine (HONE.out _ C9.out 9 (by decide) (by decide) 0 1 (.inl rfl) (.inr rfl) c HC.out).mono ?_
  rintro e w10 ⟨rfl, b10⟩
  have C10 := Lib.hid (C9.out.trans (b10.mono C9.out.size))
  clear b10 C9
  go_wp2_with fail
  refine (HONE.out _ C10.out 10 (by decide) (by decide) 0 1 (.inl rfl) (.inr rfl) d HD.out).mono ?_
  rintro e w11 ⟨rfl, b11⟩
  have C11 := Lib.hid (C10.out.trans (b11.mono C10.out.size))
  clear b11 C10
  have hcd := HCD.out
  go_wp2_with fail
  refine (HONE.out _ C11.out 11 (by decide) (by decide) 0 1 (.inl rfl) (.inr rfl) l HLL.out).mono ?_
  rintro e w12 ⟨rfl, b12⟩
  have C12 := Lib.hid (C11.out.trans (b12.mono C11.out.size))
  clear b12 C11
  clear hcd
  go_wp2_with fail
  refine (HONE.out _ C12.out 12 (by decide) (by decide) 1 0 (.inr rfl) (.inl rfl) o HO.out).mono ?_
  rintro e w13 ⟨rfl, b13⟩
  have C13 := Lib.hid (C12.out.trans (b13.mono C12.out.size))
  clear b13 C12
  have hlo := HLO.out
  have k0 : w13.cell? ⟨w.heap.size, 0, none⟩ = some (.int .i64 a) := (HK1.out.below C13.out).cell 0
  have kl : w.heap.size < w13.heap.size := (HK1.out.below C13.out).lt
  go_wp2_with fail
  refine (known_any w13).mono ?_
  rintro e w14 ⟨rfl, b14⟩
  have B14 := Lib.hid (HB1.out.trans ((C13.out.trans (b14.mono C13.out.size)).mono HB1.out.size))
  clear b14
  go_wp2
  go_ret
  exact ⟨rfl, B14.out⟩

end Go.Proofs.Ytpidodeekogcfaa
