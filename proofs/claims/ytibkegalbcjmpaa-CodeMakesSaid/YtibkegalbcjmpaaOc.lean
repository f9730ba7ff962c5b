/- Layer 6: ContainsFunc over steps, numbers, rows. -/
import Derived.Test.YtibkegalbcjmpaaOb
import Derived.Test.YtibkegalbcjmpaaNh
namespace Go.Proofs.Ytibkegalbcjmpaa
open Go.RowKit

set_option maxRecDepth 100000 in
set_option maxHeartbeats 2000000 in
theorem opidx_any (xs : List Opn) (v : Value) (w : World) (hv : OpsD w v xs) (hn : xs.length ≤ 100000) (FL : Opn → Bool) (p1 p2 p3 : Nat)
    (hF : ∀ w' i, (hi : i < xs.length) → Below w.heap.size w w' → Calls Try.prog 45 #[.agg #[.int .i64 xs[i].op, .int .i64 xs[i].n, .int .i64 xs[i].t], .pointer (some ⟨p1, 0, none⟩), .pointer (some ⟨p2, 0, none⟩), .pointer (some ⟨p3, 0, none⟩)] w' fun e w'' => e = .returned (.bool (FL xs[i])) ∧ Below w'.heap.size w' w'') :
    Calls Try.prog 61 #[v, .func (.func 45) #[] #[.pointer (some ⟨p1, 0, none⟩), .pointer (some ⟨p2, 0, none⟩), .pointer (some ⟨p3, 0, none⟩)]] w (IdxAns (!(xs.all fun x => !FL x)) w) := by
  obtain ⟨B, hB⟩ : ∃ B, ((xs.drop 0).all fun x => !FL x) = B := ⟨_, rfl⟩
  rw [show (xs.all fun x => !FL x) = B from hB]
  have HB0 := Lib.hid hB
  obtain ⟨ad, cap, rfl, hcap1, hcap2, hc⟩ := hv
  have HC := Lib.hid hc
  have HF := Lib.hid hF
  obtain ⟨n, hN⟩ : ∃ n, n = xs.length := ⟨_, rfl⟩
  rw [← hN] at hn ⊢
  have HN := Lib.hid hN
  clear hN hB hc hF hcap1 hcap2
  go_enter Try.func61, Try.ntmps61
  go_wp2_with fail
  go_loopg [8] n (fun fuel i' wr => ∃ k : Nat, i' = .int .i64 k ∧ k ≤ n ∧ n - k ≤ fuel ∧ ((xs.drop k).all fun x => !FL x) = B ∧ Below w.heap.size w wr)
  case atStart => exact ⟨0, rfl, Nat.zero_le _, Nat.le_refl _, HB0.out, Below.refl _ _⟩
  case round =>
    obtain ⟨k, rfl, hk, hf, ha, hb⟩ := hrel
    have HA := Lib.hid ha
    have HB := Lib.hid hb
    have hww := hb.size
    clear ha hb
    by_cases hlt : k < n
    · have hk' : k < xs.length := by have := HN.out; omega
      have HD := Lib.hid (List.drop_eq_getElem_cons hk')
      obtain ⟨b, off, rfl, hbl, x0, x1, x2⟩ := HC.out k hk'
      have HFL := Lib.hid (HF.out wr k hk' HB.out)
      obtain ⟨q, hq⟩ : ∃ q, FL xs[k] = q := ⟨_, rfl⟩
      rw [hq] at HFL
      have HQ := Lib.hid hq
      obtain ⟨⟨xo, xn, xt⟩, hx⟩ : ∃ x, x = xs[k] := ⟨_, rfl⟩
      rw [← hx] at x0 x1 x2 HFL
      simp only [] at x0 x1 x2 HFL
      have c0 : wr.cell? ⟨b, off + k * 3, none⟩ = some (.int .i64 xo) := (HB.out.cell (p := ⟨b, _, none⟩) hbl).trans x0
      have c1 : wr.cell? ⟨b, off + k * 3 + 1, none⟩ = some (.int .i64 xn) := (HB.out.cell (p := ⟨b, _, none⟩) hbl).trans x1
      have c2 : wr.cell? ⟨b, off + k * 3 + 2, none⟩ = some (.int .i64 xt) := (HB.out.cell (p := ⟨b, _, none⟩) hbl).trans x2
      clear x0 x1 x2 hx hq
      go_wp2_with fail
      refine HFL.out.mono ?_
      rintro e w2 ⟨rfl, hb2⟩
      have HB2 := Lib.hid (HB.out.trans (hb2.mono hww))
      clear hb2 c0 c1 c2
      cases q with
      | false =>
        go_wp2
        go_roundg (gk - 1)
        case measure => omega
        case rel =>
          refine ⟨k + 1, by go_num, by omega, by omega, ?_, HB2.out⟩
          have h2 := HA.out
          rw [HD.out, List.all_cons, HQ.out] at h2
          simpa using h2
      | true =>
        go_wp2
        go_ret
        refine ⟨k, rfl, ?_, HB2.out⟩
        have h2 := HA.out
        rw [HD.out, List.all_cons, HQ.out] at h2
        rw [← h2]; simp
    · have HE := Lib.hid (drop_over xs k (by have := HN.out; omega))
      go_wp2
      go_ret
      refine ⟨-1, rfl, ?_, HB.out⟩
      have := HA.out
      rw [HE.out] at this
      rw [← this]; rfl

set_option maxRecDepth 100000 in
set_option maxHeartbeats 400000 in
theorem opcont_any (xs : List Opn) (v : Value) (w : World) (hv : OpsD w v xs) (hn : xs.length ≤ 100000) (FL : Opn → Bool) (p1 p2 p3 : Nat)
    (hF : ∀ w' i, (hi : i < xs.length) → Below w.heap.size w w' → Calls Try.prog 45 #[.agg #[.int .i64 xs[i].op, .int .i64 xs[i].n, .int .i64 xs[i].t], .pointer (some ⟨p1, 0, none⟩), .pointer (some ⟨p2, 0, none⟩), .pointer (some ⟨p3, 0, none⟩)] w' fun e w'' => e = .returned (.bool (FL xs[i])) ∧ Below w'.heap.size w' w'') (b : Bool) (hb : (xs.all fun x => !FL x) = b) :
    Calls Try.prog 47 #[v, .func (.func 45) #[] #[.pointer (some ⟨p1, 0, none⟩), .pointer (some ⟨p2, 0, none⟩), .pointer (some ⟨p3, 0, none⟩)]] w fun e w' => e = .returned (.bool (!b)) ∧ Below w.heap.size w w' := by
  have H := opidx_any xs v w hv hn FL p1 p2 p3 hF
  rw [hb] at H
  clear hv hn hb hF
  go_enter Try.func47, Try.ntmps47
  go_wp2_with fail
  refine H.mono ?_
  rintro e w2 ⟨z, rfl, hz, hb2⟩
  have HZ := Lib.hid hz
  clear hz
  go_wp2
  go_ret
  exact ⟨ret_bool HZ.out, hb2⟩

set_option maxRecDepth 100000 in
set_option maxHeartbeats 2000000 in
theorem inidx_any (xs : List Int) (v : Value) (w : World) (hv : IntsD w v xs) (hn : xs.length ≤ 100000) (FL : Int → Bool) (p1 : Nat)
    (hF : ∀ w' i, (hi : i < xs.length) → Below w.heap.size w w' → Calls Try.prog 55 #[.int .i64 xs[i], .pointer (some ⟨p1, 0, none⟩)] w' fun e w'' => e = .returned (.bool (FL xs[i])) ∧ Below w'.heap.size w' w'') :
    Calls Try.prog 69 #[v, .func (.func 55) #[] #[.pointer (some ⟨p1, 0, none⟩)]] w (IdxAns (!(xs.all fun x => !FL x)) w) := by
  obtain ⟨B, hB⟩ : ∃ B, ((xs.drop 0).all fun x => !FL x) = B := ⟨_, rfl⟩
  rw [show (xs.all fun x => !FL x) = B from hB]
  have HB0 := Lib.hid hB
  obtain ⟨ad, cap, rfl, hcap1, hcap2, hc⟩ := hv
  have HC := Lib.hid hc
  have HF := Lib.hid hF
  obtain ⟨n, hN⟩ : ∃ n, n = xs.length := ⟨_, rfl⟩
  rw [← hN] at hn ⊢
  have HN := Lib.hid hN
  clear hN hB hc hF hcap1 hcap2
  go_enter Try.func69, Try.ntmps69
  go_wp2_with fail
  go_loopg [8] n (fun fuel i' wr => ∃ k : Nat, i' = .int .i64 k ∧ k ≤ n ∧ n - k ≤ fuel ∧ ((xs.drop k).all fun x => !FL x) = B ∧ Below w.heap.size w wr)
  case atStart => exact ⟨0, rfl, Nat.zero_le _, Nat.le_refl _, HB0.out, Below.refl _ _⟩
  case round =>
    obtain ⟨k, rfl, hk, hf, ha, hb⟩ := hrel
    have HA := Lib.hid ha
    have HB := Lib.hid hb
    have hww := hb.size
    clear ha hb
    by_cases hlt : k < n
    · have hk' : k < xs.length := by have := HN.out; omega
      have HD := Lib.hid (List.drop_eq_getElem_cons hk')
      obtain ⟨b, off, rfl, hbl, x0⟩ := HC.out k hk'
      have HFL := Lib.hid (HF.out wr k hk' HB.out)
      obtain ⟨q, hq⟩ : ∃ q, FL xs[k] = q := ⟨_, rfl⟩
      rw [hq] at HFL
      have HQ := Lib.hid hq
      obtain ⟨xn, hx⟩ : ∃ x, x = xs[k] := ⟨_, rfl⟩
      rw [← hx] at x0 HFL
      simp only [IntAt, Nat.mul_one] at x0 HFL
      have c0 : wr.cell? ⟨b, off + k, none⟩ = some (.int .i64 xn) := (HB.out.cell (p := ⟨b, _, none⟩) hbl).trans x0
      clear x0 hx hq
      go_wp2_with fail
      refine HFL.out.mono ?_
      rintro e w2 ⟨rfl, hb2⟩
      have HB2 := Lib.hid (HB.out.trans (hb2.mono hww))
      clear hb2 c0
      cases q with
      | false =>
        go_wp2
        go_roundg (gk - 1)
        case measure => omega
        case rel =>
          refine ⟨k + 1, by go_num, by omega, by omega, ?_, HB2.out⟩
          have h2 := HA.out
          rw [HD.out, List.all_cons, HQ.out] at h2
          simpa using h2
      | true =>
        go_wp2
        go_ret
        refine ⟨k, rfl, ?_, HB2.out⟩
        have h2 := HA.out
        rw [HD.out, List.all_cons, HQ.out] at h2
        rw [← h2]; simp
    · have HE := Lib.hid (drop_over xs k (by have := HN.out; omega))
      go_wp2
      go_ret
      refine ⟨-1, rfl, ?_, HB.out⟩
      have := HA.out
      rw [HE.out] at this
      rw [← this]; rfl

set_option maxRecDepth 100000 in
set_option maxHeartbeats 400000 in
theorem incont_any (xs : List Int) (v : Value) (w : World) (hv : IntsD w v xs) (hn : xs.length ≤ 100000) (FL : Int → Bool) (p1 : Nat)
    (hF : ∀ w' i, (hi : i < xs.length) → Below w.heap.size w w' → Calls Try.prog 55 #[.int .i64 xs[i], .pointer (some ⟨p1, 0, none⟩)] w' fun e w'' => e = .returned (.bool (FL xs[i])) ∧ Below w'.heap.size w' w'') (b : Bool) (hb : (xs.all fun x => !FL x) = b) :
    Calls Try.prog 57 #[v, .func (.func 55) #[] #[.pointer (some ⟨p1, 0, none⟩)]] w fun e w' => e = .returned (.bool (!b)) ∧ Below w.heap.size w w' := by
  have H := inidx_any xs v w hv hn FL p1 hF
  rw [hb] at H
  clear hv hn hb hF
  go_enter Try.func57, Try.ntmps57
  go_wp2_with fail
  refine H.mono ?_
  rintro e w2 ⟨z, rfl, hz, hb2⟩
  have HZ := Lib.hid hz
  clear hz
  go_wp2
  go_ret
  exact ⟨ret_bool HZ.out, hb2⟩

set_option maxRecDepth 100000 in
set_option maxHeartbeats 2000000 in
theorem alidx_any (xs : List (List Int × Value)) (v : Value) (w : World) (hv : AllD w v xs) (hn : xs.length ≤ 100000) (FL : (List Int × Value) → Bool) (p1 : Nat)
    (hF : ∀ w' i, (hi : i < xs.length) → Below w.heap.size w w' → Calls Try.prog 56 #[xs[i].2, .pointer (some ⟨p1, 0, none⟩)] w' fun e w'' => e = .returned (.bool (FL xs[i])) ∧ Below w'.heap.size w' w'') :
    Calls Try.prog 70 #[v, .func (.func 56) #[] #[.pointer (some ⟨p1, 0, none⟩)]] w (IdxAns (!(xs.all fun x => !FL x)) w) := by
  obtain ⟨B, hB⟩ : ∃ B, ((xs.drop 0).all fun x => !FL x) = B := ⟨_, rfl⟩
  rw [show (xs.all fun x => !FL x) = B from hB]
  have HB0 := Lib.hid hB
  obtain ⟨ad, cap, rfl, hcap1, hcap2, hc⟩ := hv
  have HC := Lib.hid hc
  have HF := Lib.hid hF
  obtain ⟨n, hN⟩ : ∃ n, n = xs.length := ⟨_, rfl⟩
  rw [← hN] at hn ⊢
  have HN := Lib.hid hN
  clear hN hB hc hF hcap1 hcap2
  go_enter Try.func70, Try.ntmps70
  go_wp2_with fail
  go_loopg [8] n (fun fuel i' wr => ∃ k : Nat, i' = .int .i64 k ∧ k ≤ n ∧ n - k ≤ fuel ∧ ((xs.drop k).all fun x => !FL x) = B ∧ Below w.heap.size w wr)
  case atStart => exact ⟨0, rfl, Nat.zero_le _, Nat.le_refl _, HB0.out, Below.refl _ _⟩
  case round =>
    obtain ⟨k, rfl, hk, hf, ha, hb⟩ := hrel
    have HA := Lib.hid ha
    have HB := Lib.hid hb
    have hww := hb.size
    clear ha hb
    by_cases hlt : k < n
    · have hk' : k < xs.length := by have := HN.out; omega
      have HD := Lib.hid (List.drop_eq_getElem_cons hk')
      obtain ⟨b, off, rfl, hbl, x0⟩ := HC.out k hk'
      have HFL := Lib.hid (HF.out wr k hk' HB.out)
      obtain ⟨q, hq⟩ : ∃ q, FL xs[k] = q := ⟨_, rfl⟩
      rw [hq] at HFL
      have HQ := Lib.hid hq
      obtain ⟨⟨xl, xv⟩, hx⟩ : ∃ x, x = xs[k] := ⟨_, rfl⟩
      rw [← hx] at x0 HFL
      simp only [RowAt, Nat.mul_one] at x0 HFL
      have c0 : wr.cell? ⟨b, off + k, none⟩ = some (xv) := (HB.out.cell (p := ⟨b, _, none⟩) hbl).trans x0.1
      clear x0 hx hq
      go_wp2_with fail
      refine HFL.out.mono ?_
      rintro e w2 ⟨rfl, hb2⟩
      have HB2 := Lib.hid (HB.out.trans (hb2.mono hww))
      clear hb2 c0
      cases q with
      | false =>
        go_wp2
        go_roundg (gk - 1)
        case measure => omega
        case rel =>
          refine ⟨k + 1, by go_num, by omega, by omega, ?_, HB2.out⟩
          have h2 := HA.out
          rw [HD.out, List.all_cons, HQ.out] at h2
          simpa using h2
      | true =>
        go_wp2
        go_ret
        refine ⟨k, rfl, ?_, HB2.out⟩
        have h2 := HA.out
        rw [HD.out, List.all_cons, HQ.out] at h2
        rw [← h2]; simp
    · have HE := Lib.hid (drop_over xs k (by have := HN.out; omega))
      go_wp2
      go_ret
      refine ⟨-1, rfl, ?_, HB.out⟩
      have := HA.out
      rw [HE.out] at this
      rw [← this]; rfl

set_option maxRecDepth 100000 in
set_option maxHeartbeats 400000 in
theorem alcont_any (xs : List (List Int × Value)) (v : Value) (w : World) (hv : AllD w v xs) (hn : xs.length ≤ 100000) (FL : (List Int × Value) → Bool) (p1 : Nat)
    (hF : ∀ w' i, (hi : i < xs.length) → Below w.heap.size w w' → Calls Try.prog 56 #[xs[i].2, .pointer (some ⟨p1, 0, none⟩)] w' fun e w'' => e = .returned (.bool (FL xs[i])) ∧ Below w'.heap.size w' w'') (b : Bool) (hb : (xs.all fun x => !FL x) = b) :
    Calls Try.prog 58 #[v, .func (.func 56) #[] #[.pointer (some ⟨p1, 0, none⟩)]] w fun e w' => e = .returned (.bool (!b)) ∧ Below w.heap.size w w' := by
  have H := alidx_any xs v w hv hn FL p1 hF
  rw [hb] at H
  clear hv hn hb hF
  go_enter Try.func58, Try.ntmps58
  go_wp2_with fail
  refine H.mono ?_
  rintro e w2 ⟨z, rfl, hz, hb2⟩
  have HZ := Lib.hid hz
  clear hz
  go_wp2
  go_ret
  exact ⟨ret_bool HZ.out, hb2⟩

end Go.Proofs.Ytibkegalbcjmpaa
