/- Code's operators; ContainsFunc over steps. -/
import Derived.Test.YtmkgijedchpgcaaUa
namespace Go.Proofs.Ytmkgijedchpgcaa
set_option linter.unusedSimpArgs false
set_option linter.unusedVariables false
open Go.RowKit

theorem below_any (i n : Int) (w : World) : Calls Try.prog 67 #[.int .i64 i, .int .i64 n] w fun e w' => e = .returned (.bool (inB i n)) ∧ w = w' := by
  go_enter Try.func67, Try.ntmps67
  go_wp2
  all_goals
    go_ret
    exact ⟨ret_bool (by simp_all [inB] <;> omega), rfl⟩

theorem rin_any (i n : Int) (w : World) : Calls Try.prog 42 #[.int .i64 i, .int .i64 n] w fun e w' => e = .returned (.bool (inB i n)) ∧ w = w' := by
  go_enter Try.func42, Try.ntmps42
  go_wp2
  all_goals
    go_ret
    exact ⟨ret_bool (by simp_all [inB] <;> omega), rfl⟩

/-- The operation of an operator, as a function. -/
def fnO (op : Int) : Value :=
  if op = 5 then .func (.func 72) #[] #[] else if op = 6 then .func (.func 74) #[] #[]
  else if op = 7 then .func (.func 75) #[] #[] else if op = 8 then .func (.func 76) #[] #[]
  else if op = 9 then .func (.func 77) #[] #[] else if op = 10 then .func (.func 78) #[] #[]
  else if op = 11 then .func (.func 79) #[] #[] else if op = 12 then .func (.func 80) #[] #[]
  else if op = 13 then .func (.func 81) #[] #[] else if op = 14 then .func (.func 82) #[] #[] else .nilFunc

set_option maxRecDepth 100000 in
set_option maxHeartbeats 2000000 in
theorem opOf_any (op : Int) (w : World) : Calls Try.prog 70 #[.int .i64 op] w fun e w' => e = .returned (.agg #[.int .i64 (ar op), fnO op]) ∧ Below w.heap.size w w' := by
  go_enter Try.func70, Try.ntmps70
  go_wp2
  all_goals
    refine bodyPost_ret (by simp [results, Try.results70, go_sem]; rfl) rfl ⟨?_, (Below.refl _ _).alloc (Nat.le_refl _) _⟩
    refine congrArg Ending.returned (congrArg Value.agg ?_)
    first | (have ho := eq_of_beq (by assumption : (op == _) = true); subst ho; rfl) | skip
  all_goals
    have hn : ¬ op = 1 ∧ ¬ op = 2 ∧ ¬ op = 3 ∧ ¬ op = 4 ∧ ¬ op = 5 ∧ ¬ op = 6 ∧ ¬ op = 7 ∧ ¬ op = 8 ∧ ¬ op = 9 ∧ ¬ op = 10 ∧ ¬ op = 11 ∧ ¬ op = 12 ∧ ¬ op = 13 ∧ ¬ op = 14 := by simp_all
    have h1 : ar op = -1 := by unfold ar; rw [if_neg (by omega), if_neg (by omega), if_neg (by omega)]
    have h2 : fnO op = .nilFunc := by
      unfold fnO
      rw [if_neg (by omega), if_neg (by omega), if_neg (by omega), if_neg (by omega), if_neg (by omega), if_neg (by omega), if_neg (by omega), if_neg (by omega), if_neg (by omega), if_neg (by omega)]
    rw [h1, h2]

/-- The operator's numbers alone. -/
theorem opOf_n (op a : Int) (h : ar op = a) (w : World) : Calls Try.prog 70 #[.int .i64 op] w fun e w' => (∃ f, e = .returned (.agg #[.int .i64 a, f])) ∧ Below w.heap.size w w' := by
  subst h
  exact (opOf_any op w).mono fun _ _ ⟨h, k⟩ => ⟨⟨_, h⟩, k⟩

set_option maxRecDepth 100000 in
set_option maxHeartbeats 2000000 in
theorem heights_any (l : List Opn) (v : Value) (w : World) (hv : OpsD w v l) (hn : l.length ≤ 100000) (m0 k0 : Int) (hR : htsL l 0 0 = (m0, k0)) :
    Calls Try.prog 68 #[v] w fun e w' => e = .returned (.tuple #[.int .i64 m0, .int .i64 k0]) ∧ Below w.heap.size w w' := by
  obtain ⟨ad, cap, rfl, hcap1, hcap2, hc⟩ := hv
  have HC := Lib.hid hc
  have HR0 : Hid (htsL (l.drop 0) 0 0 = (m0, k0)) := Lib.hid hR
  obtain ⟨n, hN⟩ : ∃ n, n = l.length := ⟨_, rfl⟩
  rw [← hN] at hn ⊢
  have HN := Lib.hid hN
  clear hN hc hcap1 hcap2 hR
  go_enter Try.func68, Try.ntmps68
  go_wp2_with fail
  go_loopg [2, 3, 9] n (fun fuel m' h' i' wr => ∃ (k : Nat) (m z : Int), i' = .int .i64 k ∧ m' = .int .i64 m ∧ h' = .int .i64 z ∧ k ≤ n ∧ n - k ≤ fuel ∧ 0 ≤ m ∧ m ≤ k ∧ 0 ≤ z ∧ z ≤ k ∧ htsL (l.drop k) m z = (m0, k0) ∧ Below w.heap.size w wr)
  case atStart => exact ⟨0, 0, 0, rfl, rfl, rfl, Nat.zero_le _, Nat.le_refl _, by omega, by omega, by omega, by omega, HR0.out, Below.refl _ _⟩
  case round =>
    obtain ⟨k, m, z, rfl, rfl, rfl, hk, hf, hm0, hm1, hh0, hh1, ha, hb⟩ := hrel
    have HA := Lib.hid ha
    have HB := Lib.hid hb
    have hww := hb.size
    clear ha hb
    by_cases hlt : k < n
    · have hk' : k < l.length := by have := HN.out; omega
      have HE := Lib.hid (htsL_at l k hk' m z)
      obtain ⟨b, off, rfl, hbl, x0, x1, x2⟩ := HC.out k hk'
      obtain ⟨⟨xo, xn, xt⟩, hx⟩ : ∃ x, x = l[k] := ⟨_, rfl⟩
      rw [← hx] at x0 x1 x2 HE
      simp only [] at x0 x1 x2 HE
      obtain ⟨a, har⟩ : ∃ a, a = ar xo := ⟨_, rfl⟩
      have hac := ar_cases xo
      rw [← har] at HE hac
      have hac1 : -1 ≤ a ∧ a ≤ 2 := by omega
      obtain ⟨hac2, hac3⟩ := hac1
      have HOP := Lib.hid (opOf_n xo a har.symm)
      have c0 : wr.cell? ⟨b, off + k * 3, none⟩ = some (.int .i64 xo) := (HB.out.cell (p := ⟨b, _, none⟩) hbl).trans x0
      have c1 : wr.cell? ⟨b, off + k * 3 + 1, none⟩ = some (.int .i64 xn) := (HB.out.cell (p := ⟨b, _, none⟩) hbl).trans x1
      have c2 : wr.cell? ⟨b, off + k * 3 + 2, none⟩ = some (.int .i64 xt) := (HB.out.cell (p := ⟨b, _, none⟩) hbl).trans x2
      clear x0 x1 x2 hx har hac
      by_cases h1 : a < 0
      · go_wp2_with fail
        refine (HOP.out _).mono ?_
        rintro e w2 ⟨⟨fv, rfl⟩, hb2⟩
        have hfl : ∀ W, (Instr.field 104 (.agg #[.int .i64 a, fv]) 0).run Try.prog W = .ok (.int .i64 a) W := fun W => by kernel_rfl
        have HB2 := Lib.hid ((HB.out.alloc hww _).trans (hb2.mono (by simp; omega)))
        clear hb2 c0 c1 c2
        go_wp2
        have h2 := HA.out
        rw [HE.out, if_pos (.inl h1)] at h2
        obtain ⟨rfl, rfl⟩ := Prod.mk.inj h2
        go_ret2
        exact ⟨rfl, HB2.out⟩
      · by_cases h3 : z < a
        · go_wp2_with fail
          refine (HOP.out _).mono ?_
          rintro e w2 ⟨⟨fv, rfl⟩, hb2⟩
          have hfl : ∀ W, (Instr.field 104 (.agg #[.int .i64 a, fv]) 0).run Try.prog W = .ok (.int .i64 a) W := fun W => by kernel_rfl
          have HB2 := Lib.hid ((HB.out.alloc hww _).trans (hb2.mono (by simp; omega)))
          clear hb2 c0 c1 c2
          go_wp2
          have h2 := HA.out
          rw [HE.out, if_pos (.inr h3)] at h2
          obtain ⟨rfl, rfl⟩ := Prod.mk.inj h2
          go_ret2
          exact ⟨rfl, HB2.out⟩
        · go_wp2_with fail
          refine (HOP.out _).mono ?_
          rintro e w2 ⟨⟨fv, rfl⟩, hb2⟩
          have hfl : ∀ W, (Instr.field 104 (.agg #[.int .i64 a, fv]) 0).run Try.prog W = .ok (.int .i64 a) W := fun W => by kernel_rfl
          have HB2 := Lib.hid ((HB.out.alloc hww _).trans (hb2.mono (by simp; omega)))
          clear hb2 c0 c1 c2
          go_wp2
          all_goals
            go_roundg (gk - 1)
            case measure => omega
            case rel =>
              have h2 := HA.out
              rw [HE.out, if_neg (by omega)] at h2
              refine ⟨k + 1, max m (z + 1 - a), z + 1 - a, by go_num, ?_, ?_, by omega, by omega, by omega, by omega, by omega, by omega, h2, HB2.out⟩
              · congr 1; omega
              · congr 1; omega
    · have HE := Lib.hid (htsL_over l k (by have := HN.out; omega) m z)
      have h2 := HA.out
      rw [HE.out] at h2
      obtain ⟨rfl, rfl⟩ := Prod.mk.inj h2
      go_wp2
      go_ret2
      exact ⟨rfl, HB.out⟩

def IdxAns (b : Bool) (w : World) (e : Ending) (w' : World) : Prop := ∃ z : Int, e = .returned (.int .i64 z) ∧ decide (0 ≤ z) = b ∧ Below w.heap.size w w'

set_option maxRecDepth 100000 in
set_option maxHeartbeats 2000000 in
theorem opidx_any (xs : List Opn) (v : Value) (w : World) (hv : OpsD w v xs) (hn : xs.length ≤ 100000) (FL : Opn → Bool) (p1 p2 p3 : Nat)
    (hF : ∀ w' i, (hi : i < xs.length) → Below w.heap.size w w' → Calls Try.prog 66 #[.agg #[.int .i64 xs[i].op, .int .i64 xs[i].n, .int .i64 xs[i].t], .pointer (some ⟨p1, 0, none⟩), .pointer (some ⟨p2, 0, none⟩), .pointer (some ⟨p3, 0, none⟩)] w' fun e w'' => e = .returned (.bool (FL xs[i])) ∧ Below w'.heap.size w' w'') :
    Calls Try.prog 71 #[v, .func (.func 66) #[] #[.pointer (some ⟨p1, 0, none⟩), .pointer (some ⟨p2, 0, none⟩), .pointer (some ⟨p3, 0, none⟩)]] w (IdxAns (!(xs.all fun x => !FL x)) w) := by
  obtain ⟨B, hB⟩ : ∃ B, ((xs.drop 0).all fun x => !FL x) = B := ⟨_, rfl⟩
  rw [show (xs.all fun x => !FL x) = B from hB]
  have HB0 := Lib.hid hB
  obtain ⟨ad, cap, rfl, hcap1, hcap2, hc⟩ := hv
  have HC := Lib.hid hc
  have HF := Lib.hid hF
  obtain ⟨n, hN⟩ : ∃ n, n = xs.length := ⟨_, rfl⟩
  rw [← hN] at hn ⊢
  have HN := Lib.hid hN
  clear hN hB hc hF hcap1 hcap2
  go_enter Try.func71, Try.ntmps71
  go_wp2_with fail
  go_loopg [8] n (fun fuel i' wr => ∃ k : Nat, i' = .int .i64 k ∧ k ≤ n ∧ n - k ≤ fuel ∧ ((xs.drop k).all fun x => !FL x) = B ∧ Below w.heap.size w wr)
  case atStart => exact ⟨0, rfl, Nat.zero_le _, Nat.le_refl _, HB0.out, Below.refl _ _⟩
  case round =>
    obtain ⟨k, rfl, hk, hf, ha, hb⟩ := hrel
    have HA := Lib.hid ha
    have HB := Lib.hid hb
    have hww := hb.size
    clear ha hb
    by_cases hlt : k < n
    · have hk' : k < xs.length := by have := HN.out; omega
      have HD := Lib.hid (List.drop_eq_getElem_cons hk')
      obtain ⟨b, off, rfl, hbl, x0, x1, x2⟩ := HC.out k hk'
      have HFL := Lib.hid (HF.out wr k hk' HB.out)
      obtain ⟨q, hq⟩ : ∃ q, FL xs[k] = q := ⟨_, rfl⟩
      rw [hq] at HFL
      have HQ := Lib.hid hq
      obtain ⟨⟨xo, xn, xt⟩, hx⟩ : ∃ x, x = xs[k] := ⟨_, rfl⟩
      rw [← hx] at x0 x1 x2 HFL
      simp only [] at x0 x1 x2 HFL
      have c0 : wr.cell? ⟨b, off + k * 3, none⟩ = some (.int .i64 xo) := (HB.out.cell (p := ⟨b, _, none⟩) hbl).trans x0
      have c1 : wr.cell? ⟨b, off + k * 3 + 1, none⟩ = some (.int .i64 xn) := (HB.out.cell (p := ⟨b, _, none⟩) hbl).trans x1
      have c2 : wr.cell? ⟨b, off + k * 3 + 2, none⟩ = some (.int .i64 xt) := (HB.out.cell (p := ⟨b, _, none⟩) hbl).trans x2
      clear x0 x1 x2 hx hq
      go_wp2_with fail
      refine HFL.out.mono ?_
      rintro e w2 ⟨rfl, hb2⟩
      have HB2 := Lib.hid (HB.out.trans (hb2.mono hww))
      clear hb2 c0 c1 c2
      cases q with
      | false =>
        go_wp2
        go_roundg (gk - 1)
        case measure => omega
        case rel =>
          refine ⟨k + 1, by go_num, by omega, by omega, ?_, HB2.out⟩
          have h2 := HA.out
          rw [HD.out, List.all_cons, HQ.out] at h2
          simpa using h2
      | true =>
        go_wp2
        go_ret
        refine ⟨k, rfl, ?_, HB2.out⟩
        have h2 := HA.out
        rw [HD.out, List.all_cons, HQ.out] at h2
        rw [← h2]; simp
    · have HE := Lib.hid (drop_over xs k (by have := HN.out; omega))
      go_wp2
      go_ret
      refine ⟨-1, rfl, ?_, HB.out⟩
      have := HA.out
      rw [HE.out] at this
      rw [← this]; rfl

set_option maxRecDepth 100000 in
set_option maxHeartbeats 400000 in
theorem opcont_any (xs : List Opn) (v : Value) (w : World) (hv : OpsD w v xs) (hn : xs.length ≤ 100000) (FL : Opn → Bool) (p1 p2 p3 : Nat)
    (hF : ∀ w' i, (hi : i < xs.length) → Below w.heap.size w w' → Calls Try.prog 66 #[.agg #[.int .i64 xs[i].op, .int .i64 xs[i].n, .int .i64 xs[i].t], .pointer (some ⟨p1, 0, none⟩), .pointer (some ⟨p2, 0, none⟩), .pointer (some ⟨p3, 0, none⟩)] w' fun e w'' => e = .returned (.bool (FL xs[i])) ∧ Below w'.heap.size w' w'') (b : Bool) (hb : (xs.all fun x => !FL x) = b) :
    Calls Try.prog 69 #[v, .func (.func 66) #[] #[.pointer (some ⟨p1, 0, none⟩), .pointer (some ⟨p2, 0, none⟩), .pointer (some ⟨p3, 0, none⟩)]] w fun e w' => e = .returned (.bool (!b)) ∧ Below w.heap.size w w' := by
  have H := opidx_any xs v w hv hn FL p1 p2 p3 hF
  rw [hb] at H
  clear hv hn hb hF
  go_enter Try.func69, Try.ntmps69
  go_wp2_with fail
  refine H.mono ?_
  rintro e w2 ⟨z, rfl, hz, hb2⟩
  have HZ := Lib.hid hz
  clear hz
  go_wp2
  go_ret
  exact ⟨ret_bool HZ.out, hb2⟩

end Go.Proofs.Ytmkgijedchpgcaa
