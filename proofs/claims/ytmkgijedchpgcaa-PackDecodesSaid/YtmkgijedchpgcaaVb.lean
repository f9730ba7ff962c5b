/- Layer 9, the code: numbers, Quiet, Ended, Final. -/
import Derived.Test.YtmkgijedchpgcaaVa
namespace Go.Proofs.Ytmkgijedchpgcaa
set_option linter.unusedSimpArgs false
set_option linter.unusedVariables false
open Go.RowKit

theorem nbelow_any (i n : Int) (w : World) : Calls Try.prog 36 #[.int .i64 i, .int .i64 n] w fun e w' => e = .returned (.bool (inB i n)) ∧ w = w' := by
  go_enter Try.func36, Try.ntmps36
  go_wp2
  all_goals
    go_ret
    exact ⟨ret_bool (by simp_all [inB] <;> omega), rfl⟩
theorem nbelow_is (i n : Int) (b : Bool) (h : inB i n = b) (w : World) : Calls Try.prog 36 #[.int .i64 i, .int .i64 n] w fun e w' => e = .returned (.bool b) ∧ w = w' := h ▸ nbelow_any i n w

set_option maxRecDepth 100000 in
set_option maxHeartbeats 2000000 in
theorem nidx_any (xs : List Int) (v : Value) (w : World) (hv : IntsD w v xs) (hn : xs.length ≤ 100000) (FL : Int → Bool) (p1 : Nat)
    (hF : ∀ w' i, (hi : i < xs.length) → Below w.heap.size w w' → Calls Try.prog 48 #[.int .i64 xs[i], .pointer (some ⟨p1, 0, none⟩)] w' fun e w'' => e = .returned (.bool (FL xs[i])) ∧ Below w'.heap.size w' w'') :
    Calls Try.prog 57 #[v, .func (.func 48) #[] #[.pointer (some ⟨p1, 0, none⟩)]] w (IdxAns (!(xs.all fun x => !FL x)) w) := by
  obtain ⟨B, hB⟩ : ∃ B, ((xs.drop 0).all fun x => !FL x) = B := ⟨_, rfl⟩
  rw [show (xs.all fun x => !FL x) = B from hB]
  have HB0 := Lib.hid hB
  obtain ⟨ad, cap, rfl, hcap1, hcap2, hc⟩ := hv
  have HC := Lib.hid hc
  have HF := Lib.hid hF
  obtain ⟨n, hN⟩ : ∃ n, n = xs.length := ⟨_, rfl⟩
  rw [← hN] at hn ⊢
  have HN := Lib.hid hN
  clear hN hB hc hF hcap1 hcap2
  go_enter Try.func57, Try.ntmps57
  go_wp2_with fail
  go_loopg [8] n (fun fuel i' wr => ∃ k : Nat, i' = .int .i64 k ∧ k ≤ n ∧ n - k ≤ fuel ∧ ((xs.drop k).all fun x => !FL x) = B ∧ Below w.heap.size w wr)
  case atStart => exact ⟨0, rfl, Nat.zero_le _, Nat.le_refl _, HB0.out, Below.refl _ _⟩
  case round =>
    obtain ⟨k, rfl, hk, hf, ha, hb⟩ := hrel
    have HA := Lib.hid ha
    have HB := Lib.hid hb
    have hww := hb.size
    clear ha hb
    by_cases hlt : k < n
    · have hk' : k < xs.length := by have := HN.out; omega
      have HD := Lib.hid (List.drop_eq_getElem_cons hk')
      obtain ⟨b, off, rfl, hbl, x0⟩ := HC.out k hk'
      have HFL := Lib.hid (HF.out wr k hk' HB.out)
      obtain ⟨q, hq⟩ : ∃ q, FL xs[k] = q := ⟨_, rfl⟩
      rw [hq] at HFL
      have HQ := Lib.hid hq
      obtain ⟨xn, hx⟩ : ∃ x, x = xs[k] := ⟨_, rfl⟩
      rw [← hx] at x0 HFL
      simp only [IntAt, Nat.mul_one] at x0 HFL
      have c0 : wr.cell? ⟨b, off + k, none⟩ = some (.int .i64 xn) := (HB.out.cell (p := ⟨b, _, none⟩) hbl).trans x0
      clear x0 hx hq
      go_wp2_with fail
      refine HFL.out.mono ?_
      rintro e w2 ⟨rfl, hb2⟩
      have HB2 := Lib.hid (HB.out.trans (hb2.mono hww))
      clear hb2 c0
      cases q with
      | false =>
        go_wp2
        go_roundg (gk - 1)
        case measure => omega
        case rel =>
          refine ⟨k + 1, by go_num, by omega, by omega, ?_, HB2.out⟩
          have h2 := HA.out
          rw [HD.out, List.all_cons, HQ.out] at h2
          simpa using h2
      | true =>
        go_wp2
        go_ret
        refine ⟨k, rfl, ?_, HB2.out⟩
        have h2 := HA.out
        rw [HD.out, List.all_cons, HQ.out] at h2
        rw [← h2]; simp
    · have HE := Lib.hid (drop_over xs k (by have := HN.out; omega))
      go_wp2
      go_ret
      refine ⟨-1, rfl, ?_, HB.out⟩
      have := HA.out
      rw [HE.out] at this
      rw [← this]; rfl

set_option maxRecDepth 100000 in
set_option maxHeartbeats 400000 in
theorem ncont_any (xs : List Int) (v : Value) (w : World) (hv : IntsD w v xs) (hn : xs.length ≤ 100000) (FL : Int → Bool) (p1 : Nat)
    (hF : ∀ w' i, (hi : i < xs.length) → Below w.heap.size w w' → Calls Try.prog 48 #[.int .i64 xs[i], .pointer (some ⟨p1, 0, none⟩)] w' fun e w'' => e = .returned (.bool (FL xs[i])) ∧ Below w'.heap.size w' w'') (b : Bool) (hb : (xs.all fun x => !FL x) = b) :
    Calls Try.prog 44 #[v, .func (.func 48) #[] #[.pointer (some ⟨p1, 0, none⟩)]] w fun e w' => e = .returned (.bool (!b)) ∧ Below w.heap.size w w' := by
  have H := nidx_any xs v w hv hn FL p1 hF
  rw [hb] at H
  clear hv hn hb hF
  go_enter Try.func44, Try.ntmps44
  go_wp2_with fail
  refine H.mono ?_
  rintro e w2 ⟨z, rfl, hz, hb2⟩
  have HZ := Lib.hid hz
  clear hz
  go_wp2
  go_ret
  exact ⟨ret_bool HZ.out, hb2⟩

theorem num1_any (x m : Int) (p : Nat) (w : World) (c0 : w.cell? ⟨p, 0, none⟩ = some (.int .i64 m)) (b : Bool) (hb : inB x m = b) :
    Calls Try.prog 48 #[.int .i64 x, .pointer (some ⟨p, 0, none⟩)] w fun e w' => e = .returned (.bool (!b)) ∧ Below w.heap.size w w' := by
  have l1 := World.block_lt_of_cell? w ⟨p, 0, none⟩ c0
  simp only [] at l1
  have H := Lib.hid (nbelow_is x m b hb)
  clear hb
  go_enter Try.func48, Try.ntmps48
  go_wp2_with (go_at_call 36; refine (H.out _).mono ?_; rintro e w2 ⟨rfl, rfl⟩)
  all_goals
    go_ret
    exact ⟨rfl, by first | exact Below.refl _ _ | exact (Below.refl _ _).alloc (Nat.le_refl _) _⟩

/-- So many numbers, each below mod. -/
def numB (l : List Int) (count mod : Int) : Bool := decide ((l.length : Int) = count) && l.all fun n => inB n mod

set_option maxRecDepth 100000 in
set_option maxHeartbeats 2000000 in
theorem numbers_any (l : List Int) (v : Value) (count m : Int) (w : World) (hv : IntsD w v l) (hn : l.length ≤ 100000) (q : Bool) (hq : numB l count m = q) :
    Calls Try.prog 37 #[v, .int .i64 count, .int .i64 m] w fun e w' => e = .returned (.bool q) ∧ Below w.heap.size w w' := by
  have HCT := Lib.hid (fun (W : World) (hbw : Below w.heap.size w W) (p : Nat) (hk : W.cell? ⟨p, 0, none⟩ = some (.int .i64 m)) =>
    ncont_any l v W (IntsD.below hv hbw) hn (fun x => !inB x m) p (fun w' i hi hbw' => num1_any l[i] m p w' ((hbw'.cell (p := ⟨p, 0, none⟩) (World.block_lt_of_cell? W ⟨p, 0, none⟩ hk)).trans hk) _ rfl) _ (all_notI l (fun x => inB x m)))
  have HQ : Hid ((decide ((l.length : Int) = count) && l.all fun n => inB n m) = q) := Lib.hid hq
  obtain ⟨ad, cap, rfl⟩ := hv.shape0
  generalize hA : (l.all fun x => inB x m) = qa at HCT HQ
  obtain ⟨n, hN⟩ : ∃ n, n = l.length := ⟨_, rfl⟩
  rw [← hN] at HCT HQ ⊢
  have K1 := Lib.hid (Bk.new w 3 #[.int .i64 m])
  have L1 : Hid (Below w.heap.size w (w.alloc (.cells #[.int .i64 m] 3))) := (Below.refl _ _).alloc (Nat.le_refl _) _
  clear hv hq hA hN
  by_cases h : (n : Int) = count
  · have g1 : ((n : Int) == count) = true := by simpa using h
    rw [decide_eq_true h] at HQ
    clear h
    go_enter Try.func37, Try.ntmps37
    go_wp2_with fail
    generalize w.alloc _ = w1 at K1 L1 ⊢
    refine (HCT.out w1 L1.out w.heap.size (K1.out.cell 0)).mono ?_
    rintro e w2 ⟨rfl, b2⟩
    have B2 := Lib.hid (L1.out.trans (b2.mono L1.out.size))
    clear b2
    go_wp2
    go_ret
    exact ⟨ret_bool (by rw [← HQ.out]; cases qa <;> rfl), B2.out⟩
  · have g1 : ((n : Int) == count) = false := by simpa using h
    rw [decide_eq_false h] at HQ
    clear h
    go_enter Try.func37, Try.ntmps37
    go_wp2_with fail
    go_ret
    exact ⟨ret_bool (by rw [← HQ.out]; rfl), L1.out⟩

end Go.Proofs.Ytmkgijedchpgcaa
