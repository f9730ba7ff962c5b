/- Layer 6: Right and Depth, of both. -/
import Derived.Test.YtibkegalbcjmpaaOc
namespace Go.Proofs.Ytibkegalbcjmpaa
open Go.RowKit

theorem ar_kind (o : Int) : (1 ≤ o ∧ o ≤ 4 ∧ ar o = 0) ∨ (o = 5 ∧ ar o = 1) ∨ (6 ≤ o ∧ o ≤ 14 ∧ ar o = 2) ∨ ((o < 1 ∨ 14 < o) ∧ ar o = -1) := by
  unfold ar
  by_cases h1 : 1 ≤ o ∧ o ≤ 4
  · rw [if_pos h1]; omega
  · rw [if_neg h1]
    by_cases h2 : o = 5
    · rw [if_pos h2]; omega
    · rw [if_neg h2]
      by_cases h3 : 6 ≤ o ∧ o ≤ 14
      · rw [if_pos h3]; omega
      · rw [if_neg h3]; omega

set_option maxRecDepth 100000 in
set_option maxHeartbeats 4000000 in
theorem lies_any (l : List Opn) (v : Value) (w : World) (hv : OpsD w v l) (hn : l.length ≤ 100000) (m0 k0 : Int) (hR : htsL l 0 0 = (m0, k0)) :
    Calls Try.prog 44 #[v] w fun e w' => e = .returned (.tuple #[.int .i64 k0, .int .i64 m0]) ∧ w = w' := by
  obtain ⟨ad, cap, rfl, hcap1, hcap2, hc⟩ := hv
  have HC := Lib.hid hc
  have HR0 : Hid (htsL (l.drop 0) 0 0 = (m0, k0)) := Lib.hid hR
  obtain ⟨n, hN⟩ : ∃ n, n = l.length := ⟨_, rfl⟩
  rw [← hN] at hn ⊢
  have HN := Lib.hid hN
  clear hN hc hcap1 hcap2 hR
  go_enter Try.func44, Try.ntmps44
  go_wp2_with fail
  go_loopg [4, 5, 6] n (fun fuel h' m' i' wr => ∃ (k : Nat) (m z : Int), i' = .int .i64 k ∧ m' = .int .i64 m ∧ h' = .int .i64 z ∧ k ≤ n ∧ n - k ≤ fuel ∧ 0 ≤ m ∧ m ≤ k ∧ 0 ≤ z ∧ z ≤ k ∧ htsL (l.drop k) m z = (m0, k0) ∧ w = wr)
  case atStart => exact ⟨0, 0, 0, rfl, rfl, rfl, Nat.zero_le _, Nat.le_refl _, by omega, by omega, by omega, by omega, HR0.out, rfl⟩
  case round =>
    obtain ⟨k, m, z, rfl, rfl, rfl, hk, hf, hm0, hm1, hh0, hh1, ha, rfl⟩ := hrel
    have HA := Lib.hid ha
    clear ha
    by_cases hlt : k < n
    · have hk' : k < l.length := by have := HN.out; omega
      have HE := Lib.hid (htsL_at l k hk' m z)
      obtain ⟨b, off, rfl, hbl, x0, x1, x2⟩ := HC.out k hk'
      obtain ⟨⟨xo, xn, xt⟩, hx⟩ : ∃ x, x = l[k] := ⟨_, rfl⟩
      rw [← hx] at x0 HE
      simp only [] at x0 HE
      have c0 : w.cell? ⟨b, off + k * 3, none⟩ = some (.int .i64 xo) := x0
      have HK := Lib.hid (ar_kind xo)
      clear x0 x1 x2 hx
      go_wp2
      all_goals
        rcases HK.out with h4 | h4 | h4 | h4
      all_goals try (exfalso; omega)
      all_goals first
        | (have h2 := HA.out
           rw [HE.out, if_pos (by omega)] at h2
           obtain ⟨rfl, rfl⟩ := Prod.mk.inj h2
           go_ret2
           exact ⟨rfl, rfl⟩)
        | (go_roundg (gk - 1)
           case measure => omega
           case rel =>
             have h2 := HA.out
             rw [HE.out, if_neg (by omega)] at h2
             exact ⟨k + 1, max m (z + 1 - ar xo), z + 1 - ar xo, by go_num, by congr 1; omega, by congr 1; omega, by omega, by omega, by omega, by omega, by omega, by omega, h2, rfl⟩)
    · have HE := Lib.hid (htsL_over l k (by have := HN.out; omega) m z)
      have h2 := HA.out
      rw [HE.out] at h2
      obtain ⟨rfl, rfl⟩ := Prod.mk.inj h2
      go_wp2
      go_ret2
      exact ⟨rfl, rfl⟩

theorem depth_code (l : List Opn) (v : Value) (w : World) (hv : OpsD w v l) (hn : l.length ≤ 100000) (m0 : Int) (hR : (htsL l 0 0).1 = m0) :
    Calls Try.prog 19 #[v] w fun e w' => e = .returned (.int .i64 m0) ∧ Below w.heap.size w w' := by
  have H := heights_any l v w hv hn _ _ (show htsL l 0 0 = (m0, (htsL l 0 0).2) by rw [← hR])
  obtain ⟨z, hz⟩ : ∃ z, z = (htsL l 0 0).2 := ⟨_, rfl⟩
  rw [← hz] at H
  obtain ⟨ad, cap, rfl⟩ := hv.shape
  clear hv hn hR hz
  go_enter Try.func19, Try.ntmps19
  go_wp2_with fail
  refine H.mono ?_
  rintro e w1 ⟨rfl, b1⟩
  go_wp2
  go_ret
  exact ⟨rfl, b1⟩

theorem rdepth_code (l : List Opn) (v : Value) (w : World) (hv : OpsD w v l) (hn : l.length ≤ 100000) (m0 : Int) (hR : (htsL l 0 0).1 = m0) :
    Calls Try.prog 20 #[v] w fun e w' => e = .returned (.int .i64 m0) ∧ w = w' := by
  have H := lies_any l v w hv hn _ _ (show htsL l 0 0 = (m0, (htsL l 0 0).2) by rw [← hR])
  obtain ⟨z, hz⟩ : ∃ z, z = (htsL l 0 0).2 := ⟨_, rfl⟩
  rw [← hz] at H
  obtain ⟨ad, cap, rfl⟩ := hv.shape
  clear hv hn hR hz
  go_enter Try.func20, Try.ntmps20
  go_wp2_with fail
  refine H.mono ?_
  rintro e w1 ⟨rfl, rfl⟩
  go_wp2
  go_ret
  exact ⟨rfl, rfl⟩

end Go.Proofs.Ytibkegalbcjmpaa
