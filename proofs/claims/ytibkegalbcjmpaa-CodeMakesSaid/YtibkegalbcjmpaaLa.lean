/- Layer 6: the names of a program's locations and threads, by the reference. -/
import Derived.Test.YtibkegalbcjmpaaOs
namespace Go.Proofs.Ytibkegalbcjmpaa
open Go.RowKit

set_option maxRecDepth 100000 in
set_option maxHeartbeats 4000000 in
theorem rlocs_any (xs : List (ByteArray × Int × Int)) (m : Int) (v1 v2 v3 : Value) (w : World) (hv : VnsD w v1 xs) (hn : xs.length ≤ 100000) (h1 : ∃ a n c, v1 = .slice a n c) (h2 : ∃ a n c, v2 = .slice a n c) (h3 : ∃ a n c, v3 = .slice a n c) :
    Calls Try.prog 35 #[.agg #[.int .i64 m, v1, v2, v3]] w (NAns (xs.map (·.1)) w) := by
  have BB : Hid (Below w.heap.size w (w.alloc (.cells #[.int .i64 m, v1, v2, v3] 28))) := Lib.hid ((Below.refl _ _).alloc (Nat.le_refl _) _)
  have KB := Lib.hid (Bk.new w 28 #[.int .i64 m, v1, v2, v3])
  obtain ⟨ad1, n1, cap1, rfl⟩ := h1
  obtain ⟨ad2, n2, cap2, rfl⟩ := h2
  obtain ⟨ad3, n3, cap3, rfl⟩ := h3
  obtain ⟨ad, cap, hvv, hcap1, hcap2, hc⟩ := hv
  obtain ⟨rfl, rfl, rfl⟩ := Value.slice.inj hvv
  have HC := Lib.hid hc
  obtain ⟨n, hN⟩ : ∃ n, n = xs.length := ⟨_, rfl⟩
  rw [← hN] at BB KB hn ⊢
  have HN := Lib.hid hN
  obtain ⟨wb, hwb⟩ : ∃ wb, wb = w.alloc (.cells #[.int .i64 m, .slice ad1 n cap1, .slice ad2 n2 cap2, .slice ad3 n3 cap3] 28) := ⟨_, rfl⟩
  rw [← hwb] at BB KB
  have HWB := Lib.hid hwb
  clear hN hc hcap1 hcap2 hvv hwb
  go_enter Try.func35, Try.ntmps35
  go_wp2_with fail
  rw [← HWB.out]
  go_loopg [3, 4] n (fun fuel v' i' wr => ∃ (k : Nat) (ad9 : Option Addr) (cap9 : Nat), i' = .int .i64 k ∧ k ≤ n ∧ n - k ≤ fuel ∧ v' = .slice ad9 k cap9 ∧ wr.ownsRow wb.heap.size 9 1 (.slice ad9 k cap9) k (nmK (·.1) xs k) ∧ Below wb.heap.size wb wr)
  case atStart => exact ⟨0, none, 0, rfl, Nat.zero_le _, Nat.le_refl _, rfl, ⟨rfl, .inl ⟨rfl, rfl⟩⟩, Below.refl _ _⟩
  case round =>
    obtain ⟨k, ad9, cap9, rfl, hk, hf, rfl, ho, hb⟩ := hrel
    have HO := Lib.hid ho
    have HB := Lib.hid hb
    have hsz := hb.size
    have k1 := (KB.out.below hb).cell 1
    have k2 := (KB.out.below hb).cell 2
    have kl := (KB.out.below hb).lt
    clear ho hb
    by_cases hlt : k < n
    · have hk' : k < xs.length := by have := HN.out; omega
      have HTK := Lib.hid (take_strV (·.1) xs k hk')
      have BW := Lib.hid (BB.out.trans (HB.out.mono BB.out.size))
      obtain ⟨b, off, rfl, hbl, x0, x1, x2⟩ := HC.out k hk'
      obtain ⟨⟨xn, xv, xp⟩, hx⟩ : ∃ x, x = xs[k] := ⟨_, rfl⟩
      rw [← hx] at x0 x1 x2 HTK
      simp only [] at x0 x1 x2 HTK
      have c0 : wr.cell? ⟨b, off + k * 3, none⟩ = some (.string xn) := (BW.out.cell (p := ⟨b, _, none⟩) hbl).trans x0
      have c1 : wr.cell? ⟨b, off + k * 3 + 1, none⟩ = some (.int .i64 xv) := (BW.out.cell (p := ⟨b, _, none⟩) hbl).trans x1
      have c2 : wr.cell? ⟨b, off + k * 3 + 2, none⟩ = some (.int .i64 xp) := (BW.out.cell (p := ⟨b, _, none⟩) hbl).trans x2
      clear x0 x1 x2 hx
      clear BW
      have L1 : Hid (Below wr.heap.size wr (wr.alloc (.cells #[.string xn] 9))) := (Below.refl _ _).alloc (Nat.le_refl _) _
      have K1 := Lib.hid ((Bk.new wr 9 #[.string xn]).cell 0)
      go_wp2_with (at_builtin; refine append_str rfl _ _ rfl wb.heap.size k _ _ xn rfl wr.heap.size rfl (own_below HO.out L1.out) K1.out (by omega) (Nat.le_trans hsz L1.out.size) ?_; intro v9 w9 hown9 hb9)
      obtain ⟨ad4, cap4, rfl, _⟩ := own_shape' hown9
      have HB9 := Lib.hid (HB.out.trans ((L1.out.mono hsz).trans hb9))
      have HO9 := Lib.hid hown9
      clear hown9 hb9
      go_wp2_with fail
      go_roundg (gk - 1)
      case measure => omega
      case rel => exact ⟨k + 1, ad4, cap4, by go_num, by omega, by omega, rfl, by rw [HTK.out]; exact HO9.out, HB9.out⟩
    · obtain rfl : k = n := by omega
      have ho := HO.out
      rw [nmK_full _ _ _ (by rw [HN.out]; exact Nat.le_refl _)] at ho
      have HO9 := Lib.hid (own_mono ho BB.out.size)
      clear ho
      go_wp2
      go_ret
      refine ⟨_, rfl, ?_, BB.out.trans (HB.out.mono BB.out.size)⟩
      rw [List.length_map, ← HN.out]
      exact HO9.out

set_option maxRecDepth 100000 in
set_option maxHeartbeats 4000000 in
theorem rthreads_any (xs : List (TN)) (m : Int) (v1 v2 v3 : Value) (w : World) (hv : TnsD w v2 xs) (hn : xs.length ≤ 100000) (h1 : ∃ a n c, v1 = .slice a n c) (h2 : ∃ a n c, v2 = .slice a n c) (h3 : ∃ a n c, v3 = .slice a n c) :
    Calls Try.prog 36 #[.agg #[.int .i64 m, v1, v2, v3]] w (NAns (xs.map (·.nm)) w) := by
  have BB : Hid (Below w.heap.size w (w.alloc (.cells #[.int .i64 m, v1, v2, v3] 28))) := Lib.hid ((Below.refl _ _).alloc (Nat.le_refl _) _)
  have KB := Lib.hid (Bk.new w 28 #[.int .i64 m, v1, v2, v3])
  obtain ⟨ad1, n1, cap1, rfl⟩ := h1
  obtain ⟨ad2, n2, cap2, rfl⟩ := h2
  obtain ⟨ad3, n3, cap3, rfl⟩ := h3
  obtain ⟨ad, cap, hvv, hcap1, hcap2, hc⟩ := hv
  obtain ⟨rfl, rfl, rfl⟩ := Value.slice.inj hvv
  have HC := Lib.hid hc
  obtain ⟨n, hN⟩ : ∃ n, n = xs.length := ⟨_, rfl⟩
  rw [← hN] at BB KB hn ⊢
  have HN := Lib.hid hN
  obtain ⟨wb, hwb⟩ : ∃ wb, wb = w.alloc (.cells #[.int .i64 m, .slice ad1 n1 cap1, .slice ad2 n cap2, .slice ad3 n3 cap3] 28) := ⟨_, rfl⟩
  rw [← hwb] at BB KB
  have HWB := Lib.hid hwb
  clear hN hc hcap1 hcap2 hvv hwb
  go_enter Try.func36, Try.ntmps36
  go_wp2_with fail
  rw [← HWB.out]
  go_loopg [3, 4] n (fun fuel v' i' wr => ∃ (k : Nat) (ad9 : Option Addr) (cap9 : Nat), i' = .int .i64 k ∧ k ≤ n ∧ n - k ≤ fuel ∧ v' = .slice ad9 k cap9 ∧ wr.ownsRow wb.heap.size 9 1 (.slice ad9 k cap9) k (nmK (·.nm) xs k) ∧ Below wb.heap.size wb wr)
  case atStart => exact ⟨0, none, 0, rfl, Nat.zero_le _, Nat.le_refl _, rfl, ⟨rfl, .inl ⟨rfl, rfl⟩⟩, Below.refl _ _⟩
  case round =>
    obtain ⟨k, ad9, cap9, rfl, hk, hf, rfl, ho, hb⟩ := hrel
    have HO := Lib.hid ho
    have HB := Lib.hid hb
    have hsz := hb.size
    have k1 := (KB.out.below hb).cell 1
    have k2 := (KB.out.below hb).cell 2
    have kl := (KB.out.below hb).lt
    clear ho hb
    by_cases hlt : k < n
    · have hk' : k < xs.length := by have := HN.out; omega
      have HTK := Lib.hid (take_strV (·.nm) xs k hk')
      have BW := Lib.hid (BB.out.trans (HB.out.mono BB.out.size))
      obtain ⟨b, off, rfl, hbl, ⟨x0, x1, x2, x3⟩, hst⟩ := HC.out k hk'
      obtain ⟨⟨xn, tr, trv, tba, tbl, tbc, tp⟩, hx⟩ : ∃ x, x = xs[k] := ⟨_, rfl⟩
      rw [← hx] at x0 x1 x2 x3 HTK hst
      simp only [] at x0 x1 x2 x3 HTK hst
      obtain ⟨ra, rc, rfl⟩ := hst.shape
      generalize tr.length = rl at x1
      have c0 : wr.cell? ⟨b, off + k * 4, none⟩ = some (.string xn) := (BW.out.cell (p := ⟨b, _, none⟩) hbl).trans x0
      have c1 : wr.cell? ⟨b, off + k * 4 + 1, none⟩ = some (.slice ra rl rc) := (BW.out.cell (p := ⟨b, _, none⟩) hbl).trans x1
      have c2 : wr.cell? ⟨b, off + k * 4 + 2, none⟩ = some (.slice tba tbl tbc) := (BW.out.cell (p := ⟨b, _, none⟩) hbl).trans x2
      have c3 : wr.cell? ⟨b, off + k * 4 + 3, none⟩ = some (.int .i64 tp) := (BW.out.cell (p := ⟨b, _, none⟩) hbl).trans x3
      clear x0 x1 x2 x3 hx hst
      clear BW
      have L1 : Hid (Below wr.heap.size wr (wr.alloc (.cells #[.string xn] 9))) := (Below.refl _ _).alloc (Nat.le_refl _) _
      have K1 := Lib.hid ((Bk.new wr 9 #[.string xn]).cell 0)
      go_wp2_with (at_builtin; refine append_str rfl _ _ rfl wb.heap.size k _ _ xn rfl wr.heap.size rfl (own_below HO.out L1.out) K1.out (by omega) (Nat.le_trans hsz L1.out.size) ?_; intro v9 w9 hown9 hb9)
      obtain ⟨ad4, cap4, rfl, _⟩ := own_shape' hown9
      have HB9 := Lib.hid (HB.out.trans ((L1.out.mono hsz).trans hb9))
      have HO9 := Lib.hid hown9
      clear hown9 hb9
      go_wp2_with fail
      go_roundg (gk - 1)
      case measure => omega
      case rel => exact ⟨k + 1, ad4, cap4, by go_num, by omega, by omega, rfl, by rw [HTK.out]; exact HO9.out, HB9.out⟩
    · obtain rfl : k = n := by omega
      have ho := HO.out
      rw [nmK_full _ _ _ (by rw [HN.out]; exact Nat.le_refl _)] at ho
      have HO9 := Lib.hid (own_mono ho BB.out.size)
      clear ho
      go_wp2
      go_ret
      refine ⟨_, rfl, ?_, BB.out.trans (HB.out.mono BB.out.size)⟩
      rw [List.length_map, ← HN.out]
      exact HO9.out

end Go.Proofs.Ytibkegalbcjmpaa
