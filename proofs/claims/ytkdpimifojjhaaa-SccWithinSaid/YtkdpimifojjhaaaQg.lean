/- Layer 17, the code: slices.Clone, slices.Repeat. -/
import Derived.Test.YtkdpimifojjhaaaQd
import Derived.Shelf.Bits.Mul64
import Derived.Lib.SliceRun
import Derived.Laws.CopyOwn
import Derived.Deep.RegionLaw
namespace Go.Proofs.Ytkdpimifojjhaaa
set_option linter.unusedSimpArgs false
set_option linter.unusedVariables false
open Go.RowKit

theorem ints_cells {w : World} {a : Addr} {n cap : Nat} {l : List Int} (h : IntsD w (.slice (some a) n cap) l) : ∀ j u, (ints l)[j]? = some u → w.cell? (a.add j) = some u := by
  intro j u hu
  have hj : j < l.length := by rw [← ints_len]; exact (List.getElem?_eq_some_iff.1 hu).1
  obtain ⟨b, off, e, _, hc⟩ := IntsD.at2 h j hj
  injection e with e
  rw [e, addr_add', hc]
  unfold ints at hu
  rw [List.getElem?_map, List.getElem?_eq_getElem hj] at hu
  exact hu
set_option maxRecDepth 100000 in
set_option maxHeartbeats 4000000 in
theorem clone_any (l : List Int) (v : Value) (w : World) (hd : IntsD w v l) (h1 : 1 ≤ l.length) (hn : l.length ≤ 1000000) :
    Calls Try.prog 41 #[v] w fun e w' => ∃ v', e = .returned v' ∧ w'.ownsRow w.heap.size 3 1 v' l.length (ints l) ∧ Below w.heap.size w w' := by
  obtain ⟨ad, cap, rfl⟩ := hd.shape0
  obtain ⟨b0, o0, hb0, _⟩ := IntsD.at2 hd 0 h1
  subst hb0
  have HC := Lib.hid (ints_cells (hd.below (bal (Below.refl w.heap.size w) (.cells #[] 3))))
  obtain ⟨i0, hi, hz0, hz1, hz2⟩ := info_parts info_int
  have HL := Lib.hid hn
  have q22 := fun (w : World) (a : Option Addr) (n c n' c' : Nat) => Lib.run_eql_slice_nil (P := Try.prog) w 22 3 a n c n' c' Try.underlying22
  clear hd hn
  go_enter Try.func41, Try.ntmps41
  go_wp2_with (at_builtin; refine wpList_append_own _ rfl (.tmp 5) (.tmp 6) 22 rfl w.heap.size 3 i0 (.int .i64 0) 1 8 Try.underlying22 hi hz0 hz1 hz2 rfl (by decide) _ _ _ rfl (World.ownsRow_made w #[] 0 (Nat.le_refl _) (Nat.zero_le _) (by simp)) ⟨b0, o0, none⟩ l.length cap (ints l) rfl (by rw [ints_len, Nat.mul_one]) HC.out (ints_one l) (by rw [Nat.zero_add]; unfold maxLen; have := HL.out; omega) (by rw [Nat.zero_add]; have := HL.out; omega) (by simp) ?_)
  intro v' w1 hown hgrow hnil
  have HO := Lib.hid hown
  have HB : Hid (Below w.heap.size w w1) := Lib.hid (((Below.refl _ w).alloc (Nat.le_refl _) _).grown hgrow (by simp) (by intro k hk; simp [Value.ownBlock] at hk; omega))
  clear hown hgrow hnil HC
  go_wp2
  go_ret
  exact ⟨v', rfl, by simpa using HO.out, HB.out⟩

set_option maxHeartbeats 1000000 in
theorem mul64_any (x y : Nat) (hx : x < 18446744073709551616) (hy : y < 18446744073709551616) (w : World) :
    Calls Try.prog 54 #[.int .u64 x, .int .u64 y] w fun e w' => e = .returned (.tuple #[.int .u64 ((x * y / 18446744073709551616 : Nat) : Int), .int .u64 ((x * y % 18446744073709551616 : Nat) : Int)]) ∧ w' = w := by
  obtain ⟨bd, bt, bw, hhi⟩ := Lib.mul64_hi x y hx hy
  have ba := Lib.half_mul_le (a := x / 4294967296) (b := y / 4294967296) (by omega) (by omega)
  have bb := Lib.half_mul_le (a := x / 4294967296) (b := y % 4294967296) (by omega) (by omega)
  have bc := Lib.half_mul_le (a := x % 4294967296) (b := y / 4294967296) (by omega) (by omega)
  have ba' : x / 4294967296 * (y / 4294967296) < 18446744073709551616 := by omega
  have bb' : x / 4294967296 * (y % 4294967296) < 18446744073709551616 := by omega
  have bc' : x % 4294967296 * (y / 4294967296) < 18446744073709551616 := by omega
  have bh1 : x / 4294967296 * (y / 4294967296) + (x / 4294967296 * (y % 4294967296) + x % 4294967296 * (y % 4294967296) / 4294967296) / 4294967296 < 18446744073709551616 := by omega
  have bh : x / 4294967296 * (y / 4294967296) + (x / 4294967296 * (y % 4294967296) + x % 4294967296 * (y % 4294967296) / 4294967296) / 4294967296 + ((x / 4294967296 * (y % 4294967296) + x % 4294967296 * (y % 4294967296) / 4294967296) % 4294967296 + x % 4294967296 * (y / 4294967296)) / 4294967296 < 18446744073709551616 := by omega
  go_enter Try.func54, Try.ntmps54
  go_wp2
  simp only [Mul64.maskN x hx, Mul64.maskN y hy, Mul64.divN, Mul64.mulN, Mul64.addN, Mul64.wrapN _ bd, Mul64.wrapN _ bb', Mul64.wrapN _ bt, Mul64.maskN _ bt, Mul64.wrapN _ bc', Mul64.wrapN _ bw, Mul64.wrapN _ ba', Mul64.wrapN _ bh1, Mul64.wrapN _ bh, Mul64.wrapM (x * y)]
  rw [hhi]
  go_ret2
  exact ⟨rfl, rfl⟩
theorem mul_any (x y : Nat) (hx : x < 18446744073709551616) (hy : y < 18446744073709551616) (w : World) :
    Calls Try.prog 46 #[.int .u64 x, .int .u64 y] w fun e w' => e = .returned (.tuple #[.int .u64 ((x * y / 18446744073709551616 : Nat) : Int), .int .u64 ((x * y % 18446744073709551616 : Nat) : Int)]) ∧ w' = w := by
  have HM := Lib.hid (mul64_any x y hx hy w)
  go_enter Try.func46, Try.ntmps46
  go_wp2_with (go_at_call 54; refine HM.out.mono ?_; rintro e w' ⟨rfl, hw⟩; rw [hw])
  go_ret2
  exact ⟨rfl, rfl⟩

def fil (n : Nat) (x : Int) (k : Nat) : List Int := List.replicate k x ++ List.replicate (n - k) 0
theorem fil_len (n : Nat) (x : Int) (k : Nat) (h : k ≤ n) : (fil n x k).length = n := by simp [fil]; omega
theorem fil_splice (n : Nat) (x : Int) (k m : Nat) (h : k + m ≤ n) : splice (ints (fil n x k)) k (ints (List.replicate m x)) = ints (fil n x (k + m)) := by
  unfold splice
  have e : ints (fil n x k) = ints (List.replicate k x) ++ ints (List.replicate (n - k) 0) := by simp [ints, fil]
  rw [e, List.take_left' (by simp [ints]), ints_len, List.length_replicate, List.drop_append, List.drop_eq_nil_of_le (by simp [ints]), List.nil_append]
  simp [ints, fil]
  rw [← List.append_assoc, List.replicate_append_replicate]
  congr 2
  omega
theorem fil_at (n : Nat) (x : Int) (k j : Nat) (h : j < k) : (fil n x k)[j]? = some x := by
  unfold fil
  rw [List.getElem?_append_left (by simpa using h), List.getElem?_replicate_of_lt h]
theorem rep_src {w : World} {g : Nat} {x : Int} (h : Bk w g 3 #[.int .i64 x]) (n : Nat) : ∀ (j : Nat) (v : Value), (ints (List.replicate (min 1 n) x))[j]? = some v → w.cell? ((⟨g, 0, none⟩ : Addr).add j) = some v := by
  intro j v hv
  have hj := (List.getElem?_eq_some_iff.1 hv).1
  rw [ints_len, List.length_replicate] at hj
  obtain rfl : j = 0 := by omega
  rw [addr_add', h.cell]
  unfold ints at hv
  rw [List.getElem?_map, List.getElem?_replicate_of_lt (by omega)] at hv
  exact hv
set_option maxRecDepth 100000 in
set_option maxHeartbeats 8000000 in
theorem repeat_any (x : Int) (g n : Nat) (hn : n ≤ 1000) (w : World) (hx : Bk w g 3 #[.int .i64 x]) :
    Calls Try.prog 28 #[.slice (some ⟨g, 0, none⟩) 1 1, .int .i64 n] w fun e w' => ∃ gn, e = .returned (.slice (some ⟨gn, 0, none⟩) n n) ∧ BkI w' gn (List.replicate n x) ∧ Below w.heap.size w w' ∧ w.heap.size ≤ gn := by
  have HM := Lib.hid (mul_any 1 n (by decide) (by omega) w)
  rw [Nat.one_mul, Nat.div_eq_of_lt (by omega), Nat.mod_eq_of_lt (by omega)] at HM
  have HN := Lib.hid hn
  have hn6 : n ≤ 1000000 := by omega
  have a1 : ¬ ((n : Int) < 0) := by omega
  have a2 : ¬ ((9223372036854775807 : Int) < (n : Int)) := by omega
  have a3 : ¬ ((0 : Int) < 0) := by decide
  have HX := Lib.hid hx
  go_enter Try.func28, Try.ntmps28
  go_wp2_with (first
    | (go_at_call 46; refine HM.out.mono ?_; rintro e w' ⟨rfl, hw⟩; rw [hw]; clear hw)
    | (refine make_one rfl (.tmp 29) (.tmp 29) 22 3 (.int .i64 0) 8 Try.underlying22 info_int rfl (by decide) rfl n rfl rfl hn6 ?_; intro w3 Z HZ hz b3; have HF := Lib.hid (bkI_new HZ.out hz.out); have HXC := Lib.hid (hx.below b3); have HB3 := Lib.hid b3; clear hz HZ b3; obtain ⟨gn, hgn⟩ : ∃ z, z = w.heap.size := ⟨_, rfl⟩; rw [← hgn] at HF ⊢; have HGN := Lib.hid hgn; clear hgn; have hgw : w3.heap[gn]? = some (.cells (ints (List.replicate n 0)).toArray 3 (0, 0)) := HF.out; have HMIN : Hid ((List.replicate (min 1 n) x).length = Nat.min 1 n) := Lib.hid List.length_replicate; have HSRC : Hid (∀ (j : Nat) (v : Value), (ints (List.replicate (min 1 n) x))[j]? = some v → w3.cell? ((⟨g, 0, none⟩ : Addr).add j) = some v) := Lib.hid (rep_src HXC.out n))
    | (refine wpList_copy_splice rfl (.tmp 31) (.tmp 32) 22 22 rfl 3 Try.underlying22 (by kernel_rfl) (some ⟨gn, 0, none⟩) (some ⟨g, 0, none⟩) n n 1 1 rfl rfl gn 0 _ _ hgw (ints (List.replicate (min 1 n) x)) (by rw [ints_len]; exact HMIN.out) (fun _ => ⟨rfl, _, rfl, HSRC.out⟩) (by rw [ints_len, ints_len, HMIN.out, List.length_replicate, Nat.zero_add]; exact Nat.min_le_right ..) (ints_one _) gn w (HGN.out ▸ HB3.out) (Nat.le_refl _) ?_; intro w4 hw4 b4))
  have HB4 := Lib.hid b4
  have HF4 : Hid (BkI w4 gn (fil n x (min 1 n))) := Lib.hid (by
    have h := hw4.out
    have e := fil_splice n x 0 (min 1 n) (by rw [Nat.zero_add]; exact Nat.min_le_right ..)
    rw [show fil n x 0 = List.replicate n 0 by simp [fil], Nat.zero_add] at e
    rw [e] at h
    exact h)
  obtain ⟨c, hc⟩ : ∃ c, c = (ints (List.replicate (min 1 n) x)).length := ⟨_, rfl⟩
  rw [← hc]
  have HC : Hid (c = min 1 n) := Lib.hid (by rw [hc, ints_len, List.length_replicate])
  rw [← HC.out] at HF4
  clear hc hw4 b4 hgw HMIN HSRC HXC HF HB3 a1 a2 a3
  go_loopg [8] (n + 1) (fun fuel s8 wr => ∃ k : Nat, s8 = .int .i64 k ∧ k ≤ n ∧ (0 < k ∨ n = 0) ∧ n - k < fuel ∧ BkI wr gn (fil n x k) ∧ Below gn w wr)
  case atStart => exact ⟨c, rfl, by have := HC.out; omega, by have := HC.out; omega, by omega, HF4.out, HB4.out⟩
  case round =>
    clear HF4 HB4
    obtain ⟨k, rfl, hk, h0, hf, hb, hbl⟩ := hrel
    have HB := Lib.hid hbl
    have HF := Lib.hid hb
    by_cases hlt : k < n
    · have hk0 : 0 < k := by omega
      obtain ⟨m, hm⟩ : ∃ m, m = min k (n - k) := ⟨_, rfl⟩
      have HMM := Lib.hid hm
      have HCS : Hid ((ints (List.replicate m x)).length = Nat.min k (n - k)) := Lib.hid (by rw [ints_len, List.length_replicate, hm])
      have HSR : Hid (∀ W : World, BkI W gn (fil n x k) → ∀ (j : Nat) (v : Value), (ints (List.replicate m x))[j]? = some v → W.cell? ((⟨gn, 0, none⟩ : Addr).add j) = some v) := Lib.hid (fun W hW j v hv => by
        have hj := (List.getElem?_eq_some_iff.1 hv).1
        rw [ints_len, List.length_replicate] at hj
        rw [addr_add', Nat.zero_add, BkI.at hW (fil_at n x k j (by omega))]
        unfold ints at hv
        rw [List.getElem?_map, List.getElem?_replicate_of_lt hj] at hv
        exact hv)
      have HLM : Hid (k + m ≤ n ∧ 0 < m) := Lib.hid (by omega)
      have HFL : Hid (k + (ints (List.replicate m x)).length ≤ (ints (fil n x k)).length) := Lib.hid (by rw [ints_len, ints_len, List.length_replicate, fil_len n x k hk]; exact HLM.out.1)
      have hne : ¬ n = k := by omega
      have i1 : (0 : Int) ≤ (k : Int) := by omega
      have i2 : (k : Int) ≤ (n : Int) := by omega
      have i3 : ((k : Int) < (n : Int)) := by omega
      have i4 : IntKind.i64.wrap ((k : Int) + (m : Int)) = ((k + m : Nat) : Int) := IntWalk.i64_in _ (by have := HN.out; have := HLM.out; omega)
      have hgd : wr.drew.heap[gn]? = some (.cells (ints (fil n x k)).toArray 3 (0, 0)) := HF.out
      have lg := hb.lt
      clear hb hbl hm h0
      go_wp2_with fail
      have hsz : (Try.prog.info? 3).map (·.size) = some 1 := by kernel_rfl
      have hBk : BkI wr.drew gn (fil n x k) := HF.out
      have hps : 0 < (ints (List.replicate m x)).length → (some (⟨gn, k, none⟩ : Addr) : Option Addr) = some ⟨gn, k, none⟩ ∧ ∃ ad, (some (⟨gn, 0, none⟩ : Addr) : Option Addr) = some ad ∧ ∀ (j : Nat) (v : Value), (ints (List.replicate m x))[j]? = some v → wr.drew.cell? (ad.add j) = some v := fun _ => ⟨rfl, _, rfl, HSR.out _ hBk⟩
      go_region_law ((refine step_copy_splice (by rfl) (.tmp 41) (.tmp 44) 22 22 (by rfl) 3 Try.underlying22 hsz (some ⟨gn, k, none⟩) (some ⟨gn, 0, none⟩) (n - k) (n - k) k n (by simp [Act.eval, Act.put]) (by simp [Act.eval, Act.put]) gn k (ints (fil n x k)) 3 hgd (ints (List.replicate m x)) HCS.out hps HFL.out (ints_one _) gn wr ((Below.refl _ _).drew) (Nat.le_refl _) ?_); intro w5 F5 B5)
      have F6 : Hid (BkI w5 gn (fil n x (k + m))) := Lib.hid (by have h := F5.out; rw [fil_splice n x k m HLM.out.1] at h; exact h)
      have B6 := Lib.hid (HB.out.trans B5)
      have hlen : (ints (List.replicate m x)).length = m := by rw [ints_len, List.length_replicate]
      clear F5 B5 HF hgd hBk hps HCS HSR HFL
      rw [hlen]
      go_wp2_with fail
      go_roundg (gk - 1)
      case measure => omega
      case rel => exact ⟨k + m, by go_num, HLM.out.1, .inl (by omega), by have := HLM.out; omega, F6.out, B6.out⟩
    · obtain rfl : k = n := by omega
      have HR : Hid (fil k x k = List.replicate k x) := Lib.hid (by simp [fil])
      clear hlt hb hbl
      go_wp2_with fail
      go_ret
      exact ⟨gn, rfl, by have := HF.out; rw [HR.out] at this; exact this, HGN.out ▸ HB.out, Nat.le_of_eq HGN.out.symm⟩

end Go.Proofs.Ytkdpimifojjhaaa
