/- InternMany: its walk, by what a table's methods do. -/
import Derived.Test.YthmejdnedfokcaaJf
import Derived.Laws.BytesArg
namespace Go.Proofs.Ythmejdnedfokcaa
set_option linter.unusedSimpArgs false
set_option linter.unusedVariables false
open Go.RowKit

def bytZ (l : List Int) : ByteArray := ⟨(l.map fun n => UInt8.ofNat n.toNat).toArray⟩
/-- The text of a number of three bytes. -/
def t3 (x : Nat) : ByteArray := bytZ [(x : Int) % 256, (x : Int) / 256 % 256, (x : Int) / 65536]
theorem t3_inj {x y : Nat} (hx : x < 16777216) (hy : y < 16777216) (h : t3 x = t3 y) : x = y := by
  unfold t3 bytZ at h
  injection h with h
  simp only [List.map_cons, List.map_nil] at h
  injection h with h
  injection h with h1 h
  injection h with h2 h
  injection h with h3 _
  have g1 := congrArg UInt8.toNat h1
  have g2 := congrArg UInt8.toNat h2
  have g3 := congrArg UInt8.toNat h3
  simp only [UInt8.toNat_ofNat'] at g1 g2 g3
  omega
def lN (c k : Nat) : List ByteArray := (List.range k).map fun i => t3 (i * c)
theorem lN_len (c k : Nat) : (lN c k).length = k := by simp [lN]
theorem lN_next (c k : Nat) : lN c (k + 1) = lN c k ++ [t3 (k * c)] := by unfold lN; rw [List.range_succ, List.map_append]; rfl
theorem mul_bd {i c : Nat} (hi : i < 3000) (hc : c ≤ 511) : i * c < 16777216 := Nat.lt_of_le_of_lt (Nat.mul_le_mul (Nat.le_of_lt hi) hc) (by decide)
theorem mul_inj {i j c : Nat} (hc : 0 < c) (h : i * c = j * c) : i = j := Nat.eq_of_mul_eq_mul_right hc h
theorem lN_not {c k : Nat} (hk : k < 3000) (hc : 0 < c) (hc2 : c ≤ 511) : hasT (lN c k) (t3 (k * c)) = false := by
  rw [Bool.eq_false_iff]
  intro h
  rw [has_iff] at h
  obtain ⟨i, hi, e⟩ := List.mem_map.1 h
  have hik := List.mem_range.1 hi
  have := mul_inj hc (t3_inj (mul_bd (by omega) hc2) (mul_bd hk hc2) e)
  omega
theorem lN_has {c k i : Nat} (hi : i < k) : hasT (lN c k) (t3 (i * c)) = true := by
  rw [has_iff]
  exact List.mem_map.2 ⟨i, List.mem_range.2 hi, rfl⟩
theorem lN_getD {c k i : Nat} (hi : i < k) : (lN c k).getD i emptyT = t3 (i * c) := by
  rw [List.getD_eq_getElem?_getD, List.getElem?_eq_getElem (by rw [lN_len]; exact hi)]
  simp [lN]
theorem lN_pos {c k i : Nat} (hi : i < k) (hk : k ≤ 3000) (hc : 0 < c) (hc2 : c ≤ 511) : posT (lN c k) (t3 (i * c)) = i := by
  have h := lN_has (c := c) hi
  have h1 := pos_lt h
  rw [lN_len] at h1
  have h2 := pos_at h
  rw [lN_getD h1] at h2
  exact mul_inj hc (t3_inj (mul_bd (by omega) hc2) (mul_bd (by omega) hc2) h2)
theorem lN_few {c k : Nat} (hk : k ≤ 3000) : Few (lN c k) := ⟨by rw [lN_len]; exact hk, fun x hx => by
  obtain ⟨i, _, rfl⟩ := List.mem_map.1 hx
  exact (show 3 ≤ 300 by omega)⟩
theorem slF_le (n : Nat) : ∀ f m, 2 * n ≤ m * 2 ^ f → 2 * n ≤ slF f n m
  | 0, m, h => by unfold slF; omega
  | f + 1, m, h => by
    unfold slF
    split
    · exact slF_le n f (2 * m) (by rw [Nat.pow_succ] at h; calc 2 * n ≤ _ := h
        _ = _ := by rw [Nat.mul_comm (2 ^ f) 2, ← Nat.mul_assoc, Nat.mul_comm m 2])
    · omega
theorem slF_bd (n : Nat) : ∀ f m, m ≤ 4 * n + 16 → slF f n m ≤ 4 * n + 16
  | 0, m, h => by unfold slF; exact h
  | f + 1, m, h => by
    unfold slF
    split
    · exact slF_bd n f (2 * m) (by omega)
    · exact h
theorem slots_le {k : Nat} (h : k ≤ 3000) : 2 * k ≤ slotsN k := slF_le k 20 16 (by omega)
theorem slots_bd {k : Nat} (h : k ≤ 3000) : slotsN k ≤ 12016 := by have := slF_bd k 20 16 (by omega); unfold slotsN; omega

theorem conv3 (w : World) (a b c : Int) : Sem.run Try.prog (convert 39 9 (.slice (some ⟨w.heap.size, 0, none⟩) 3 3)) (w.alloc (.cells #[.int .u8 a, .int .u8 b, .int .u8 c] 5)) = .ok (.string (bytZ [a, b, c])) (w.alloc (.cells #[.int .u8 a, .int .u8 b, .int .u8 c] 5)) := by
  refine run_convert_bytes_arg _ 39 5 Try.underlying39 Try.underlying5 w.heap.size 0 3 3 [a, b, c] rfl (fun i hi => ?_) 9 Try.underlying9
  rw [Nat.zero_add, (Bk.new w 5 #[.int .u8 a, .int .u8 b, .int .u8 c]).cell i]
  match i, hi with
  | 0, _ => rfl
  | 1, _ => rfl
  | 2, _ => rfl

attribute [local go_sem ↓] Go.wp_at_zero Go.wp_at_succ
set_option maxRecDepth 100000 in
set_option maxHeartbeats 8000000 in
theorem many_in {TB : World → Value → List ByteArray → (Nat → Prop) → Prop} (H0 : TabOK TB) (a0 st : Int) (w : World) (h0 : 0 ≤ a0 ∧ a0 ≤ 65535) (h1 : 0 ≤ st ∧ st ≤ 255) :
    Calls Try.prog 4 #[.int .u16 a0, .int .u8 st] w fun e w' => e = .returned (.bool true) ∧ Below w.heap.size w w' := by
  have H := Lib.hid H0
  have HKN := Lib.hid (known13_in H0)
  clear H0
  obtain ⟨n, hn⟩ : ∃ n : Nat, a0.tmod 3000 = (n : Int) := ⟨(a0 % 3000).toNat, by rw [Int.tmod_eq_emod_of_nonneg (by omega)]; omega⟩
  have hn3 : n < 3000 := by rw [Int.tmod_eq_emod_of_nonneg (by omega)] at hn; omega
  have HN3 := Lib.hid hn3
  have hwa : IntKind.i64.wrap a0 = a0 := IntWalk.i64_in _ (by omega)
  have hwn : IntKind.i64.wrap (n : Int) = (n : Int) := IntWalk.i64_in _ (by omega)
  obtain ⟨c, hc⟩ : ∃ c : Nat, c = (1 + 2 * st).toNat := ⟨_, rfl⟩
  have hcI : (c : Int) = 1 + 2 * st := by omega
  have HC0 : Hid (0 < c) := Lib.hid (by omega)
  have HC5 : Hid (c ≤ 511) := Lib.hid (by omega)
  have hws : IntKind.i64.wrap st = st := IntWalk.i64_in _ (by omega)
  have hw2s : IntKind.i64.wrap (2 * st) = 2 * st := IntWalk.i64_in _ (by omega)
  have hw3s : IntKind.i64.wrap (1 + 2 * st) = 1 + 2 * st := IntWalk.i64_in _ (by omega)
  have HCI := Lib.hid hcI
  clear h0 h1 hn3 hcI hc
  go_enter Try.func4, Try.ntmps4
  go_wp2_with fail
  refine (H.out.new w).mono ?_
  rintro e w1 ⟨a1, F0, rfl, t1, hF0, b1⟩
  have T1 := Lib.hid t1
  have HF := Lib.hid hF0
  have B := Lib.hid b1
  clear t1 hF0 b1
  go_wp2_with fail
  go_loopg [7] n (fun fuel i' wr => ∃ (k : Nat) (F : Nat → Prop), i' = .int .i64 k ∧ k ≤ n ∧ n - k ≤ fuel ∧ TB wr (.pointer (some a1)) (lN c k) F ∧ (∀ g, F g → w.heap.size ≤ g) ∧ Below w.heap.size w wr)
  case atStart => exact ⟨0, F0, rfl, Nat.zero_le _, Nat.le_refl _, T1.out, HF.out, B.out⟩
  case round =>
    obtain ⟨k, F, rfl, hk, hf, ht, hF, hb⟩ := hrel
    have T := Lib.hid ht
    have HF' := Lib.hid hF
    have HB := Lib.hid hb
    clear ht hF hb T1 HF B
    by_cases hlt : k < n
    · have HLT := Lib.hid hlt
      have hkc : k * c < 16777216 := mul_bd (by have := HN3.out; omega) HC5.out
      have hmul : (k : Int) * (1 + 2 * st) = ((k * c : Nat) : Int) := by rw [← HCI.out]; push_cast; rfl
      have HNX := Lib.hid (lN_next c k)
      have HHT := Lib.hid (lN_not (c := c) (k := k) (by have := HN3.out; omega) HC0.out HC5.out)
      have HPL : Hid (putL (lN c k) (t3 (k * c)) = lN c (k + 1)) := Lib.hid (by unfold putL; rw [HHT.out, HNX.out]; rfl)
      have HPN : Hid (putN (lN c k) (t3 (k * c)) = k) := Lib.hid (by unfold putN; rw [HHT.out, if_neg (by decide), lN_len])
      have HFW := Lib.hid (lN_few (c := c) (k := k) (by have := HN3.out; omega))
      have HFX := Lib.hid (lN_few (c := c) (k := k + 1) (by have := HN3.out; omega))
      have HSL : Hid (2 * (k + 1) ≤ slotsN (k + 1) ∧ slotsN (k + 1) ≤ 12016) := Lib.hid ⟨slots_le (by have := HN3.out; omega), slots_bd (by have := HN3.out; omega)⟩
      have HLN : Hid ((lN c (k + 1)).length = k + 1) := Lib.hid (lN_len _ _)
      generalize hx : k * c = x at hmul hkc HHT HPL HPN
      have HS3 : Hid ((t3 x).size ≤ 300) := Lib.hid (show 3 ≤ 300 by omega)
      have hwm : IntKind.i64.wrap ((k : Int) * (1 + 2 * st)) = (x : Int) := by rw [hmul]; exact IntWalk.i64_in _ (by omega)
      have e1 : (0 : Int) ≤ (k : Int) := by omega
      have e2 : (k : Int) < (n : Int) := by omega
      clear hmul hx HNX hk
      go_wp2_with fail
      rw [conv3]
      rw [show bytZ [(x : Int) % 256, (x : Int) / 256 % 256, (x : Int) / 65536] = t3 x from rfl]
      replace T := Lib.hid (H.out.below T.out ((Below.refl wr.heap.size wr).alloc (Nat.le_refl _) (.cells #[.int .u8 ((x : Int) % 256), .int .u8 ((x : Int) / 256 % 256), .int .u8 ((x : Int) / 65536)] 5)))
      replace HB := Lib.hid (HB.out.trans (((Below.refl wr.heap.size wr).alloc (Nat.le_refl _) (.cells #[.int .u8 ((x : Int) % 256), .int .u8 ((x : Int) / 256 % 256), .int .u8 ((x : Int) / 65536)] 5)).mono HB.out.size))
      generalize wr.alloc (.cells #[.int .u8 ((x : Int) % 256), .int .u8 ((x : Int) / 256 % 256), .int .u8 ((x : Int) / 65536)] 5) = wq at T HB ⊢
      generalize t3 x = s at HHT HPL HPN HS3 ⊢
      go_wp2_with fail
      refine (H.out.put s T.out HFW.out HS3.out).mono ?_
      rw [HHT.out, HPL.out, HPN.out]
      rintro e w4 ⟨rfl, F', t1, h1, o1⟩
      replace T := Lib.hid t1
      have hF1 : ∀ g, F' g → w.heap.size ≤ g := fun g hg => (h1 g hg).elim (HF'.out g) (fun q => Nat.le_trans HB.out.size q)
      replace HB := Lib.hid (HB.out.trans (o1.below HF'.out HB.out.size))
      replace HF' := Lib.hid hF1
      clear t1 h1 o1 hF1
      have ene : ((k : Int) != (k : Int)) = false := by simp
      obtain ⟨m, hm⟩ : ∃ m : Nat, m = slotsN (k + 1) := ⟨_, rfl⟩
      obtain ⟨kk, hkk⟩ : ∃ kk : Int, kk = ((k + 1 : Nat) : Int) := ⟨_, rfl⟩
      have HM := Lib.hid hm
      have HKK := Lib.hid hkk
      have hk3 := HN3.out
      have hw2k : IntKind.i64.wrap (2 * kk) = 2 * kk := IntWalk.i64_in _ (by omega)
      have hmk : ¬ (m : Int) < 2 * kk := by have := HSL.out.1; rw [← hm] at this; omega
      have hwk : IntKind.i64.wrap ((k : Int) + 1) = (k : Int) + 1 := IntWalk.i64_in _ (by have := HLT.out; have := HN3.out; omega)
      clear hm hkk hk3
      go_wp2_with fail
      refine (H.out.len T.out HFX.out).mono ?_
      rw [HLN.out, ← HKK.out]
      rintro e w5 ⟨rfl, b⟩
      replace T := Lib.hid (H.out.below T.out b)
      replace HB := Lib.hid (HB.out.trans (b.mono HB.out.size))
      clear b
      go_wp2_with fail
      refine (H.out.slots T.out HFX.out).mono ?_
      rw [HLN.out, ← HM.out]
      rintro e w6 ⟨rfl, b⟩
      replace T := Lib.hid (H.out.below T.out b)
      replace HB := Lib.hid (HB.out.trans (b.mono HB.out.size))
      clear b
      go_wp2_with fail
      have hlt := HLT.out
      go_roundg (gk - 1)
      case measure => omega
      case rel => exact ⟨k + 1, F', by go_num, by omega, by omega, T.out, HF'.out, HB.out⟩
    · obtain rfl : k = n := by omega
      have hwk : IntKind.i64.wrap ((k : Int) - 1) = (k : Int) - 1 := IntWalk.i64_in _ (by have := HN3.out; omega)
      have HFW := Lib.hid (lN_few (c := c) (k := k) (by have := HN3.out; omega))
      clear hlt hf hk
      go_wp2_with fail
      go_loopg [12] k (fun fuel i' wr => ∃ (m : Nat) (G : Nat → Prop), i' = .int .i64 ((m : Int) - 1) ∧ m ≤ k ∧ m ≤ fuel ∧ TB wr (.pointer (some a1)) (lN c k) G ∧ (∀ g, G g → w.heap.size ≤ g) ∧ Below w.heap.size w wr)
      case atStart => exact ⟨k, F, rfl, Nat.le_refl _, Nat.le_refl _, T.out, HF'.out, HB.out⟩
      case round =>
        clear T HF' HB
        obtain ⟨m, G, rfl, hm, hf, ht, hG, hb⟩ := hrel
        have T := Lib.hid ht
        have HG := Lib.hid hG
        have HB := Lib.hid hb
        clear ht hG hb
        rcases m with _ | j
        · have hz : ¬ (0 : Int) ≤ ((0 : Nat) : Int) - 1 := by omega
          have HLN := Lib.hid (lN_len c k)
          clear hm hf
          go_wp2_with fail
          refine (H.out.len T.out HFW.out).mono ?_
          rw [HLN.out]
          rintro e w5 ⟨rfl, b⟩
          replace HB := Lib.hid (HB.out.trans (b.mono HB.out.size))
          clear b
          have ekk : ((k : Int) == (k : Int)) = true := by simp
          go_wp2_with fail
          refine (HKN.out w5).mono ?_
          rintro e w6 ⟨rfl, b⟩
          replace HB := Lib.hid (HB.out.trans (b.mono HB.out.size))
          clear b
          go_wp2_with fail
          go_ret
          exact ⟨rfl, HB.out⟩
        · rw [show ((j + 1 : Nat) : Int) - 1 = (j : Int) by omega]
          have hjk : j < k := hm
          have HJK := Lib.hid hjk
          have HFU := Lib.hid hf
          have hk3 := HN3.out
          have hjc : j * c < 16777216 := mul_bd (by omega) HC5.out
          have hmul : (j : Int) * (1 + 2 * st) = ((j * c : Nat) : Int) := by rw [← HCI.out]; push_cast; rfl
          have HHT := Lib.hid (lN_has (c := c) hjk)
          have HPO := Lib.hid (lN_pos (c := c) hjk (by omega) HC0.out HC5.out)
          have HPL : Hid (putL (lN c k) (t3 (j * c)) = lN c k) := Lib.hid (by unfold putL; rw [HHT.out]; rfl)
          have HPN : Hid (putN (lN c k) (t3 (j * c)) = j) := Lib.hid (by unfold putN; rw [HHT.out, if_pos rfl, HPO.out])
          have HGN : Hid (getN (lN c k) (t3 (j * c)) = j) := Lib.hid (by unfold getN; rw [HHT.out, if_pos rfl, HPO.out])
          have hab : atB (lN c k) (j : Int) = true := decide_eq_true (by rw [lN_len]; omega)
          have HAB := Lib.hid hab
          have HAS : Hid (atS (lN c k) (j : Int) = t3 (j * c)) := Lib.hid (by unfold atS; rw [hab, if_pos rfl, Int.toNat_natCast, lN_getD hjk])
          clear hab
          generalize hx : j * c = x at hmul hjc HHT HPL HPN HGN HAS
          have HS3 : Hid ((t3 x).size ≤ 300) := Lib.hid (show 3 ≤ 300 by omega)
          have hwm : IntKind.i64.wrap ((j : Int) * (1 + 2 * st)) = (x : Int) := by rw [hmul]; exact IntWalk.i64_in _ (by omega)
          have e1 : (0 : Int) ≤ (j : Int) := by omega
          clear hmul hx HPO hm hf hk3 hjk
          go_wp2_with fail
          rw [conv3]
          rw [show bytZ [(x : Int) % 256, (x : Int) / 256 % 256, (x : Int) / 65536] = t3 x from rfl]
          replace T := Lib.hid (H.out.below T.out ((Below.refl wr.heap.size wr).alloc (Nat.le_refl _) (.cells #[.int .u8 ((x : Int) % 256), .int .u8 ((x : Int) / 256 % 256), .int .u8 ((x : Int) / 65536)] 5)))
          replace HB := Lib.hid (HB.out.trans (((Below.refl wr.heap.size wr).alloc (Nat.le_refl _) (.cells #[.int .u8 ((x : Int) % 256), .int .u8 ((x : Int) / 256 % 256), .int .u8 ((x : Int) / 65536)] 5)).mono HB.out.size))
          generalize wr.alloc (.cells #[.int .u8 ((x : Int) % 256), .int .u8 ((x : Int) / 256 % 256), .int .u8 ((x : Int) / 65536)] 5) = wq at T HB ⊢
          generalize t3 x = s at HHT HPL HPN HGN HAS HS3 ⊢
          go_wp2_with fail
          refine (H.out.get s T.out HFW.out HS3.out).mono ?_
          rw [HHT.out, HGN.out]
          rintro e w4 ⟨rfl, b⟩
          replace T := Lib.hid (H.out.below T.out b)
          replace HB := Lib.hid (HB.out.trans (b.mono HB.out.size))
          clear b
          go_wp2_with fail
          refine (H.out.put s T.out HFW.out HS3.out).mono ?_
          rw [HHT.out, HPL.out, HPN.out]
          rintro e w5 ⟨rfl, G', t1, h1, o1⟩
          replace T := Lib.hid t1
          have hG1 : ∀ g, G' g → w.heap.size ≤ g := fun g hg => (h1 g hg).elim (HG.out g) (fun q => Nat.le_trans HB.out.size q)
          replace HB := Lib.hid (HB.out.trans (o1.below HG.out HB.out.size))
          replace HG := Lib.hid hG1
          clear t1 h1 o1 hG1
          go_wp2_with fail
          refine (H.out.at' (j : Int) T.out HFW.out).mono ?_
          rw [HAB.out, HAS.out]
          rintro e w6 ⟨rfl, b⟩
          replace T := Lib.hid (H.out.below T.out b)
          replace HB := Lib.hid (HB.out.trans (b.mono HB.out.size))
          clear b
          have ene : ((j : Int) != (j : Int)) = false := by simp
          have ess : (s.toList != s.toList) = false := by simp
          have hwj : IntKind.i64.wrap ((j : Int) - 1) = (j : Int) - 1 := IntWalk.i64_in _ (by have := HJK.out; have := HN3.out; omega)
          go_wp2_with fail
          have hfu := HFU.out
          have hjk := HJK.out
          go_roundg (gk - 1)
          case measure => omega
          case rel => exact ⟨j, G', by go_num, by omega, by omega, T.out, HG.out, HB.out⟩

end Go.Proofs.Ythmejdnedfokcaa
