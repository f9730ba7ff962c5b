/- What text does with an operator of two. -/
import Derived.Test.YtifbhlgingaahaaDoorTb
namespace Go.Proofs.YtifbhlgingaahaaDoor
open Go.RowKit

set_option maxHeartbeats 8000000 in
theorem text_bin (x : Nd) (a b : Ex) (v : Value) (w : World) (hv : NdsC w v (Ex.bin x a b).flat) (hwf : (Ex.bin x a b).wf) (ht : Tabs w) (hla : (showE a).length ≤ 100000) (hlb : (showE b).length ≤ 100000) (hsz : (Ex.bin x a b).size ≤ 100000)
    (hA : ∀ v w', Below w.heap.size w w' → NdsC w' v a.flat → Calls Tryd.prog 37 #[v] w' (TextIs (wrapB a (showE a)) w'))
    (hB : ∀ v w', Below w.heap.size w w' → NdsC w' v b.flat → Calls Tryd.prog 37 #[v] w' (TextIs (wrapB b (showE b)) w')) :
    Calls Tryd.prog 28 #[v] w (TextIs (showE (.bin x a b)) w) := by
  show Calls Tryd.prog 28 #[v] w (TextIs (wrapB a (showE a) ++ [32] ++ sgO x.op.toNat ++ [32] ++ wrapB b (showE b)) w)
  have hwa := wrap_len a (showE a)
  have hwb := wrap_len b (showE b)
  obtain ⟨s, hs⟩ : ∃ s, s = wrapB a (showE a) := ⟨_, rfl⟩
  obtain ⟨r, hr⟩ : ∃ r, r = wrapB b (showE b) := ⟨_, rfl⟩
  rw [← hs] at hA hwa ⊢
  rw [← hr] at hB hwb ⊢
  obtain ⟨y, hy⟩ : ∃ y : ByteArray, y = ⟨s.toArray⟩ := ⟨_, rfl⟩
  obtain ⟨z, hz⟩ : ∃ z : ByteArray, z = ⟨r.toArray⟩ := ⟨_, rfl⟩
  have hys : y.size ≤ 100002 := by rw [hy, Lib.size_eq]; show s.length ≤ 100002; omega
  have hzs : z.size ≤ 100002 := by rw [hz, Lib.size_eq]; show r.length ≤ 100002; omega
  have hyl : y.data.toList = s := by rw [hy]
  have hzl : z.data.toList = r := by rw [hz]
  unfold TextIs at hA hB
  rw [← hy] at hA
  rw [← hz] at hB
  have HYL := Lib.hid hyl
  have HZL := Lib.hid hzl
  have hfl : (Ex.bin x a b).flat.length = a.size + b.size + 1 := by rw [Ex.flat_length]; rfl
  have hpa := a.size_pos'
  have hpb := b.size_pos'
  have HV := Lib.hid hv
  obtain ⟨ad, cap, rfl, h1, h2, hc⟩ := hv
  obtain ⟨g, off, rfl, hg, x0, x1, x2, x3, x4⟩ := hc 0 (by omega)
  simp only [show (Ex.bin x a b).flat[0]'(by omega) = x from rfl, Nat.zero_mul, Nat.add_zero] at x0 x1 x2 x3 x4
  have hd := HV.out.drop 1 (by omega)
  rw [show (Ex.bin x a b).flat.drop 1 = a.flat ++ b.flat from rfl, hfl] at hd
  simp only [Nat.one_mul, Nat.add_sub_cancel] at hd
  have hd' := hd
  rw [show a.size + b.size = (a.flat ++ b.flat).length by rw [List.length_append, a.flat_length, b.flat_length]] at hd
  have da := hd.take a.size (by rw [List.length_append, a.flat_length]; omega)
  have db := hd.drop a.size (by rw [List.length_append, a.flat_length, b.flat_length]; omega)
  rw [List.take_left' a.flat_length] at da
  rw [List.drop_left' a.flat_length, List.length_append, a.flat_length, b.flat_length, Nat.add_sub_cancel_left] at db
  have HD := Lib.hid hd'
  have HDA := Lib.hid da
  have HDB := Lib.hid db
  rw [hfl] at h1 ⊢
  have HE : Hid (∀ w', Below w.heap.size w w' → Calls Tryd.prog 12 #[.slice (some ⟨g, off + 5, none⟩) (a.size + b.size) (cap - 1), .int .i64 0] w' fun e w'' => e = .returned (.int .i64 a.size) ∧ w' = w'') := fun w' hb => by
    have hn := (HD.out.below hb).nds
    have h := end_any (a.flat ++ b.flat) _ 0 w' hn (by rw [List.length_append, a.flat_length, b.flat_length]; simp only [Ex.size] at hsz; omega)
    rw [show endL (a.flat ++ b.flat) 0 = a.size by
      rw [show (0 : Int) = ((0 : Nat) : Int) from rfl, endL_nat]
      have := endF_flat a hwf.2.1 b.flat 1 0 (Nat.le_refl _)
      rw [if_pos rfl] at this
      rw [List.drop_zero, show (1 : Int) = ((1 : Nat) : Int) from rfl, this]
      simp [endI]] at h
    exact h
  have HA : Hid (∀ w', Below w.heap.size w w' → Calls Tryd.prog 37 #[.slice (some ⟨g, off + 5, none⟩) a.size (cap - 1)] w' fun e w'' => e = .returned (.string y) ∧ Below w'.heap.size w' w'') := fun w' hb => hA _ w' hb (HDA.out.below hb)
  have HB : Hid (∀ w', Below w.heap.size w w' → Calls Tryd.prog 37 #[.slice (some ⟨g, off + 5 + a.size * 5, none⟩) b.size (cap - 1 - a.size)] w' fun e w'' => e = .returned (.string z) ∧ Below w'.heap.size w' w'') := fun w' hb => hB _ w' hb (HDB.out.below hb)
  obtain ⟨n, hn⟩ : ∃ n, n = a.size := ⟨_, rfl⟩
  obtain ⟨m, hm⟩ : ∃ m, m = b.size := ⟨_, rfl⟩
  have hop : ar x.op = 2 := hwf.1
  have hsz' : n + m ≤ 100000 := by simp only [Ex.size] at hsz; omega
  rw [← hn, ← hm] at h1 HE ⊢
  rw [← hn] at HA hpa
  rw [← hn, ← hm] at HB
  rw [← hm] at hpb
  obtain ⟨xo, xn, xm, xi, xp⟩ := x
  simp only [] at hop x0 x1 x2 x3 x4
  obtain ⟨k, rfl, hk6, hk15⟩ : ∃ k : Nat, xo = k ∧ 6 ≤ k ∧ k < 15 := by
    refine ⟨xo.toNat, ?_⟩
    unfold ar at hop
    repeat (split at hop <;> try omega)
  have HT := Lib.hid ht
  obtain ⟨u, hu⟩ : ∃ u, u = sgV k := ⟨_, rfl⟩
  have hus : u.size ≤ 2 := by rw [hu, Lib.size_eq]; exact sgO_len k
  have hul : u.data.toList = sgO k := by rw [hu, sgV]
  have HUL := Lib.hid hul
  have HU := Lib.hid hu
  clear hc hd hd' HD HV HDA HDB da db hA hB hs hr hy hz hyl hzl hn hm hfl hla hlb hwa hwb ht hop hwf hsz hu hul
  obtain ⟨cp, rfl⟩ : ∃ cp, cap = cp + 1 := ⟨cap - 1, by omega⟩
  obtain ⟨nm, hnm⟩ : ∃ nm, n + m = nm := ⟨_, rfl⟩
  rw [hnm] at h1 HE hsz' ⊢
  simp only [Nat.add_sub_cancel] at HE HA HB
  have hm : m = nm - n := by omega
  rw [hm] at HB
  have a1 : (n : Int) ≤ (nm : Int) := by omega
  have a2 : n ≤ nm := by omega
  have a3 : n ≤ cp := by omega
  have a4 : (n : Int) ≤ (cp : Int) := by omega
  have a5 : ¬ cp = n := by omega
  have a6 : ¬ n = cp := by omega
  have a7 : nm ≤ cp := by omega
  have a8 : (nm : Int) ≤ (cp : Int) := by omega
  have a9 : ¬ (n : Int) = (cp : Int) := by omega
  have hc1 : ¬ cp + 1 = 1 := by omega
  have hc2 : 1 ≤ cp + 1 := by omega
  have hc3 : 1 ≤ nm + 1 := by omega
  clear hm hnm hpa hpb
  have e1 : (((k : Int) == 1) = false) := by simp; omega
  have e2 : (((k : Int) == 2) = false) := by simp; omega
  have e3 : (((k : Int) == 3) = false) := by simp; omega
  have e4 : (((k : Int) == 4) = false) := by simp; omega
  have e5 : (((k : Int) == 5) = false) := by simp; omega
  have k0 : (0 : Int) ≤ (k : Int) := Int.natCast_nonneg _
  have k1 : (k : Int) < 15 := by omega
  go_enter Tryd.func28, Tryd.ntmps28
  go_wp2_with fail
  go_region
  have hb1 : Below w.heap.size w ((w.alloc (.cells #[.int .i64 k, .int .i64 xn, .string xm, .string xi, .int .i64 xp] 32)).drewN 1) := ((Below.refl _ _).alloc (Nat.le_refl _) _).drew
  change Exit.then _ _ _ _ ((w.alloc (.cells #[.int .i64 k, .int .i64 xn, .string xm, .string xi, .int .i64 xp] 32)).drewN 1)
  have hnb : BlkN ((w.alloc (.cells #[.int .i64 k, .int .i64 xn, .string xm, .string xi, .int .i64 xp] 32)).drewN 1) w.heap.size ⟨k, xn, xm, xi, xp⟩ := heap_alloc_new w _
  have hnz : w.heap.size < ((w.alloc (.cells #[.int .i64 k, .int .i64 xn, .string xm, .string xi, .int .i64 xp] 32)).drewN 1).heap.size := by simp
  generalize ((w.alloc (.cells #[.int .i64 k, .int .i64 xn, .string xm, .string xi, .int .i64 xp] 32)).drewN 1) = w1 at hb1 hnb hnz ⊢
  obtain ⟨n0, n1, n2, n3, n4⟩ := hnb.facts
  simp only [] at n0 n1 n2 n3 n4
  have hz0 : 0 < w1.heap.size := (HT.out.below hb1).1.1
  have s5 : w1.cell? ⟨0, k, none⟩ = some (.string u) := HU.out ▸ (HT.out.below hb1).1.2 k hk15
  clear hnb x0 x1 x2 x3 x4
  go_wp2_with (go_at_call 12; refine (HE.out _ hb1).mono ?_; rintro e w' ⟨rfl, rfl⟩)
  have a0 : (0 : Int) ≤ (n : Int) := Int.natCast_nonneg _
  have q1 : ¬ 9223372036854775806 < y.size := by omega
  have q2 : ¬ 9223372036854775807 < y.size + 1 := by omega
  have q3 : ¬ 9223372036854775807 < y.size + 1 + u.size := by omega
  have q4 : ¬ 9223372036854775806 < y.size + 1 + u.size := by omega
  have q5 : ¬ 9223372036854775807 < y.size + 1 + u.size + 1 := by omega
  have q6 : ¬ 9223372036854775807 < y.size + 1 + u.size + 1 + z.size := by omega
  have b0 : Below w1.heap.size w1 w1 := Below.refl _ _
  go_region_held3 (fun w' => w'.cell? ⟨w.heap.size, 0, none⟩ = some (.int .i64 k) ∧ w'.cell? ⟨0, k, none⟩ = some (.string u) ∧ Below w1.heap.size w1 w')
    (first | exact ⟨n0, s5, Below.refl _ _⟩ | exact ⟨n0, s5, (Below.refl _ _).drew⟩ | assumption | (go_split_ands; exact ⟨(hb3.cell (p := ⟨w.heap.size, 0, none⟩) hnz).trans n0, (hb3.cell (p := ⟨0, k, none⟩) hz0).trans s5, hb3⟩))
    ((go_split_ands; (first | (with_reducible refine Calls.mono (HA.out _ ?_) ?_) | (with_reducible refine Calls.mono (HB.out _ ?_) ?_)); (exact hb1.trans (Below.mono (by assumption) hb1.size)); rintro e w2 ⟨rfl, hb2⟩; have hb3 : Below w1.heap.size w1 w2 := Below.trans (by assumption) (hb2.mono (Below.size (by assumption)))))
  go_split_ands
  go_wp2
  go_ret
  exact ⟨ret_str (ba_eq (by rw [← HYL.out, ← HZL.out, show ((k : Nat) : Int).toNat = k from rfl, ← HUL.out]; simp)), hb1.trans (Below.mono (by assumption) hb1.size)⟩

theorem text_any (e : Ex) : e.wf → (∀ x ∈ e.flat, okN x = true) → e.size ≤ 1000 → ∀ v w, NdsC w v e.flat → Tabs w → Calls Tryd.prog 28 #[v] w (TextIs (showE e) w) := by
  induction e with
  | leaf x => intro hw hok _ v w hv ht; exact text_leaf x v w hv hw (hok x (by simp [Ex.flat])) ht
  | un x a ih =>
    intro hw hok hs v w hv ht
    have hoa : ∀ y ∈ a.flat, okN y = true := fun y hy => hok y (by simp [Ex.flat, hy])
    have hsa : a.size ≤ 1000 := by simp only [Ex.size] at hs; omega
    have hl := showE_len a hoa
    have h5 : x.op = 5 := by
      have h : ar x.op = 1 := hw.1
      unfold ar at h
      repeat (split at h <;> try omega)
    exact text_un x a v w hv h5 ht (by omega) fun v' w' hb hv' => brk_any a v' w' hv' hw.2 (by omega) (ih hw.2 hoa hsa v' w' hv' (ht.below hb))
  | bin x a b iha ihb =>
    intro hw hok hs v w hv ht
    have hoa : ∀ y ∈ a.flat, okN y = true := fun y hy => hok y (by simp [Ex.flat, hy])
    have hob : ∀ y ∈ b.flat, okN y = true := fun y hy => hok y (by simp [Ex.flat, hy])
    have hsa : a.size ≤ 1000 := by simp only [Ex.size] at hs; omega
    have hsb : b.size ≤ 1000 := by simp only [Ex.size] at hs; omega
    have hla := showE_len a hoa
    have hlb := showE_len b hob
    exact text_bin x a b v w hv hw ht (by omega) (by omega) (by omega)
      (fun v' w' hb hv' => brk_any a v' w' hv' hw.2.1 (by omega) (iha hw.2.1 hoa hsa v' w' hv' (ht.below hb)))
      (fun v' w' hb hv' => brk_any b v' w' hv' hw.2.2 (by omega) (ihb hw.2.2 hob hsb v' w' hv' (ht.below hb)))

end Go.Proofs.YtifbhlgingaahaaDoor
