/- What the reference's sign and Digits do. -/
import Derived.Test.YtifbhlgingaahaaDoorTb
import Derived.Laws.IdiomStrings
namespace Go.Proofs.YtifbhlgingaahaaDoor
open Go.RowKit

set_option maxHeartbeats 2000000 in
theorem rsign_any (k : Nat) (w : World) (h5 : 5 ≤ k) (h15 : k < 15) : Calls Tryd.prog 40 #[.int .i64 k] w fun e w' => e = .returned (.string (sgV k)) ∧ Below w.heap.size w w' := by
  have hk : k = 5 ∨ k = 6 ∨ k = 7 ∨ k = 8 ∨ k = 9 ∨ k = 10 ∨ k = 11 ∨ k = 12 ∨ k = 13 ∨ k = 14 := by omega
  rcases hk with rfl | rfl | rfl | rfl | rfl | rfl | rfl | rfl | rfl | rfl
  all_goals
    go_enter Tryd.func40, Tryd.ntmps40
    go_wp2
    go_ret
    exact ⟨rfl, ((Below.refl _ _).alloc (Nat.le_refl _) _)⟩

theorem und66 : Tryd.prog.underlying 66 = some (.slice 5) := by kernel_rfl
theorem und5 : Tryd.prog.underlying 5 = some (.int .u8) := by kernel_rfl
theorem und9 : Tryd.prog.underlying 9 = some .string := by kernel_rfl

/-- One byte as a string. -/
theorem conv_cell (w : World) (b : Nat) (c : UInt8) (h : w.cell? ⟨b, 0, none⟩ = some (.int .u8 (c.toNat : Int))) :
    (convert 66 9 (.slice (some ⟨b, 0, none⟩) 1 1)).run Tryd.prog w = .ok (.string ⟨#[c]⟩) w := by
  have := run_convert_bytes_back (P := Tryd.prog) w 66 9 5 ⟨b, 0, none⟩ 1 [c] und66 und5 und9 (fun j hj => by
    have : j = 0 := by simpa using hj
    subst this
    exact h)
  simpa using this

theorem conv_new (w : World) (t : TypeId) (fr : Nat × Nat) (c : UInt8) :
    (convert 66 9 (.slice (some ⟨w.heap.size, 0, none⟩) 1 1)).run Tryd.prog (w.alloc (.cells #[.int .u8 (c.toNat : Int)] t fr)) = .ok (.string ⟨#[c]⟩) (w.alloc (.cells #[.int .u8 (c.toNat : Int)] t fr)) :=
  conv_cell _ _ c (World.cell?_alloc_mark w _ _ _ 0)

theorem conv_new' (w : World) (c : UInt8) (d : Int) (hd : (c.toNat : Int) = d) :
    (convert 66 9 (.slice (some ⟨w.heap.size, 0, none⟩) 1 1)).run Tryd.prog (w.alloc (.cells #[.int .u8 d] 5)) = .ok (.string ⟨#[c]⟩) (w.alloc (.cells #[.int .u8 d] 5)) := by
  subst hd
  exact conv_new w 5 _ c

theorem dg_small (c : UInt8) (m : Nat) (h : m < 10) (hc : c = UInt8.ofNat (48 + m)) : dg m = [c] := by
  subst hc
  unfold dg
  rw [show ((m : Nat) : Int).toNat = m from rfl, Lib.decDigits, dif_pos h]

theorem dg_more (m : Nat) (c : UInt8) (h : 10 ≤ m) (hc : c = UInt8.ofNat (48 + m % 10)) : dg m = dg ((m / 10 : Nat) : Int) ++ [c] := by
  subst hc
  unfold dg
  rw [show ((m : Nat) : Int).toNat = m from rfl, show ((m / 10 : Nat) : Int).toNat = m / 10 from rfl, Lib.decDigits, dif_neg (by omega)]

set_option maxHeartbeats 4000000 in
theorem digits_step (m q : Nat) (r d : Int) (c : UInt8) (s : List UInt8) (w : World) (h10 : 10 ≤ m) (hm : m ≤ 9999) (hq : (m : Int).tdiv 10 = q) (hr : (m : Int).tmod 10 = r) (hw1 : IntKind.i64.wrap (48 + r) = d) (hw2 : IntKind.u8.wrap d = d) (hw3 : IntKind.i64.wrap (q : Int) = q) (_hw4 : IntKind.i64.wrap r = r)
    (_h0 : 0 ≤ d) (_h57 : d ≤ 57) (hc : (c.toNat : Int) = d) (hs : s.length ≤ 1000) (_hq0 : (q : Int) ≤ 999)
    (IH : ∀ w, Calls Tryd.prog 38 #[.int .i64 q] w (TextIs s w)) : Calls Tryd.prog 38 #[.int .i64 m] w (TextIs (s ++ [c]) w) := by
  obtain ⟨y, hy⟩ : ∃ y : ByteArray, y = ⟨s.toArray⟩ := ⟨_, rfl⟩
  have hys : y.size ≤ 1000 := by rw [hy, Lib.size_eq]; exact hs
  have hyl : y.data.toList = s := by rw [hy]
  unfold TextIs at IH
  rw [← hy] at IH
  have HYL := Lib.hid hyl
  have HIH := Lib.hid IH
  have hcell : ∀ w : World, (w.alloc (.cells #[.int .u8 d] 5)).drew.cell? ⟨w.heap.size, 0, none⟩ = some (.int .u8 (c.toNat : Int)) := by
    intro w
    rw [hc]
    exact World.cell?_alloc_mark w _ _ _ 0
  have HCELL := Lib.hid hcell
  have HC := Lib.hid hc
  clear hy hyl hs IH hcell
  have q1 : ¬ 9223372036854775807 < y.size + 1 := by omega
  have q2 : ¬ 9223372036854775806 < y.size := by omega
  have m0 : (((m : Int) < 10) = False) := by simp; omega
  have hcv : ∀ w : World, (convert 66 9 (.slice (some ⟨w.heap.size, 0, none⟩) 1 1)).run Tryd.prog (w.alloc (.cells #[.int .u8 d] 5)) = .ok (.string ⟨#[c]⟩) (w.alloc (.cells #[.int .u8 d] 5)) := fun w => conv_new' w c d HC.out
  have hcw : ∀ w : World, (convert 66 9 (.slice (some ⟨w.heap.size, 0, none⟩) 1 1)).run Tryd.prog (w.alloc (.cells #[.int .u8 d] 5)).drew = .ok (.string ⟨#[c]⟩) (w.alloc (.cells #[.int .u8 d] 5)).drew := fun w => conv_cell _ _ c (HCELL.out w)
  go_enter Tryd.func38, Tryd.ntmps38
  go_wp2_with fail
  go_region_with (go_at_call 38; with_reducible refine Calls.mono (HIH.out _) ?_; rintro e w2 ⟨rfl, hb2⟩; (first | (have hcc : w2.cell? ⟨w.heap.size, 0, none⟩ = some (.int .u8 (c.toNat : Int)) := (hb2.cell (p := ⟨w.heap.size, 0, none⟩) (by simp)).trans (HCELL.out w); have hcx := conv_cell w2 _ c hcc) | skip))
  all_goals
    go_wp2
    go_ret
    refine ⟨ret_str (ba_eq (by rw [← HYL.out]; simp)), ?_⟩
    first
      | exact Below.alloc (Below.trans ((Below.refl w.heap.size w).drew) hb2) hb2.size _
      | exact Below.trans (((Below.refl w.heap.size w).alloc (Nat.le_refl _) _).drew) (hb2.mono (by simp))

set_option maxHeartbeats 2000000 in
theorem digits_any : ∀ (m : Nat) (w : World), m ≤ 9999 → Calls Tryd.prog 38 #[.int .i64 m] w (TextIs (dg m) w) := by
  intro m
  induction m using Nat.strongRecOn with
  | _ m ih =>
    intro w hm
    by_cases h : m < 10
    · have hk : m = 0 ∨ m = 1 ∨ m = 2 ∨ m = 3 ∨ m = 4 ∨ m = 5 ∨ m = 6 ∨ m = 7 ∨ m = 8 ∨ m = 9 := by omega
      clear ih
      rcases hk with rfl | rfl | rfl | rfl | rfl | rfl | rfl | rfl | rfl | rfl
      · have hc := conv_new' w 48 48 rfl
        go_enter Tryd.func38, Tryd.ntmps38
        go_wp2
        go_ret
        exact ⟨ret_str (by rw [dg_small 48 _ (by omega) rfl]), ((Below.refl _ _).alloc (Nat.le_refl _) _)⟩
      · have hc := conv_new' w 49 49 rfl
        go_enter Tryd.func38, Tryd.ntmps38
        go_wp2
        go_ret
        exact ⟨ret_str (by rw [dg_small 49 _ (by omega) rfl]), ((Below.refl _ _).alloc (Nat.le_refl _) _)⟩
      · have hc := conv_new' w 50 50 rfl
        go_enter Tryd.func38, Tryd.ntmps38
        go_wp2
        go_ret
        exact ⟨ret_str (by rw [dg_small 50 _ (by omega) rfl]), ((Below.refl _ _).alloc (Nat.le_refl _) _)⟩
      · have hc := conv_new' w 51 51 rfl
        go_enter Tryd.func38, Tryd.ntmps38
        go_wp2
        go_ret
        exact ⟨ret_str (by rw [dg_small 51 _ (by omega) rfl]), ((Below.refl _ _).alloc (Nat.le_refl _) _)⟩
      · have hc := conv_new' w 52 52 rfl
        go_enter Tryd.func38, Tryd.ntmps38
        go_wp2
        go_ret
        exact ⟨ret_str (by rw [dg_small 52 _ (by omega) rfl]), ((Below.refl _ _).alloc (Nat.le_refl _) _)⟩
      · have hc := conv_new' w 53 53 rfl
        go_enter Tryd.func38, Tryd.ntmps38
        go_wp2
        go_ret
        exact ⟨ret_str (by rw [dg_small 53 _ (by omega) rfl]), ((Below.refl _ _).alloc (Nat.le_refl _) _)⟩
      · have hc := conv_new' w 54 54 rfl
        go_enter Tryd.func38, Tryd.ntmps38
        go_wp2
        go_ret
        exact ⟨ret_str (by rw [dg_small 54 _ (by omega) rfl]), ((Below.refl _ _).alloc (Nat.le_refl _) _)⟩
      · have hc := conv_new' w 55 55 rfl
        go_enter Tryd.func38, Tryd.ntmps38
        go_wp2
        go_ret
        exact ⟨ret_str (by rw [dg_small 55 _ (by omega) rfl]), ((Below.refl _ _).alloc (Nat.le_refl _) _)⟩
      · have hc := conv_new' w 56 56 rfl
        go_enter Tryd.func38, Tryd.ntmps38
        go_wp2
        go_ret
        exact ⟨ret_str (by rw [dg_small 56 _ (by omega) rfl]), ((Below.refl _ _).alloc (Nat.le_refl _) _)⟩
      · have hc := conv_new' w 57 57 rfl
        go_enter Tryd.func38, Tryd.ntmps38
        go_wp2
        go_ret
        exact ⟨ret_str (by rw [dg_small 57 _ (by omega) rfl]), ((Below.refl _ _).alloc (Nat.le_refl _) _)⟩
    · have hr : m % 10 = 0 ∨ m % 10 = 1 ∨ m % 10 = 2 ∨ m % 10 = 3 ∨ m % 10 = 4 ∨ m % 10 = 5 ∨ m % 10 = 6 ∨ m % 10 = 7 ∨ m % 10 = 8 ∨ m % 10 = 9 := by omega
      have hdl := dg_len ((m / 10 : Nat) : Int) (by omega)
      have hm2 : (m : Int).tmod 10 = ((m % 10 : Nat) : Int) := by rw [Int.tmod_eq_emod_of_nonneg (by omega)]; omega
      have hq2 : (m : Int).tdiv 10 = ((m / 10 : Nat) : Int) := by rw [Int.tdiv_eq_ediv_of_nonneg (by omega)]; omega
      have IH := fun w => ih (m / 10) (by omega) w (by omega)
      have hq3 : IntKind.i64.wrap ((m / 10 : Nat) : Int) = ((m / 10 : Nat) : Int) := IntWalk.i64_in _ (by omega)
      rcases hr with h' | h' | h' | h' | h' | h' | h' | h' | h' | h' <;> rw [h'] at hm2
      · rw [dg_more m 48 (by omega) (by rw [h']; rfl)]
        exact digits_step m (m / 10) 0 48 48 _ w (by omega) hm hq2 hm2 rfl rfl hq3 rfl (by omega) (by omega) rfl (by omega) (by omega) IH
      · rw [dg_more m 49 (by omega) (by rw [h']; rfl)]
        exact digits_step m (m / 10) 1 49 49 _ w (by omega) hm hq2 hm2 rfl rfl hq3 rfl (by omega) (by omega) rfl (by omega) (by omega) IH
      · rw [dg_more m 50 (by omega) (by rw [h']; rfl)]
        exact digits_step m (m / 10) 2 50 50 _ w (by omega) hm hq2 hm2 rfl rfl hq3 rfl (by omega) (by omega) rfl (by omega) (by omega) IH
      · rw [dg_more m 51 (by omega) (by rw [h']; rfl)]
        exact digits_step m (m / 10) 3 51 51 _ w (by omega) hm hq2 hm2 rfl rfl hq3 rfl (by omega) (by omega) rfl (by omega) (by omega) IH
      · rw [dg_more m 52 (by omega) (by rw [h']; rfl)]
        exact digits_step m (m / 10) 4 52 52 _ w (by omega) hm hq2 hm2 rfl rfl hq3 rfl (by omega) (by omega) rfl (by omega) (by omega) IH
      · rw [dg_more m 53 (by omega) (by rw [h']; rfl)]
        exact digits_step m (m / 10) 5 53 53 _ w (by omega) hm hq2 hm2 rfl rfl hq3 rfl (by omega) (by omega) rfl (by omega) (by omega) IH
      · rw [dg_more m 54 (by omega) (by rw [h']; rfl)]
        exact digits_step m (m / 10) 6 54 54 _ w (by omega) hm hq2 hm2 rfl rfl hq3 rfl (by omega) (by omega) rfl (by omega) (by omega) IH
      · rw [dg_more m 55 (by omega) (by rw [h']; rfl)]
        exact digits_step m (m / 10) 7 55 55 _ w (by omega) hm hq2 hm2 rfl rfl hq3 rfl (by omega) (by omega) rfl (by omega) (by omega) IH
      · rw [dg_more m 56 (by omega) (by rw [h']; rfl)]
        exact digits_step m (m / 10) 8 56 56 _ w (by omega) hm hq2 hm2 rfl rfl hq3 rfl (by omega) (by omega) rfl (by omega) (by omega) IH
      · rw [dg_more m 57 (by omega) (by rw [h']; rfl)]
        exact digits_step m (m / 10) 9 57 57 _ w (by omega) hm hq2 hm2 rfl rfl hq3 rfl (by omega) (by omega) rfl (by omega) (by omega) IH

end Go.Proofs.YtifbhlgingaahaaDoor
