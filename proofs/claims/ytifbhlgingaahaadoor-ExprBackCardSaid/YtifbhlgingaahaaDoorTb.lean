/- What text and bracketed do. -/
import Derived.Test.YtifbhlgingaahaaDoorTa
import Derived.Deep.RegionWith
import Derived.Deep.RegionHeld3
namespace Go.Proofs.YtifbhlgingaahaaDoor
open Go.RowKit

theorem dg_len (n : Int) (h : n ≤ 9999) : (dg n).length ≤ 4 := by
  have key : ∀ m : Nat, m ≤ 9999 → (Lib.decDigits m).length ≤ 4 := by
    intro m hm
    rw [Lib.decDigits]
    split
    · simp
    · rw [List.length_append, Lib.decDigits]
      split
      · simp
      · rw [List.length_append, Lib.decDigits]
        split
        · simp
        · rw [List.length_append, Lib.decDigits]
          split
          · simp
          · omega
  exact key _ (by omega)

theorem wrap_len (e : Ex) (s : List UInt8) : (wrapB e s).length ≤ s.length + 2 := by cases e <;> simp [wrapB]
theorem sgO_len (op : Nat) : (sgO op).length ≤ 2 := by
  unfold sgO
  by_cases h : op < 15
  · have : ∀ k, (h : k < 15) → (sgT.getD k []).length ≤ 2 := by decide
    exact this op h
  · have h2 : sgT.length = 15 := rfl
    rw [List.getD_eq_getElem?_getD, List.getElem?_eq_none (by omega)]; simp

/-- A text is no longer than its nodes allow. -/
theorem showE_len (e : Ex) (h : ∀ x ∈ e.flat, okN x = true) : (showE e).length ≤ 40 * e.size := by
  induction e with
  | leaf x =>
    have hx := h x (by simp [Ex.flat])
    unfold showE
    by_cases h1 : x.op = 1
    · rw [if_pos h1]
      simp [okN, h1, numB] at hx
      have := dg_len x.n hx.2.1.2
      simp [Ex.size]; omega
    · rw [if_neg h1]
      by_cases h4 : x.op = 4
      · rw [if_pos h4]
        simp [okN, h4] at hx
        have a1 := nameB_size _ hx.2.2.1
        have a2 := nameB_size _ hx.2.2.2
        simp [Ex.size]; omega
      · rw [if_neg h4]
        by_cases h2 : x.op = 2 ∨ x.op = 3
        · unfold okN at hx
          rw [if_neg h1, if_pos h2] at hx
          simp at hx
          have a1 := nameB_size _ hx.2.2.1
          simp [Ex.size]; omega
        · unfold okN at hx
          rw [if_neg h1, if_neg h2, if_neg h4] at hx
          have h5 : x.nm.size = 0 := by simp at hx; rw [hx.2.2.1]; rfl
          simp [Ex.size]; omega
  | un x a ih =>
    have h1 := ih fun y hy => h y (by simp [Ex.flat, hy])
    have h2 := wrap_len a (showE a)
    simp only [showE, Ex.size, List.length_append, List.length_cons, List.length_nil]; omega
  | bin x a b iha ihb =>
    have h1 := iha fun y hy => h y (by simp [Ex.flat, hy])
    have h2 := ihb fun y hy => h y (by simp [Ex.flat, hy])
    have h3 := wrap_len a (showE a)
    have h4 := wrap_len b (showE b)
    have h5 := sgO_len x.op.toNat
    simp only [showE, Ex.size, List.length_append, List.length_cons, List.length_nil]; omega

def hdN' : Ex → Nd
  | .leaf x => x
  | .un x _ => x
  | .bin x _ _ => x

theorem wrap_bin (e : Ex) (h : e.wf) (s : List UInt8) : wrapB e s = if ar (hdN' e).op = 2 then [40] ++ s ++ [41] else s := by
  cases e with
  | leaf x => have h' : ar x.op = 0 := h; simp [wrapB, hdN', h']
  | un x a => simp [wrapB, hdN', h.1]
  | bin x a b => simp [wrapB, hdN', h.1]

set_option maxHeartbeats 1000000 in
theorem brk_any (e : Ex) (v : Value) (w : World) (hv : NdsC w v e.flat) (hw : e.wf) (hlen : (showE e).length ≤ 100000) (ht : Calls Tryd.prog 28 #[v] w (TextIs (showE e) w)) :
    Calls Tryd.prog 37 #[v] w (TextIs (wrapB e (showE e)) w) := by
  rw [wrap_bin e hw]
  obtain ⟨s, hs⟩ : ∃ s, s = showE e := ⟨_, rfl⟩
  rw [← hs] at ht hlen ⊢
  obtain ⟨y, hy⟩ : ∃ y : ByteArray, y = ⟨s.toArray⟩ := ⟨_, rfl⟩
  have hys : y.size ≤ 100000 := by rw [hy, Lib.size_eq]; exact hlen
  have hyl : y.data.toList = s := by rw [hy]
  unfold TextIs at ht
  rw [← hy] at ht
  have hpos : 0 < e.flat.length := by rw [e.flat_length]; exact e.size_pos'
  obtain ⟨ad, cap, rfl, h1, h2, hc⟩ := hv
  obtain ⟨b, off, rfl, hb, x0, _⟩ := hc 0 hpos
  have hx : e.flat[0] = hdN' e := by cases e <;> rfl
  rw [hx] at x0
  simp only [Nat.zero_mul, Nat.add_zero] at x0
  obtain ⟨o, ho⟩ : ∃ o, o = (hdN' e).op := ⟨_, rfl⟩
  rw [← ho] at x0 ⊢
  obtain ⟨a, ha⟩ : ∃ a, a = ar o := ⟨_, rfl⟩
  have HA : ∀ w, Calls Tryd.prog 26 #[.int .i64 o] w fun e w' => e = .returned (.int .i64 a) ∧ w = w' := fun w => ha ▸ operands_any o w
  rw [← ha]
  obtain ⟨n, hn⟩ : ∃ n, n = e.flat.length := ⟨_, rfl⟩
  rw [← hn] at ht hpos h1 ⊢
  have HYL := Lib.hid hyl
  clear hc hx ho ha hn hy hs hw hlen hyl
  by_cases h : a = 2
  · subst h
    rw [if_pos rfl]
    go_enter Tryd.func37, Tryd.ntmps37
    go_wp2_with (first
      | (go_at_call 26; refine (HA _).mono ?_; rintro e w2 ⟨rfl, rfl⟩)
      | (go_at_call 28; refine ht.mono ?_; rintro e w2 ⟨rfl, hb2⟩))
    go_ret
    exact ⟨ret_str (ba_eq (by rw [← HYL.out]; simp)), hb2⟩
  · rw [if_neg h]
    have q : (a == 2) = false := by simpa using h
    clear h
    go_enter Tryd.func37, Tryd.ntmps37
    go_wp2_with (first
      | (go_at_call 26; refine (HA _).mono ?_; rintro e w2 ⟨rfl, rfl⟩)
      | (go_at_call 28; refine ht.mono ?_; rintro e w2 ⟨rfl, hb2⟩))
    go_ret
    exact ⟨ret_str (ba_eq HYL.out), hb2⟩

set_option maxHeartbeats 4000000 in
theorem text_un (x : Nd) (a : Ex) (v : Value) (w : World) (hv : NdsC w v (Ex.un x a).flat) (hx : x.op = 5) (ht : Tabs w) (hlen : (showE a).length ≤ 100000)
    (hA : ∀ v w', Below w.heap.size w w' → NdsC w' v a.flat → Calls Tryd.prog 37 #[v] w' (TextIs (wrapB a (showE a)) w')) :
    Calls Tryd.prog 28 #[v] w (TextIs (showE (.un x a)) w) := by
  show Calls Tryd.prog 28 #[v] w (TextIs ([33] ++ wrapB a (showE a)) w)
  have hwl := wrap_len a (showE a)
  obtain ⟨s, hs⟩ : ∃ s, s = wrapB a (showE a) := ⟨_, rfl⟩
  rw [← hs] at hA hwl ⊢
  obtain ⟨y, hy⟩ : ∃ y : ByteArray, y = ⟨s.toArray⟩ := ⟨_, rfl⟩
  have hys : y.size ≤ 100002 := by rw [hy, Lib.size_eq]; show s.length ≤ 100002; omega
  have hyl : y.data.toList = s := by rw [hy]
  unfold TextIs at hA
  rw [← hy] at hA
  have HYL := Lib.hid hyl
  have hfl : (Ex.un x a).flat.length = a.size + 1 := by rw [Ex.flat_length]; rfl
  have hps := a.size_pos'
  have HV := Lib.hid hv
  obtain ⟨ad, cap, rfl, h1, h2, hc⟩ := hv
  obtain ⟨b, off, rfl, hb, x0, x1, x2, x3, x4⟩ := hc 0 (by omega)
  simp only [show (Ex.un x a).flat[0]'(by omega) = x from rfl, Nat.zero_mul, Nat.add_zero] at x0 x1 x2 x3 x4
  have hd := HV.out.drop 1 (by omega)
  rw [show (Ex.un x a).flat.drop 1 = a.flat from rfl, hfl] at hd
  simp only [Nat.one_mul, Nat.add_sub_cancel] at hd
  have HD := Lib.hid hd
  rw [hfl] at h1 ⊢
  have HA : Hid (∀ w', Below w.heap.size w w' → Calls Tryd.prog 37 #[.slice (some ⟨b, off + 5, none⟩) a.size (cap - 1)] w' fun e w'' => e = .returned (.string y) ∧ Below w'.heap.size w' w'') := fun w' hb => hA _ w' hb (HD.out.below hb)
  obtain ⟨n, hn⟩ : ∃ n, n = a.size := ⟨_, rfl⟩
  rw [← hn] at h1 hps HA ⊢
  obtain ⟨xo, xn, xm, xi, xp⟩ := x
  simp only [] at hx x0 x1 x2 x3 x4
  subst hx
  have HT := Lib.hid ht
  clear hc hd HD HV hA hs hy hyl hn hfl hlen hwl ht
  have hc1 : ¬ cap = 1 := by omega
  have hc2 : 1 ≤ cap := by omega
  have hc3 : 1 ≤ n + 1 := by omega
  go_enter Tryd.func28, Tryd.ntmps28
  go_wp2_with fail
  go_region
  have hb1 : Below w.heap.size w ((w.alloc (.cells #[.int .i64 5, .int .i64 xn, .string xm, .string xi, .int .i64 xp] 32)).drewN 1) := ((Below.refl _ _).alloc (Nat.le_refl _) _).drew
  change Exit.then _ _ _ _ ((w.alloc (.cells #[.int .i64 5, .int .i64 xn, .string xm, .string xi, .int .i64 xp] 32)).drewN 1)
  have hnb : BlkN ((w.alloc (.cells #[.int .i64 5, .int .i64 xn, .string xm, .string xi, .int .i64 xp] 32)).drewN 1) w.heap.size ⟨5, xn, xm, xi, xp⟩ := heap_alloc_new w _
  generalize ((w.alloc (.cells #[.int .i64 5, .int .i64 xn, .string xm, .string xi, .int .i64 xp] 32)).drewN 1) = w1 at hb1 hnb ⊢
  obtain ⟨n0, n1, n2, n3, n4⟩ := hnb.facts
  simp only [] at n0 n1 n2 n3 n4
  have hz0 : 0 < w1.heap.size := (HT.out.below hb1).1.1
  have s5 : w1.cell? ⟨0, 5, none⟩ = some (.string ⟨#[33]⟩) := (HT.out.below hb1).1.2 5 (by omega)
  clear hnb x0 x1 x2 x3 x4
  go_wp2_with fail
  go_region_with (go_at_call 37; refine (HA.out _ (by first | exact hb1.drew | exact hb1)).mono ?_; rintro e w2 ⟨rfl, hb2⟩; have hb3 : Below w1.heap.size w1 w2 := (by first | exact ((Below.refl _ w1).drew).trans hb2 | exact hb2); have s5' : w2.cell? ⟨0, 5, none⟩ = some (.string ⟨#[33]⟩) := (hb3.cell (p := ⟨0, 5, none⟩) hz0).trans s5)
  all_goals
    go_wp2
    go_ret
    exact ⟨ret_str (ba_eq (by rw [← HYL.out]; simp)), hb1.trans (hb3.mono hb1.size)⟩

end Go.Proofs.YtifbhlgingaahaaDoor
