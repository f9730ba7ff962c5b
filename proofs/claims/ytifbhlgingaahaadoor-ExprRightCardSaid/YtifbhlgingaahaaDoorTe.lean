/- What the reference's show and operand do. -/
import Derived.Test.YtifbhlgingaahaaDoorTd
namespace Go.Proofs.YtifbhlgingaahaaDoor
open Go.RowKit

/-- An expression stands at a place of a list. -/
def AtL (L : List Nd) (i : Nat) (e : Ex) : Prop := ∃ post, L.drop i = e.flat ++ post

theorem flat_cons (e : Ex) : ∃ r, e.flat = hdN' e :: r := by cases e <;> exact ⟨_, rfl⟩
theorem AtL.head {L : List Nd} {i : Nat} {e : Ex} (h : AtL L i e) : i < L.length ∧ ∀ h' : i < L.length, L[i] = hdN' e := by
  obtain ⟨post, h⟩ := h
  obtain ⟨r, hr⟩ := flat_cons e
  rw [hr, List.cons_append] at h
  have hl : i < L.length := by
    have := congrArg List.length h
    rw [List.length_drop, List.length_cons] at this
    omega
  refine ⟨hl, fun h' => ?_⟩
  rw [List.drop_eq_getElem_cons h'] at h
  exact (List.cons.inj h).1
theorem AtL.un {L : List Nd} {i : Nat} {x : Nd} {a : Ex} (h : AtL L i (.un x a)) : AtL L (i + 1) a := by
  have hl := h.head.1
  obtain ⟨post, h⟩ := h
  refine ⟨post, ?_⟩
  rw [List.drop_eq_getElem_cons hl] at h
  exact (List.cons.inj h).2
theorem AtL.left {L : List Nd} {i : Nat} {x : Nd} {a b : Ex} (h : AtL L i (.bin x a b)) : AtL L (i + 1) a := by
  have hl := h.head.1
  obtain ⟨post, h⟩ := h
  refine ⟨b.flat ++ post, ?_⟩
  rw [List.drop_eq_getElem_cons hl] at h
  exact (List.cons.inj h).2.trans (List.append_assoc _ _ _)
theorem AtL.right {L : List Nd} {i : Nat} {x : Nd} {a b : Ex} (h : AtL L i (.bin x a b)) : AtL L (i + 1 + a.size) b := by
  obtain ⟨post, h'⟩ := h
  have hl := (show AtL L i (.bin x a b) from ⟨post, h'⟩).head.1
  refine ⟨post, ?_⟩
  rw [List.drop_eq_getElem_cons hl] at h'
  rw [← List.drop_drop, (List.cons.inj h').2.trans (List.append_assoc _ _ _), List.drop_left' a.flat_length]
theorem AtL.endL {L : List Nd} {i : Nat} {e : Ex} (h : AtL L i e) (hw : e.wf) : endL L i = ((i + e.size : Nat) : Int) := by
  obtain ⟨post, h⟩ := h
  rw [endL_nat, h]
  have := endF_flat e hw post 1 i (Nat.le_refl _)
  rw [if_pos rfl] at this
  rw [show (1 : Int) = ((1 : Nat) : Int) from rfl, this]
  rfl

set_option maxHeartbeats 1000000 in
theorem opd_any (L : List Nd) (e : Ex) (v : Value) (i : Nat) (w : World) (hv : NdsC w v L) (he : AtL L i e) (hw : e.wf) (hlen : (showE e).length ≤ 100000) (ht : Calls Tryd.prog 29 #[v, .int .i64 i] w (TextIs (showE e) w)) :
    Calls Tryd.prog 39 #[v, .int .i64 i] w (TextIs (wrapB e (showE e)) w) := by
  rw [wrap_bin e hw]
  obtain ⟨s, hs⟩ : ∃ s, s = showE e := ⟨_, rfl⟩
  rw [← hs] at ht hlen ⊢
  obtain ⟨y, hy⟩ : ∃ y : ByteArray, y = ⟨s.toArray⟩ := ⟨_, rfl⟩
  have hys : y.size ≤ 100000 := by rw [hy, Lib.size_eq]; exact hlen
  have hyl : y.data.toList = s := by rw [hy]
  unfold TextIs at ht
  rw [← hy] at ht
  obtain ⟨hpos, hx⟩ := he.head
  obtain ⟨ad, cap, rfl, h1, h2, hc⟩ := hv
  obtain ⟨b, off, rfl, hb, x0, _⟩ := hc i hpos
  rw [hx hpos] at x0
  obtain ⟨o, ho⟩ : ∃ o, o = (hdN' e).op := ⟨_, rfl⟩
  rw [← ho] at x0 ⊢
  obtain ⟨a, ha⟩ : ∃ a, a = ar o := ⟨_, rfl⟩
  have HA : ∀ w, Calls Tryd.prog 27 #[.int .i64 o] w fun e w' => e = .returned (.int .i64 (ar o)) ∧ w = w' := fun w => kids_any o w
  rw [← ha] at HA ⊢
  obtain ⟨m, hm⟩ : ∃ m, m = L.length := ⟨_, rfl⟩
  rw [← hm] at ht hpos h1 ⊢
  have hi1 : (i : Int) < (m : Int) := by omega
  have hi0 : (0 : Int) ≤ (i : Int) := Int.natCast_nonneg _
  have HYL := Lib.hid hyl
  clear hc hx ho ha hy hs hw hlen hyl hm he
  by_cases h : a = 2
  · subst h
    rw [if_pos rfl]
    go_enter Tryd.func39, Tryd.ntmps39
    go_wp2_with (first
      | (go_at_call 27; refine (HA _).mono ?_; rintro e w2 ⟨rfl, rfl⟩)
      | (go_at_call 29; refine ht.mono ?_; rintro e w2 ⟨rfl, hb2⟩; have x1 := (hb2.cell (p := ⟨b, off + i * 5, none⟩) hb).trans x0))
    go_ret
    exact ⟨ret_str (ba_eq (by rw [← HYL.out]; simp)), hb2⟩
  · rw [if_neg h]
    have q : (a == 2) = false := by simpa using h
    clear h
    go_enter Tryd.func39, Tryd.ntmps39
    go_wp2_with (first
      | (go_at_call 27; refine (HA _).mono ?_; rintro e w2 ⟨rfl, rfl⟩)
      | (go_at_call 29; refine ht.mono ?_; rintro e w2 ⟨rfl, hb2⟩; have x1 := (hb2.cell (p := ⟨b, off + i * 5, none⟩) hb).trans x0))
    go_ret
    exact ⟨ret_str (ba_eq HYL.out), hb2⟩

set_option maxHeartbeats 1000000 in
theorem show_leaf (L : List Nd) (x : Nd) (v : Value) (i : Nat) (w : World) (hv : NdsC w v L) (he : AtL L i (.leaf x)) (hx : ar x.op = 0) (hok : okN x = true) :
    Calls Tryd.prog 29 #[v, .int .i64 i] w (TextIs (showE (.leaf x)) w) := by
  obtain ⟨hpos, hh⟩ := he.head
  obtain ⟨ad, cap, rfl, h1, h2, hc⟩ := hv
  obtain ⟨b, off, rfl, hb, x0, x1, x2, x3, x4⟩ := hc i hpos
  rw [hh hpos] at x0 x1 x2 x3 x4
  obtain ⟨xo, xn, xm, xi, xp⟩ := x
  simp only [hdN'] at x0 x1 x2 x3 x4
  obtain ⟨m, hm⟩ : ∃ m, m = L.length := ⟨_, rfl⟩
  rw [← hm] at hpos h1 ⊢
  have hi1 : (i : Int) < (m : Int) := by omega
  have hi0 : (0 : Int) ≤ (i : Int) := Int.natCast_nonneg _
  have HOK := Lib.hid hok
  have hcase : xo = 1 ∨ xo = 2 ∨ xo = 3 ∨ xo = 4 := by
    have h : ar xo = 0 := hx
    unfold ar at h
    split at h
    · omega
    · split at h
      · omega
      · split at h <;> omega
  clear hc hh hm he hok hx
  have hbx : ∀ w2, Below w.heap.size w ((w.alloc w2).drew) := fun w2 => ((Below.refl _ _).alloc (Nat.le_refl _) _).drew
  have hby : ∀ w2, Below w.heap.size w (w.alloc w2) := fun w2 => ((Below.refl _ _).alloc (Nat.le_refl _) _)
  rcases hcase with rfl | rfl | rfl | rfl
  · obtain ⟨n0, n9⟩ : 0 ≤ xn ∧ xn ≤ 9999 := by
      have h := HOK.out
      simp [okN, numB] at h
      exact h.2.1
    obtain ⟨k, rfl⟩ : ∃ k : Nat, xn = k := ⟨xn.toNat, by omega⟩
    have HIT : ∀ w', Calls Tryd.prog 38 #[.int .i64 k] w' fun e w'' => e = .returned (.string ⟨(dg k).toArray⟩) ∧ Below w'.heap.size w' w'' := fun w' => digits_any k w' (by omega)
    have HI2 := Lib.hid HIT
    clear HIT
    go_enter Tryd.func29, Tryd.ntmps29
    go_wp2_with (go_at_call 38; refine (HI2.out _).mono ?_; rintro e w2 ⟨rfl, hb2⟩)
    go_ret
    exact ⟨rfl, (hby _).trans (hb2.mono (by simp))⟩
  · go_enter Tryd.func29, Tryd.ntmps29
    go_wp2
    go_ret
    exact ⟨rfl, hby _⟩
  · go_enter Tryd.func29, Tryd.ntmps29
    go_wp2
    go_ret
    exact ⟨rfl, hby _⟩
  · obtain ⟨s1, s2⟩ : xm.size ≤ 16 ∧ xi.size ≤ 16 := by
      have h := HOK.out
      simp [okN] at h
      exact ⟨nameB_size xm h.2.2.1, nameB_size xi h.2.2.2⟩
    go_enter Tryd.func29, Tryd.ntmps29
    go_wp2
    go_ret
    exact ⟨ret_str (ba_eq (by simp [showE])), hby _⟩

set_option maxHeartbeats 4000000 in
theorem show_un (L : List Nd) (x : Nd) (a : Ex) (v : Value) (i : Nat) (w : World) (hv : NdsC w v L) (he : AtL L i (.un x a)) (hL : L.length ≤ 100000) (hx : x.op = 5) (hlen : (showE a).length ≤ 100000)
    (hA : ∀ w', Below w.heap.size w w' → Calls Tryd.prog 39 #[v, .int .i64 (i + 1 : Nat)] w' (TextIs (wrapB a (showE a)) w')) :
    Calls Tryd.prog 29 #[v, .int .i64 i] w (TextIs (showE (.un x a)) w) := by
  show Calls Tryd.prog 29 #[v, .int .i64 i] w (TextIs ([33] ++ wrapB a (showE a)) w)
  have hwl := wrap_len a (showE a)
  obtain ⟨s, hs⟩ : ∃ s, s = wrapB a (showE a) := ⟨_, rfl⟩
  rw [← hs] at hA hwl ⊢
  obtain ⟨y, hy⟩ : ∃ y : ByteArray, y = ⟨s.toArray⟩ := ⟨_, rfl⟩
  have hys : y.size ≤ 100002 := by rw [hy, Lib.size_eq]; show s.length ≤ 100002; omega
  have hyl : y.data.toList = s := by rw [hy]
  unfold TextIs at hA
  rw [← hy] at hA
  have HYL := Lib.hid hyl
  obtain ⟨hpos, hh⟩ := he.head
  obtain ⟨ad, cap, rfl, h1, h2, hc⟩ := hv
  obtain ⟨b, off, rfl, hb, x0, x1, x2, x3, x4⟩ := hc i hpos
  rw [hh hpos] at x0 x1 x2 x3 x4
  obtain ⟨xo, xn, xm, xi, xp⟩ := x
  simp only [hdN'] at hx x0 x1 x2 x3 x4
  subst hx
  obtain ⟨m, hm⟩ : ∃ m, m = L.length := ⟨_, rfl⟩
  rw [← hm] at hA hpos hL h1 ⊢
  have hi1 : (i : Int) < (m : Int) := by omega
  have hi0 : (0 : Int) ≤ (i : Int) := Int.natCast_nonneg _
  have hi2 : (i : Int) ≤ 100000 := by omega
  have HA := Lib.hid hA
  have hbx : Below w.heap.size w ((w.alloc (.cells #[.int .i64 5, .int .i64 xn, .string xm, .string xi, .int .i64 xp] 32))) := ((Below.refl _ _).alloc (Nat.le_refl _) _)
  clear hc hh hm he hA hs hy hyl hlen hwl
  go_enter Tryd.func29, Tryd.ntmps29
  go_wp2_with (go_at_call 39; refine (HA.out _ hbx).mono ?_; rintro e w2 ⟨rfl, hb2⟩)
  go_ret
  exact ⟨ret_str (ba_eq (by rw [← HYL.out]; simp)), hbx.trans (hb2.mono hbx.size)⟩

set_option maxHeartbeats 8000000 in
theorem show_bin (L : List Nd) (x : Nd) (a b : Ex) (v : Value) (i : Nat) (w : World) (hv : NdsC w v L) (he : AtL L i (.bin x a b)) (hL : L.length ≤ 100000) (hwf : (Ex.bin x a b).wf) (hla : (showE a).length ≤ 100000) (hlb : (showE b).length ≤ 100000)
    (hA : ∀ w', Below w.heap.size w w' → Calls Tryd.prog 39 #[v, .int .i64 (i + 1 : Nat)] w' (TextIs (wrapB a (showE a)) w'))
    (hB : ∀ w', Below w.heap.size w w' → Calls Tryd.prog 39 #[v, .int .i64 (i + 1 + a.size : Nat)] w' (TextIs (wrapB b (showE b)) w')) :
    Calls Tryd.prog 29 #[v, .int .i64 i] w (TextIs (showE (.bin x a b)) w) := by
  show Calls Tryd.prog 29 #[v, .int .i64 i] w (TextIs (wrapB a (showE a) ++ [32] ++ sgO x.op.toNat ++ [32] ++ wrapB b (showE b)) w)
  have hwa := wrap_len a (showE a)
  have hwb := wrap_len b (showE b)
  obtain ⟨s, hs⟩ : ∃ s, s = wrapB a (showE a) := ⟨_, rfl⟩
  obtain ⟨r, hr⟩ : ∃ r, r = wrapB b (showE b) := ⟨_, rfl⟩
  rw [← hs] at hA hwa ⊢
  rw [← hr] at hB hwb ⊢
  obtain ⟨y, hy⟩ : ∃ y : ByteArray, y = ⟨s.toArray⟩ := ⟨_, rfl⟩
  obtain ⟨z, hz⟩ : ∃ z : ByteArray, z = ⟨r.toArray⟩ := ⟨_, rfl⟩
  have hys : y.size ≤ 100002 := by rw [hy, Lib.size_eq]; show s.length ≤ 100002; omega
  have hzs : z.size ≤ 100002 := by rw [hz, Lib.size_eq]; show r.length ≤ 100002; omega
  have hyl : y.data.toList = s := by rw [hy]
  have hzl : z.data.toList = r := by rw [hz]
  unfold TextIs at hA hB
  rw [← hy] at hA
  rw [← hz] at hB
  have HYL := Lib.hid hyl
  have HZL := Lib.hid hzl
  have hend := he.left.endL hwf.2.1
  have HE : Hid (∀ w', Below w.heap.size w w' → Calls Tryd.prog 13 #[v, .int .i64 (i + 1 : Nat)] w' fun e w'' => e = .returned (.int .i64 (i + 1 + a.size : Nat)) ∧ w' = w'') := fun w' hb => by
    have h := rend_any L v ((i + 1 : Nat) : Int) w' (hv.below hb).nds hL
    rw [hend] at h
    exact h
  obtain ⟨k2, hk2⟩ : ∃ k2, k2 = i + 1 + a.size := ⟨_, rfl⟩
  rw [← hk2] at HE hB
  obtain ⟨hpos, hh⟩ := he.head
  obtain ⟨ad, cap, rfl, h1, h2, hc⟩ := hv
  obtain ⟨g, off, rfl, hg, x0, x1, x2, x3, x4⟩ := hc i hpos
  rw [hh hpos] at x0 x1 x2 x3 x4
  obtain ⟨xo, xn, xm, xi, xp⟩ := x
  have hop : ar xo = 2 := hwf.1
  simp only [hdN'] at x0 x1 x2 x3 x4 ⊢
  obtain ⟨k, rfl, hk6, hk15⟩ : ∃ k : Nat, xo = k ∧ 6 ≤ k ∧ k < 15 := by
    refine ⟨xo.toNat, ?_⟩
    unfold ar at hop
    repeat (split at hop <;> try omega)
  obtain ⟨m, hm⟩ : ∃ m, m = L.length := ⟨_, rfl⟩
  rw [← hm] at hA hB HE hpos hL h1 ⊢
  obtain ⟨i', hi'⟩ : ∃ i' : Nat, i' = i + 1 := ⟨_, rfl⟩
  rw [← hi'] at hA HE
  have hi1 : (i : Int) < (m : Int) := by omega
  have hi0 : (0 : Int) ≤ (i : Int) := Int.natCast_nonneg _
  have hi2 : (i : Int) ≤ 100000 := by omega
  have hwi : IntKind.i64.wrap ((i : Int) + 1) = (i' : Int) := by rw [hi']; exact IntWalk.i64_in _ (by omega)
  have HA := Lib.hid hA
  have HB := Lib.hid hB
  obtain ⟨u, hu⟩ : ∃ u, u = sgV k := ⟨_, rfl⟩
  have hus : u.size ≤ 2 := by rw [hu, Lib.size_eq]; exact sgO_len k
  have hul : u.data.toList = sgO k := by rw [hu, sgV]
  have HUL := Lib.hid hul
  have HS : Hid (∀ w, Calls Tryd.prog 40 #[.int .i64 k] w fun e w' => e = .returned (.string u) ∧ Below w.heap.size w w') := fun w => by rw [hu]; exact rsign_any k w (by omega) hk15
  have e1 : (((k : Int) == 1) = false) := by simp; omega
  have e2 : (((k : Int) == 2) = false) := by simp; omega
  have e3 : (((k : Int) == 3) = false) := by simp; omega
  have e4 : (((k : Int) == 4) = false) := by simp; omega
  have e5 : (((k : Int) == 5) = false) := by simp; omega
  have q1 : ¬ 9223372036854775806 < y.size := by omega
  have q2 : ¬ 9223372036854775807 < y.size + 1 := by omega
  have q3 : ¬ 9223372036854775807 < y.size + 1 + u.size := by omega
  have q4 : ¬ 9223372036854775806 < y.size + 1 + u.size := by omega
  have q5 : ¬ 9223372036854775807 < y.size + 1 + u.size + 1 := by omega
  have q6 : ¬ 9223372036854775807 < y.size + 1 + u.size + 1 + z.size := by omega
  clear hc hh hm he hA hB hs hr hy hz hyl hzl hla hlb hwa hwb hwf hop hu hul hend hk2 hi'
  have hb1 : Below w.heap.size w ((w.alloc (.cells #[.int .i64 k, .int .i64 xn, .string xm, .string xi, .int .i64 xp] 32))) := ((Below.refl _ _).alloc (Nat.le_refl _) _)
  have hnb : BlkN ((w.alloc (.cells #[.int .i64 k, .int .i64 xn, .string xm, .string xi, .int .i64 xp] 32))) w.heap.size ⟨k, xn, xm, xi, xp⟩ := heap_alloc_new w _
  have hnz : w.heap.size < ((w.alloc (.cells #[.int .i64 k, .int .i64 xn, .string xm, .string xi, .int .i64 xp] 32))).heap.size := by simp
  go_enter Tryd.func29, Tryd.ntmps29
  go_wp2_with fail
  generalize ((w.alloc (.cells #[.int .i64 k, .int .i64 xn, .string xm, .string xi, .int .i64 xp] 32))) = w1 at hb1 hnb hnz ⊢
  obtain ⟨n0, n1, n2, n3, n4⟩ := hnb.facts
  simp only [] at n0 n1 n2 n3 n4
  clear hnb x0 x1 x2 x3 x4
  go_region_held3 (fun w' => w'.cell? ⟨w.heap.size, 0, none⟩ = some (.int .i64 k) ∧ Below w1.heap.size w1 w')
    (first | exact ⟨n0, Below.refl _ _⟩ | exact ⟨n0, (Below.refl _ _).drew⟩ | assumption | (go_split_ands; exact ⟨by assumption, by assumption⟩) | (go_split_ands; exact ⟨(hb3.cell (p := ⟨w.heap.size, 0, none⟩) hnz).trans n0, hb3⟩))
    ((go_split_ands; (first | (with_reducible refine Calls.mono (HA.out _ ?_) ?_; (exact hb1.trans (Below.mono (by assumption) hb1.size)); rintro e w2 ⟨rfl, hb2⟩; have hb3 : Below w1.heap.size w1 w2 := Below.trans (by assumption) (hb2.mono (Below.size (by assumption)))) | (with_reducible refine Calls.mono (HB.out _ ?_) ?_; (exact hb1.trans (Below.mono (by assumption) hb1.size)); rintro e w2 ⟨rfl, hb2⟩; have hb3 : Below w1.heap.size w1 w2 := Below.trans (by assumption) (hb2.mono (Below.size (by assumption)))) | (with_reducible refine Calls.mono (HS.out _) ?_; rintro e w2 ⟨rfl, hb2⟩; have hb3 : Below w1.heap.size w1 w2 := Below.trans (by assumption) (hb2.mono (Below.size (by assumption)))) | (with_reducible refine Calls.mono (HE.out _ ?_) ?_; (exact hb1.trans (Below.mono (by assumption) hb1.size)); rintro e w2 ⟨rfl, rfl⟩))))
  go_split_ands
  go_wp2
  go_ret
  exact ⟨ret_str (ba_eq (by rw [← HYL.out, ← HZL.out, show ((k : Nat) : Int).toNat = k from rfl, ← HUL.out]; simp)), hb1.trans (Below.mono (by assumption) hb1.size)⟩

end Go.Proofs.YtifbhlgingaahaaDoor
