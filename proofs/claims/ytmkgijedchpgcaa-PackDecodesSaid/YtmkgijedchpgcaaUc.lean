/- Right of code. -/
import Derived.Test.YtmkgijedchpgcaaUb
namespace Go.Proofs.Ytmkgijedchpgcaa
set_option linter.unusedSimpArgs false
set_option linter.unusedVariables false
open Go.RowKit

theorem ar_kind (o : Int) : (1 ≤ o ∧ o ≤ 4 ∧ ar o = 0) ∨ (o = 5 ∧ ar o = 1) ∨ (6 ≤ o ∧ o ≤ 14 ∧ ar o = 2) ∨ ((o < 1 ∨ 14 < o) ∧ ar o = -1) := by
  unfold ar
  by_cases h1 : 1 ≤ o ∧ o ≤ 4
  · rw [if_pos h1]; omega
  · rw [if_neg h1]
    by_cases h2 : o = 5
    · rw [if_pos h2]; omega
    · rw [if_neg h2]
      by_cases h3 : 6 ≤ o ∧ o ≤ 14
      · rw [if_pos h3]; omega
      · rw [if_neg h3]; omega

set_option maxRecDepth 100000 in
set_option maxHeartbeats 4000000 in
theorem lies_any (l : List Opn) (v : Value) (w : World) (hv : OpsD w v l) (hn : l.length ≤ 100000) (m0 k0 : Int) (hR : htsL l 0 0 = (m0, k0)) :
    Calls Try.prog 61 #[v] w fun e w' => e = .returned (.tuple #[.int .i64 k0, .int .i64 m0]) ∧ w = w' := by
  obtain ⟨ad, cap, rfl, hcap1, hcap2, hc⟩ := hv
  have HC := Lib.hid hc
  have HR0 : Hid (htsL (l.drop 0) 0 0 = (m0, k0)) := Lib.hid hR
  obtain ⟨n, hN⟩ : ∃ n, n = l.length := ⟨_, rfl⟩
  rw [← hN] at hn ⊢
  have HN := Lib.hid hN
  clear hN hc hcap1 hcap2 hR
  go_enter Try.func61, Try.ntmps61
  go_wp2_with fail
  go_loopg [4, 5, 6] n (fun fuel h' m' i' wr => ∃ (k : Nat) (m z : Int), i' = .int .i64 k ∧ m' = .int .i64 m ∧ h' = .int .i64 z ∧ k ≤ n ∧ n - k ≤ fuel ∧ 0 ≤ m ∧ m ≤ k ∧ 0 ≤ z ∧ z ≤ k ∧ htsL (l.drop k) m z = (m0, k0) ∧ w = wr)
  case atStart => exact ⟨0, 0, 0, rfl, rfl, rfl, Nat.zero_le _, Nat.le_refl _, by omega, by omega, by omega, by omega, HR0.out, rfl⟩
  case round =>
    obtain ⟨k, m, z, rfl, rfl, rfl, hk, hf, hm0, hm1, hh0, hh1, ha, rfl⟩ := hrel
    have HA := Lib.hid ha
    clear ha
    by_cases hlt : k < n
    · have hk' : k < l.length := by have := HN.out; omega
      have HE := Lib.hid (htsL_at l k hk' m z)
      obtain ⟨b, off, rfl, hbl, x0, x1, x2⟩ := HC.out k hk'
      obtain ⟨⟨xo, xn, xt⟩, hx⟩ : ∃ x, x = l[k] := ⟨_, rfl⟩
      rw [← hx] at x0 HE
      simp only [] at x0 HE
      have c0 : w.cell? ⟨b, off + k * 3, none⟩ = some (.int .i64 xo) := x0
      have HK := Lib.hid (ar_kind xo)
      clear x0 x1 x2 hx
      go_wp2
      all_goals
        rcases HK.out with h4 | h4 | h4 | h4
      all_goals try (exfalso; omega)
      all_goals first
        | (have h2 := HA.out
           rw [HE.out, if_pos (by omega)] at h2
           obtain ⟨rfl, rfl⟩ := Prod.mk.inj h2
           go_ret2
           exact ⟨rfl, rfl⟩)
        | (go_roundg (gk - 1)
           case measure => omega
           case rel =>
             have h2 := HA.out
             rw [HE.out, if_neg (by omega)] at h2
             exact ⟨k + 1, max m (z + 1 - ar xo), z + 1 - ar xo, by go_num, by congr 1; omega, by congr 1; omega, by omega, by omega, by omega, by omega, by omega, by omega, h2, rfl⟩)
    · have HE := Lib.hid (htsL_over l k (by have := HN.out; omega) m z)
      have h2 := HA.out
      rw [HE.out] at h2
      obtain ⟨rfl, rfl⟩ := Prod.mk.inj h2
      go_wp2
      go_ret2
      exact ⟨rfl, rfl⟩

section
variable {w w' : World} {b T r : Nat} {cs : Array Value}
end

theorem below_is (i n : Int) (b : Bool) (h : inB i n = b) (w : World) : Calls Try.prog 67 #[.int .i64 i, .int .i64 n] w fun e w' => e = .returned (.bool b) ∧ w = w' := h ▸ below_any i n w
theorem rin_is (i n : Int) (b : Bool) (h : inB i n = b) (w : World) : Calls Try.prog 42 #[.int .i64 i, .int .i64 n] w fun e w' => e = .returned (.bool b) ∧ w = w' := h ▸ rin_any i n w

theorem below_q (i n : Int) (b : Bool) (h : inB i n = b) (w : World) (k : Nat) : Calls Try.prog 67 #[.int .i64 i, .int .i64 n] (w.drewN k) fun e w' => e = .returned (.bool b) ∧ ∃ m, w' = w.drewN m :=
  (below_is i n b h _).mono fun _ _ ⟨e, k⟩ => ⟨e, _, k.symm⟩
theorem rin_q (i n : Int) (b : Bool) (h : inB i n = b) (w : World) (k : Nat) : Calls Try.prog 42 #[.int .i64 i, .int .i64 n] (w.drewN k) fun e w' => e = .returned (.bool b) ∧ ∃ m, w' = w.drewN m :=
  (rin_is i n b h _).mono fun _ _ ⟨e, k⟩ => ⟨e, _, k.symm⟩

theorem IntsD.at {w : World} {v : Value} {xs : List Int} (h : IntsD w v xs) (t : Int) (ht : inB t xs.length = true) : ∃ b off cap, v = .slice (some ⟨b, off, none⟩) xs.length cap ∧ b < w.heap.size ∧ w.cell? ⟨b, off + t.toNat, none⟩ = some (.int .i64 (xs.getD t.toNat 0)) := by
  obtain ⟨ad, cap, hv, _, _, hc⟩ := h
  have h1 := of_decide_eq_true ht
  have h2 : t.toNat < xs.length := by omega
  obtain ⟨b, off, rfl, hl, h3⟩ := hc _ h2
  refine ⟨b, off, cap, hv, hl, ?_⟩
  rw [List.getD_eq_getElem?_getD, List.getElem?_eq_getElem h2, Option.getD_some]
  simpa [IntAt] using h3

set_option maxRecDepth 100000 in
set_option maxHeartbeats 2000000 in
theorem rt1_leaf (xo xn xt : Int) (regs : List Int) (own locs : Int) (p1 p2 p3 : Nat) (w : World) (h4 : ¬ xo = 4) (b : Bool) (hb : okO regs own locs ⟨xo, xn, xt⟩ = b)
    (h1 : w.cell? ⟨p1, 0, none⟩ = some (.int .i64 own)) (h2 : w.cell? ⟨p2, 0, none⟩ = some (.int .i64 locs)) :
    Calls Try.prog 66 #[.agg #[.int .i64 xo, .int .i64 xn, .int .i64 xt], .pointer (some ⟨p1, 0, none⟩), .pointer (some ⟨p2, 0, none⟩), .pointer (some ⟨p3, 0, none⟩)] w fun e w' => e = .returned (.bool (!b)) ∧ Below w.heap.size w w' := by
  have l1 := World.block_lt_of_cell? w ⟨p1, 0, none⟩ h1
  have l2 := World.block_lt_of_cell? w ⟨p2, 0, none⟩ h2
  simp only [] at l1 l2
  have HB := Lib.hid hb
  by_cases g1 : xo = 1
  · subst g1
    have H := Lib.hid (below_is xn 10000 b (by rw [← hb]; rfl))
    clear hb h4
    go_enter Try.func66, Try.ntmps66
    go_wp2_with (go_at_call 67; refine (H.out _).mono ?_; rintro e w2 ⟨rfl, rfl⟩)
    go_ret
    exact ⟨rfl, (Below.refl _ _).alloc (Nat.le_refl _) _⟩
  · by_cases g2 : xo = 2
    · subst g2
      have H := Lib.hid (below_is xn own b (by rw [← hb]; rfl))
      clear hb h4 g1
      go_enter Try.func66, Try.ntmps66
      go_wp2_with (go_at_call 67; refine (H.out _).mono ?_; rintro e w2 ⟨rfl, rfl⟩)
      go_ret
      exact ⟨rfl, (Below.refl _ _).alloc (Nat.le_refl _) _⟩
    · by_cases g3 : xo = 3
      · subst g3
        have H := Lib.hid (below_is xn locs b (by rw [← hb]; rfl))
        clear hb h4 g1 g2
        go_enter Try.func66, Try.ntmps66
        go_wp2_with (go_at_call 67; refine (H.out _).mono ?_; rintro e w2 ⟨rfl, rfl⟩)
        go_ret
        exact ⟨rfl, (Below.refl _ _).alloc (Nat.le_refl _) _⟩
      · obtain rfl : b = true := by
          rw [← hb]; unfold okO; simp only []
          rw [if_neg g1, if_neg g2, if_neg g3, if_neg h4]
        clear hb
        go_enter Try.func66, Try.ntmps66
        go_wp2
        go_ret
        exact ⟨rfl, (Below.refl _ _).alloc (Nat.le_refl _) _⟩

set_option maxRecDepth 100000 in
set_option maxHeartbeats 2000000 in
theorem rt1_of (xn xt : Int) (regs : List Int) (rv : Value) (own locs : Int) (p1 p2 p3 : Nat) (w : World) (hr : IntsD w rv regs) (b : Bool) (hb : okO regs own locs ⟨4, xn, xt⟩ = b)
    (h3 : w.cell? ⟨p3, 0, none⟩ = some rv) :
    Calls Try.prog 66 #[.agg #[.int .i64 4, .int .i64 xn, .int .i64 xt], .pointer (some ⟨p1, 0, none⟩), .pointer (some ⟨p2, 0, none⟩), .pointer (some ⟨p3, 0, none⟩)] w fun e w' => e = .returned (.bool (!b)) ∧ Below w.heap.size w w' := by
  have l3 := World.block_lt_of_cell? w ⟨p3, 0, none⟩ h3
  simp only [] at l3
  have hb2 : (inB xt regs.length && inB xn (regs.getD xt.toNat 0)) = b := hb
  cases ht : inB xt regs.length with
  | false =>
    rw [ht, Bool.false_and] at hb2
    subst hb2
    obtain ⟨ad, cap, rfl⟩ := hr.shape0
    have H := Lib.hid (below_q xt regs.length false ht)
    clear hb hr ht
    go_enter Try.func66, Try.ntmps66
    go_wp2_with fail
    go_quiet ((go_at_call 67; with_reducible exact H.out _ _))
    go_wp2
    go_ret
    exact ⟨rfl, ((Below.refl _ _).alloc (Nat.le_refl _) _).trans (below_end _)⟩
  | true =>
    rw [ht, Bool.true_and] at hb2
    obtain ⟨vb, off, cap, rfl, hl, hc⟩ := IntsD.at hr xt ht
    have H := Lib.hid (below_q xt regs.length true ht)
    have H2 := Lib.hid (below_q xn _ b hb2)
    have g0 := (of_decide_eq_true ht).1
    have g1 := (of_decide_eq_true ht).2
    obtain ⟨t, rfl⟩ : ∃ t : Nat, xt = t := ⟨xt.toNat, by omega⟩
    rw [Int.toNat_natCast] at hc H2
    generalize regs.getD t 0 = rg at hc H2
    generalize hL : regs.length = L at H g1 h3
    clear hb hr ht hb2 hL g0
    have g2 : t < L := by omega
    clear g1
    go_enter Try.func66, Try.ntmps66
    go_wp2_with fail
    go_quiet ((go_at_call 67; first | with_reducible exact H.out _ _ | with_reducible exact H2.out _ _))
    go_wp2
    go_ret
    exact ⟨rfl, ((Below.refl _ _).alloc (Nat.le_refl _) _).trans (below_end _)⟩

theorem rt1_any (o : Opn) (regs : List Int) (rv : Value) (own locs : Int) (p1 p2 p3 : Nat) (w : World) (hr : IntsD w rv regs)
    (h1 : w.cell? ⟨p1, 0, none⟩ = some (.int .i64 own)) (h2 : w.cell? ⟨p2, 0, none⟩ = some (.int .i64 locs)) (h3 : w.cell? ⟨p3, 0, none⟩ = some rv) :
    Calls Try.prog 66 #[.agg #[.int .i64 o.op, .int .i64 o.n, .int .i64 o.t], .pointer (some ⟨p1, 0, none⟩), .pointer (some ⟨p2, 0, none⟩), .pointer (some ⟨p3, 0, none⟩)] w fun e w' => e = .returned (.bool (!okO regs own locs o)) ∧ Below w.heap.size w w' := by
  obtain ⟨xo, xn, xt⟩ := o
  by_cases h4 : xo = 4
  · subst h4
    exact rt1_of xn xt regs rv own locs p1 p2 p3 w hr _ rfl h3
  · exact rt1_leaf xo xn xt regs own locs p1 p2 p3 w h4 _ rfl h1 h2

/-- Three blocks in a row. -/
theorem three_new (w : World) (t1 t2 t3 : Nat) (c1 c2 c3 : Array Value) : Below w.heap.size w (((w.alloc (.cells c1 t1)).alloc (.cells c2 t2)).alloc (.cells c3 t3)) ∧
    Bk (((w.alloc (.cells c1 t1)).alloc (.cells c2 t2)).alloc (.cells c3 t3)) w.heap.size t1 c1 ∧ Bk (((w.alloc (.cells c1 t1)).alloc (.cells c2 t2)).alloc (.cells c3 t3)) (w.heap.size + 1) t2 c2 ∧ Bk (((w.alloc (.cells c1 t1)).alloc (.cells c2 t2)).alloc (.cells c3 t3)) (w.heap.size + 1 + 1) t3 c3 := by
  have B1 : Below w.heap.size w (w.alloc (.cells c1 t1)) := (Below.refl _ _).alloc (Nat.le_refl _) _
  have K1 := Bk.new w t1 c1
  have s1 := alloc_size w (.cells c1 t1)
  generalize w.alloc (.cells c1 t1) = w1 at B1 K1 s1 ⊢
  have B2 : Below w1.heap.size w1 (w1.alloc (.cells c2 t2)) := (Below.refl _ _).alloc (Nat.le_refl _) _
  have K2 := Bk.new w1 t2 c2
  have s2 := alloc_size w1 (.cells c2 t2)
  generalize w1.alloc (.cells c2 t2) = w2 at B2 K2 s2 ⊢
  have B3 : Below w2.heap.size w2 (w2.alloc (.cells c3 t3)) := (Below.refl _ _).alloc (Nat.le_refl _) _
  have K3 := Bk.new w2 t3 c3
  rw [s2] at K3
  rw [s1] at K2 K3
  exact ⟨B1.trans ((B2.trans (B3.mono B2.size)).mono B1.size), (K1.below B2).below B3, K2.below B3, K3⟩

theorem all_not (l : List Opn) (p : Opn → Bool) : (l.all fun x => !(!p x)) = l.all p := by
  congr 1; funext x; exact Bool.not_not _

set_option maxRecDepth 100000 in
set_option maxHeartbeats 2000000 in
theorem right_code (l : List Opn) (regs : List Int) (v rv : Value) (own locs : Int) (w : World) (hv : OpsD w v l) (hr : IntsD w rv regs) (hn : l.length ≤ 100000) (b : Bool) (hb : rightO l regs own locs = b) :
    Calls Try.prog 65 #[v, rv, .int .i64 own, .int .i64 locs] w fun e w' => e = .returned (.bool b) ∧ Below w.heap.size w w' := by
  have HV := Lib.hid hv
  have HR := Lib.hid hr
  obtain ⟨⟨m0, k0⟩, hk⟩ : ∃ r, r = htsL l 0 0 := ⟨_, rfl⟩
  have hb2 : (decide (k0 = 1) && l.all (okO regs own locs)) = b := by rw [← hb]; unfold rightO; rw [← hk]
  have HHT := Lib.hid (fun (W : World) (h : Below w.heap.size w W) => heights_any l v W (OpsD.below hv h) hn m0 k0 hk.symm)
  have HCF := Lib.hid (fun (W : World) (h : Below w.heap.size w W) (p1 p2 p3 : Nat) (h1 : W.cell? ⟨p1, 0, none⟩ = some (.int .i64 own)) (h2 : W.cell? ⟨p2, 0, none⟩ = some (.int .i64 locs)) (h3 : W.cell? ⟨p3, 0, none⟩ = some rv) =>
    opcont_any l v W (OpsD.below hv h) hn (fun o => !okO regs own locs o) p1 p2 p3 (fun w' i hi hbw => rt1_any l[i] regs rv own locs p1 p2 p3 w' (IntsD.below hr (h.trans (hbw.mono h.size)))
      ((hbw.cell (p := ⟨p1, _, none⟩) (World.block_lt_of_cell? W ⟨p1, 0, none⟩ h1)).trans h1) ((hbw.cell (p := ⟨p2, _, none⟩) (World.block_lt_of_cell? W ⟨p2, 0, none⟩ h2)).trans h2) ((hbw.cell (p := ⟨p3, _, none⟩) (World.block_lt_of_cell? W ⟨p3, 0, none⟩ h3)).trans h3)) _ (all_not l _))
  obtain ⟨ad, cap, rfl⟩ := hv.shape0
  obtain ⟨ad2, cap2, rfl⟩ := hr.shape0
  generalize regs.length = n2 at HR HCF
  generalize l.all (okO regs own locs) = bq at HCF hb2
  clear hv hr hn hb hk
  have HBB := Lib.hid hb2
  have H3 := Lib.hid (three_new w 22 3 3 #[.slice ad2 n2 cap2] #[.int .i64 own] #[.int .i64 locs])
  clear hb2
  generalize hL : l.length = n at HV HHT HCF
  clear hL
  by_cases h1 : k0 = 1
  · subst h1
    go_enter Try.func65, Try.ntmps65
    go_wp2_with fail
    generalize ((w.alloc _).alloc _).alloc _ = w3 at H3 ⊢
    refine (HHT.out _ H3.out.1).mono ?_
    rintro e w4 ⟨rfl, b4⟩
    have HC := Lib.hid (HCF.out w4 (H3.out.1.trans (b4.mono H3.out.1.size)) (w.heap.size + 1) (w.heap.size + 1 + 1) w.heap.size ((H3.out.2.2.1.below b4).cell 0) ((H3.out.2.2.2.below b4).cell 0) ((H3.out.2.1.below b4).cell 0))
    have HB4 := Lib.hid (H3.out.1.trans (b4.mono H3.out.1.size))
    clear b4
    go_wp2_with fail
    refine HC.out.mono ?_
    rintro e w5 ⟨rfl, b5⟩
    go_wp2
    go_ret
    refine ⟨ret_bool ?_, HB4.out.trans (b5.mono HB4.out.size)⟩
    rw [← HBB.out]; simp
  · have hq : (k0 == 1) = false := by simpa using h1
    have HQ := Lib.hid h1
    clear h1
    go_enter Try.func65, Try.ntmps65
    go_wp2_with fail
    generalize ((w.alloc _).alloc _).alloc _ = w3 at H3 ⊢
    refine (HHT.out _ H3.out.1).mono ?_
    rintro e w4 ⟨rfl, b4⟩
    have HB4 := Lib.hid (H3.out.1.trans (b4.mono H3.out.1.size))
    clear b4
    go_wp2
    go_ret
    refine ⟨ret_bool ?_, HB4.out⟩
    rw [← HBB.out, decide_eq_false HQ.out]; rfl

end Go.Proofs.Ytmkgijedchpgcaa
