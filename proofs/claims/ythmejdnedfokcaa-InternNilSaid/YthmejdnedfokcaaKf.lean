/- Layer 13: the landed table, as the laws ask for it: Put. -/
import Derived.Test.YthmejdnedfokcaaKe
namespace Go.Proofs.Ythmejdnedfokcaa
set_option linter.unusedSimpArgs false
set_option linter.unusedVariables false
open Go.RowKit

theorem pw_step {n m f : Nat} (h : 2 * n ≤ m * 2 ^ (f + 1)) : 2 * n ≤ (2 * m) * 2 ^ f := by
  rw [Nat.pow_succ] at h
  have e : (2 * m) * 2 ^ f = m * (2 ^ f * 2) := by rw [Nat.mul_comm 2 m, Nat.mul_assoc, Nat.mul_comm 2 (2 ^ f)]
  rw [e]; exact h
theorem slF_fuel {n : Nat} : ∀ (f g m : Nat), 2 * n ≤ m * 2 ^ f → f ≤ g → slF g n m = slF f n m
  | 0, g, m, h, _ => by
    rw [Nat.pow_zero, Nat.mul_one] at h
    rw [slF_stop (f := g) (by omega)]; rfl
  | f + 1, g, m, h, hg => by
    obtain ⟨g, rfl⟩ : ∃ g', g = g' + 1 := ⟨g - 1, by omega⟩
    unfold slF
    split
    · exact slF_fuel f g (2 * m) (pw_step h) (by omega)
    · rfl
theorem slF_two {n n' : Nat} (hn : n ≤ n') : ∀ (f m : Nat), 2 * n' ≤ m * 2 ^ f → ∀ g, f ≤ g → slF g n' (slF f n m) = slF f n' m
  | 0, m, h, g, hg => slF_fuel 0 g m h hg
  | f + 1, m, h, g, hg => by
    by_cases hm : m < 2 * n
    · have h1 : slF (f + 1) n m = slF f n (2 * m) := by conv => lhs; unfold slF
                                                        rw [if_pos hm]
      have h2 : slF (f + 1) n' m = slF f n' (2 * m) := by conv => lhs; unfold slF
                                                          rw [if_pos (by omega)]
      rw [h1, h2]
      exact slF_two hn f (2 * m) (pw_step h) g (by omega)
    · rw [slF_stop (n := n) hm]
      exact slF_fuel (f + 1) g m h hg
theorem slF_ge {n : Nat} : ∀ (f m : Nat), 2 * n ≤ m * 2 ^ f → 2 * n ≤ slF f n m ∧ m ≤ slF f n m
  | 0, m, h => by rw [Nat.pow_zero, Nat.mul_one] at h; exact ⟨h, Nat.le_refl _⟩
  | f + 1, m, h => by
    unfold slF
    split
    · obtain ⟨h1, h2⟩ := slF_ge f (2 * m) (pw_step h)
      exact ⟨h1, by omega⟩
    · exact ⟨by omega, Nat.le_refl _⟩
theorem slotsN_ge {n : Nat} (h : n ≤ 100000) : 2 * n ≤ slotsN n ∧ 16 ≤ slotsN n := slF_ge 20 16 (by have : (2 : Nat) ^ 20 = 1048576 := by decide
                                                                                                    omega)
theorem slotsN_next {n : Nat} (h : n ≤ 100000) : slF 20 (n + 1) (slotsN n) = slotsN (n + 1) := slF_two (Nat.le_succ n) 20 16 (by have : (2 : Nat) ^ 20 = 1048576 := by decide
                                                                                                                                 omega) 20 (Nat.le_refl _)

/-- The landed table. -/
def TBt (w : World) (t : Value) (L : List ByteArray) (F : Nat → Prop) : Prop :=
  ∃ g sl n vt val, t = .pointer (some ⟨g, 0, none⟩) ∧ Tb w g sl n vt L val ∧ Slo n val (hsN n) L ∧ n = slotsN L.length ∧ ∀ x, F x ↔ (x = g ∨ x = sl ∨ vt.ownBlock = some x)
theorem TBt.frame {w w' : World} {t : Value} {L : List ByteArray} {F : Nat → Prop} (h : TBt w t L F) (hs : w.heap.size ≤ w'.heap.size) (hf : ∀ g, F g → w'.heap[g]? = w.heap[g]?) : TBt w' t L F := by
  obtain ⟨g, sl, n, vt, val, rfl, hb, hr, hn, hF⟩ := h
  exact ⟨g, sl, n, vt, val, rfl, hb.frame hs fun x hx => hf x ((hF x).2 hx), hr, hn, hF⟩
theorem TBt.lt {w : World} {t : Value} {L : List ByteArray} {F : Nat → Prop} (h : TBt w t L F) : ∀ g, F g → g < w.heap.size := by
  obtain ⟨g, sl, n, vt, val, rfl, hb, hr, hn, hF⟩ := h
  exact fun x hx => hb.lt x ((hF x).1 hx)
theorem Slo.bound {n : Nat} {val : Nat → Option Nat} {hs : ByteArray → Nat} {L : List ByteArray} (h : Slo n val hs L) : ∀ a j, a < n → val a = some j → j < L.length := fun a j ha hj => h.p.mem a j ha hj
theorem Slo.found {n d a : Nat} {val : Nat → Option Nat} {L : List ByteArray} {s : ByteArray} (h : Slo n val (hsN n) L) (hf : Fnd n val L s d a) : (hasT L s = true ∧ val a = some (posT L s)) ∨ (hasT L s = false ∧ val a = none) := by
  rcases hf.at' with h0 | ⟨j, h1, h2⟩
  · refine .inr ⟨h.miss (d := d) (by rw [hf.ae]; exact h0) fun e j he => (hf.pre e he).2 j, h0⟩
  · have hj := h.bound a j hf.al h1
    obtain ⟨h3, h4⟩ := h.hit hj h2
    exact .inl ⟨h3, by rw [h1, h4]⟩
/-- One text more. -/
theorem Tb.grow {wa w3 : World} {g sl n : Nat} {vt v' : Value} {L L' : List ByteArray} {val : Nat → Option Nat} (h : Tb wa g sl n vt L val) (o3 : w3.ownsRow 0 9 1 v' L'.length (strs L')) (g3 : wa.grownBy w3 vt.ownBlock) : Tb (w3.setCell ⟨g, 1, none⟩ v') g sl n v' L' val := by
  obtain ⟨hb, ho, ⟨cs, h1, h2⟩, hp⟩ := h
  have hb3 := bk_grown hb g3 (own_ne_bk ho hb (by decide))
  have h13 := bk_grown h1 g3 (own_ne_bk ho h1 (by decide))
  exact ⟨heap_setCell_same w3 g 1 _ _ _ hb3, own_setT o3 hb3 (by decide), ⟨cs, (Below.heap_setCell w3 ⟨g, 1, none⟩ _ sl (bk_ne h1 hb (by decide))).trans h13, h2⟩, hp⟩

attribute [local go_sem ↓] Go.wp_at_zero Go.wp_at_succ
set_option maxRecDepth 100000 in
set_option maxHeartbeats 4000000 in
theorem put_old {w : World} {t : Value} {L : List ByteArray} {F : Nat → Prop} (s : ByteArray) (ht : TBt w t L F) (hfw : Few L) (hs : s.size ≤ 300) (hq : hasT L s = true) :
    Calls Try.prog 10 #[t, .string s] w fun e w' => e = .returned (.tuple #[.int .i64 (posT L s : Nat), .bool false]) ∧ Below w.heap.size w w' := by
  obtain ⟨g, sl, n, vt, val, rfl, hb, hr, hn, hF⟩ := ht
  have hN := hfw.1
  have hge := slotsN_ge (n := L.length) (by omega)
  rw [← hn] at hge
  have HVL := Lib.hid (valid_yes g vt _ hb.bk)
  have HSL := Lib.hid fun (W : World) (hT : Tb W g sl n vt L val) => slot_any (w := W) s hT hr.bound (hr.room (by omega) _) hs (by omega)
  have HT := Lib.hid hb
  have HR := Lib.hid hr
  have HQ := Lib.hid hq
  have HN := Lib.hid hN
  clear hb hr hn hF hfw hq hs hN hge
  go_enter Try.func10, Try.ntmps10
  go_wp2_with fail
  refine HVL.out.mono ?_
  rintro e w1 ⟨rfl, b1⟩
  have T1 := Lib.hid (HT.out.below b1)
  have B1 := Lib.hid b1
  clear b1
  go_wp2_with fail
  refine (HSL.out w1 T1.out).mono ?_
  rintro e w2 ⟨d, a, fd, rfl, b2⟩
  have T2 := Lib.hid (T1.out.below b2)
  have B2 := Lib.hid (B1.out.trans (b2.mono B1.out.size))
  obtain ⟨hq0, hv⟩ | ⟨hq1, _⟩ := HR.out.found fd
  · have c2 := T2.out.cells.2.2
    have c3 := T2.out.slot fd.al
    rw [hv] at c3
    have hal := fd.al
    have hj := HR.out.bound a _ hal hv
    obtain ⟨j, hjj⟩ : ∃ j, j = posT L s := ⟨_, rfl⟩
    rw [← hjj] at c3 hj
    have HJ := Lib.hid hjj
    have e1 : (0 : Int) ≤ (a : Int) := by omega
    have e2 : (a : Int) < (n : Int) := by omega
    have e3 : ((j : Int) + 1 != 0) = true := by rw [bne_iff_ne]; omega
    have e4 : wrap64 (j : Int) = (j : Int) := IntWalk.wrap64_in _ (by have := HN.out; omega)
    unfold encV at c3
    clear b2 B1 T1 hv fd HSL hjj
    go_wp2_with fail
    go_ret2
    exact ⟨by (show Ending.returned (.tuple #[.int .i64 (wrap64 j), .bool false]) = _); rw [e4, HJ.out], B2.out⟩
  · rw [HQ.out] at hq1; cases hq1

end Go.Proofs.Ythmejdnedfokcaa
