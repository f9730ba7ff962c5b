/- ExprBack: the law's own walk. -/
import Derived.Test.YtifbhlgingaahaaDoorUa
import Derived.Test.YtifbhlgingaahaaDoorTj
import Derived.Test.YtifbhlgingaahaaDoorSfalse
namespace Go.Proofs.YtifbhlgingaahaaDoor
open Go.RowKit

set_option maxHeartbeats 2000000 in
theorem back_heavy (v : Value) (w : World) (ht : Tabs w) (hl : Calls Tryd.prog 6 #[v] w fun e w' => e = .returned (.bool false) ∧ Below w.heap.size w w') :
    Calls Tryd.prog 4 #[v] w fun e w' => e = .returned (.bool true) ∧ Below w.heap.size w w' := by
  have HT := Lib.hid ht
  clear ht
  go_enter Tryd.func4, Tryd.ntmps4
  go_wp2_with fail
  refine hl.mono ?_
  rintro e w0 ⟨rfl, b0⟩
  go_wp2_with fail
  refine (known_any w0 (HT.out.below b0)).mono ?_
  rintro e w1 ⟨rfl, c1⟩
  go_wp2
  go_ret
  exact ⟨rfl, b0.trans (c1.mono b0.size)⟩

set_option maxHeartbeats 2000000 in
theorem back_wrong (l : List Nd) (v : Value) (w : World) (hv : NdsC w v l) (hn : l.length ≤ 100000) (hz : NmOK l) (ht : Tabs w) (hl : Calls Tryd.prog 6 #[v] w fun e w' => e = .returned (.bool true) ∧ Below w.heap.size w w') (hr : ¬ rightP l) :
    Calls Tryd.prog 4 #[v] w fun e w' => e = .returned (.bool true) ∧ Below w.heap.size w w' := by
  have HT := Lib.hid ht
  have HR := Lib.hid (right_no l hr)
  clear ht hr
  go_enter Tryd.func4, Tryd.ntmps4
  go_wp2_with fail
  refine hl.mono ?_
  rintro e w0 ⟨rfl, b0⟩
  have A1 := hv.below b0
  go_wp2_with fail
  refine (right_any l _ w0 A1.nds hn hz false HR.out).mono ?_
  rintro e w1 ⟨rfl, c1⟩
  have b1 := b0.trans (c1.mono b0.size)
  go_wp2_with fail
  refine (known_any w1 (HT.out.below b1)).mono ?_
  rintro e w2 ⟨rfl, c2⟩
  go_wp2
  go_ret
  exact ⟨rfl, b1.trans (c2.mono b1.size)⟩

theorem alike_er {e e' : Ex} (h : e'.er = e.er) : e'.flat.length = e.flat.length := (er_alike h).1

set_option maxRecDepth 100000 in
set_option maxHeartbeats 8000000 in
theorem back_right (e : Ex) (v : Value) (w : World) (hv : NdsC w v e.flat) (hn : e.flat.length ≤ 250) (hz : NmOK e.flat) (ht : Tabs w) (hl : Calls Tryd.prog 6 #[v] w fun e w' => e = .returned (.bool true) ∧ Below w.heap.size w w') (hw : e.wf) (hr : rightP e.flat) (hd : e.depth ≤ 30) :
    Calls Tryd.prog 4 #[v] w fun e w' => e = .returned (.bool true) ∧ Below w.heap.size w w' := by
  have HT := Lib.hid ht
  have HR := Lib.hid (right_yes _ hr)
  have HP := Lib.hid hr
  have HTX := Lib.hid (textOf_tree _ hr e hw rfl)
  have HOK := Lib.hid (rightP_oks hr)
  clear ht hr
  go_enter Tryd.func4, Tryd.ntmps4
  go_wp2_with fail
  refine hl.mono ?_
  rintro en w0 ⟨rfl, b0⟩
  have A1 := hv.below b0
  go_wp2_with fail
  refine (right_any e.flat _ w0 A1.nds (by omega) hz true HR.out).mono ?_
  rintro en w1 ⟨rfl, c1⟩
  have b1 := b0.trans (c1.mono b0.size)
  replace A1 := A1.below c1
  clear b0 c1 hv hl
  have HA := Lib.hid A1
  obtain ⟨ad, cap, rfl, h1, h2, hc⟩ := A1
  have HC := Lib.hid hc
  have HB := Lib.hid b1
  obtain ⟨n, hN⟩ : ∃ n, n = e.flat.length := ⟨_, rfl⟩
  have HN := Lib.hid hN
  have HZ := Lib.hid hz
  rw [← hN] at h1 hn ⊢
  clear hN hc b1 hz
  go_wp2
  go_loopg [3] n (fun fuel i' wr => ∃ k : Nat, i' = .int .i64 k ∧ k ≤ n ∧ n - k ≤ fuel ∧ (∀ j, (hj : j < e.flat.length) → j < k → (e.flat[j]).op ≠ 3) ∧ w1 = wr)
  case atStart => exact ⟨0, rfl, Nat.zero_le _, Nat.le_refl _, fun j _ hj => absurd hj (Nat.not_lt_zero _), rfl⟩
  case round =>
    obtain ⟨k, rfl, hk, hf, ha, rfl⟩ := hrel
    have HS := Lib.hid ha; clear ha
    by_cases hlt : k < n
    · have hk' : k < e.flat.length := by have := HN.out; omega
      obtain ⟨b, off, rfl, hb, c0, _⟩ := HC.out k hk'
      obtain ⟨x, hx⟩ : ∃ x, x = e.flat[k] := ⟨_, rfl⟩
      have HX := Lib.hid hx
      rw [← hx] at c0
      clear hx
      obtain ⟨xo, xn, xnm, xin, xp⟩ := x
      simp only [] at c0
      by_cases h3 : xo = 3
      · subst h3
        go_wp2_with fail
        refine (known_any w1 (HT.out.below HB.out)).mono ?_
        rintro en w2 ⟨rfl, c2⟩
        go_wp2
        go_ret
        exact ⟨rfl, HB.out.trans (c2.mono HB.out.size)⟩
      · go_wp2
        go_roundg (gk - 1)
        case measure => omega
        case rel =>
          refine ⟨k + 1, by go_num, by omega, by omega, fun j hj hjk => ?_, rfl⟩
          by_cases hjk2 : j = k
          · subst hjk2
            have := congrArg Nd.op HX.out
            rw [← this]
            exact h3
          · exact HS.out j hj (by omega)
    · have hfit : Fit e := ⟨hw, fun x hx => ⟨HOK.out.1 x hx, by
        obtain ⟨j, hj, rfl⟩ := List.mem_iff_getElem.1 hx
        exact HS.out j hj (by have := HN.out; omega)⟩⟩
      obtain ⟨hsl, e', hp, he⟩ := back e hfit hd HOK.out.2
      obtain ⟨s, hs⟩ : ∃ s, s = showE e := ⟨_, rfl⟩
      rw [← hs] at hsl hp
      have HSH := Lib.hid hs
      have HPP := Lib.hid hp
      have HE := Lib.hid he
      clear hs hp he hfit
      go_wp2_with fail
      have H := shown_any e.flat _ w1 HA.out (by have := HN.out; omega) HZ.out (HT.out.below HB.out)
      rw [HTX.out, ← HSH.out, ← HN.out] at H
      unfold TextIs at H
      refine H.mono ?_
      clear H
      rintro en w2 ⟨rfl, c2⟩
      have b2 := HB.out.trans (c2.mono HB.out.size)
      have A2 := HA.out.below c2
      clear c2
      go_wp2_with fail
      refine (tok_k s _ w2 rfl hsl).mono ?_
      rintro en w3 ⟨tv, rfl, o3, c3⟩
      have b3 := b2.trans (c3.mono b2.size)
      replace A2 := A2.below c3
      clear c3 b2
      go_wp2_with fail
      refine (par_ok s _ e' _ rfl HPP.out hsl _ tv w3 o3 (HT.out.below b3)).mono ?_
      rintro en w4 ⟨z, rfl, N4, c4⟩
      have b4 := b3.trans (c4.mono b3.size)
      replace A2 := A2.below c4
      clear c4 b3
      obtain ⟨tad, tcap, rfl, _⟩ := own_shape o3
      clear o3
      obtain ⟨tn, htn⟩ : ∃ tn, tn = (scanL s).1.length := ⟨_, rfl⟩
      rw [← htn]
      have htn2 : tn ≤ 40000 := by rw [htn]; exact scan_few s hsl
      clear htn
      go_wp2_with fail
      have hal := er_alike HE.out
      have H := same_false e.flat e'.flat (.slice ad e.flat.length cap) z w4 A2.nds N4.nds (by have := HN.out; omega) hal.1 (fun i hi => hal.2 i hi _)
      rw [← HN.out] at H
      refine H.mono ?_
      clear H
      rintro en w5 ⟨rfl, c5⟩
      have b5 := b4.trans (c5.mono b4.size)
      go_wp2_with fail
      refine (known_any w5 (HT.out.below b5)).mono ?_
      rintro en w6 ⟨rfl, c6⟩
      go_wp2
      go_ret
      exact ⟨rfl, b5.trans (c6.mono b5.size)⟩

theorem exprBack_walk (l : List Nd) (v : Value) (w : World) (hv : NdsC w v l) (hn : l.length ≤ maxLen) (ht : Tabs w) :
    Calls Tryd.prog 4 #[v] w fun e w' => e = .returned (.bool true) ∧ Below w.heap.size w w' := by
  cases hb : lightB l with
  | true =>
    obtain ⟨h1, h2⟩ := light_nmOK l hb
    by_cases hr : rightP l
    · obtain ⟨e, hw, rfl, h3, h4, hd⟩ := id hr
      exact back_right e v w hv h1 h2 ht (light_is _ v w hv hn true hb) hw hr hd
    · exact back_wrong l v w hv (by omega) h2 ht (light_is l v w hv hn true hb) hr
  | false => exact back_heavy v w ht (light_is l v w hv hn false hb)

end Go.Proofs.YtifbhlgingaahaaDoor
