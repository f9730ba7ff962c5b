/- Layer 14, the reference: Back. Layer 14, the reference: Keep. -/
import Derived.Test.YtkdpimifojjhaaaPe
import Derived.Test.YtkdpimifojjhaaaPb
import Derived.BigRegion
namespace Go.Proofs.Ytkdpimifojjhaaa
set_option linter.unusedSimpArgs false
set_option linter.unusedVariables false
open Go.RowKit

/-- One's own row of edges, an edge put in. -/
theorem own_put3 {w : World} {B g n cap : Nat} {l : List Edg} (h : w.ownsRow B 41 3 (.slice (some ⟨g, 0, none⟩) n cap) n (rowG l)) (k : Nat) (e : Edg) :
    (((w.setCell ⟨g, k * 3, none⟩ (.int .i64 e.1)).setCell ⟨g, k * 3 + 1, none⟩ (.int .i64 e.2.1)).setCell ⟨g, k * 3 + 2, none⟩ (.int .i64 e.2.2)).ownsRow B 41 3 (.slice (some ⟨g, 0, none⟩) n cap) n (rowG (l.set k e)) := by
  obtain ⟨h1, h2⟩ := h
  refine ⟨by rw [rowG_len] at *; rw [List.length_set]; exact h1, ?_⟩
  rcases h2 with ⟨hv, _⟩ | ⟨g0, cap0, cur, hv, hB, hg, hle, hm, hcs, ht⟩
  · injection hv with e1; cases e1
  · injection hv with e1 e2 e3
    injection e1 with e1
    injection e1 with e1
    subst e1; subst e3
    have := heap_setCell_same _ g (k * 3 + 2) _ _ (.int .i64 e.2.2) (heap_setCell_same _ g (k * 3 + 1) _ _ (.int .i64 e.2.1) (heap_setCell_same w g (k * 3) _ _ (.int .i64 e.1) hg))
    refine .inr ⟨g, cap, _, rfl, hB, this, hle, hm, by simp [hcs], ?_⟩
    rw [← rowG_set l k e, ← ht]
    simp [List.take_set]
theorem own_blk14 {w : World} {B n cap : Nat} {ad : Option Addr} {xs : List Value} (h : w.ownsRow B 41 3 (.slice ad n cap) n xs) (hn : 0 < n) : ∃ g cur, ad = some ⟨g, 0, none⟩ ∧ Bk w g 41 cur ∧ B ≤ g := by
  rcases h.2 with ⟨hv, h2⟩ | ⟨g0, cap0, cur, hv, hB, hg, _⟩
  · omega
  · injection hv with e1 e2 e3
    exact ⟨g0, cur, e1, hg, hB⟩

set_option maxRecDepth 100000 in
set_option maxHeartbeats 8000000 in
theorem rback_any (g : Gr) (vs va vt : Value) (w : World) (hd : GrD w vs va vt g) (hn : g.st.length ≤ 1001 ∧ g.to.length ≤ 1000) :
    Calls Try.prog 25 #[.agg #[vs, va, vt]] w fun e w' => ∃ us ua ut, e = .returned (.agg #[us, ua, ut]) ∧ GrD w' us ua ut (backZ g) ∧ Below w.heap.size w w' := by
  obtain ⟨q, hq⟩ : ∃ q, rightG g = q := ⟨_, rfl⟩
  have HRI := Lib.hid fun (W : World) (h : Below w.heap.size w W) => rright14_any g vs va vt W (hd.below h) hn q hq
  have HAL := Lib.hid fun (W : World) (h : Below w.heap.size w W) => rall_any g vs va vt W (hd.below h) hn
  have HND := Lib.hid fun (W : World) (h : Below w.heap.size w W) (b : Nat) (hb : (if rightG g = true then numN g else 0) = b) => rnodes_any g vs va vt W (hd.below h) hn b hb
  have HQ := Lib.hid hq
  have HSZ : Hid (g.st.length ≤ 1001 ∧ g.to.length ≤ 1000) := Lib.hid hn
  obtain ⟨z1, n1, y1, z2, n2, y2, z3, n3, y3, rfl, rfl, rfl⟩ := hd.sh
  clear hd hn hq
  have L2 := two_new w 24 24 #[.slice z1 n1 y1, .slice z2 n2 y2, .slice z3 n3 y3] #[.slice none 0 0, .slice none 0 0, .slice none 0 0]
  have BX := Lib.hid L2.1
  have KX := Lib.hid L2.2.1
  have RX := Lib.hid L2.2.2
  clear L2
  go_enter Try.func25, Try.ntmps25
  go_wp2_with fail
  generalize World.alloc (World.alloc w _) _ = w0 at BX KX RX ⊢
  obtain ⟨r, hr⟩ : ∃ r, r = w.heap.size + 1 := ⟨_, rfl⟩
  rw [← hr] at RX ⊢
  have HRR : Hid (w.heap.size < r) := Lib.hid (by omega)
  clear hr
  refine (HRI.out _ BX.out).mono ?_
  rintro e w1 ⟨rfl, b1⟩
  replace BX := Lib.hid (BX.out.trans (b1.mono BX.out.size))
  replace KX := Lib.hid (KX.out.below b1)
  replace RX := Lib.hid (RX.out.below b1)
  clear b1 HRI
  cases q with
  | false =>
    have d0 := RX.out.cell 0
    have d1 := RX.out.cell 1
    have d2 := RX.out.cell 2
    have f0 := RX.out.fz 0
    have f1 := RX.out.fz 1
    have f2 := RX.out.fz 2
    have lr := RX.out.lt
    have HS := Lib.hid (set3_bk (.slice none 0 0) (.slice none 0 0) (.slice none 0 0) RX.out)
    have HK := Lib.hid (set3_keep (w := w1) (g := r) (.slice none 0 0) (.slice none 0 0) (.slice none 0 0))
    go_wp2_with fail
    generalize ((w1.setCell _ _).setCell _ _).setCell _ _ = w9 at HS HK ⊢
    clear d0 d1 d2
    have d0 := HS.out.cell 0
    have d1 := HS.out.cell 1
    have d2 := HS.out.cell 2
    refine bodyPost_ret (v := .agg #[.slice none 0 0, .slice none 0 0, .slice none 0 0]) (by simp [results, Try.results25, go_sem, d0, d1, d2]) rfl ?_
    exact ⟨_, _, _, rfl, by rw [show backZ g = noG from if_neg (fun h => by rw [HQ.out] at h; cases h)]; exact noG_D _, BX.out.trans (HK.out.below (fun _ h => by rw [h]; exact Nat.le_of_lt HRR.out) BX.out.size)⟩
  | true =>
    have HG := Lib.hid (right_RG g HQ.out)
    have HO : Hid (backZ g = buildG (numN g) ((allL g).map swp)) := Lib.hid (by
      rw [show backZ g = backG g from if_pos HQ.out]
      unfold buildG
      rw [if_pos (by unfold okB; rw [decide_eq_true (by omega), Bool.true_and, List.all_eq_true]; exact fun e he => swp_ok HG.out.allOk e he), Int.toNat_natCast]
      rfl)
    have HLL : Hid ((allL g).length ≤ 1000 ∧ numN g ≤ 1000) := Lib.hid ⟨by rw [HG.out.allLen]; exact HSZ.out.2, by have := HSZ.out.1; unfold numN; omega⟩
    have c0 := KX.out.cell 0
    have c1 := KX.out.cell 1
    have c2 := KX.out.cell 2
    have lw := KX.out.lt
    obtain ⟨M, hM⟩ : ∃ M, M = (allL g).length := ⟨_, rfl⟩
    have HM := Lib.hid hM
    rw [show allZ g = allL g from if_pos HQ.out, ← hM] at HAL
    rw [← hM] at HLL
    clear hM
    go_wp2_with fail
    refine (HAL.out _ BX.out).mono ?_
    rintro e w2 ⟨v, rfl, ho, b2⟩
    obtain ⟨la, lc, rfl, _⟩ := own_shape' ho
    have B1S : Hid (w.heap.size < w1.heap.size ∧ r < w1.heap.size) := Lib.hid ⟨KX.out.lt, RX.out.lt⟩
    have HE0 : Hid (w2.ownsRow w1.heap.size 41 3 (.slice la M lc) M (rowG (swpL (allL g) 0))) := Lib.hid (by rw [swpL_zero]; exact ho)
    have B2 := Lib.hid b2
    clear b2 c0 c1 c2 lw ho HAL
    go_wp2_with fail
    go_loopg [4] M (fun fuel i' wr => ∃ (k : Nat), i' = .int .i64 k ∧ k ≤ M ∧ M - k ≤ fuel ∧ wr.ownsRow w1.heap.size 41 3 (.slice la M lc) M (rowG (swpL (allL g) k)) ∧ Below w1.heap.size w1 wr)
    case atStart => exact ⟨0, rfl, Nat.zero_le _, Nat.le_refl _, HE0.out, B2.out⟩
    case round =>
      clear HE0 B2
      obtain ⟨k, rfl, hk, hf, he, hb⟩ := hrel
      have HE := Lib.hid he
      have HB := Lib.hid hb
      clear he hb
      have i5 : IntKind.i64.wrap ((k : Int) + 1) = (k : Int) + 1 := IntWalk.i64_in _ (by have := HLL.out; omega)
      by_cases hlt : k < M
      · have hk1 : k < (allL g).length := by rw [← HM.out]; exact hlt
        obtain ⟨gl, cur, rfl, hbk, hBl⟩ := own_blk14 HE.out (by omega)
        have HED := Lib.hid (edgsD_of_own (l := swpL (allL g) k) (by have h := HE.out; rw [swpL_len, ← HM.out]; exact h))
        have hk2 : k < (swpL (allL g) k).length := by rw [swpL_len]; exact hk1
        obtain ⟨b', off', he, _, x0, x1, x2⟩ := EdgsD.at2 HED.out k hk2
        injection he with he
        injection he with e1 e2
        subst e1 e2
        have hat := swpL_at (allL g) k hk1
        rw [List.getElem?_eq_getElem hk2] at hat
        rw [Option.some.inj hat] at x0 x1 x2
        have HSE := Lib.hid (swpL_set (allL g) k hk1)
        obtain ⟨⟨ef, ea, et⟩, hE⟩ : ∃ e, e = (allL g)[k] := ⟨_, rfl⟩
        rw [← hE] at x0 x1 x2 HSE
        rw [Nat.zero_add] at x0 x1 x2
        have HEN := Lib.hid (own_put3 HE.out k (swp (ef, ea, et)))
        rw [HSE.out] at HEN
        have f0 := hbk.fz (k * 3)
        have f1 := hbk.fz (k * 3 + 1)
        have f2 := hbk.fz (k * 3 + 2)
        have lg := hbk.lt
        have i1 : (0 : Int) ≤ (k : Int) := by omega
        have i2 : (k : Int) < (M : Int) := by omega
        have HBN := Lib.hid (HB.out.trans ((set3_oth wr gl (k * 3) (k * 3 + 1) (k * 3 + 2) (.int .i64 et) (.int .i64 ea) (.int .i64 ef)).below (fun _ h => by rw [h]; exact hBl) HB.out.size))
        clear hk1 hk2 hE hat hbk hBl HSE HED
        go_wp2_with fail
        go_region
        go_wp2_with fail
        go_roundg (gk - 1)
        case measure => omega
        case rel => exact ⟨k + 1, by go_num, by omega, by omega, HEN.out.drew, HBN.out.drew⟩
      · obtain rfl : k = M := by omega
        have HEW : Hid (EdgsD wr (.slice la k lc) ((allL g).map swp)) := Lib.hid (by
          have h := HE.out
          rw [show swpL (allL g) k = (allL g).map swp by rw [HM.out, swpL_all]] at h
          exact edgsD_of_own (by rw [List.length_map, ← HM.out]; exact h))
        have BW := Lib.hid (BX.out.trans (HB.out.mono BX.out.size))
        have KW := Lib.hid (KX.out.below HB.out)
        have RW := Lib.hid (RX.out.below HB.out)
        have HNZ : Hid ((if rightG g = true then numN g else 0) = numN g) := Lib.hid (if_pos HQ.out)
        have HML : Hid (((allL g).map swp).length ≤ 1000) := Lib.hid (by rw [List.length_map, ← HM.out]; exact HLL.out.1)
        have c0 := KW.out.cell 0
        have c1 := KW.out.cell 1
        have c2 := KW.out.cell 2
        have lw := KW.out.lt
        clear HE hlt hf hk i5
        go_wp2_with fail
        refine (HND.out _ BW.out _ HNZ.out).mono ?_
        rintro e w3 ⟨rfl, b3⟩
        replace BW := Lib.hid (BW.out.trans (b3.mono BW.out.size))
        replace RW := Lib.hid (RW.out.below b3)
        replace HEW := Lib.hid (EdgsD.below HEW.out b3)
        clear b3 c0 c1 c2 lw HND KW
        go_wp2_with fail
        refine (rbuild_own (numN g) _ _ _ HEW.out (by have := HLL.out; omega) HML.out).mono ?_
        rintro e w4 ⟨us, ua, ut, rfl, gd, b4⟩
        rw [← HO.out] at gd
        obtain ⟨k1, kn1, kc1, k2, kn2, kc2, k3, kn3, kc3, rfl, rfl, rfl⟩ := gd.grD.sh
        have bb := (Below.refl w4.heap.size w4).alloc (Nat.le_refl _) (.cells #[.slice k1 kn1 kc1, .slice k2 kn2 kc2, .slice k3 kn3 kc3] 24)
        have DB := Lib.hid (gd.below bb)
        have KB := Lib.hid (Bk.new w4 24 #[.slice k1 kn1 kc1, .slice k2 kn2 kc2, .slice k3 kn3 kc3])
        have HR3 : Hid (r < w3.heap.size) := Lib.hid RW.out.lt
        replace BW := Lib.hid (BW.out.trans ((b4.trans (bb.mono b4.size)).mono BW.out.size))
        replace RW := Lib.hid ((RW.out.below b4).below bb)
        clear gd b4 bb HEW
        go_upto_region 9 with fail
        obtain ⟨gb, hgb⟩ : ∃ x, x = w4.heap.size := ⟨_, rfl⟩
        rw [← hgb] at KB ⊢
        generalize World.alloc w4 _ = w5 at DB KB BW RW ⊢
        clear hgb
        have c0 := KB.out.cell 0
        have c1 := KB.out.cell 1
        have c2 := KB.out.cell 2
        have lc := KB.out.lt
        have d0 := RW.out.cell 0
        have d1 := RW.out.cell 1
        have d2 := RW.out.cell 2
        have f0 := RW.out.fz 0
        have f1 := RW.out.fz 1
        have f2 := RW.out.fz 2
        have lr := RW.out.lt
        have HS := Lib.hid (set3_bk (.slice k1 kn1 kc1) (.slice k2 kn2 kc2) (.slice k3 kn3 kc3) RW.out)
        have HK4 := Lib.hid (set3_keep (w := w5) (g := r) (.slice k1 kn1 kc1) (.slice k2 kn2 kc2) (.slice k3 kn3 kc3))
        go_wp2_with fail
        generalize ((w5.setCell _ _).setCell _ _).setCell _ _ = w9 at HS HK4 ⊢
        clear d0 d1 d2 c0 c1 c2
        have d0 := HS.out.cell 0
        have d1 := HS.out.cell 1
        have d2 := HS.out.cell 2
        refine bodyPost_ret (v := .agg #[.slice k1 kn1 kc1, .slice k2 kn2 kc2, .slice k3 kn3 kc3]) (by simp [results, Try.results25, go_sem, d0, d1, d2]) rfl ?_
        exact ⟨_, _, _, rfl, (DB.out.oth HK4.out (fun _ h => by rw [h]; exact HR3.out)).grD, BW.out.trans (HK4.out.below (fun _ h => by rw [h]; exact Nat.le_of_lt HRR.out) BW.out.size)⟩

end Go.Proofs.Ytkdpimifojjhaaa

namespace Go.Proofs.Ytkdpimifojjhaaa
set_option linter.unusedSimpArgs false
set_option linter.unusedVariables false
open Go.RowKit

set_option maxRecDepth 100000 in
set_option maxHeartbeats 8000000 in
theorem rkeep_any (g : Gr) (li : List Bool) (vs va vt vi : Value) (w : World) (hd : GrD w vs va vt g) (hi : TrusD w vi li) (hn : g.st.length ≤ 1001 ∧ g.to.length ≤ 1000) (hli : li.length ≤ 1000) :
    Calls Try.prog 33 #[.agg #[vs, va, vt], vi] w fun e w' => ∃ us ua ut, e = .returned (.agg #[us, ua, ut]) ∧ GrD w' us ua ut (keepZ g li) ∧ Below w.heap.size w w' := by
  obtain ⟨q, hq⟩ : ∃ q, rightG g = q := ⟨_, rfl⟩
  have HRI := Lib.hid fun (W : World) (h : Below w.heap.size w W) => rright14_any g vs va vt W (hd.below h) hn q hq
  have HAL := Lib.hid fun (W : World) (h : Below w.heap.size w W) => rall_any g vs va vt W (hd.below h) hn
  have HND := Lib.hid fun (W : World) (h : Below w.heap.size w W) (b : Nat) (hb : (if rightG g = true then numN g else 0) = b) => rnodes_any g vs va vt W (hd.below h) hn b hb
  have HIN := Lib.hid fun (W : World) (x : Int) (q : Bool) (h : Below w.heap.size w W) (hx : 0 ≤ x) (hq : isIn li x = q) => ris_any li x hx vi W (hi.below h) (by omega) q hq
  have HQ := Lib.hid hq
  have HSZ : Hid (g.st.length ≤ 1001 ∧ g.to.length ≤ 1000) := Lib.hid hn
  obtain ⟨z1, n1, y1, z2, n2, y2, z3, n3, y3, rfl, rfl, rfl⟩ := hd.sh
  obtain ⟨ia, ic, rfl⟩ := hi.shape0
  clear hd hn hq hi hli
  generalize li.length = lb at HIN ⊢
  have L2 := two_new w 24 24 #[.slice z1 n1 y1, .slice z2 n2 y2, .slice z3 n3 y3] #[.slice none 0 0, .slice none 0 0, .slice none 0 0]
  have BX := Lib.hid L2.1
  have KX := Lib.hid L2.2.1
  have RX := Lib.hid L2.2.2
  clear L2
  go_enter Try.func33, Try.ntmps33
  go_wp2_with fail
  generalize World.alloc (World.alloc w _) _ = w0 at BX KX RX ⊢
  obtain ⟨r, hr⟩ : ∃ r, r = w.heap.size + 1 := ⟨_, rfl⟩
  rw [← hr] at RX ⊢
  have HRR : Hid (w.heap.size < r) := Lib.hid (by omega)
  clear hr
  refine (HRI.out _ BX.out).mono ?_
  rintro e w1 ⟨rfl, b1⟩
  replace BX := Lib.hid (BX.out.trans (b1.mono BX.out.size))
  replace KX := Lib.hid (KX.out.below b1)
  replace RX := Lib.hid (RX.out.below b1)
  clear b1 HRI
  cases q with
  | false =>
    have d0 := RX.out.cell 0
    have d1 := RX.out.cell 1
    have d2 := RX.out.cell 2
    have f0 := RX.out.fz 0
    have f1 := RX.out.fz 1
    have f2 := RX.out.fz 2
    have lr := RX.out.lt
    have HS := Lib.hid (set3_bk (.slice none 0 0) (.slice none 0 0) (.slice none 0 0) RX.out)
    have HK := Lib.hid (set3_keep (w := w1) (g := r) (.slice none 0 0) (.slice none 0 0) (.slice none 0 0))
    go_wp2_with fail
    generalize ((w1.setCell _ _).setCell _ _).setCell _ _ = w9 at HS HK ⊢
    clear d0 d1 d2
    have d0 := HS.out.cell 0
    have d1 := HS.out.cell 1
    have d2 := HS.out.cell 2
    refine bodyPost_ret (v := .agg #[.slice none 0 0, .slice none 0 0, .slice none 0 0]) (by simp [results, Try.results33, go_sem, d0, d1, d2]) rfl ?_
    exact ⟨_, _, _, rfl, by rw [show keepZ g li = noG from if_neg (fun h => by rw [HQ.out] at h; cases h)]; exact noG_D _, BX.out.trans (HK.out.below (fun _ h => by rw [h]; exact Nat.le_of_lt HRR.out) BX.out.size)⟩
  | true =>
    have HG := Lib.hid (right_RG g HQ.out)
    have HO : Hid (keepZ g li = buildG (numN g) (keepL g li)) := Lib.hid (by
      rw [show keepZ g li = keepG g li from if_pos HQ.out]
      unfold buildG
      rw [if_pos (by unfold okB; rw [decide_eq_true (by omega), Bool.true_and, List.all_eq_true]; exact fun e he => HG.out.keepOk li e he), Int.toNat_natCast]
      rfl)
    have HLL : Hid ((allL g).length ≤ 1000 ∧ numN g ≤ 1000) := Lib.hid ⟨by rw [HG.out.allLen]; exact HSZ.out.2, by have := HSZ.out.1; unfold numN; omega⟩
    have c0 := KX.out.cell 0
    have c1 := KX.out.cell 1
    have c2 := KX.out.cell 2
    have lw := KX.out.lt
    obtain ⟨M, hM⟩ : ∃ M, M = (allL g).length := ⟨_, rfl⟩
    have HM := Lib.hid hM
    rw [show allZ g = allL g from if_pos HQ.out, ← hM] at HAL
    rw [← hM] at HLL
    clear hM
    go_wp2_with fail
    refine (HAL.out _ BX.out).mono ?_
    rintro e w2 ⟨v, rfl, ho, b2⟩
    obtain ⟨la, lc, rfl, _⟩ := own_shape' ho
    have HE0 := Lib.hid (edgsD_of_own (show w2.ownsRow w1.heap.size 41 3 (.slice la M lc) (allL g).length (rowG (allL g)) by rw [← HM.out]; exact ho))
    have BZ := Lib.hid (BX.out.trans (b2.mono BX.out.size))
    have KZ := Lib.hid (KX.out.below b2)
    have RZ := Lib.hid (RX.out.below b2)
    clear b2 c0 c1 c2 lw ho HAL BX KX RX
    go_wp2_with fail
    have I0 := Lib.hid (Below.refl w2.heap.size w2)
    go_loopg [6, 7] M (fun fuel s6 i' wr => ∃ (k : Nat), i' = .int .i64 k ∧ k ≤ M ∧ M - k ≤ fuel ∧ wr.ownsRow w2.heap.size 41 3 s6 ((allL g).take k |>.filter fun e => isIn li e.1 && isIn li e.2.2).length (rowG ((allL g).take k |>.filter fun e => isIn li e.1 && isIn li e.2.2)) ∧ Below w2.heap.size w2 wr)
    case atStart => exact ⟨0, rfl, Nat.zero_le _, Nat.le_refl _, ownE_nil _ _, I0.out⟩
    case round =>
      clear I0
      obtain ⟨k, rfl, hk, hf, ho, hb⟩ := hrel
      have HW := Lib.hid ho
      have HB := Lib.hid hb
      have HE := Lib.hid (EdgsD.below HE0.out hb)
      have BW := Lib.hid (BZ.out.trans (hb.mono BZ.out.size))
      clear ho hb
      have i5 : IntKind.i64.wrap ((k : Int) + 1) = (k : Int) + 1 := IntWalk.i64_in _ (by have := HLL.out; omega)
      by_cases hlt : k < M
      · have hk1 : k < (allL g).length := by rw [← HM.out]; exact hlt
        obtain ⟨b, off, rfl, bl, y0, y1, y2⟩ := EdgsD.at2 HE0.out k hk1
        have HOK := Lib.hid (HG.out.mem (List.getElem_mem hk1))
        have HFT : Hid ((allL g).take (k + 1) = (allL g).take k ++ [(allL g)[k]]) := Lib.hid (by rw [List.take_add_one, List.getElem?_eq_getElem hk1]; rfl)
        obtain ⟨⟨ef, ea, et⟩, hE⟩ : ∃ e, e = (allL g)[k] := ⟨_, rfl⟩
        rw [← hE] at y0 y1 y2 HOK HFT
        have hok := of_decide_eq_true HOK.out
        have HFE : Hid (0 ≤ ef) := Lib.hid hok.1.1
        have HTE : Hid (0 ≤ et) := Lib.hid hok.2.1.1
        have Y0 := Lib.hid (fun (W : World) (h : Below w2.heap.size w2 W) => (h.cell (p := ⟨b, _, none⟩) bl).trans y0)
        have Y1 := Lib.hid (fun (W : World) (h : Below w2.heap.size w2 W) => (h.cell (p := ⟨b, _, none⟩) bl).trans y1)
        have Y2 := Lib.hid (fun (W : World) (h : Below w2.heap.size w2 W) => (h.cell (p := ⟨b, _, none⟩) bl).trans y2)
        clear y0 y1 y2
        have x0 := Y0.out _ HB.out
        have i1 : (0 : Int) ≤ (k : Int) := by omega
        have i2 : (k : Int) < (M : Int) := by omega
        obtain ⟨q1, hq1⟩ : ∃ q, isIn li ef = q := ⟨_, rfl⟩
        obtain ⟨q2, hq2⟩ : ∃ q, isIn li et = q := ⟨_, rfl⟩
        have HQ1 := Lib.hid hq1
        have HQ2 := Lib.hid hq2
        clear hk1 hE hok hq1 hq2 HOK
        go_wp2_with fail
        refine (HIN.out wr ef q1 BW.out HFE.out HQ1.out).mono ?_
        rintro e w6 ⟨rfl, b6⟩
        replace BW := Lib.hid (BW.out.trans (b6.mono BW.out.size))
        replace HW := Lib.hid (own_below HW.out b6)
        replace HB := Lib.hid (HB.out.trans (b6.mono HB.out.size))
        clear b6 x0
        cases q1 with
        | false =>
          have HKL : Hid ((((allL g).take (k + 1)).filter fun e => isIn li e.1 && isIn li e.2.2) = ((allL g).take k).filter fun e => isIn li e.1 && isIn li e.2.2) := Lib.hid (by
            rw [HFT.out, List.filter_append, List.filter_cons_of_neg (by simp [HQ1.out]), List.filter_nil, List.append_nil])
          go_wp2_with fail
          go_roundg (gk - 1)
          case measure => omega
          case rel => exact ⟨k + 1, by go_num, by omega, by omega, by rw [HKL.out]; exact HW.out, HB.out⟩
        | true =>
          have x2 := Y2.out _ HB.out
          go_wp2_with fail
          refine (HIN.out w6 et q2 BW.out HTE.out HQ2.out).mono ?_
          rintro e w7 ⟨rfl, b7⟩
          replace BW := Lib.hid (BW.out.trans (b7.mono BW.out.size))
          replace HW := Lib.hid (own_below HW.out b7)
          replace HB := Lib.hid (HB.out.trans (b7.mono HB.out.size))
          clear b7 x2
          cases q2 with
          | false =>
            have HKL : Hid ((((allL g).take (k + 1)).filter fun e => isIn li e.1 && isIn li e.2.2) = ((allL g).take k).filter fun e => isIn li e.1 && isIn li e.2.2) := Lib.hid (by
              rw [HFT.out, List.filter_append, List.filter_cons_of_neg (by simp [HQ2.out]), List.filter_nil, List.append_nil])
            go_wp2_with fail
            go_roundg (gk - 1)
            case measure => omega
            case rel => exact ⟨k + 1, by go_num, by omega, by omega, by rw [HKL.out]; exact HW.out, HB.out⟩
          | true =>
            have HKL : Hid ((((allL g).take k).filter fun e => isIn li e.1 && isIn li e.2.2) ++ [((ef, ea, et) : Edg)] = (((allL g).take (k + 1)).filter fun e => isIn li e.1 && isIn li e.2.2)) := Lib.hid (by
              rw [HFT.out, List.filter_append, List.filter_cons_of_pos (by simp [HQ1.out, HQ2.out]), List.filter_nil])
            have HLE : Hid ((((allL g).take k).filter fun e => isIn li e.1 && isIn li e.2.2).length ≤ 1000) := Lib.hid (Nat.le_trans (List.length_filter_le _ _) (by rw [List.length_take]; have := HLL.out; have := HM.out; omega))
            generalize ((allL g).take k).filter (fun e => isIn li e.1 && isIn li e.2.2) = Fk at HW HKL HLE
            generalize hFn : ((allL g).take (k + 1)).filter (fun e => isIn li e.1 && isIn li e.2.2) = Fn at HKL
            have HFN := Lib.hid hFn
            clear hFn
            have x0 := Y0.out _ HB.out
            have x1 := Y1.out _ HB.out
            have x2 := Y2.out _ HB.out
            have OW8 := Lib.hid (World.ownsRow.alloc HW.out (.cells #[.int .i64 ef, .int .i64 ea, .int .i64 et] 41))
            have ED8 := Lib.hid (edgsD_of_bk (w := w7.alloc (.cells #[.int .i64 ef, .int .i64 ea, .int .i64 et] 41)) (g := w7.heap.size) (xs := [(ef, ea, et)]) (n := 1) (Bk.new w7 _ _) rfl (by decide))
            have HN8 : Hid (Fk.length + [((ef, ea, et) : Edg)].length ≤ 1000000) := Lib.hid (by have := HLE.out; simp only [List.length_cons, List.length_nil]; omega)
            have HS8 : Hid (w2.heap.size ≤ (w7.alloc (.cells #[.int .i64 ef, .int .i64 ea, .int .i64 et] 41)).heap.size) := Lib.hid (by rw [alloc_size]; have := HB.out.size; omega)
            have HB8 := Lib.hid (HB.out.alloc HB.out.size (.cells #[.int .i64 ef, .int .i64 ea, .int .i64 et] 41))
            go_wp2_with (at_builtin; refine append_edgs rfl (.tmp 38) (.tmp 43) rfl w2.heap.size _ Fk [(ef, ea, et)] rfl _ _ _ rfl OW8.out ED8.out HN8.out HS8.out Fn HKL.out ?_)
            intro v9 w9 O9 B9
            have HB9 := Lib.hid (HB8.out.trans B9.out)
            clear B9 HB8 OW8 ED8 HN8 HS8 x0 x1 x2
            go_wp2_with fail
            go_roundg (gk - 1)
            case measure => omega
            case rel => exact ⟨k + 1, by go_num, by omega, by omega, by rw [HFN.out]; exact O9.out, HB9.out⟩
      · obtain rfl : k = M := by omega
        have HKW : Hid (((allL g).take k).filter (fun e => isIn li e.1 && isIn li e.2.2) = keepL g li) := Lib.hid (by unfold keepL; rw [HM.out, List.take_length])
        rw [HKW.out] at HW
        obtain ⟨ka, kc, rfl, _⟩ := own_shape' HW.out
        have HEW := Lib.hid (edgsD_of_own HW.out)
        have KW := Lib.hid (KZ.out.below HB.out)
        have RW := Lib.hid (RZ.out.below HB.out)
        have HNZ : Hid ((if rightG g = true then numN g else 0) = numN g) := Lib.hid (if_pos HQ.out)
        have HML : Hid ((keepL g li).length ≤ 1000) := Lib.hid (Nat.le_trans (List.length_filter_le _ _) (by have := HLL.out; have := HM.out; omega))
        have c0 := KW.out.cell 0
        have c1 := KW.out.cell 1
        have c2 := KW.out.cell 2
        have lw := KW.out.lt
        generalize hkl : (keepL g li).length = kl at HEW HW ⊢
        clear HE hlt hf hk i5 HW hkl
        go_wp2_with fail
        refine (HND.out _ BW.out _ HNZ.out).mono ?_
        rintro e w3 ⟨rfl, b3⟩
        replace BW := Lib.hid (BW.out.trans (b3.mono BW.out.size))
        replace RW := Lib.hid (RW.out.below b3)
        replace HEW := Lib.hid (EdgsD.below HEW.out b3)
        clear b3 c0 c1 c2 lw HND KW
        go_wp2_with fail
        refine (rbuild_own (numN g) _ _ _ HEW.out (by have := HLL.out; omega) HML.out).mono ?_
        rintro e w4 ⟨us, ua, ut, rfl, gd, b4⟩
        rw [← HO.out] at gd
        obtain ⟨k1, kn1, kc1, k2, kn2, kc2, k3, kn3, kc3, rfl, rfl, rfl⟩ := gd.grD.sh
        have bb := (Below.refl w4.heap.size w4).alloc (Nat.le_refl _) (.cells #[.slice k1 kn1 kc1, .slice k2 kn2 kc2, .slice k3 kn3 kc3] 24)
        have DB := Lib.hid (gd.below bb)
        have KB := Lib.hid (Bk.new w4 24 #[.slice k1 kn1 kc1, .slice k2 kn2 kc2, .slice k3 kn3 kc3])
        have HR3 : Hid (r < w3.heap.size) := Lib.hid RW.out.lt
        replace BW := Lib.hid (BW.out.trans ((b4.trans (bb.mono b4.size)).mono BW.out.size))
        replace RW := Lib.hid ((RW.out.below b4).below bb)
        clear gd b4 bb HEW
        go_upto_region 11 with fail
        obtain ⟨gb, hgb⟩ : ∃ x, x = w4.heap.size := ⟨_, rfl⟩
        rw [← hgb] at KB ⊢
        generalize World.alloc w4 _ = w5 at DB KB BW RW ⊢
        clear hgb
        have c0 := KB.out.cell 0
        have c1 := KB.out.cell 1
        have c2 := KB.out.cell 2
        have lc := KB.out.lt
        have d0 := RW.out.cell 0
        have d1 := RW.out.cell 1
        have d2 := RW.out.cell 2
        have f0 := RW.out.fz 0
        have f1 := RW.out.fz 1
        have f2 := RW.out.fz 2
        have lr := RW.out.lt
        have HS := Lib.hid (set3_bk (.slice k1 kn1 kc1) (.slice k2 kn2 kc2) (.slice k3 kn3 kc3) RW.out)
        have HK4 := Lib.hid (set3_keep (w := w5) (g := r) (.slice k1 kn1 kc1) (.slice k2 kn2 kc2) (.slice k3 kn3 kc3))
        go_wp2_with fail
        generalize ((w5.setCell _ _).setCell _ _).setCell _ _ = w9 at HS HK4 ⊢
        clear d0 d1 d2 c0 c1 c2
        have d0 := HS.out.cell 0
        have d1 := HS.out.cell 1
        have d2 := HS.out.cell 2
        refine bodyPost_ret (v := .agg #[.slice k1 kn1 kc1, .slice k2 kn2 kc2, .slice k3 kn3 kc3]) (by simp [results, Try.results33, go_sem, d0, d1, d2]) rfl ?_
        exact ⟨_, _, _, rfl, (DB.out.oth HK4.out (fun _ h => by rw [h]; exact HR3.out)).grD, BW.out.trans (HK4.out.below (fun _ h => by rw [h]; exact Nat.le_of_lt HRR.out) BW.out.size)⟩

end Go.Proofs.Ytkdpimifojjhaaa
