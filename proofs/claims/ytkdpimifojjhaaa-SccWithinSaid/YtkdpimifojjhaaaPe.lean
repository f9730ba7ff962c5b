/- Layer 14, the reference: All. -/
import Derived.Test.YtkdpimifojjhaaaPd
namespace Go.Proofs.Ytkdpimifojjhaaa
set_option linter.unusedSimpArgs false
set_option linter.unusedVariables false
open Go.RowKit

set_option maxRecDepth 100000 in
set_option maxHeartbeats 8000000 in
theorem rall_any (g : Gr) (vs va vt : Value) (w : World) (hd : GrD w vs va vt g) (hn : g.st.length ≤ 1001 ∧ g.to.length ≤ 1000) :
    Calls Try.prog 22 #[.agg #[vs, va, vt]] w fun e w' => ∃ v, e = .returned v ∧ w'.ownsRow w.heap.size 41 3 v (allZ g).length (rowG (allZ g)) ∧ Below w.heap.size w w' := by
  obtain ⟨q, hq⟩ : ∃ q, rightG g = q := ⟨_, rfl⟩
  have HRI := Lib.hid fun (W : World) (h : Below w.heap.size w W) => rright14_any g vs va vt W (hd.below h) hn q hq
  have HQ := Lib.hid hq
  have HD := Lib.hid hd
  have HSZ : Hid (g.st.length ≤ 1001 ∧ g.to.length ≤ 1000) := Lib.hid hn
  obtain ⟨z1, n1, y1, z2, n2, y2, z3, n3, y3, rfl, rfl, rfl⟩ := hd.sh
  clear hd hn hq
  have BX := Lib.hid (bal (Below.refl w.heap.size w) (.cells #[.slice z1 n1 y1, .slice z2 n2 y2, .slice z3 n3 y3] 24))
  have KX := Lib.hid (Bk.new w 24 #[.slice z1 n1 y1, .slice z2 n2 y2, .slice z3 n3 y3])
  go_enter Try.func22, Try.ntmps22
  go_wp2_with fail
  generalize (w.alloc _) = w0 at BX KX ⊢
  refine (HRI.out _ BX.out).mono ?_
  rintro e w1 ⟨rfl, b1⟩
  have BY := Lib.hid (BX.out.trans (b1.mono BX.out.size))
  have KY := Lib.hid (KX.out.below b1)
  clear b1 BX KX HRI
  cases q with
  | false =>
    go_wp2_with fail
    go_ret
    exact ⟨_, rfl, by rw [show allZ g = [] from if_neg (fun h => by rw [HQ.out] at h; cases h)]; exact ownE_nil _ _, BY.out⟩
  | true =>
    have HG := Lib.hid (right_RG g HQ.out)
    have HO : Hid (allZ g = allL g) := Lib.hid (if_pos HQ.out)
    obtain ⟨N, hN⟩ : ∃ N, N = numN g := ⟨_, rfl⟩
    have HN := Lib.hid hN
    have HNS : Hid (N + 1 = n1 ∧ n1 ≤ 1001) := Lib.hid ⟨by rw [hN]; have h1 := len14 HD.out.s; have := HG.out.pos; unfold numN; omega, by have h1 := len14 HD.out.s; have := HSZ.out; omega⟩
    clear hN
    go_wp2_with fail
    go_loopg [3, 4, 5] N (fun fuel s3 s4 s5 wr => ∃ (i : Nat), s4 = .int .i64 i ∧ i ≤ N ∧ N - i ≤ fuel ∧ wr.ownsRow w1.heap.size 41 3 s3 (upL g i).length (rowG (upL g i)) ∧ Below w1.heap.size w1 wr)
    case atStart => exact ⟨0, rfl, Nat.zero_le _, Nat.le_refl _, ownE_nil _ _, Below.refl _ _⟩
    case round =>
      obtain ⟨k, rfl, hk, hf, ho, hb⟩ := hrel
      have HW0 := Lib.hid ho
      have HB0 := Lib.hid hb
      have BW0 := Lib.hid (BY.out.trans (hb.mono BY.out.size))
      have KW0 := Lib.hid (KY.out.below hb)
      have c0 := KW0.out.cell 0
      have lw := KW0.out.lt
      have i5 : IntKind.i64.wrap ((k : Int) + 1) = (k : Int) + 1 := IntWalk.i64_in _ (by have := HNS.out; omega)
      clear ho hb
      by_cases hlt : k < N
      · have hkN : (k : Int) + 1 < (n1 : Int) := by have := HNS.out; omega
        have HR : Hid (k < numN g) := Lib.hid (by rw [← HN.out]; exact hlt)
        have HLT0 := Lib.hid hlt
        have HF0 := Lib.hid hf
        have hk1 : k < g.st.length := by have := HR.out; unfold numN at this; omega
        have hk2 : k + 1 < g.st.length := by have := HR.out; unfold numN at this; omega
        obtain ⟨s, hs⟩ : ∃ s, s = sN g k := ⟨_, rfl⟩
        obtain ⟨d, hdd⟩ : ∃ d, sN g (k + 1) = s + d := ⟨sN g (k + 1) - s, by have := HG.out.up k HR.out; omega⟩
        obtain ⟨t, ht⟩ : ∃ t, t = s + d := ⟨_, rfl⟩
        have HDT : Hid (t = s + d ∧ (outL g k).length = d ∧ t ≤ g.to.length ∧ g.ag.length = g.to.length ∧ d ≤ 1000 ∧ (upL g k).length = s) := Lib.hid ⟨ht, by rw [outL_len, hdd, hs]; omega, by rw [ht, ← hdd]; exact HG.out.le (k + 1) HR.out, HG.out.alen, by have := HG.out.le (k + 1) HR.out; have := HSZ.out; omega, by rw [hs]; exact HG.out.upLen k (Nat.le_of_lt HR.out)⟩
        have HTK := Lib.hid (fun j (hj : j < d) => (by have h := out_take g k j (by rw [hdd, ← hs]; omega); rw [← hs] at h; exact h : (outL g k).take (j + 1) = (outL g k).take j ++ [((k : Int), g.ag.getD (s + j) 0, g.to.getD (s + j) 0)]))
        have st0 := HG.out.st k (Nat.le_of_lt HR.out)
        have st1 := HG.out.st (k + 1) HR.out
        obtain ⟨b0, o0, rfl, bl, x0⟩ := IntsD.at2 HD.out.s k hk1
        obtain ⟨b0', o0', he, _, x1⟩ := IntsD.at2 HD.out.s (k + 1) hk2
        injection he with he
        injection he with e1 e2
        subst e1 e2
        rw [List.getElem?_eq_getElem hk1] at st0
        rw [List.getElem?_eq_getElem hk2] at st1
        rw [Option.some.inj st0, ← hs] at x0
        rw [Option.some.inj st1, hdd, ← ht] at x1
        have X1 := Lib.hid (fun (W : World) (h : Below w.heap.size w W) => (h.cell (p := ⟨b0, _, none⟩) bl).trans x1)
        have yy0 := (BW0.out.cell (p := ⟨b0, _, none⟩) bl).trans x0
        have i1 : (0 : Int) ≤ (k : Int) := by omega
        have i2 : (k : Int) < (n1 : Int) := by omega
        have i3 : (0 : Int) ≤ (k : Int) + 1 := by omega
        clear hk1 hk2 st0 st1 x0 x1 hs hdd ht hk hf hlt
        go_wp2_with fail
        clear c0 yy0 lw
        obtain ⟨w2, rfl⟩ : ∃ x, x = wr := ⟨_, rfl⟩
        obtain ⟨g2, rfl⟩ : ∃ x, x = gk := ⟨_, rfl⟩
        go_loopg [3, 5] d (fun fuel s3 s5 wr => ∃ (p j : Nat), p = s + j ∧ s5 = .int .i64 p ∧ j ≤ d ∧ d - j ≤ fuel ∧ wr.ownsRow w1.heap.size 41 3 s3 (upL g k ++ (outL g k).take j).length (rowG (upL g k ++ (outL g k).take j)) ∧ Below w1.heap.size w1 wr)
        case atStart => exact ⟨s, 0, rfl, rfl, Nat.zero_le _, Nat.le_refl _, by rw [List.take_zero, List.append_nil]; exact HW0.out, HB0.out⟩
        case round =>
          clear HW0 HB0 BW0 KW0
          obtain ⟨p, j, hp, rfl, hj, hf, ho, hb⟩ := hrel
          have HW := Lib.hid ho
          have HB := Lib.hid hb
          have HP := Lib.hid hp
          have BW := Lib.hid (BY.out.trans (hb.mono BY.out.size))
          have KW := Lib.hid (KY.out.below hb)
          have c0 := KW.out.cell 0
          have lw := KW.out.lt
          have yy1 := X1.out _ BW.out
          have i6 : IntKind.i64.wrap ((p : Int) + 1) = (p : Int) + 1 := IntWalk.i64_in _ (by have := HDT.out; have := HSZ.out; omega)
          clear ho hb
          by_cases hlt : j < d
          · have hpt : (p : Int) < (t : Int) := by have := HDT.out; omega
            have HLT := Lib.hid hlt
            have HF := Lib.hid hf
            have h1 : p < g.ag.length := by have := HDT.out; omega
            have h2' : p < g.to.length := by have := HDT.out; omega
            obtain ⟨b2, o2, rfl, l2, x2⟩ := IntsD.at2 (HD.out.below BW.out).a p h1
            obtain ⟨b3, o3, rfl, l3, x3⟩ := IntsD.at2 (HD.out.below BW.out).t p h2'
            have HAT := Lib.hid (HTK.out j hlt)
            rw [← HP.out, getD_get _ _ h1, getD_get _ _ h2'] at HAT
            generalize g.ag[p] = xa at x2 HAT
            generalize g.to[p] = xt at x3 HAT
            have hl2 : g.ag.length = n2 := len14 HD.out.a
            have hl3 : g.to.length = n3 := len14 HD.out.t
            have c1 := KW.out.cell 1
            have c2 := KW.out.cell 2
            have j1 : (0 : Int) ≤ (p : Int) := by omega
            have j2 : (p : Int) < (n2 : Int) := by omega
            have j3 : (p : Int) < (n3 : Int) := by omega
            obtain ⟨ua, uc, hus, _⟩ := own_shape' HW.out
            subst hus
            obtain ⟨U, hU⟩ : ∃ U, U = upL g k ++ (outL g k).take j := ⟨_, rfl⟩
            obtain ⟨nU, hnU⟩ : ∃ n, U.length = n := ⟨_, rfl⟩
            have HNU : Hid (U.length = nU ∧ nU ≤ 2000) := Lib.hid ⟨hnU, by rw [← hnU, hU, List.length_append, List.length_take]; have := HDT.out; have := HSZ.out; omega⟩
            have HAU : Hid (upL g k ++ (outL g k).take (j + 1) = U ++ [((k : Int), xa, xt)]) := Lib.hid (by rw [HAT.out, hU, List.append_assoc])
            rw [← hU] at HW ⊢
            rw [hnU] at HW ⊢
            clear h1 h2' hU hnU hj hf hlt hp hl2 hl3 HAT
            go_wp2_with fail
            go_region_law
              ((refine step_appE (by rfl) (.tmp 32) (.tmp 45) (by rfl) w1.heap.size _ nU U (by rfl) (own_below HW.out (by repeat' (first | with_reducible exact Below.refl _ _ | with_reducible refine bdr ?_ | with_reducible refine bal ?_ _))) HNU.out.1 _ ((k : Int), xa, xt) (by rfl) (by repeat' (first | with_reducible refine bk_drew ?_ | ((refine bk_at ?_); (simp only [alloc_size]; done)) | with_reducible refine bk_alloc ?_ _)) (by have := HNU.out.2; omega) (Nat.le_trans HB.out.size (Below.size (by repeat' (first | with_reducible exact Below.refl _ _ | with_reducible refine bdr ?_ | with_reducible refine bal ?_ _)))) ?_; intro g' cap w' O' B'; have HON : Hid (w'.ownsRow w1.heap.size 41 3 (.slice (some ⟨g', 0, none⟩) (nU + 1) cap) (upL g k ++ (outL g k).take (j + 1)).length (rowG (upL g k ++ (outL g k).take (j + 1)))) := Lib.hid (by rw [HAU.out, List.length_append, HNU.out.1]; exact O'); have HBN := Lib.hid (HB.out.trans ((Below.mono (by repeat' (first | with_reducible exact Below.refl _ _ | with_reducible refine bdr ?_ | with_reducible refine bal ?_ _)) HB.out.size).trans B'))))
            all_goals
              clear O' B' c0 lw yy1 x2 x3 c1 c2 HW
              go_wp2_with fail
              have hf := HF.out
              have hlt := HLT.out
              have hp := HP.out
              go_roundg (gk - 1)
              case measure => omega
              case rel => exact ⟨p + 1, j + 1, by omega, by go_num, by omega, by omega, HON.out, HBN.out⟩
          · have hpt : ¬ (p : Int) < (t : Int) := by have := HDT.out; omega
            have HJ : Hid (upL g k ++ (outL g k).take j = upL g (k + 1)) := Lib.hid (by rw [List.take_of_length_le (by have := HDT.out; omega), upL_succ])
            rw [HJ.out] at HW
            clear hlt hj hf hp
            go_wp2_with fail
            have hf := HF0.out
            have hlt := HLT0.out
            go_roundg (g2 - 1)
            case measure => omega
            case rel => exact ⟨k + 1, by go_num, by omega, by omega, HW.out, HB.out⟩
      · obtain rfl : k = N := by omega
        have hkN : ¬ (k : Int) + 1 < (n1 : Int) := by have := HNS.out; omega
        have HUP : Hid (upL g k = allZ g) := Lib.hid (by rw [HO.out, HN.out]; rfl)
        rw [HUP.out] at HW0
        go_wp2_with fail
        go_ret
        exact ⟨_, rfl, own_base HW0.out BY.out.size, BW0.out⟩

end Go.Proofs.Ytkdpimifojjhaaa
