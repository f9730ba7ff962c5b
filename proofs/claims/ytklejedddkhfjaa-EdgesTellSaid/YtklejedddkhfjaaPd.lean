/- Layer 14, the reference: Out. -/
import Derived.Test.YtklejedddkhfjaaPc
import Derived.Test.YtklejedddkhfjaaNt
namespace Go.Proofs.Ytklejedddkhfjaa
set_option linter.unusedSimpArgs false
set_option linter.unusedVariables false
open Go.RowKit

/-- append of one edge to a row of edges, at a step of a region that draws. -/
theorem step_appE {w : World} {ops : Array Oper} {o : Oper} {a : Act} {K : Act → World → Prop} {Q : Exit → Act → World → Prop} {E' : Prop} (hgd : o.guard = none) (s x : Operand)
    (ho : o.op = .call { callee := .builtin .append, args := #[s, x], argTypes := #[22, 22] })
    (base : Nat) (v : Value) (n : Nat) (xs : List Edg) (hs : a.eval s = v) (hown : w.ownsRow base 44 3 v n (rowG xs)) (hxn : xs.length = n) (g : Nat) (u : Edg) (hx : a.eval x = .slice (some ⟨g, 0, none⟩) 1 1) (hg : Bk w g 44 #[.int .i64 u.1, .int .i64 u.2.1, .int .i64 u.2.2]) (hn : n ≤ 1000000) (hbase : base ≤ w.heap.size)
    (h : ∀ g' cap w', w'.ownsRow base 44 3 (.slice (some ⟨g', 0, none⟩) (n + 1) cap) (n + 1) (rowG (xs ++ [u])) → Below base w w' → K (a.put o.dst (.slice (some ⟨g', 0, none⟩) (n + 1) cap)) w') :
    if Region.wanted o (yielded ops a.tmps) = true then Oper.wp Try.prog o a w K Q else E' := by
  subst hxn
  obtain ⟨i0, hi, hz0, hz1, hz2⟩ := info_parts info_edge
  refine step_append_lies _ hgd s x 22 ho base 44 i0 (.agg #[.int .i64 0, .int .i64 0, .int .i64 0]) 3 24 Try.underlying22 hi hz0 hz1 hz2 rfl (by decide) v xs.length (rowG xs) hs hown ⟨g, 0, none⟩ 1 1 (cellsG u) hx rfl (fun j y hy => World.news_of_block (show w.heap[g]? = some (.cells #[.int .i64 u.1, .int .i64 u.2.1, .int .i64 u.2.2] 44 (0, 0)) from hg) j y (by simpa [cellsG] using hy)) (by intro y hy; simp [cellsG] at hy; rcases hy with rfl | rfl | rfl <;> rfl) (by decide) (by unfold maxLen; omega) (by omega) hbase _ rfl ?_
  intro g' cap w' h2 h3 h4 _
  refine h g' cap w' ?_ ((Below.refl base w).grown h3 hbase (fun k hk => (hown.lt k hk).1))
  rw [rowG_app, show rowG [u] = cellsG u by simp [rowG]]
  exact h2

theorem len14 {α : Type} {S : Nat} {R : World → Nat → Nat → α → Prop} {w : World} {ad : Option Addr} {n cap : Nat} {xs : List α} (h : SlD S R w (.slice ad n cap) xs) : xs.length = n := by
  obtain ⟨ad', cap', hv, _⟩ := h
  injection hv with _ e _
  exact e.symm
theorem out_take (g : Gr) (i j : Nat) (hj : j < sN g (i + 1) - sN g i) : (outL g i).take (j + 1) = (outL g i).take j ++ [((i : Int), g.ag.getD (sN g i + j) 0, g.to.getD (sN g i + j) 0)] := by
  rw [List.take_add_one, outL_at g i j hj]; rfl

set_option maxRecDepth 100000 in
set_option maxHeartbeats 8000000 in
theorem rout_any (g : Gr) (vs va vt : Value) (w : World) (hd : GrD w vs va vt g) (hn : g.st.length ≤ 1001 ∧ g.to.length ≤ 1000) (i : Int) :
    Calls Try.prog 15 #[.agg #[vs, va, vt], .int .i64 i] w fun e w' => ∃ v, e = .returned v ∧ EdgsD w' v (outZ g i) ∧ Below w.heap.size w w' := by
  obtain ⟨nn, hnn⟩ : ∃ b, (if rightG g = true then numN g else 0) = b := ⟨_, rfl⟩
  have HND := Lib.hid fun (W : World) (h : Below w.heap.size w W) => rnodes_any g vs va vt W (hd.below h) hn nn hnn
  have HNN := Lib.hid hnn
  have HD := Lib.hid hd
  have HSZ : Hid (g.st.length ≤ 1001 ∧ g.to.length ≤ 1000) := Lib.hid hn
  obtain ⟨z1, n1, y1, z2, n2, y2, z3, n3, y3, rfl, rfl, rfl⟩ := hd.sh
  clear hd hn hnn
  have BX := Lib.hid (bal (Below.refl w.heap.size w) (.cells #[.slice z1 n1 y1, .slice z2 n2 y2, .slice z3 n3 y3] 26))
  have KX := Lib.hid (Bk.new w 26 #[.slice z1 n1 y1, .slice z2 n2 y2, .slice z3 n3 y3])
  by_cases h0 : i < 0
  · have HZ : Hid (outZ g i = []) := Lib.hid (if_neg (fun h => by have := h.2.1; omega))
    go_enter Try.func15, Try.ntmps15
    go_wp2_with fail
    go_ret
    exact ⟨_, rfl, by rw [HZ.out]; exact SlD.nil, BX.out⟩
  · obtain ⟨k, rfl⟩ : ∃ k : Nat, i = (k : Int) := ⟨i.toNat, by omega⟩
    go_enter Try.func15, Try.ntmps15
    go_wp2_with fail
    generalize (w.alloc _) = w0 at BX KX ⊢
    refine (HND.out _ BX.out).mono ?_
    rintro e w1 ⟨rfl, b1⟩
    have BY := Lib.hid (BX.out.trans (b1.mono BX.out.size))
    have KY := Lib.hid (KX.out.below b1)
    clear b1 BX KX HND
    by_cases hkn : nn ≤ k
    · have h2 : (nn : Int) ≤ (k : Int) := by omega
      have HZ : Hid (outZ g (k : Int) = []) := Lib.hid (if_neg (fun h => by have h1 := HNN.out; rw [if_pos h.1] at h1; have := h.2.2; omega))
      go_wp2_with fail
      go_ret
      exact ⟨_, rfl, by rw [HZ.out]; exact SlD.nil, BY.out⟩
    · have h2 : ¬ (nn : Int) ≤ (k : Int) := by omega
      have HR : Hid (rightG g = true ∧ k < numN g) := Lib.hid (by
        have h1 := HNN.out
        by_cases hr : rightG g = true
        · rw [if_pos hr] at h1; exact ⟨hr, by omega⟩
        · rw [if_neg hr] at h1; omega)
      have HG := Lib.hid (right_RG g HR.out.1)
      have HO : Hid (outZ g (k : Int) = outL g k) := Lib.hid (if_pos ⟨HR.out.1, by omega, by have := HR.out.2; omega⟩)
      have hk1 : k < g.st.length := by have := HR.out.2; unfold numN at this; omega
      have hk2 : k + 1 < g.st.length := by have := HR.out.2; unfold numN at this; omega
      obtain ⟨s, hs⟩ : ∃ s, s = sN g k := ⟨_, rfl⟩
      obtain ⟨d, hdd⟩ : ∃ d, sN g (k + 1) = s + d := ⟨sN g (k + 1) - s, by have := HG.out.up k HR.out.2; omega⟩
      obtain ⟨t, ht⟩ : ∃ t, t = s + d := ⟨_, rfl⟩
      have HDT : Hid (t = s + d ∧ (outL g k).length = d ∧ t ≤ g.to.length ∧ g.ag.length = g.to.length ∧ d ≤ 1000) := Lib.hid ⟨ht, by rw [outL_len, hdd, hs]; omega, by rw [ht, ← hdd]; exact HG.out.le (k + 1) HR.out.2, HG.out.alen, by have := HG.out.le (k + 1) HR.out.2; have := HSZ.out; omega⟩
      have HTK := Lib.hid (fun j (hj : j < d) => (by have h := out_take g k j (by rw [hdd, ← hs]; omega); rw [← hs] at h; exact h : (outL g k).take (j + 1) = (outL g k).take j ++ [((k : Int), g.ag.getD (s + j) 0, g.to.getD (s + j) 0)]))
      have st0 := HG.out.st k (Nat.le_of_lt HR.out.2)
      have st1 := HG.out.st (k + 1) HR.out.2
      obtain ⟨b0, o0, rfl, bl, x0⟩ := IntsD.at2 HD.out.s k hk1
      obtain ⟨b0', o0', he, _, x1⟩ := IntsD.at2 HD.out.s (k + 1) hk2
      injection he with he
      injection he with e1 e2
      subst e1 e2
      rw [List.getElem?_eq_getElem hk1] at st0
      rw [List.getElem?_eq_getElem hk2] at st1
      rw [Option.some.inj st0, ← hs] at x0
      rw [Option.some.inj st1, hdd, ← ht] at x1
      have X1 := Lib.hid (fun (W : World) (h : Below w.heap.size w W) => (h.cell (p := ⟨b0, _, none⟩) bl).trans x1)
      have y0 := (BY.out.cell (p := ⟨b0, _, none⟩) bl).trans x0
      have hl1 : g.st.length = n1 := len14 HD.out.s
      have c0 := KY.out.cell 0
      have lw := KY.out.lt
      have i1 : (0 : Int) ≤ (k : Int) := by omega
      have i2 : (k : Int) < (n1 : Int) := by omega
      have i3 : (0 : Int) ≤ (k : Int) + 1 := by omega
      have i4 : (k : Int) + 1 < (n1 : Int) := by omega
      have i5 : IntKind.i64.wrap ((k : Int) + 1) = (k : Int) + 1 := IntWalk.i64_in _ (by have := HSZ.out; omega)
      clear hk1 hk2 st0 st1 x0 x1 hs hdd ht
      go_wp2_with fail
      clear c0 y0 lw
      go_loopg [5, 6] d (fun fuel s5 s6 wr => ∃ (p j : Nat), p = s + j ∧ s6 = .int .i64 p ∧ j ≤ d ∧ d - j ≤ fuel ∧ wr.ownsRow w1.heap.size 44 3 s5 ((outL g k).take j).length (rowG ((outL g k).take j)) ∧ Below w1.heap.size w1 wr)
      case atStart => exact ⟨s, 0, rfl, rfl, Nat.zero_le _, Nat.le_refl _, by rw [List.take_zero]; exact ownE_nil _ _, Below.refl _ _⟩
      case round =>
        obtain ⟨p, j, hp, rfl, hj, hf, ho, hb⟩ := hrel
        have HW := Lib.hid ho
        have HB := Lib.hid hb
        have HP := Lib.hid hp
        have BW := Lib.hid (BY.out.trans (hb.mono BY.out.size))
        have KW := Lib.hid (KY.out.below hb)
        have c0 := KW.out.cell 0
        have lw := KW.out.lt
        have y1 := X1.out _ BW.out
        have i6 : IntKind.i64.wrap ((p : Int) + 1) = (p : Int) + 1 := IntWalk.i64_in _ (by have := HDT.out; have := HSZ.out; omega)
        clear ho hb
        by_cases hlt : j < d
        · have hpt : (p : Int) < (t : Int) := by have := HDT.out; omega
          have HLT := Lib.hid hlt
          have HF := Lib.hid hf
          have h1 : p < g.ag.length := by have := HDT.out; omega
          have h2' : p < g.to.length := by have := HDT.out; omega
          obtain ⟨b2, o2, rfl, l2, x2⟩ := IntsD.at2 (HD.out.below BW.out).a p h1
          obtain ⟨b3, o3, rfl, l3, x3⟩ := IntsD.at2 (HD.out.below BW.out).t p h2'
          have HAT := Lib.hid (HTK.out j hlt)
          rw [← HP.out, getD_get _ _ h1, getD_get _ _ h2'] at HAT
          generalize g.ag[p] = xa at x2 HAT
          generalize g.to[p] = xt at x3 HAT
          have hl2 : g.ag.length = n2 := len14 HD.out.a
          have hl3 : g.to.length = n3 := len14 HD.out.t
          have c1 := KW.out.cell 1
          have c2 := KW.out.cell 2
          have j1 : (0 : Int) ≤ (p : Int) := by omega
          have j2 : (p : Int) < (n2 : Int) := by omega
          have j3 : (p : Int) < (n3 : Int) := by omega
          obtain ⟨ua, uc, hus, _⟩ := own_shape' HW.out
          subst hus
          obtain ⟨U, hU⟩ : ∃ U, U = (outL g k).take j := ⟨_, rfl⟩
          obtain ⟨nU, hnU⟩ : ∃ n, U.length = n := ⟨_, rfl⟩
          have HNU : Hid (U.length = nU ∧ nU ≤ 1000) := Lib.hid ⟨hnU, by rw [← hnU, hU, List.length_take]; have := HDT.out; omega⟩
          rw [← hU] at HW HAT ⊢
          rw [hnU] at HW ⊢
          clear h1 h2' hU hnU hj hf hlt hp hl2 hl3
          go_wp2_with fail
          go_region_law
            ((refine step_appE (by rfl) (.tmp 30) (.tmp 43) (by rfl) w1.heap.size _ nU U (by rfl) (own_below HW.out (by repeat' (first | with_reducible exact Below.refl _ _ | with_reducible refine bdr ?_ | with_reducible refine bal ?_ _))) HNU.out.1 _ ((k : Int), xa, xt) (by rfl) (by repeat' (first | with_reducible refine bk_drew ?_ | ((refine bk_at ?_); (simp only [alloc_size]; done)) | with_reducible refine bk_alloc ?_ _)) (by have := HNU.out.2; omega) (Nat.le_trans HB.out.size (Below.size (by repeat' (first | with_reducible exact Below.refl _ _ | with_reducible refine bdr ?_ | with_reducible refine bal ?_ _)))) ?_; intro g' cap w' O' B'; have HON : Hid (w'.ownsRow w1.heap.size 44 3 (.slice (some ⟨g', 0, none⟩) (nU + 1) cap) ((outL g k).take (j + 1)).length (rowG ((outL g k).take (j + 1)))) := Lib.hid (by rw [HAT.out, List.length_append, HNU.out.1]; exact O'); have HBN := Lib.hid (HB.out.trans ((Below.mono (by repeat' (first | with_reducible exact Below.refl _ _ | with_reducible refine bdr ?_ | with_reducible refine bal ?_ _)) HB.out.size).trans B'))))
          all_goals
            clear O' B' c0 lw y1 x2 x3 c1 c2 HW
            go_wp2_with fail
            have hf := HF.out
            have hlt := HLT.out
            have hp := HP.out
            go_roundg (gk - 1)
            case measure => omega
            case rel => exact ⟨p + 1, j + 1, by omega, by go_num, by omega, by omega, HON.out, HBN.out⟩
        · have hpt : ¬ (p : Int) < (t : Int) := by have := HDT.out; omega
          have HJ : Hid ((outL g k).take j = outL g k) := Lib.hid (List.take_of_length_le (by have := HDT.out; omega))
          have HOE := Lib.hid (edgsD_of_own HW.out)
          rw [HJ.out] at HOE
          clear hlt hj hf hp
          go_wp2_with fail
          go_ret
          exact ⟨_, rfl, by rw [HO.out]; exact HOE.out, BW.out⟩

end Go.Proofs.Ytklejedddkhfjaa
