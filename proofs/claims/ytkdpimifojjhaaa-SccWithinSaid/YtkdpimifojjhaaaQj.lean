/- Layer 17, the code: leaders. -/
import Derived.Test.YtkdpimifojjhaaaQi
namespace Go.Proofs.Ytkdpimifojjhaaa
set_option linter.unusedSimpArgs false
set_option linter.unusedVariables false
open Go.RowKit

theorem lr_start {w0 w w1 w2 : World} {vs va vt vn : Value} {g : Gr} {n gS gO gL gD gG : Nat} (hG : Bk w gG 24 #[vs, va, vt]) (hb : Below w0.heap.size w0 w) (h0 : w0.heap.size ≤ gG) (hs : SN w w1 n gS gO gL gD) (hn : w2.ownsRow w1.heap.size 3 1 vn (n + 1) (ints g.st)) (h2 : Below w1.heap.size w1 w2) (hst : g.st = tab (n + 1) fun j => ((T0 (egr g)).nxt j : Int)) :
    LR w0 w2 vs va vt g w2.heap.size w1.heap.size gG n gS gO gL gD vn (.slice none 0 0) (.slice none 0 0) (T0 (egr g)) [] := by
  have lG := hG.lt
  have l1 := hs.r.lt
  have l2 := (show Bk w1 gO _ _ from hs.o).lt
  have l3 := (show Bk w1 gL _ _ from hs.l).lt
  have l4 := (show Bk w1 gD _ _ from hs.d).lt
  have z := h2.size
  have z0 := hb.size
  have z1 := hs.b.size
  have p1 := hs.pS; have p2 := hs.pO; have p3 := hs.pL; have p4 := hs.pD
  have r0 : (tab n fun j => ((T0 (egr g)).ord j : Int)) = List.replicate n 0 := tab_rep n 0
  have r1 : (tab n fun j => ((T0 (egr g)).low j : Int)) = List.replicate n 0 := tab_rep n 0
  have r2 : tab n (T0 (egr g)).lead = List.replicate n (-1) := tab_rep n (-1)
  refine ⟨(hG.below hs.b).below h2, ⟨hs.r.below h2, ?_, ?_, ?_, ⟨rfl, .inl ⟨rfl, rfl⟩⟩, by omega, by omega, by omega, by omega, hs.nOL, hs.nOD, hs.nLD, Nat.le_refl _⟩, by rw [← hst]; exact hn, ⟨rfl, .inl ⟨rfl, rfl⟩⟩, (fun x hx => by cases hx), fun x hx => (own_blk hn x hx).2, by omega, by omega, by omega, by omega, by omega, ⟨h0, by omega, by omega, by omega, by omega, by omega, z⟩, ⟨by omega, by omega, by omega, by omega⟩, hb.trans ((hs.b.mono z0).trans (h2.mono (by omega)))⟩
  · rw [r0]; exact hs.o.below h2
  · rw [r1]; exact hs.l.below h2
  · rw [r2]; exact hs.d.below h2

theorem slice_blk {a b n c d : Nat} (h : Value.slice (some ⟨a, 0, none⟩) n c = .slice (some ⟨b, 0, none⟩) n d) : a = b := by
  injection h with h
  injection h with h
  injection h
def uu (t : Array Value) (j : Nat) : Value := t.getD j undef
theorem cellAt {w : World} {b o n cap k : Nat} {l : List Int} {x : Int} (h : IntsD w (.slice (some ⟨b, o, none⟩) n cap) l) (hk : l[k]? = some x) : w.cell? ⟨b, o + k, none⟩ = some (.int .i64 x) ∧ b < w.heap.size := by
  obtain ⟨hl, e⟩ := List.getElem?_eq_some_iff.1 hk
  obtain ⟨b', o', e2, h2, hc⟩ := IntsD.at2 h k hl
  injection e2 with e2
  injection e2 with e3 e4
  subst e3; subst e4
  rw [e] at hc
  exact ⟨hc, h2⟩
set_option maxRecDepth 100000 in
set_option maxHeartbeats 16000000 in
theorem leaders_any (g : Gr) (vs va vt : Value) (w : World) (hg : RG g) (hd : GrD w vs va vt g) (hn : g.st.length ≤ 1001 ∧ g.to.length ≤ 1000) :
    Calls Try.prog 27 #[.agg #[vs, va, vt]] w fun e w' => ∃ (gD : Nat) (L : Nat → Nat), e = .returned (.slice (some ⟨gD, 0, none⟩) (numN g) (numN g)) ∧ BkI w' gD (tab (numN g) fun i => (L i : Int)) ∧ w.heap.size ≤ gD ∧ Below w.heap.size w w' ∧ (∀ i, i < numN g → L i < numN g) ∧ (∀ i j, i < numN g → j < numN g → (L i = L j ↔ Mut (egr g).A i j)) := by
  obtain ⟨n, hN⟩ : ∃ n, n = numN g := ⟨_, rfl⟩
  have hst : g.st.length = n + 1 := by have := hg.pos; unfold numN at hN; omega
  have HST : Hid (g.st = tab (n + 1) fun j => ((T0 (egr g)).nxt j : Int)) := Lib.hid (by
    apply List.ext_getElem?
    intro j
    by_cases hj : j < n + 1
    · rw [tab_at _ _ _ hj, hg.st j (by omega)]; rfl
    · rw [List.getElem?_eq_none (by omega), List.getElem?_eq_none (by rw [tab_len]; omega)])
  have hT0 := T0.ok (egr g) hg.ee
  rw [← hN]
  have HG := Lib.hid hg
  have HD := Lib.hid hd
  have HN := Lib.hid hN
  have HSZ : Hid (n ≤ 1000 ∧ g.to.length ≤ 1000) := Lib.hid (by omega)
  have HNS := Lib.hid fun (W : World) => newSearch_core n (by omega) W fun W' g' hb => repeat_any (-1) g' n (by omega) W' hb
  have HCL := Lib.hid fun (W : World) (h : IntsD W vs g.st) => clone_any g.st vs W h (by omega) (by omega)
  obtain ⟨a1, p1, rfl⟩ := hd.s.shape0
  obtain ⟨b1, o1, hb1, hj1, hj2⟩ := IntsD.at2 hd.s 0 (by omega)
  clear hj1 hj2
  subst hb1
  obtain ⟨a2, p2, rfl⟩ := hd.t.shape0
  rw [hst] at HD HCL ⊢
  have BX := Lib.hid (bal (Below.refl w.heap.size w) (.cells #[.slice (some ⟨b1, o1, none⟩) (n + 1) p1, va, .slice a2 g.to.length p2] 24))
  have KX := Lib.hid (Bk.new w 24 #[.slice (some ⟨b1, o1, none⟩) (n + 1) p1, va, .slice a2 g.to.length p2])
  have HT0 := Lib.hid hT0
  have c0 := KX.out.cell 0
  have lX := KX.out.lt
  have i0 : wrap64 (n : Int) = (n : Int) := IntWalk.wrap64_in _ (by omega)
  clear hd hn hst hN hT0 hg
  obtain ⟨m, hm⟩ : ∃ m, m = g.to.length := ⟨_, rfl⟩
  rw [← hm] at HD HSZ BX KX c0 lX ⊢
  have HM := Lib.hid hm
  clear hm
  go_enter Try.func27, Try.ntmps27
  go_upto_region 2 with fail
  generalize (w.alloc _) = wa at BX KX c0 lX ⊢
  go_wp2_with (first
    | (go_at_call 40; refine (HNS.out _).mono ?_; rintro e w1 ⟨gS, gO, gL, gD, rfl, hs⟩; have HS := Lib.hid hs; have KY := Lib.hid (KX.out.below hs.b); clear hs c0 lX; have c0 := KY.out.cell 0; have lX := KY.out.lt; have BY := Lib.hid (BX.out.trans (HS.out.b.mono BX.out.size)))
    | (go_at_call 41; refine (HCL.out _ (IntsD.below HD.out.s BY.out)).mono ?_; rintro e w2 ⟨vn, rfl, on, b2⟩; have HO := Lib.hid on; have HB2 := Lib.hid b2; clear on b2 c0 lX))
  obtain ⟨gG, hgG⟩ : ∃ x, x = w.heap.size := ⟨_, rfl⟩
  have HGG := Lib.hid hgG
  rw [← hgG] at KX ⊢
  obtain ⟨B, BN, HLR⟩ : ∃ B BN, Hid (LR w w2 (.slice (some ⟨b1, o1, none⟩) (n + 1) p1) va (.slice a2 m p2) g B BN gG n gS gO gL gD vn (.slice none 0 0) (.slice none 0 0) (T0 (egr g)) []) := ⟨_, _, Lib.hid (lr_start KX.out BX.out (Nat.le_of_eq HGG.out.symm) HS.out HO.out HB2.out HST.out)⟩
  obtain ⟨gN, cN, hvn⟩ : ∃ gN cN, vn = .slice (some ⟨gN, 0, none⟩) (n + 1) cN := by
    obtain ⟨g', c', e, _⟩ := own_put HLR.out.nx (Nat.succ_pos n)
    exact ⟨g', c', e⟩
  subst hvn
  clear hgG HS KY BY HO HB2 HNS HCL BX KX HST i0
  go_loopg [6, 7, 8, 9, 20] n (fun fuel s6 s7 s8 s9 s20 wr => ∃ (k : Nat) (T : TT) (vo : Value), s20 = .int .i64 k ∧ k ≤ n ∧ n - k ≤ fuel ∧ LR w wr (.slice (some ⟨b1, o1, none⟩) (n + 1) p1) va (.slice a2 m p2) g B BN gG n gS gO gL gD (.slice (some ⟨gN, 0, none⟩) (n + 1) cN) vo s6 T [] ∧ TI (egr g) T [] ∧ ∀ v, v < k → 0 < T.ord v)
  case atStart => exact ⟨0, _, _, rfl, Nat.zero_le _, Nat.le_refl _, HLR.out, HT0.out, fun v hv => absurd hv (Nat.not_lt_zero _)⟩
  case round =>
    clear HLR HT0
    obtain ⟨k, T, vo, rfl, hk, hf, hs, ht, hv⟩ := hrel
    have HS := Lib.hid hs
    have HT := Lib.hid ht
    have HV := Lib.hid hv
    clear hs ht hv
    obtain ⟨ga, rfl⟩ : ∃ z, z = gk := ⟨_, rfl⟩
    by_cases hlt : k < n
    · have i5 : IntKind.i64.wrap ((k : Int) + 1) = (k : Int) + 1 := IntWalk.i64_in _ (by have := HSZ.out; omega)
      go_wp2_with fail
      refine wp_scope_two (fun mm a' w' => ∃ (T : TT) (vo vp : Value) (i : Nat) (P : List Nat), a' = { tmps := #[.agg #[.slice (some ⟨b1, o1, none⟩) (n + 1) p1, va, .slice a2 m p2], .pointer (some ⟨gG, 0, none⟩), .slice none 0 0, .int .i64 n, .pointer (some ⟨gS, 0, none⟩), .slice (some ⟨gN, 0, none⟩) (n + 1) cN, vp, .int .i64 k, .int .i64 i, uu a'.tmps 9, .pointer (some ⟨gG, 0, none⟩), .slice (some ⟨b1, o1, none⟩) (n + 1) p1, .int .i64 ((n : Int) + 1), .int .i64 n, .int .i64 n, .pointer (some ⟨gS, 0, none⟩), .pointer (some ⟨gG, 0, none⟩), .slice (some ⟨b1, o1, none⟩) (n + 1) p1, .slice (some ⟨gN, 0, none⟩) (n + 1) cN, .int .i64 n, .int .i64 k, uu a'.tmps 21, uu a'.tmps 22, uu a'.tmps 23, uu a'.tmps 24, uu a'.tmps 25, uu a'.tmps 26, uu a'.tmps 27, uu a'.tmps 28, uu a'.tmps 29, uu a'.tmps 30, uu a'.tmps 31, uu a'.tmps 32, uu a'.tmps 33, uu a'.tmps 34, uu a'.tmps 35, uu a'.tmps 36, uu a'.tmps 37, uu a'.tmps 38, uu a'.tmps 39, uu a'.tmps 40, uu a'.tmps 41, uu a'.tmps 42, uu a'.tmps 43, uu a'.tmps 44, uu a'.tmps 45, uu a'.tmps 46, uu a'.tmps 47, uu a'.tmps 48, uu a'.tmps 49, uu a'.tmps 50, uu a'.tmps 51, uu a'.tmps 52, uu a'.tmps 53, uu a'.tmps 54, uu a'.tmps 55, uu a'.tmps 56, uu a'.tmps 57, uu a'.tmps 58, uu a'.tmps 59, uu a'.tmps 60, uu a'.tmps 61, uu a'.tmps 62, uu a'.tmps 63, uu a'.tmps 64, uu a'.tmps 65, uu a'.tmps 66, uu a'.tmps 67, uu a'.tmps 68, uu a'.tmps 69, uu a'.tmps 70, uu a'.tmps 71, uu a'.tmps 72, uu a'.tmps 73, uu a'.tmps 74, uu a'.tmps 75, uu a'.tmps 76, uu a'.tmps 77, uu a'.tmps 78, uu a'.tmps 79, uu a'.tmps 80, uu a'.tmps 81, uu a'.tmps 82, uu a'.tmps 83, uu a'.tmps 84, uu a'.tmps 85, undef, undef, undef, undef], defers := [] } ∧ LR w w' (.slice (some ⟨b1, o1, none⟩) (n + 1) p1) va (.slice a2 m p2) g B BN gG n gS gO gL gD (.slice (some ⟨gN, 0, none⟩) (n + 1) cN) vo vp T P ∧ TI (egr g) T P.reverse ∧ i < n ∧ T.ord i = 0 ∧ (∀ p, P.reverse.head? = some p → T.nxt p < (egr g).st (p + 1) ∧ (egr g).to (T.nxt p) = i) ∧ (∀ v, v < k → 0 < T.ord v) ∧ (0 < T.ord k ∨ i = k) ∧ mm = 3 * unf (egr g) T + P.length) (fun mm a' w' => ∃ (T : TT) (vo vp : Value) (i : Nat) (P : List Nat), a' = { tmps := #[.agg #[.slice (some ⟨b1, o1, none⟩) (n + 1) p1, va, .slice a2 m p2], .pointer (some ⟨gG, 0, none⟩), .slice none 0 0, .int .i64 n, .pointer (some ⟨gS, 0, none⟩), .slice (some ⟨gN, 0, none⟩) (n + 1) cN, vp, .int .i64 k, .int .i64 i, uu a'.tmps 9, .pointer (some ⟨gG, 0, none⟩), .slice (some ⟨b1, o1, none⟩) (n + 1) p1, .int .i64 ((n : Int) + 1), .int .i64 n, .int .i64 n, .pointer (some ⟨gS, 0, none⟩), .pointer (some ⟨gG, 0, none⟩), .slice (some ⟨b1, o1, none⟩) (n + 1) p1, .slice (some ⟨gN, 0, none⟩) (n + 1) cN, .int .i64 n, .int .i64 k, uu a'.tmps 21, uu a'.tmps 22, uu a'.tmps 23, uu a'.tmps 24, uu a'.tmps 25, uu a'.tmps 26, uu a'.tmps 27, uu a'.tmps 28, uu a'.tmps 29, uu a'.tmps 30, uu a'.tmps 31, uu a'.tmps 32, uu a'.tmps 33, uu a'.tmps 34, uu a'.tmps 35, uu a'.tmps 36, uu a'.tmps 37, uu a'.tmps 38, uu a'.tmps 39, uu a'.tmps 40, uu a'.tmps 41, uu a'.tmps 42, uu a'.tmps 43, uu a'.tmps 44, uu a'.tmps 45, uu a'.tmps 46, uu a'.tmps 47, uu a'.tmps 48, uu a'.tmps 49, uu a'.tmps 50, uu a'.tmps 51, uu a'.tmps 52, uu a'.tmps 53, uu a'.tmps 54, uu a'.tmps 55, uu a'.tmps 56, uu a'.tmps 57, uu a'.tmps 58, uu a'.tmps 59, uu a'.tmps 60, uu a'.tmps 61, uu a'.tmps 62, uu a'.tmps 63, uu a'.tmps 64, uu a'.tmps 65, uu a'.tmps 66, uu a'.tmps 67, uu a'.tmps 68, uu a'.tmps 69, uu a'.tmps 70, uu a'.tmps 71, uu a'.tmps 72, uu a'.tmps 73, uu a'.tmps 74, uu a'.tmps 75, uu a'.tmps 76, uu a'.tmps 77, uu a'.tmps 78, uu a'.tmps 79, uu a'.tmps 80, uu a'.tmps 81, uu a'.tmps 82, uu a'.tmps 83, uu a'.tmps 84, uu a'.tmps 85, undef, undef, undef, undef], defers := [] } ∧ LR w w' (.slice (some ⟨b1, o1, none⟩) (n + 1) p1) va (.slice a2 m p2) g B BN gG n gS gO gL gD (.slice (some ⟨gN, 0, none⟩) (n + 1) cN) vo vp T P ∧ TI (egr g) T (i :: P.reverse) ∧ (∀ v, v < k + 1 → 0 < T.ord v) ∧ mm = 3 * unf (egr g) T + P.length + 2) rfl rfl ?p1 ?p0 ?first
      case first =>
        intro P0
        obtain ⟨q, hq⟩ : ∃ q, decide (0 < T.ord k) = q := ⟨_, rfl⟩
        have HIF := Lib.hid (isFound_any HS.out.s k hlt q hq)
        have HQ := Lib.hid hq
        clear hq
        --[[
        cases q with
        | true =>
          go_wp2_with (go_at_call 42; refine HIF.out.mono ?_; rintro e w' ⟨rfl, rfl⟩)
          rw [jumpTo_exit]
          go_wp2_with fail
          go_roundg (ga - 1)
          case measure => omega
          case rel => exact ⟨k + 1, T, vo, by go_num, by omega, by omega, HS.out, HT.out, fun v hv => by
            by_cases hvk : v = k
            · rw [hvk]; exact of_decide_eq_true HQ.out
            · exact HV.out v (by omega)⟩
        | false =>
          have HP0 := Lib.hid P0
          clear P0
          go_wp2_with (go_at_call 42; refine HIF.out.mono ?_; rintro e w' ⟨rfl, rfl⟩)
          go_step3
          rename_i hK
          refine hK _ _ (HP0.out (3 * unf (egr g) T + ([] : List Nat).length) _ _ ?_)
          clear hK
          have hz : T.ord k = 0 := by have := of_decide_eq_false HQ.out; omega
          exact ⟨T, vo, _, k, [], by kernel_rfl, HS.out, HT.out, hlt, hz, (fun p hp => by cases hp), HV.out, .inr rfl, rfl⟩
        --]]
      case p0 =>
        intro P1
        rintro mm a' w1 ⟨T1, vo1, vp, i, P, ha, hs, ht, hi, h0, hp, hv, hfk, hm⟩
        obtain ⟨tt, htt⟩ : ∃ tt, tt = a'.tmps := ⟨_, rfl⟩
        rw [← htt] at ha
        clear htt
        subst ha
        have HP1 := Lib.hid P1
        have HS1 := Lib.hid hs
        have hi' : i < (egr g).n := by show i < numN g; rw [← HN.out]; exact hi
        have HEN := Lib.hid (enter_any hs.s i hi HSZ.out.1 (by have := ht.cle; have e : (egr g).n = n := HN.out.symm; have := HSZ.out; omega) (by have := ht.opnLen; have e : (egr g).n = n := HN.out.symm; have := HSZ.out; omega))
        have HTE := Lib.hid (ht.enter HG.out.ee hi' h0 hp)
        have HU := Lib.hid (unf_ent (E := egr g) (T := T1) hi' h0)
        have HF : Hid (∀ v, v < k + 1 → 0 < (T1.ent i).ord v) := Lib.hid (fun v hvk => by
          show 0 < upd T1.ord i (T1.cnt + 1) v
          by_cases hvi : v = i
          · rw [hvi, upd_same]; exact Nat.succ_pos _
          · rw [upd_ne _ _ hvi]
            by_cases hk2 : v = k
            · rw [hk2]; rcases hfk with h | h
              · exact h
              · exact absurd (hk2.trans h.symm) hvi
            · exact hv v (by omega))
        have HM2 := Lib.hid hm
        clear P1 hs ht hi' h0 hp hv hfk hm HS HT HV hi
        --[[
        go_wp2_with (go_at_call 43; refine HEN.out.mono ?_; rintro e w' ⟨rfl, vo', hs', ho, hvv⟩)
        go_step3
        rename_i hK
        refine hK _ _ (HP1.out (3 * unf (egr g) (T1.ent i) + P.length + 2) mm _ _ ?_ ?_)
        · have := HU.out; have := HM2.out; omega
        · exact ⟨T1.ent i, vo', vp, i, P, by kernel_rfl, HS1.out.oth ho hs' rfl (fun x hx => by rcases hx with h | h | h | h; exact .inl (.inl h); exact .inl (.inr (.inl h)); exact .inl (.inr (.inr (.inl h))); exact .inr h) hvv, HTE.out, HF.out, rfl⟩
        --]]
      case p1 =>
        rintro mm a' w1 ⟨T1, vo1, vp, i, P, ha, hs, ht, hv, hm⟩
        obtain ⟨tt, htt⟩ : ∃ tt, tt = a'.tmps := ⟨_, rfl⟩
        rw [← htt] at ha
        clear htt
        subst ha
        have HS1 := Lib.hid hs
        have HT1 := Lib.hid ht
        have HV1 := Lib.hid hv
        have HM1 := Lib.hid hm
        have hin : i < n := by have := ht.opnLt (ht.stk i (List.mem_cons_self ..)); have e : (egr g).n = n := HN.out.symm; omega
        have HI := Lib.hid hin
        clear hs ht hv hm HS HT HV
        go_wp2_with fail
        go_loopg [6, 8, 9] (sN g (i + 1) + 1) (fun fuel s6 s8 s9 wr => ∃ T : TT, s6 = vp ∧ s8 = .int .i64 i ∧ LR w wr (.slice (some ⟨b1, o1, none⟩) (n + 1) p1) va (.slice a2 m p2) g B BN gG n gS gO gL gD (.slice (some ⟨gN, 0, none⟩) (n + 1) cN) vo1 vp T P ∧ TI (egr g) T (i :: P.reverse) ∧ (∀ v, v < k + 1 → 0 < T.ord v) ∧ unf (egr g) T = unf (egr g) T1 ∧ sN g (i + 1) - T.nxt i < fuel)
        case atStart => exact ⟨T1, rfl, rfl, HS1.out, HT1.out, HV1.out, rfl, by omega⟩
        case round =>
          clear HS1 HT1 HV1
          obtain ⟨T, rfl, rfl, hs, ht, hv, hu, hf⟩ := hrel
          have HS := Lib.hid hs
          have HT := Lib.hid ht
          have HV := Lib.hid hv
          have HU := Lib.hid hu
          have hx2 := ht.nx2 i (by show i < numN g; rw [← HN.out]; exact hin)
          have hst1 : g.st[i + 1]? = some (sN g (i + 1) : Int) := HG.out.st (i + 1) (by rw [← HN.out]; omega)
          have hle := HG.out.le (i + 1) (by rw [← HN.out]; omega)
          have hxc := cellAt (IntsD.below HD.out.s hs.b) hst1
          obtain ⟨xN', lN⟩ := hs.nAt hin
          have c0 := hs.G.cell 0
          have lG := hs.G.lt
          obtain ⟨x, hx⟩ : ∃ x, x = T.nxt i := ⟨_, rfl⟩
          have hx2' : x ≤ sN g (i + 1) := by rw [hx]; exact hx2.2
          rw [← hx] at xN' hf
          have HX := Lib.hid hx
          obtain ⟨y, hy⟩ : ∃ y, y = sN g (i + 1) := ⟨_, rfl⟩
          rw [← hy] at hxc hf hle hx2'
          have HY := Lib.hid hy
          have hxb := hxc.2
          have hxc := hxc.1
          have i1 : (0 : Int) ≤ (i : Int) := by omega
          have i2 : (i : Int) < ((n + 1 : Nat) : Int) := by omega
          have i3 : (0 : Int) ≤ (i : Int) + 1 := by omega
          have i4 : (i : Int) + 1 < ((n + 1 : Nat) : Int) := by omega
          have i5 : IntKind.i64.wrap ((i : Int) + 1) = (i : Int) + 1 := IntWalk.i64_in _ (by have := HSZ.out; omega)
          clear hs ht hv hu hx2 hst1 hx hy
          go_upto_region 11 with fail
          go_region
          have HS2 := Lib.hid HS.out.drew
          generalize World.drew wr = wd at HS2 ⊢
          clear c0 lG xN' hxc hxb lN i3 i4 HS
          by_cases hxy : x < y
          · have hxm : x < g.to.length := by omega
            obtain ⟨c, hc⟩ : ∃ c, c = (egr g).to x := ⟨_, rfl⟩
            have hta := HG.out.toAt x hxm
            have htx : g.to[x]? = some (c : Int) := by rw [hta.1, hc]; rfl
            have hcn : c < n := by rw [hc, HN.out]; exact hta.2
            obtain ⟨b2, o2, hb2, hj1, hj2⟩ := IntsD.at2 (IntsD.below HD.out.t HS2.out.b) x hxm
            clear hj1 hj2
            subst hb2
            have hxt := cellAt (IntsD.below HD.out.t HS2.out.b) htx
            obtain ⟨xN2, lN2⟩ := HS2.out.nAt hin
            rw [← HX.out] at xN2
            have c2 := HS2.out.G.cell 2
            have lG2 := HS2.out.G.lt
            have hxt2 := hxt.2
            have hxt := hxt.1
            have j1 : (0 : Int) ≤ (x : Int) := by omega
            have j2 : (x : Int) < (m : Int) := by have := HM.out; omega
            have HC := Lib.hid hc
            have HCN := Lib.hid hcn
            clear htx hta hc
            go_wp2_with fail
            go_region
            have HS3 := Lib.hid HS2.out.drew
            generalize World.drew wd = we at HS3 ⊢
            clear c2 lG2 xN2 hxt hxt2 lN2 HS2
            obtain ⟨q, hq⟩ : ∃ q, decide (0 < T.ord c) = q := ⟨_, rfl⟩
            have HIF := Lib.hid (isFound_any HS3.out.s c hcn q hq)
            have HQ := Lib.hid hq
            clear hq
            have htoc : Hid ((egr g).to (T.nxt i) = c) := Lib.hid (by rw [← HX.out, ← HC.out])
            have hnst : Hid (T.nxt i < (egr g).st (i + 1)) := Lib.hid (by show T.nxt i < sN g (i + 1); rw [← HX.out, ← HY.out]; exact hxy)
            cases q with
            | true =>
              --[[
              have hoc : 0 < T.ord c := of_decide_eq_true HQ.out
              have HTM := Lib.hid (HT.out.meet HG.out.ee hnst.out (by rw [htoc.out]; exact hoc))
              rw [htoc.out] at HTM
              have HME := Lib.hid (meet_any HS3.out.s i c HI.out HCN.out)
              have k5 : IntKind.i64.wrap ((x : Int) + 1) = ((x + 1 : Nat) : Int) := IntWalk.i64_in _ (by have := HSZ.out; have := HM.out; omega)
              clear hoc
              go_wp2_with (first
                | (go_at_call 42; refine HIF.out.mono ?_; rintro e w' ⟨rfl, rfl⟩)
                | (go_at_call 44; refine HME.out.mono ?_; rintro e w7 ⟨rfl, hsm, hom⟩; obtain ⟨gN', cN', eN, l7, x7, f7, hs7⟩ := HS3.out.next i c HI.out hsm hom; have eg : gN = gN' := slice_blk eN; subst eg; clear eN; have HS7 := Lib.hid hs7; rw [← HX.out] at x7 HS7; clear hs7 hsm hom))
              go_roundg (gk - 1)
              case measure => omega
              case rel =>
                refine ⟨T.met i c, rfl, rfl, HS7.out, HTM.out, HV.out, HU.out, ?_⟩
                show sN g (i + 1) - upd T.nxt i (T.nxt i + 1) i < gk - 1
                rw [upd_same, ← HX.out, ← HY.out]; omega
              --]]
            | false =>
              --[[
              have hz : T.ord c = 0 := by have := of_decide_eq_false HQ.out; omega
              obtain ⟨zo, zc, hvo, _⟩ := own_shape' HS3.out.pa
              subst hvo
              have HSA := Lib.hid (HS3.out.below (bal (Below.refl _ _) (.cells #[.int .i64 i] 3)))
              have KB8 := Lib.hid (Bk.new we 3 #[.int .i64 i])
              have HL8 : Hid (P.length ≤ 1000000) := Lib.hid (by have := HT.out.stkLen; have e : (egr g).n = n := HN.out.symm; have := HSZ.out; rw [List.length_cons, List.length_reverse] at *; omega)
              have HS8 : Hid (B ≤ (we.alloc (.cells #[.int .i64 i] 3)).heap.size) := Lib.hid HSA.out.s.bw
              have HZ8 : Hid (ints (P.map Int.ofNat) ++ [.int .i64 i] = ints ((P ++ [i]).map Int.ofNat)) := Lib.hid (by simp [ints])
              go_wp2_with (first
                | (go_at_call 42; refine HIF.out.mono ?_; rintro e w' ⟨rfl, rfl⟩)
                | (refine list_app1 rfl (.tmp 59) (.tmp 61) 22 3 (.int .i64 0) 8 rfl Try.underlying22 info_int rfl (by decide) B (.slice zo P.length zc) P.length _ rfl HSA.out.pa w'.heap.size (.int .i64 i) rfl KB8.out rfl HL8.out HS8.out _ HZ8.out ?_; intro g9 cp w9 O9 B9 G9 E9))
              go_step3
              refine Or.inl ⟨rfl, ?_⟩
              refine ⟨3 * unf (egr g) T + (P ++ [i]).length, ?_, T, vo1, _, c, P ++ [i], by kernel_rfl, HSA.out.push B9.out G9.out (by rw [List.length_append]; exact O9.out) (fun x hx => ?_), ?_, HCN.out, hz, ?_, fun v hv => HV.out v (by omega), .inl (HV.out k (by omega)), rfl⟩
              · have := HU.out; have := HM1.out; rw [List.length_append, List.length_singleton]; omega
              · have e : g9 = x := by simpa [Value.ownBlock] using hx
                subst e
                rcases E9.out with e | e
                · exact .inl e
                · exact .inr (by rw [e]; exact Nat.le_refl _)
              · rw [List.reverse_append]; exact HT.out
              · intro p hp
                rw [List.reverse_append] at hp
                have e : i = p := by simpa using hp
                subst e
                exact ⟨hnst.out, htoc.out⟩
              --]]
          · have hxe : x = y := by omega
            have hnx : T.nxt i = (egr g).st (i + 1) := by rw [← HX.out, hxe, HY.out]; rfl
            have hio := HT.out.stk i (List.mem_cons_self ..)
            obtain ⟨A, B', hop⟩ := List.append_of_mem hio
            have hnB : i ∉ B' := fun hm => by
              have hpw := HT.out.opn
              rw [hop, List.pairwise_append, List.pairwise_cons] at hpw
              have := hpw.2.1.1 i hm
              omega
            obtain ⟨T2, hT2⟩ : ∃ T2, (if T.low i < T.ord i then T else T.clr i A B') = T2 := ⟨_, rfl⟩
            have hti : TI (egr g) T2 P.reverse ∧ T2.ord = T.ord ∧ T2.nxt = T.nxt := by
              by_cases hlo : T.low i < T.ord i
              · rw [if_pos hlo] at hT2; subst hT2
                exact ⟨(HT.out.back hnx hlo).2, rfl, rfl⟩
              · rw [if_neg hlo] at hT2; subst hT2
                exact ⟨HT.out.root HG.out.ee hnx hlo hop, rfl, rfl⟩
            have HLV := Lib.hid (leave_any HS2.out.s i hin A B' hop hnB (fun x hx => by have := HT.out.opnLt hx; have e : (egr g).n = n := HN.out.symm; omega) ((HT.out.opm i).1 hio).2 (by have := HT.out.opnLen; have e : (egr g).n = n := HN.out.symm; have := HSZ.out; omega) T2 hT2)
            have HT2 := Lib.hid hti.1
            have HU2 : Hid (unf (egr g) T2 = unf (egr g) T) := Lib.hid (by unfold unf; rw [hti.2.1])
            have HV2 : Hid (∀ v, v < k + 1 → 0 < T2.ord v) := Lib.hid (by rw [hti.2.1]; exact HV.out)
            have HNX := Lib.hid hti.2.2
            obtain ⟨zo, zc, hvo, hj⟩ := own_shape' HS2.out.pa
            clear hj
            subst hvo
            clear hti hT2 hnB hop hio hnx
            have hP6 : Hid (P.length ≤ 1000) := Lib.hid (by have := HT.out.stkLen; have e : (egr g).n = n := HN.out.symm; have := HSZ.out; rw [List.length_cons, List.length_reverse] at *; omega)
            rcases Nat.eq_zero_or_pos P.length with hP | hP
            · have hP0 : P = [] := List.eq_nil_of_length_eq_zero hP
              subst hP0
              go_wp2_with (go_at_call 45; refine HLV.out.mono ?_; rintro e w7 ⟨rfl, vo7, hs7, ho7, hv7⟩; have HS7 := Lib.hid (HS2.out.oth ho7 hs7 HNX.out (fun x hx => by rcases hx with h | h; exact .inl (.inl h); exact .inl (.inr (.inr (.inr h)))) (fun x hx => .inl (by rw [← hv7]; exact hx))); clear hs7 ho7 hv7)
              rw [jumpTo_normal]
              go_wp2_with fail
              go_roundg (ga - 1)
              case measure => omega
              case rel => exact ⟨k + 1, T2, vo7, by go_num, by omega, by omega, HS7.out, HT2.out, HV2.out⟩
            · obtain ⟨P0, p, hPe⟩ : ∃ P0 p, P = P0 ++ [p] := ⟨P.dropLast, P.getLast (List.ne_nil_of_length_pos hP), (List.dropLast_concat_getLast _).symm⟩
              subst hPe
              obtain ⟨M, hM⟩ : ∃ M, M = P0.length := ⟨_, rfl⟩
              have how := HS2.out.pa
              rw [List.map_append] at how
              have how2 := own_pop (S := P0.map Int.ofNat) (x := Int.ofNat p) (k := M) (by rw [List.length_append, List.length_map]; rw [List.length_append] at how; exact how) (by rw [List.length_map, hM])
              obtain ⟨gP, rfl, hm1, hcap, xg, lg, how3⟩ := how2
              have hlen : (P0 ++ [p]).length = M + 1 := by rw [List.length_append]; exact hm1
              have hMl : M ≤ 1000 := by have := hP6.out; rw [hlen] at this; omega
              rw [hlen] at HS2 ⊢
              obtain ⟨M1, hM1⟩ : ∃ M1, M1 = M + 1 := ⟨_, rfl⟩
              rw [← hM1] at HS2 ⊢
              have hpo : 0 < M1 := by omega
              have hpo' : ((0 : Int) < (M1 : Int)) := by omega
              have i6 : (0 : Int) ≤ (M : Int) := by omega
              have i7 : (M : Int) < ((M + 1 : Nat) : Int) := by omega
              have hw2 : M ≤ zc := Nat.le_of_succ_le hcap
              have i9 : IntKind.i64.wrap ((M1 : Int) - 1) = (M : Int) := by rw [show (M1 : Int) - 1 = (M : Int) by omega]; exact IntWalk.i64_in _ (by omega)
              have i10 : (M : Int) ≤ (zc : Int) := by omega
              have hw0 : M < M1 := by omega
              have hw1 : M ≤ M1 := by omega
              have hw2 : M ≤ zc := by omega
              have HXG := Lib.hid xg
              have HLG := Lib.hid lg
              have HOW := Lib.hid how3
              have HGP := Lib.hid (own_blk HS2.out.pa gP rfl)
              have HAP := Lib.hid (HS2.out.ap gP rfl)
              have HMP := Lib.hid hM
              have HLN := Lib.hid hlen
              have HM1' := Lib.hid hM1
              clear how how3 hm1 hcap xg lg hlen hM hP hM1
              go_upto_region 19 with (go_at_call 45; refine HLV.out.mono ?_; rintro e w7 ⟨rfl, vo7, hs7, ho7, hv7⟩; have HS7 := Lib.hid (HS2.out.oth ho7 hs7 HNX.out (fun x hx => by rcases hx with h | h; exact .inl (.inl h); exact .inl (.inr (.inr (.inr h)))) (fun x hx => .inl (by rw [← hv7]; exact hx))); have HO7 := Lib.hid ho7; clear hs7 ho7 hv7)
              have hnF : ¬ (gP = gS ∨ gP = gD) := by
                have := HGP.out.1
                have := HS2.out.s.bS
                have := HS2.out.s.bD
                rintro (e | e) <;> omega
              have xg : w7.cell? ⟨gP, M, none⟩ = some (.int .i64 (p : Int)) := by
                have e := HO7.out.k gP HLG.out hnF
                have h := HXG.out
                unfold World.cell? at h ⊢
                rw [e]
                exact h
              have lg : gP < w7.heap.size := Nat.lt_of_lt_of_le HLG.out HO7.out.b.size
              have HOW7 := Lib.hid (HO7.out.own HOW.out fun x hx e => hnF ((show gP = x from by simpa [Value.ownBlock] using hx) ▸ e))
              clear hnF
              go_wp2_with fail
              go_step3
              refine Or.inr ⟨rfl, ?_⟩
              refine ⟨3 * unf (egr g) T2 + P0.length + 2, ?_, T2, vo7, .slice (some ⟨gP, 0, none⟩) M zc, p, P0, by kernel_rfl, HS7.out.pop (by have h := HOW7.out; rw [List.length_map] at h; exact h) rfl, ?_, HV2.out, rfl⟩
              · have := HU2.out; have := HU.out; have := HM1.out; have := HLN.out; have := HMP.out; omega
              · have h := HT2.out; rw [List.reverse_append] at h; exact h
    · obtain rfl : k = n := by omega
      have hfound : ∀ v, v < (egr g).n → 0 < T.ord v := fun v hv => HV.out v (by have e : (egr g).n = k := HN.out.symm; omega)
      have hL : ∀ v, v < k → ∃ r : Nat, T.lead v = r ∧ r < k := fun v hv => by
        have e : (egr g).n = k := HN.out.symm
        obtain ⟨r, h1, _, h3⟩ := HT.out.done hfound v (by omega)
        exact ⟨r, h1, by omega⟩
      have hres : (tab k T.lead) = tab k fun v => (((T.lead v).toNat : Nat) : Int) := tab_congr fun v hv => by
        obtain ⟨r, h1, _⟩ := hL v hv
        rw [h1]; rfl
      have hsame : ∀ i j, i < k → j < k → ((T.lead i).toNat = (T.lead j).toNat ↔ Mut (egr g).A i j) := fun i j hi hj => by
        have e : (egr g).n = k := HN.out.symm
        obtain ⟨r, h1, _⟩ := hL i hi
        obtain ⟨s, h2, _⟩ := hL j hj
        rw [← show T.lead i = T.lead j ↔ Mut (egr g).A i j from HT.out.same hfound i j (by omega) (by omega), h1, h2]
        omega
      have hlt2 : ∀ i, i < k → (T.lead i).toNat < k := fun i hi => by
        obtain ⟨r, h1, h2⟩ := hL i hi
        rw [h1]; exact h2
      have HRS := Lib.hid (And.intro (show BkI wr gD (tab k fun v => (((T.lead v).toNat : Nat) : Int)) from hres ▸ HS.out.s.d) (And.intro HS.out.gw.2.2.2.2.1 (And.intro HS.out.b (And.intro hlt2 hsame))))
      have c3 := HS.out.s.r.cell 3
      have lS := HS.out.s.r.lt
      clear hfound hL hres hsame hlt2 hlt hf hk HT HV HS
      go_wp2_with fail
      go_ret
      exact ⟨gD, _, rfl, HRS.out.1, HRS.out.2.1, HRS.out.2.2.1, HRS.out.2.2.2.1, HRS.out.2.2.2.2⟩

end Go.Proofs.Ytkdpimifojjhaaa
