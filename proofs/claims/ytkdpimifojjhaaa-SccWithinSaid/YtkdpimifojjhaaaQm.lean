/- Layer 17, the code: Groups, walked. -/
import Derived.Test.YtkdpimifojjhaaaQl
namespace Go.Proofs.Ytkdpimifojjhaaa
set_option linter.unusedSimpArgs false
set_option linter.unusedVariables false
open Go.RowKit

theorem GG.base {w : World} {B B' : Nat} {vg : Value} {zs : List (List Int × Value)} (h : GG w B vg zs) (hb : B' ≤ B) : GG w B' vg zs := ⟨own_base h.o hb, fun i a hi => own_base (h.r i a hi) hb, h.ap⟩
theorem info_row : (Try.prog.info? 22).map (fun i => (i.zero, i.size, i.bytes)) = some (some (.slice none 0 0), 1, 24) := by kernel_rfl
theorem AllD.at1 {w : World} {v : Value} {zs : List (List Int × Value)} (h : AllD w v zs) (k : Nat) (hk : k < zs.length) : ∃ b off ad cap, v = .slice (some ⟨b, off, none⟩) zs.length cap ∧ ad = zs[k].2 ∧ b < w.heap.size ∧ w.cell? ⟨b, off + k, none⟩ = some ad ∧ IntsD w ad zs[k].1 := by
  obtain ⟨ad, cap, e, h1, h2, hc⟩ := h
  obtain ⟨b, off, e2, hl, hR⟩ := hc k hk
  rw [Nat.mul_one] at hR
  exact ⟨b, off, zs[k].2, cap, by rw [e, e2], rfl, hl, hR.1, hR.2⟩
set_option maxRecDepth 100000 in
set_option maxHeartbeats 8000000 in
theorem groups_any (g : Gr) (vs va vt : Value) (w : World) (hd : GrD w vs va vt g) (hn : g.st.length ≤ 1001 ∧ g.to.length ≤ 1000 ∧ g.ag.length ≤ 1000) :
    Calls Try.prog 14 #[.agg #[vs, va, vt]] w fun e w' => ∃ v zs, e = .returned v ∧ GG w' w.heap.size v zs ∧ zs.map (·.1) = grpG g ∧ Below w.heap.size w w' := by
  have HPT := Lib.hid fun (W : World) (h : Below w.heap.size w W) => parts_any g vs va vt W (hd.below h) hn
  have BX := Lib.hid (bal (Below.refl w.heap.size w) (.cells #[vs, va, vt] 24))
  have KX := Lib.hid (Bk.new w 24 #[vs, va, vt])
  have HNN : Hid (numN g ≤ 1000) := Lib.hid (by unfold numN; omega)
  obtain ⟨n, hN⟩ : ∃ n, n = (parG g).length := ⟨_, rfl⟩
  have HN := Lib.hid hN
  have HLE : Hid (n ≤ 1000) := Lib.hid (by rw [hN]; unfold parG; split; rw [tab_len]; exact HNN.out; exact Nat.zero_le _)
  have HPA : Hid (∀ k, k < n → (parG g)[k]? = some ((pnG g k : Nat) : Int) ∧ n = numN g) := Lib.hid (by
    intro k hk
    rw [hN] at hk
    unfold parG at hk hN ⊢
    by_cases h : rightG g = true
    · rw [if_pos h] at hk hN ⊢
      rw [tab_len] at hk hN
      exact ⟨tab_at _ _ _ hk, hN⟩
    · rw [if_neg h] at hk
      exact absurd hk (Nat.not_lt_zero _))
  have HGR : Hid (grp (pnG g) (nx (pnG g) n) n = grpG g) := Lib.hid (by
    unfold grpG
    by_cases h : rightG g = true
    · rw [if_pos h]
      have : n = numN g := by rw [hN]; unfold parG; rw [if_pos h, tab_len]
      rw [this]
    · rw [if_neg h]
      have : n = 0 := by rw [hN]; unfold parG; rw [if_neg h]; rfl
      rw [this]; rfl)
  clear hd hn hN
  have hcan := pn_canon (A := (egr g).A) n
  have HCAN : Hid (Canon (pnG g) n) := Lib.hid hcan
  clear hcan
  go_enter Try.func14, Try.ntmps14
  go_wp2_with fail
  generalize (w.alloc _) = w0 at BX KX ⊢
  refine Calls.mono (HPT.out w0 BX.out) ?_
  rintro e w1 ⟨v1, rfl, hp, b1⟩
  have BY := Lib.hid (BX.out.trans (b1.mono BX.out.size))
  obtain ⟨ad, cap, rfl⟩ := hp.shape0
  rw [← HN.out] at hp ⊢
  have HP := Lib.hid hp
  clear hp b1 HPT BX KX
  go_wp2_with fail
  go_loopg [3, 4, 5, 9] n (fun fuel s3 s4 s5 s9 wr => ∃ (k : Nat) (zs : List (List Int × Value)), s9 = .int .i64 k ∧ k ≤ n ∧ n - k ≤ fuel ∧ GG wr w1.heap.size s3 zs ∧ zs.map (·.1) = grp (pnG g) (nx (pnG g) k) k ∧ Below w1.heap.size w1 wr)
  case atStart => exact ⟨0, [], rfl, Nat.zero_le _, Nat.le_refl _, GG.nil _ _, rfl, Below.refl _ _⟩
  case round =>
    obtain ⟨k, zs, rfl, hk, hf, hg, hz, hb⟩ := hrel
    have HG := Lib.hid hg
    have HZ := Lib.hid hz
    have hp := IntsD.below HP.out hb
    have HB := Lib.hid hb
    by_cases hlt : k < n
    · obtain ⟨pk, hpk⟩ : ∃ pk, pk = pnG g k := ⟨_, rfl⟩
      obtain ⟨M, hM⟩ : ∃ M, M = zs.length := ⟨_, rfl⟩
      have hMn : M = nx (pnG g) k := by rw [hM, ← List.length_map (f := fun x : List Int × Value => x.1), hz]; exact tab_len _ _
      have hM6 : M ≤ 1000 := by rw [hMn]; have := nx_le (pnG g) k; have := HLE.out; omega
      have hpM : pk ≤ M := by rw [hMn, hpk]; exact HCAN.out k hlt
      have hk1 : k < (parG g).length := by rw [← HN.out]; exact hlt
      obtain ⟨b1, o1, rfl, lb, xk⟩ := IntsD.at2 hp k hk1
      have hxk : (parG g)[k] = (pk : Int) := by
        have h := (HPA.out k hlt).1
        rw [List.getElem?_eq_getElem hk1] at h
        injection h with h
        rw [h, hpk]
      rw [hxk] at xk
      obtain ⟨ag, cg, hsg, hj⟩ := own_shape' hg.o
      clear hj
      subst hsg
      have i1 : (0 : Int) ≤ (k : Int) := by omega
      have i2 : (k : Int) < (n : Int) := by omega
      have i5 : IntKind.i64.wrap ((k : Int) + 1) = (k : Int) + 1 := IntWalk.i64_in _ (by have := HLE.out; omega)
      have HM := Lib.hid hM
      have HMN := Lib.hid hMn
      have HPK := Lib.hid hpk
      have HPM := Lib.hid hpM
      rw [← hM] at HG ⊢
      clear hg hz hp hb hM hMn hpk hk1 hxk
      go_upto_if 17 with fail
      go_cut [3] (fun s3 wx => ∃ (z2 : List (List Int × Value)) (a : List Int × Value) (M2 : Nat), GG wx w1.heap.size s3 z2 ∧ z2[pk]? = some a ∧ M2 = z2.length ∧ M2 ≤ 1001 ∧ a.1.length ≤ 1000 ∧ (∀ v', (z2.set pk (a.1 ++ [(k : Int)], v')).map (·.1) = grp (pnG g) (nx (pnG g) (k + 1)) (k + 1)) ∧ Below w1.heap.size w1 wx)
      case first =>
        by_cases hpe : pk = M
        · subst hpe
          have HGA := Lib.hid (HG.out.below (bal (Below.refl wr.heap.size wr) (.cells #[.slice none 0 0] 22)))
          have KB8 := Lib.hid (Bk.new wr 22 #[.slice none 0 0])
          have HL8 : Hid (pk ≤ 1000000) := Lib.hid (by omega)
          have HS8 : Hid (w1.heap.size ≤ (wr.alloc (.cells #[.slice none 0 0] 22)).heap.size) := Lib.hid (by rw [alloc_size]; have := HB.out.size; omega)
          have OW8 : Hid ((wr.alloc (.cells #[.slice none 0 0] 22)).ownsRow w1.heap.size 22 1 (.slice ag pk cg) pk (zs.map (·.2))) := Lib.hid (by have h := HGA.out.o; rw [← HM.out] at h; exact h)
          have HGR2 := Lib.hid (grp_new (pnG g) n k HCAN.out hlt (by rw [← HPK.out, ← HMN.out]))
          clear xk lb i1 i2
          go_wp2_with (refine list_app1 rfl (.tmp 18) (.tmp 19) 30 22 (.slice none 0 0) 24 rfl Try.underlying30 info_row rfl (by decide) w1.heap.size (.slice ag pk cg) pk _ rfl OW8.out wr.heap.size (.slice none 0 0) rfl KB8.out rfl HL8.out HS8.out _ rfl ?_; intro g9 cp w9 O9 B9 G9 E9)
          go_meet
          refine ⟨zs ++ [([], .slice none 0 0)], ([], .slice none 0 0), pk + 1, HGA.out.more G9.out (by rw [← HM.out]; exact O9.out), ?_, by rw [List.length_append, ← HM.out]; rfl, by omega, Nat.zero_le _, fun v' => ?_, HB.out.trans (((Below.refl w1.heap.size wr).alloc HB.out.size _).trans B9.out)⟩
          · rw [HM.out, List.getElem?_append_right (Nat.le_refl _), Nat.sub_self]; rfl
          · rw [HGR2.out, HM.out, List.set_append_right _ _ (Nat.le_refl _), Nat.sub_self, List.map_append, HZ.out]; rfl
        · have hlt2 : pk < zs.length := by rw [← HM.out]; omega
          have hne : ¬ ((pk : Int) = (M : Int)) := by omega
          obtain ⟨a0, ha0⟩ : ∃ a0, zs[pk]? = some a0 := ⟨_, List.getElem?_eq_getElem hlt2⟩
          have hga : (grp (pnG g) (nx (pnG g) k) k)[pk]? = some a0.1 := by rw [← HZ.out, List.getElem?_map, ha0]; rfl
          have HGR2 := Lib.hid (grp_old (pnG g) n k hlt (by rw [← HPK.out, ← HMN.out]; exact hpe) a0.1 (by rw [← HPK.out]; exact hga))
          have HAL : Hid (a0.1.length ≤ 1000) := Lib.hid (by
            unfold grp at hga
            rw [tab_at _ _ _ (by rw [← HMN.out, HM.out]; exact hlt2)] at hga
            injection hga with hga
            rw [← hga, List.length_map]
            have := List.length_filter_le (fun j => pnG g j == pk) (List.range k)
            rw [List.length_range] at this
            have := HLE.out
            omega)
          have HA0 := Lib.hid ha0
          clear hga hlt2 ha0
          go_wp2_with fail
          go_meet
          exact ⟨zs, a0, M, HG.out, HA0.out, HM.out, by omega, HAL.out, fun v' => by rw [HGR2.out, ← HPK.out, List.map_set, HZ.out], HB.out⟩
      case rest =>
        obtain ⟨z2, ⟨al, av⟩, M2, hg, ha, hm2, hm6, hal, hst, hb⟩ := hcut
        obtain ⟨gg, cc, es, hBg, lg, xg, _, _⟩ := own_put hg.o (List.getElem?_eq_some_iff.1 ha).1
        subst es
        have hpl := (List.getElem?_eq_some_iff.1 ha).1
        rw [← hm2] at hpl ⊢
        have xg' : wc.cell? ⟨gg, pk, none⟩ = some av := by rw [xg, List.getElem?_map, ha]; rfl
        have HGA := Lib.hid (hg.below (bal (Below.refl wc.heap.size wc) (.cells #[.int .i64 k] 3)))
        have KB8 := Lib.hid (Bk.new wc 3 #[.int .i64 k])
        have HL8 : Hid (al.length ≤ 1000000) := Lib.hid (by have h : al.length ≤ 1000 := hal; omega)
        have HS8 : Hid (w1.heap.size ≤ (wc.alloc (.cells #[.int .i64 k] 3)).heap.size) := Lib.hid (by rw [alloc_size]; have := hb.size; omega)
        have HZ8 : Hid (ints al ++ [.int .i64 k] = ints (al ++ [(k : Int)])) := Lib.hid (by simp [ints])
        have HA := Lib.hid ha
        have HST := Lib.hid hst
        have HB2 := Lib.hid hb
        have HM2 := Lib.hid hm2
        have j1 : (0 : Int) ≤ (pk : Int) := by omega
        have j2 : (pk : Int) < (M2 : Int) := by omega
        clear hg ha hm2 hal hst hb xg xk lb hpM hpl
        go_wp2_with (refine list_app1 rfl (.tmp 26) (.tmp 28) 22 3 (.int .i64 0) 8 rfl Try.underlying22 info_int rfl (by decide) w1.heap.size av al.length _ rfl (HGA.out.r pk (al, av) HA.out) wc.heap.size (.int .i64 k) rfl KB8.out rfl HL8.out HS8.out _ HZ8.out ?_; intro g9 cp w9 O9 B9 G9 E9; obtain ⟨g', cap', e', hB', lg', x9, f9, hg9⟩ := HGA.out.grow (v' := .slice (some ⟨g9, 0, none⟩) (al.length + 1) cp) HA.out G9.out (l := al ++ [(k : Int)]) (by rw [List.length_append]; exact O9.out) (fun x hx => by have e : g9 = x := (by simpa [Value.ownBlock] using hx); subst e; rcases E9.out with e | e; exact .inl e; exact .inr (by rw [e]; exact Nat.le_refl _)); rw [← HM2.out] at e'; have eg : gg = g' := slice_blk e'; subst eg; have HG9 := Lib.hid hg9; have HB9 := Lib.hid ((HB2.out.trans (((Below.refl w1.heap.size wc).alloc HB2.out.size _).trans B9.out)).setCell (p := ⟨gg, pk, none⟩) hB' (.slice (some ⟨g9, 0, none⟩) (al.length + 1) cp)); clear hg9 e' hB' O9 B9 G9 E9 xg' lg)
        rw [← HM2.out] at HG9
        go_roundg (gk - 1)
        case measure => omega
        case rel => exact ⟨k + 1, _, by go_num, by omega, by omega, HG9.out, HST.out _, HB9.out⟩
    · obtain rfl : k = n := by omega
      clear hlt hg hz hp hb
      go_wp2_with fail
      go_ret
      exact ⟨_, zs, rfl, HG.out.base BY.out.size, by rw [HZ.out, HGR.out], BY.out.trans (HB.out.mono BY.out.size)⟩

end Go.Proofs.Ytkdpimifojjhaaa
