/- Layer 14, the reference: Reach, whose row is new. Layer 17, the reference: Parts. -/
import Derived.Test.YtkdpimifojjhaaaPh
import Derived.Test.YtkdpimifojjhaaaRe
import Derived.Test.YtkdpimifojjhaaaQo
namespace Go.Proofs.Ytkdpimifojjhaaa
set_option linter.unusedSimpArgs false
set_option linter.unusedVariables false
open Go.RowKit

set_option maxRecDepth 100000 in
set_option maxHeartbeats 8000000 in
theorem rreach_own (g : Gr) (F : List Int) (vs va vt vf : Value) (w : World) (hd : GrD w vs va vt g) (hfd : IntsD w vf F) (hn : g.st.length ≤ 1001 ∧ g.to.length ≤ 1000) (hF : F.length ≤ 1000) :
    Calls Try.prog 23 #[.agg #[vs, va, vt], vf] w fun e w' => ∃ v r, e = .returned v ∧ TrusD w' v r ∧ ReachZ g F r ∧ Below w.heap.size w w' ∧ (rightG g = true → w'.ownsRow w.heap.size 4 1 v r.length (truths r)) := by
  obtain ⟨q, hq⟩ : ∃ q, rightG g = q := ⟨_, rfl⟩
  have HRI := Lib.hid fun (W : World) (h : Below w.heap.size w W) => rright14_any g vs va vt W (hd.below h) hn q hq
  have HAL := Lib.hid fun (W : World) (h : Below w.heap.size w W) => rall_any g vs va vt W (hd.below h) hn
  obtain ⟨N, hN⟩ : ∃ b, (if rightG g = true then numN g else 0) = b := ⟨_, rfl⟩
  have HND := Lib.hid fun (W : World) (h : Below w.heap.size w W) => rnodes_any g vs va vt W (hd.below h) hn N hN
  have HQ := Lib.hid hq
  have HFD := Lib.hid hfd
  have HNQ := Lib.hid hN
  have HSZ : Hid (g.st.length ≤ 1001 ∧ g.to.length ≤ 1000 ∧ F.length ≤ 1000) := Lib.hid ⟨hn.1, hn.2, hF⟩
  obtain ⟨z1, n1, y1, z2, n2, y2, z3, n3, y3, rfl, rfl, rfl⟩ := hd.sh
  obtain ⟨fa, fc, rfl⟩ := hfd.shape0
  obtain ⟨nf, hnf⟩ : ∃ x, x = F.length := ⟨_, rfl⟩
  rw [← hnf] at HFD ⊢
  have HNF := Lib.hid hnf
  clear hd hn hq hfd hF hnf hN
  have BX := Lib.hid (bal (Below.refl w.heap.size w) (.cells #[.slice z1 n1 y1, .slice z2 n2 y2, .slice z3 n3 y3] 24))
  have KX := Lib.hid (Bk.new w 24 #[.slice z1 n1 y1, .slice z2 n2 y2, .slice z3 n3 y3])
  go_enter Try.func23, Try.ntmps23
  go_wp2_with fail
  generalize (w.alloc _) = w0 at BX KX ⊢
  refine (HND.out _ BX.out).mono ?_
  rintro e w1 ⟨rfl, b1⟩
  replace BX := Lib.hid (BX.out.trans (b1.mono BX.out.size))
  replace KX := Lib.hid (KX.out.below b1)
  clear b1 HND
  have c0 := KX.out.cell 0
  have c1 := KX.out.cell 1
  have c2 := KX.out.cell 2
  have lw := KX.out.lt
  go_wp2_with fail
  refine (HRI.out _ BX.out).mono ?_
  rintro e w2 ⟨rfl, b2⟩
  replace BX := Lib.hid (BX.out.trans (b2.mono BX.out.size))
  replace KX := Lib.hid (KX.out.below b2)
  clear b2 HRI c0 c1 c2 lw
  cases q with
  | false =>
    go_wp2_with fail
    go_ret
    exact ⟨_, [], rfl, SlD.nil, ⟨fun h => (by rw [HQ.out] at h; cases h), fun _ => rfl⟩, BX.out, fun h => (by rw [HQ.out] at h; cases h)⟩
  | true =>
    have HG := Lib.hid (right_RG g HQ.out)
    have HNU : Hid (N = numN g ∧ N ≤ 1000) := Lib.hid (by have h := HNQ.out; rw [if_pos HQ.out] at h; refine ⟨h.symm, ?_⟩; rw [← h]; have := HSZ.out; unfold numN; omega)
    have hn6 : N ≤ 1000000 := by have := HNU.out; omega
    go_wp2_with (refine make_one rfl (.tmp 16) (.tmp 16) 32 4 (.bool false) 1 Try.underlying32 info_bool rfl (by decide) rfl N rfl rfl hn6 ?_)
    intro w3 Z HZ hz b3
    have HT0 := Lib.hid (bkT_new HZ.out hz.out)
    obtain ⟨gm, hgm⟩ : ∃ x, x = w2.heap.size := ⟨_, rfl⟩
    rw [← hgm] at HT0 ⊢
    have HGM : Hid (gm = w2.heap.size) := Lib.hid hgm
    have B3 := Lib.hid b3
    have HS0 : Hid (Snd g F (F.take 0) (List.replicate N false)) := Lib.hid (by rw [HNU.out.1, List.take_zero]; exact Snd.start g F)
    clear hz HZ b3 hgm hn6
    go_wp2_with fail
    go_loopg [7] nf (fun fuel i' wr => ∃ (k : Nat) (R : List Bool), i' = .int .i64 k ∧ k ≤ nf ∧ nf - k ≤ fuel ∧ BkT wr gm R ∧ Snd g F (F.take k) R ∧ Below w2.heap.size w2 wr)
    case atStart => exact ⟨0, _, rfl, Nat.zero_le _, Nat.le_refl _, HT0.out, HS0.out, B3.out⟩
    case round =>
      clear HT0 HS0 B3
      obtain ⟨k, R, rfl, hk, hf, ht, hs, hb⟩ := hrel
      have HT := Lib.hid ht
      have HS := Lib.hid hs
      have HB := Lib.hid hb
      have i5 : IntKind.i64.wrap ((k : Int) + 1) = (k : Int) + 1 := IntWalk.i64_in _ (by have := HSZ.out; have := HNF.out; omega)
      clear ht hs hb
      by_cases hlt : k < nf
      · have hk1 : k < F.length := by rw [← HNF.out]; exact hlt
        have HMK := Lib.hid (fun h0 h1 => HS.out.mark hk1 h0 h1)
        have HSK := Lib.hid (fun h => HS.out.skip hk1 h)
        obtain ⟨b, off, rfl, hbl, x0⟩ := IntsD.at2 (IntsD.below HFD.out (BX.out.trans (HB.out.mono BX.out.size))) k hk1
        generalize F[k] = x at x0 HMK HSK
        have i1 : (0 : Int) ≤ (k : Int) := by omega
        have i2 : (k : Int) < (nf : Int) := by omega
        clear hk1
        by_cases h0 : 0 ≤ x
        · by_cases h1 : x < (N : Int)
          · obtain ⟨j, rfl⟩ : ∃ j : Nat, x = (j : Int) := ⟨x.toNat, by omega⟩
            have HSN := Lib.hid (HMK.out h0 (by rw [← HNU.out.1]; exact h1))
            rw [Int.toNat_natCast] at HSN
            have hjr : j < R.length := by rw [HS.out.len, ← HNU.out.1]; omega
            have y0 := HT.out.at (List.getElem?_eq_getElem hjr)
            have f0 := HT.out.fz j
            have l0 := HT.out.lt
            have HTN := Lib.hid (HT.out.set j true)
            have HBN := Lib.hid (HB.out.setCell (p := ⟨gm, j, none⟩) (Nat.le_of_eq HGM.out.symm) (.bool true))
            generalize R[j] = rj at y0
            clear hjr
            go_wp2_with fail
            go_roundg (gk - 1)
            case measure => omega
            case rel => exact ⟨k + 1, _, by go_num, by omega, by omega, HTN.out, HSN.out, HBN.out⟩
          · have HSN := Lib.hid (HSK.out (fun h => by have := HNU.out; omega))
            go_wp2_with fail
            go_roundg (gk - 1)
            case measure => omega
            case rel => exact ⟨k + 1, _, by go_num, by omega, by omega, HT.out, HSN.out, HB.out⟩
        · have HSN := Lib.hid (HSK.out (fun h => h0 h.1))
          go_wp2_with fail
          go_roundg (gk - 1)
          case measure => omega
          case rel => exact ⟨k + 1, _, by go_num, by omega, by omega, HT.out, HSN.out, HB.out⟩
      · obtain rfl : k = nf := by omega
        have HS2 : Hid (Snd g F F R) := Lib.hid (by have h := HS.out; rw [HNF.out, List.take_length] at h; exact h)
        have BW := Lib.hid (BX.out.trans (HB.out.mono BX.out.size))
        have KW := Lib.hid (KX.out.below HB.out)
        have c0 := KW.out.cell 0
        have c1 := KW.out.cell 1
        have c2 := KW.out.cell 2
        have lw := KW.out.lt
        clear hlt hk hf i5 HS
        go_wp2_with fail
        refine (HAL.out _ BW.out).mono ?_
        rintro e w4 ⟨v, rfl, ho, b4⟩
        rw [show allZ g = allL g from if_pos HQ.out] at ho
        obtain ⟨la, lc, rfl, _⟩ := own_shape' ho
        have HE := Lib.hid (edgsD_of_own ho)
        have HT4 := Lib.hid (Bk.below HT.out b4)
        have HB4 := Lib.hid (HB.out.trans (b4.mono HB.out.size))
        have HLB : Hid (∀ W, Oth (fun x => x = gm) w4 W → EdgsD W (.slice la (allL g).length lc) (allL g)) := Lib.hid (fun W h => by
          exact edgsD_of_own (h.own ho (fun x hx h1 => by have h2 := (ho.lt x hx).1; have h3 := HT.out.lt; omega)))
        obtain ⟨M, hM⟩ : ∃ M, M = (allL g).length := ⟨_, rfl⟩
        rw [← hM] at HE HLB ⊢
        have HM := Lib.hid hM
        have HMS : Hid (M ≤ 1000) := Lib.hid (by rw [hM, HG.out.allLen]; have := HSZ.out; omega)
        clear ho b4 c0 c1 c2 lw hM
        have HCF : Hid (cf R ≤ N) := Lib.hid (by have h1 := cf_le R; rw [HS2.out.len, ← HNU.out.1] at h1; exact h1)
        go_wp2_with fail
        go_loopg [9, 10] (N + 2) (fun fuel s9 s10 wr => ∃ (R : List Bool) (mb : Bool), s9 = .bool mb ∧ (mb = true → cf R + 2 ≤ fuel) ∧ (mb = false → ∀ e ∈ allL g, R[e.1.toNat]? = some true → R[e.2.2.toNat]? = some true) ∧ BkT wr gm R ∧ Snd g F F R ∧ Oth (fun x => x = gm) w4 wr ∧ 1 ≤ fuel + 1)
        case atStart => exact ⟨R, true, rfl, (fun _ => by have := HCF.out; omega), (fun h => by cases h), HT4.out, HS2.out, Oth.refl _ _, by omega⟩
        case round =>
          clear HT4 HS2 HT HB HCF R
          obtain ⟨R, mb, rfl, hm1, hm2, ht, hs, ho, _⟩ := hrel
          have HT := Lib.hid ht
          have HS := Lib.hid hs
          have HO := Lib.hid ho
          clear ht hs ho
          cases mb with
          | false =>
            have HC := Lib.hid (hm2 rfl)
            have HRL : Hid (R.length = N) := Lib.hid (by rw [HS.out.len, HNU.out.1])
            clear hm1 hm2
            go_wp2_with fail
            go_ret
            exact ⟨_, R, rfl, BkT.trus HT.out HRL.out (by have := HNU.out; omega), ⟨fun _ => HS.out.fin HG.out HC.out, fun h => (by rw [HQ.out] at h; cases h)⟩, BX.out.trans ((HB4.out.trans (HO.out.below (fun x hx => by rw [hx]; exact Nat.le_of_eq HGM.out.symm) HB4.out.size)).mono BX.out.size), fun _ => (by rw [HRL.out]; exact own_of_bk HT.out rfl (by have := BX.out.size; have := HGM.out; omega) (by rw [truths_len, HRL.out, Nat.mul_one]) (by have := HNU.out; omega))⟩
          | true =>
            have HF1 := Lib.hid (hm1 rfl)
            clear hm1 hm2
            go_wp2_with fail
            obtain ⟨w5, rfl⟩ : ∃ x, x = wr := ⟨_, rfl⟩
            obtain ⟨g5, rfl⟩ : ∃ x, x = gk := ⟨_, rfl⟩
            obtain ⟨R0, rfl⟩ : ∃ x, x = R := ⟨_, rfl⟩
            go_loopg [9, 10] M (fun fuel s9 s10 wr => ∃ (k : Nat) (R : List Bool) (mb : Bool), s10 = .int .i64 k ∧ s9 = .bool mb ∧ k ≤ M ∧ M - k ≤ fuel ∧ (mb = true → cf R < cf R0) ∧ (mb = false → R = R0 ∧ ∀ e ∈ (allL g).take k, R[e.1.toNat]? = some true → R[e.2.2.toNat]? = some true) ∧ BkT wr gm R ∧ Snd g F F R ∧ Oth (fun x => x = gm) w4 wr)
            case atStart => exact ⟨0, R0, false, rfl, rfl, Nat.zero_le _, Nat.le_refl _, (fun h => by cases h), (fun _ => ⟨rfl, fun e he => by rw [List.take_zero] at he; cases he⟩), HT.out, HS.out, HO.out⟩
            case round =>
              clear HT HS HO
              obtain ⟨k, R, mb, rfl, rfl, hk, hf, hm1, hm2, ht, hs, ho⟩ := hrel
              have HT := Lib.hid ht
              have HS := Lib.hid hs
              have HO := Lib.hid ho
              have HM1 := Lib.hid hm1
              have HM2 := Lib.hid hm2
              have i5 : IntKind.i64.wrap ((k : Int) + 1) = (k : Int) + 1 := IntWalk.i64_in _ (by have := HMS.out; omega)
              clear ht hs ho hm1 hm2
              by_cases hlt : k < M
              · have hk1 : k < (allL g).length := by rw [← HM.out]; exact hlt
                have hmem := List.getElem_mem hk1
                have hok := of_decide_eq_true (HG.out.mem hmem)
                have HGO := Lib.hid (fun h => HS.out.go HG.out hmem h)
                have HTK : Hid (∀ e, e ∈ (allL g).take (k + 1) ↔ e ∈ (allL g).take k ∨ e = (allL g)[k]) := Lib.hid (fun e => by
                  rw [List.take_add_one, List.getElem?_eq_getElem hk1, List.mem_append]
                  simp)
                obtain ⟨b, off, rfl, hbl, x0, x1, x2⟩ := EdgsD.at2 (HLB.out _ HO.out) k hk1
                obtain ⟨⟨ef, ea, et⟩, hE⟩ : ∃ e, e = (allL g)[k] := ⟨_, rfl⟩
                rw [← hE] at x0 x1 x2 hok HGO HTK
                obtain ⟨jf, rfl⟩ : ∃ j : Nat, ef = (j : Int) := ⟨ef.toNat, by have := hok.1.1; simp only [] at this; omega⟩
                obtain ⟨jt, rfl⟩ : ∃ j : Nat, et = (j : Int) := ⟨et.toNat, by have := hok.2.1.1; simp only [] at this; omega⟩
                have hjf : jf < R.length := by rw [HS.out.len]; have := hok.1.2; simp only [] at this; omega
                have hjt : jt < R.length := by rw [HS.out.len]; have := hok.2.1.2; simp only [] at this; omega
                simp only [Int.toNat_natCast] at HGO
                have y0 := HT.out.at (List.getElem?_eq_getElem hjf)
                have y1 := HT.out.at (List.getElem?_eq_getElem hjt)
                have f1 := HT.out.fz jt
                have l1 := HT.out.lt
                obtain ⟨bf, hbf⟩ : ∃ b, R[jf] = b := ⟨_, rfl⟩
                obtain ⟨bt, hbt⟩ : ∃ b, R[jt] = b := ⟨_, rfl⟩
                have HBF : Hid (R[jf]? = some bf) := Lib.hid (by rw [List.getElem?_eq_getElem hjf, hbf])
                have HBT : Hid (R[jt]? = some bt) := Lib.hid (by rw [List.getElem?_eq_getElem hjt, hbt])
                rw [hbf] at y0
                rw [hbt] at y1
                have i1 : (0 : Int) ≤ (k : Int) := by omega
                have i2 : (k : Int) < (M : Int) := by omega
                have j1 : (0 : Int) ≤ (jf : Int) := by omega
                have j2 : (jf : Int) < (N : Int) := by have := HS.out.len; have := HNU.out; omega
                have j3 : (0 : Int) ≤ (jt : Int) := by omega
                have j4 : (jt : Int) < (N : Int) := by have := HS.out.len; have := HNU.out; omega
                clear hk1 hE hok hjf hjt hbf hbt hmem
                have HSAME : Hid ((bf = true → bt = true) → mb = false → R = R0 ∧ ∀ e ∈ (allL g).take (k + 1), R[e.1.toNat]? = some true → R[e.2.2.toNat]? = some true) := Lib.hid (fun hi hm => by
                  obtain ⟨e1, e2⟩ := HM2.out hm
                  refine ⟨e1, fun e he h => ?_⟩
                  rcases (HTK.out e).1 he with he | rfl
                  · exact e2 e he h
                  · simp only [Int.toNat_natCast] at h ⊢
                    rw [HBF.out] at h
                    rw [HBT.out, hi (Option.some.inj h)])
                cases bf with
                | false =>
                  have HSM := Lib.hid (HSAME.out (fun h => by cases h))
                  go_wp2_with fail
                  go_roundg (gk - 1)
                  case measure => omega
                  case rel => exact ⟨k + 1, R, mb, by go_num, rfl, by omega, by omega, HM1.out, HSM.out, HT.out, HS.out, HO.out⟩
                | true =>
                  cases bt with
                  | true =>
                    have HSM := Lib.hid (HSAME.out (fun _ => rfl))
                    go_wp2_with fail
                    go_roundg (gk - 1)
                    case measure => omega
                    case rel => exact ⟨k + 1, R, mb, by go_num, rfl, by omega, by omega, HM1.out, HSM.out, HT.out, HS.out, HO.out⟩
                  | false =>
                    have HSN := Lib.hid (HGO.out HBF.out)
                    have HTN := Lib.hid (HT.out.set jt true)
                    have HON := Lib.hid (HO.out.trans (G := fun x => x = gm) (Oth.set wr gm jt (.bool true)) (fun _ h => h) (fun _ _ h => h))
                    have HCL : Hid (cf (R.set jt true) < cf R0) := Lib.hid (by
                      have h1 := cf_set R jt HBT.out
                      cases hmb : mb with
                      | true => have := HM1.out hmb; omega
                      | false => have := (HM2.out hmb).1; rw [this] at h1 ⊢; omega)
                    clear HSAME
                    go_wp2_with fail
                    go_roundg (gk - 1)
                    case measure => omega
                    case rel => exact ⟨k + 1, _, true, by go_num, rfl, by omega, by omega, (fun _ => HCL.out), (fun h => by cases h), HTN.out, HSN.out, HON.out⟩
              · obtain rfl : k = M := by omega
                have HCC : Hid (mb = false → ∀ e ∈ allL g, R[e.1.toNat]? = some true → R[e.2.2.toNat]? = some true) := Lib.hid (fun h => by
                  have h2 := (HM2.out h).2
                  rw [HM.out, List.take_length] at h2
                  exact h2)
                have HCD : Hid (mb = true → cf R + 2 ≤ g5 - 1) := Lib.hid (fun h => by have := HM1.out h; have := HF1.out; omega)
                clear hlt hk hf i5
                go_wp2_with fail
                go_roundg (g5 - 1)
                case measure => have := HF1.out; omega
                case rel => exact ⟨R, mb, rfl, HCD.out, HCC.out, HT.out, HS.out, HO.out, by omega⟩

end Go.Proofs.Ytkdpimifojjhaaa

namespace Go.Proofs.Ytkdpimifojjhaaa
set_option linter.unusedSimpArgs false
set_option linter.unusedVariables false
open Go.RowKit

/-- Rows of truths, all of one's own. -/
structure RT (w : World) (B : Nat) (vg : Value) (zs : List (List Bool × Value)) : Prop where
  o : w.ownsRow B 32 1 vg zs.length (zs.map (·.2))
  r : ∀ (i : Nat) (a : List Bool × Value), zs[i]? = some a → w.ownsRow B 4 1 a.2 a.1.length (truths a.1)
theorem RT.nil (w : World) (B : Nat) : RT w B (.slice none 0 0) [] := ⟨⟨rfl, .inl ⟨rfl, rfl⟩⟩, fun i a h => by simp at h⟩
theorem RT.below {w w' : World} {B : Nat} {vg : Value} {zs : List (List Bool × Value)} (h : RT w B vg zs) (hb : Below w.heap.size w w') : RT w' B vg zs := ⟨own_below h.o hb, fun i a hi => own_below (h.r i a hi) hb⟩
theorem RT.push {w w' : World} {B : Nat} {vg vg' v : Value} {r : List Bool} {zs : List (List Bool × Value)} (h : RT w B vg zs) (hg : w.grownBy w' vg.ownBlock) (ho : w'.ownsRow B 32 1 vg' (zs.length + 1) (zs.map (·.2) ++ [v])) (hr : w.ownsRow B 4 1 v r.length (truths r)) : RT w' B vg' (zs ++ [(r, v)]) := by
  have key : ∀ (a : List Bool × Value), w.ownsRow B 4 1 a.2 a.1.length (truths a.1) → w'.ownsRow B 4 1 a.2 a.1.length (truths a.1) := fun a ha => own_grown ha hg fun x hx e => by
    rcases own_types h.o ha (by decide) with e2 | e2
    · rw [e2] at e; cases e
    · exact e2 (e.trans hx.symm)
  refine ⟨by rw [List.length_append, List.map_append]; exact ho, fun i a hi => ?_⟩
  by_cases hl : i < zs.length
  · rw [List.getElem?_append_left hl] at hi
    exact key a (h.r i a hi)
  · rw [List.getElem?_append_right (by omega)] at hi
    have hm := List.mem_of_getElem? hi
    rw [List.mem_singleton] at hm
    subst hm
    exact key _ hr
theorem RT.grown {w w' : World} {B n : Nat} {vg vo : Value} {xs : List Value} {zs : List (List Bool × Value)} (h : RT w B vg zs) (hg : w.grownBy w' vo.ownBlock) (ho : w.ownsRow B 3 1 vo n xs) : RT w' B vg zs := by
  refine ⟨own_grown h.o hg fun x hx e => ?_, fun i a hi => own_grown (h.r i a hi) hg fun x hx e => ?_⟩
  · rcases own_types ho h.o (by decide) with e2 | e2
    · rw [e2] at e; cases e
    · exact e2 (e.trans hx.symm)
  · rcases own_types ho (h.r i a hi) (by decide) with e2 | e2
    · rw [e2] at e; cases e
    · exact e2 (e.trans hx.symm)
/-- What is read of two indexes. -/
theorem RT.at {w : World} {B : Nat} {vg : Value} {zs : List (List Bool × Value)} (h : RT w B vg zs) (i k : Nat) (a : List Bool × Value) (ha : zs[i]? = some a) (b : Bool) (hb : a.1[k]? = some b) :
    ∃ g c g2 c2, vg = .slice (some ⟨g, 0, none⟩) zs.length c ∧ a.2 = .slice (some ⟨g2, 0, none⟩) a.1.length c2 ∧ w.cell? ⟨g, i, none⟩ = some (.slice (some ⟨g2, 0, none⟩) a.1.length c2) ∧ w.cell? ⟨g2, k, none⟩ = some (.bool b) := by
  obtain ⟨g, c, e, _, _, x, _, _⟩ := own_put h.o (List.getElem?_eq_some_iff.1 ha).1
  obtain ⟨g2, c2, e2, _, _, x2, _, _⟩ := own_put (h.r i a ha) (List.getElem?_eq_some_iff.1 hb).1
  refine ⟨g, c, g2, c2, e, e2, ?_, ?_⟩
  · rw [x, List.getElem?_map, ha, ← e2]; rfl
  · rw [x2]; unfold truths; rw [List.getElem?_map, hb]; rfl
theorem info_rowb : (Try.prog.info? 32).map (fun i => (i.zero, i.size, i.bytes)) = some (some (.slice none 0 0), 1, 24) := by kernel_rfl
/-- The part found among the first k. -/
def fndP (p : Nat → Nat) (i k : Nat) : Int := if (List.range k).any (fun j => p j == p i) = true then (p i : Int) else -1
theorem fndP_zero (p : Nat → Nat) (i : Nat) : fndP p i 0 = -1 := rfl
theorem fndP_step (p : Nat → Nat) (i k : Nat) : fndP p i (k + 1) = if fndP p i k < 0 ∧ p i = p k then (p k : Int) else fndP p i k := by
  have hL : fndP p i (k + 1) = if ((List.range k).any (fun j => p j == p i) || (p k == p i)) = true then (p i : Int) else -1 := by
    unfold fndP
    rw [List.range_succ, List.any_append]
    simp
  by_cases h1 : (List.range k).any (fun j => p j == p i) = true
  · rw [hL, show fndP p i k = (p i : Int) from if_pos h1, h1, Bool.true_or, if_pos rfl, if_neg (fun h => by omega)]
  · have h1' : (List.range k).any (fun j => p j == p i) = false := by simpa using h1
    rw [hL, show fndP p i k = -1 from if_neg h1, h1', Bool.false_or]
    by_cases h2 : p i = p k
    · rw [if_pos (by simp [h2]), if_pos ⟨by omega, h2⟩, h2]
    · rw [if_neg (by simpa using fun h : p k = p i => h2 h.symm), if_neg (fun h => h2 h.2)]
theorem fndP_end (p : Nat → Nat) (n i : Nat) (hc : Canon p n) (hi : i < n) : (fndP p i i = -1 ∧ p i = nx p i) ∨ (fndP p i i = (p i : Int) ∧ p i ≠ nx p i) := by
  unfold fndP
  by_cases h : (List.range i).any (fun j => p j == p i) = true
  · right
    rw [if_pos h]
    obtain ⟨j, hj, e⟩ := List.any_eq_true.1 h
    have e : p j = p i := by simpa using e
    have := nx_lt p n hc i (by omega) j (List.mem_range.1 hj)
    exact ⟨rfl, by omega⟩
  · left
    rw [if_neg h]
    refine ⟨rfl, ?_⟩
    by_cases h2 : p i = nx p i
    · exact h2
    · obtain ⟨j, hj, e⟩ := nx_has p i (p i) (by have := hc i hi; omega)
      exact absurd (List.any_eq_true.2 ⟨j, List.mem_range.2 hj, by simpa using e⟩) h

set_option maxRecDepth 100000 in
set_option maxHeartbeats 8000000 in
theorem rparts_any (g : Gr) (vs va vt : Value) (w : World) (hd : GrD w vs va vt g) (hn : g.st.length ≤ 1001 ∧ g.to.length ≤ 1000) :
    Calls Try.prog 12 #[.agg #[vs, va, vt]] w fun e w' => ∃ v, e = .returned v ∧ IntsD w' v (parG g) ∧ Below w.heap.size w w' := by
  obtain ⟨n, hN⟩ : ∃ n, (if rightG g = true then numN g else 0) = n := ⟨_, rfl⟩
  have HND := Lib.hid fun (W : World) (h : Below w.heap.size w W) => rnodes_any g vs va vt W (hd.below h) hn n hN
  have HRE := Lib.hid fun (W : World) (h : Below w.heap.size w W) (u : Int) (gu : Nat) (hu : Bk W gu 3 #[.int .i64 u]) => rreach_own g [u] vs va vt (.slice (some ⟨gu, 0, none⟩) 1 1) W (hd.below h) (BkI.ints (l := [u]) hu rfl (by decide)) hn (by simp)
  have HN : Hid (n ≤ 1000 ∧ (0 < n → rightG g = true) ∧ (rightG g = true → n = numN g)) := Lib.hid (by
    rw [← hN]
    refine ⟨?_, fun h => ?_, fun h => by rw [if_pos h]⟩
    · split
      · unfold numN; omega
      · omega
    · by_cases hr : rightG g = true
      · exact hr
      · rw [if_neg hr] at h; omega)
  have HPR : Hid (parG g = tab n fun i => ((pnG g i : Nat) : Int)) := Lib.hid (by
    unfold parG
    by_cases hr : rightG g = true
    · rw [if_pos hr] at hN ⊢; rw [hN]
    · rw [if_neg hr] at hN ⊢; rw [← hN]; rfl)
  have HCA : Hid (Canon (pnG g) n) := Lib.hid (pn_canon (A := (egr g).A) n)
  have BX := Lib.hid (bal (Below.refl w.heap.size w) (.cells #[vs, va, vt] 24))
  have KX := Lib.hid (Bk.new w 24 #[vs, va, vt])
  clear hd hn hN
  go_enter Try.func12, Try.ntmps12
  go_wp2_with fail
  generalize (w.alloc _) = w0 at BX KX ⊢
  refine Calls.mono (HND.out w0 BX.out) ?_
  rintro e w1 ⟨rfl, b1⟩
  replace BX := Lib.hid (BX.out.trans (b1.mono BX.out.size))
  replace KX := Lib.hid (KX.out.below b1)
  clear b1 HND
  obtain ⟨B, hB⟩ : ∃ B, B = w1.heap.size := ⟨_, rfl⟩
  have HBB : Hid (w.heap.size ≤ B ∧ B ≤ w1.heap.size) := Lib.hid (by rw [hB]; exact ⟨BX.out.size, Nat.le_refl _⟩)
  have HKB : Hid (w.heap.size < B) := Lib.hid (by rw [hB]; exact KX.out.lt)
  clear hB
  go_wp2_with fail
  go_loopg [4, 5] n (fun fuel s4 s5 wr => ∃ (i : Nat) (zs : List (List Bool × Value)), s5 = .int .i64 i ∧ i ≤ n ∧ n - i ≤ fuel ∧ zs.length = i ∧ RT wr B s4 zs ∧ (∀ (j : Nat) (a : List Bool × Value), zs[j]? = some a → IsR (allL g) [(j : Int)] n a.1) ∧ Below B w1 wr)
  case atStart => exact ⟨0, [], rfl, Nat.zero_le _, Nat.le_refl _, rfl, RT.nil _ _, fun j a h => by simp at h, Below.refl _ _⟩
  case round =>
    obtain ⟨i, zs, rfl, hi, hf, hzl, hrt, hzs, hb⟩ := hrel
    have HRT := Lib.hid hrt
    have HZS := Lib.hid hzs
    have HB := Lib.hid hb
    have HZL := Lib.hid hzl
    have HBW := Lib.hid (BX.out.trans (hb.mono HBB.out.1))
    by_cases hlt : i < n
    · have hkx : Bk wr w.heap.size 24 #[vs, va, vt] := (hb.block _ HKB.out).trans KX.out
      have c0 := hkx.cell 0
      have c1 := hkx.cell 1
      have c2 := hkx.cell 2
      have lk := hkx.lt
      have i5 : IntKind.i64.wrap ((i : Int) + 1) = (i : Int) + 1 := IntWalk.i64_in _ (by have := HN.out; omega)
      obtain ⟨z4, y4, hs4, hj⟩ := own_shape' hrt.o
      subst hs4
      clear hj hb hkx hrt hzs
      have hgr := HN.out.2.1 (by omega)
      have HGR := Lib.hid hgr
      have HNE : Hid (n = numN g) := Lib.hid (HN.out.2.2 hgr)
      have BA := Lib.hid (bal (Below.refl wr.heap.size wr) (.cells #[.int .i64 i] 3))
      have HREA := Lib.hid (HRE.out (wr.alloc (.cells #[.int .i64 i] 3)) (HBW.out.trans (BA.out.mono HBW.out.size)) i wr.heap.size (Bk.new _ _ _))
      rw [hzl] at HRT ⊢
      clear hgr hzl
      go_wp2_with fail
      refine Calls.mono HREA.out ?_
      rintro e w8 ⟨vr, r, rfl, _, hrz, b8, hro⟩
      have hro := hro HGR.out
      have hir := hrz.1 HGR.out
      obtain ⟨z8, y8, hv8, hj⟩ := own_shape' hro
      subst hv8
      have B8 := Lib.hid (BA.out.trans (b8.mono BA.out.size))
      have hle8 : wr.heap.size ≤ (wr.alloc (.cells #[.int .i64 i] 3)).heap.size := BA.out.size
      have hbr : B ≤ wr.heap.size := Nat.le_trans HBB.out.2 HB.out.size
      have HRO := Lib.hid (own_base hro (Nat.le_trans hbr hle8))
      have HIR := Lib.hid (show IsR (allL g) [(i : Int)] n r from HNE.out ▸ hir)
      have HRT8 := Lib.hid (HRT.out.below B8.out)
      obtain ⟨rl, hrl⟩ : ∃ x, x = r.length := ⟨_, rfl⟩
      have BU := Lib.hid (bal (Below.refl w8.heap.size w8) (.cells #[.slice z8 rl y8] 32))
      have KU := Lib.hid (Bk.new w8 32 #[.slice z8 rl y8])
      have HRTU := Lib.hid (HRT8.out.below BU.out)
      have HROU := Lib.hid (own_below HRO.out BU.out)
      rw [← hrl] at HROU ⊢
      have HOU : Hid ((w8.alloc (.cells #[.slice z8 rl y8] 32)).ownsRow B 32 1 (.slice z4 i y4) i (zs.map (·.2))) := Lib.hid (by have h := HRTU.out.o; rw [HZL.out] at h; exact h)
      have HL8 : Hid (i ≤ 1000000) := Lib.hid (by have := HN.out; omega)
      have HS8 : Hid (B ≤ (w8.alloc (.cells #[.slice z8 rl y8] 32)).heap.size) := Lib.hid (by have := BU.out.size; have := B8.out.size; omega)
      have HBN := Lib.hid ((HB.out.trans (B8.out.mono hbr)).trans (BU.out.mono (Nat.le_trans hbr B8.out.size)))
      have HRLEN := Lib.hid hrl
      clear hj b8 hro hrz hir hle8 hrl HRT8 HREA c0 c1 c2 lk hbr
      go_wp2_with (refine list_app1 rfl (.tmp 18) (.tmp 23) 48 32 (.slice none 0 0) 24 rfl Try.underlying48 info_rowb rfl (by decide) B (.slice z4 i y4) i _ rfl HOU.out w8.heap.size (.slice z8 rl y8) rfl KU.out rfl HL8.out HS8.out _ rfl ?_; intro g9 cp w9 O9 B9 G9 E9)
      have HPU := Lib.hid (HRTU.out.push (r := r) (v := .slice z8 rl y8) G9.out (by rw [HZL.out]; exact O9.out) (by rw [← HRLEN.out]; exact HROU.out))
      have HBN2 := Lib.hid (HBN.out.trans B9.out)
      clear O9 B9 G9 E9
      go_roundg (gk - 1)
      case measure => omega
      case rel => exact ⟨i + 1, _, by go_num, by omega, by omega, by rw [List.length_append, HZL.out]; rfl, HPU.out, fun j a hj => by
        by_cases hjl : j < zs.length
        · rw [List.getElem?_append_left hjl] at hj; exact HZS.out j a hj
        · rw [List.getElem?_append_right (by omega)] at hj
          have hm := List.mem_of_getElem? hj
          rw [List.mem_singleton] at hm
          have hjj := (List.getElem?_eq_some_iff.1 hj).1
          rw [List.length_singleton] at hjj
          subst hm
          have e : j = i := by rw [← HZL.out]; omega
          rw [e]
          exact HIR.out, HBN2.out⟩
    · obtain rfl : i = n := by omega
      clear hlt hi hf hrt hzs hb hzl
      go_wp2_with fail
      obtain ⟨w5, rfl⟩ : ∃ x, x = wr := ⟨_, rfl⟩
      obtain ⟨g2, rfl⟩ : ∃ x, x = gk := ⟨_, rfl⟩
      obtain ⟨zv, yv, hzv, hj⟩ := own_shape' HRT.out.o
      subst hzv
      rw [HZL.out] at HRT ⊢
      clear HBW hj
      go_loopg [6, 7, 8, 9, 10] i (fun fuel s6 s7 s8 s9 s10 wr => ∃ k : Nat, s8 = .int .i64 k ∧ s7 = .int .i64 ((nx (pnG g) k : Nat) : Int) ∧ k ≤ i ∧ i - k ≤ fuel ∧ wr.ownsRow B 3 1 s6 k (ints (tab k fun j => ((pnG g j : Nat) : Int))) ∧ RT wr B (.slice zv i yv) zs ∧ Below B w1 wr)
      case atStart => exact ⟨0, rfl, rfl, Nat.zero_le _, Nat.le_refl _, ⟨rfl, .inl ⟨rfl, rfl⟩⟩, HRT.out, HB.out⟩
      case round =>
        clear HRT HB
        obtain ⟨k, rfl, rfl, hk, hf, how, hrt, hb⟩ := hrel
        have HOW := Lib.hid how
        have HRT := Lib.hid hrt
        have HB := Lib.hid hb
        clear hrt hb
        obtain ⟨g3, rfl⟩ : ∃ x, x = gk := ⟨_, rfl⟩
        by_cases hlt : k < i
        · have HGR := Lib.hid (HN.out.2.1 (by omega))
          have HNE : Hid (i = numN g) := Lib.hid (HN.out.2.2 HGR.out)
          have HG := Lib.hid (right_RG g HGR.out)
          have hnl := nx_le (pnG g) k
          have HSTEP : Hid (nx (pnG g) (k + 1) = if pnG g k = nx (pnG g) k then nx (pnG g) k + 1 else nx (pnG g) k) := Lib.hid rfl
          have HEND := Lib.hid (fndP_end (pnG g) i k HCA.out hlt)
          have HTAB : Hid (ints (tab k fun j => ((pnG g j : Nat) : Int)) ++ [.int .i64 ((pnG g k : Nat) : Int)] = ints (tab (k + 1) fun j => ((pnG g j : Nat) : Int))) := Lib.hid (by unfold ints tab; rw [List.range_succ]; simp)
          obtain ⟨z6, y6, hs6, hj⟩ := own_shape' how
          subst hs6
          clear hj how
          obtain ⟨nxk, hnx⟩ : ∃ x, x = nx (pnG g) k := ⟨_, rfl⟩
          rw [← hnx] at HSTEP HEND hnl ⊢
          have i5 : IntKind.i64.wrap ((k : Int) + 1) = (k : Int) + 1 := IntWalk.i64_in _ (by have := HN.out; omega)
          have i6 : IntKind.i64.wrap ((nxk : Int) + 1) = (nxk : Int) + 1 := IntWalk.i64_in _ (by have := HN.out; omega)
          clear hnx hnl
          go_wp2_with fail
          obtain ⟨w6, rfl⟩ : ∃ x, x = wr := ⟨_, rfl⟩
          go_loopg [9, 10] k (fun fuel s9 s10 wr => ∃ j : Nat, s10 = .int .i64 j ∧ s9 = .int .i64 (fndP (pnG g) k j) ∧ j ≤ k ∧ k - j ≤ fuel ∧ wr = w6)
          case atStart => exact ⟨0, rfl, rfl, Nat.zero_le _, Nat.le_refl _, rfl⟩
          case round =>
            obtain ⟨j, rfl, rfl, hj, hf2, rfl⟩ := hrel
            by_cases hjk : j < k
            · have HFS := Lib.hid (fndP_step (pnG g) k j)
              have hfc : fndP (pnG g) k j = -1 ∨ 0 ≤ fndP (pnG g) k j := by unfold fndP; split; right; omega; left; rfl
              obtain ⟨fv, hfv⟩ : ∃ x, x = fndP (pnG g) k j := ⟨_, rfl⟩
              rw [← hfv] at HFS hfc ⊢
              have j5 : IntKind.i64.wrap ((j : Int) + 1) = (j : Int) + 1 := IntWalk.i64_in _ (by have := HN.out; omega)
              clear hfv
              by_cases hneg : fv < 0
              · obtain rfl : fv = -1 := by omega
                have hkz : k < zs.length := by rw [HZL.out]; exact hlt
                have hjz : j < zs.length := by rw [HZL.out]; omega
                obtain ⟨ak, hak⟩ : ∃ a, zs[k]? = some a := ⟨_, List.getElem?_eq_getElem hkz⟩
                obtain ⟨aj, haj⟩ : ∃ a, zs[j]? = some a := ⟨_, List.getElem?_eq_getElem hjz⟩
                have hrk := HZS.out k ak hak
                have hrj := HZS.out j aj haj
                obtain ⟨b1, hb1⟩ : ∃ b, ak.1[j]? = some b := ⟨_, List.getElem?_eq_getElem (by rw [hrk.1]; omega)⟩
                obtain ⟨b2, hb2⟩ : ∃ b, aj.1[k]? = some b := ⟨_, List.getElem?_eq_getElem (by rw [hrj.1]; omega)⟩
                have hm1 : b1 = true ↔ Rea (egr g).A k j := by
                  have h := hrk.2 j (by omega)
                  rw [hb1, HNE.out, HG.out.rch k (by rw [← HNE.out]; omega)] at h
                  constructor
                  · intro hh
                    obtain ⟨x, hx, hr⟩ := h.1 (by rw [hh])
                    have : j = x := by omega
                    rw [this]; exact hr
                  · intro hh
                    have := h.2 ⟨j, rfl, hh⟩
                    injection this
                have hm2 : b2 = true ↔ Rea (egr g).A j k := by
                  have h := hrj.2 k (by omega)
                  rw [hb2, HNE.out, HG.out.rch j (by rw [← HNE.out]; omega)] at h
                  constructor
                  · intro hh
                    obtain ⟨x, hx, hr⟩ := h.1 (by rw [hh])
                    have : k = x := by omega
                    rw [this]; exact hr
                  · intro hh
                    have := h.2 ⟨k, rfl, hh⟩
                    injection this
                have hmm : pnG g k = pnG g j ↔ (b1 = true ∧ b2 = true) := by
                  rw [show (pnG g k = pnG g j) ↔ Mut (egr g).A k j from pn_same k j, hm1, hm2]
                  exact Iff.rfl
                obtain ⟨ga1, ca1, gb1, cb1, e1, e2, x1, y1⟩ := HRT.out.at k j ak hak b1 hb1
                obtain ⟨ga2, ca2, gb2, cb2, e3, e4, x2, y2⟩ := HRT.out.at j k aj haj b2 hb2
                have hgg : ga1 = ga2 := slice_blk (e1.symm.trans e3)
                subst hgg
                injection e1 with e5 e6 e7
                subst e5
                have hl1 : ak.1.length = i := hrk.1
                have hl2 : aj.1.length = i := hrj.1
                rw [hl1] at x1
                rw [hl2] at x2
                obtain ⟨go, co, eo, _, lo, xo, _, _⟩ := own_put HOW.out hjk
                injection eo with eo1 eo2 eo3
                subst eo1
                have xo' : wr.cell? ⟨go, j, none⟩ = some (.int .i64 ((pnG g j : Nat) : Int)) := by rw [xo]; unfold ints; rw [List.getElem?_map, tab_at _ _ _ hjk]; rfl
                have k1 : (0 : Int) ≤ (k : Int) := by omega
                have k2 : (k : Int) < (i : Int) := by omega
                have k3 : (0 : Int) ≤ (j : Int) := by omega
                have k4 : (j : Int) < (i : Int) := by omega
                have k6 : (j : Int) < (k : Int) := by omega
                have HMM := Lib.hid hmm
                clear hm1 hm2 hmm hrk hrj hb1 hb2 hak haj hkz hjz e2 e3 e4 eo2 eo3 xo hl1 hl2 hfc e6 e7
                cases b1 with
                | false =>
                  have HFN : Hid (fndP (pnG g) k (j + 1) = -1) := Lib.hid (by rw [HFS.out, if_neg (fun h => by have := HMM.out.1 h.2; exact absurd this.1 (by decide))])
                  go_wp2_with fail
                  go_roundg (gk - 1)
                  case measure => omega
                  case rel => exact ⟨j + 1, by go_num, by rw [HFN.out], by omega, by omega, rfl⟩
                | true =>
                  cases b2 with
                  | false =>
                    have HFN : Hid (fndP (pnG g) k (j + 1) = -1) := Lib.hid (by rw [HFS.out, if_neg (fun h => by have := HMM.out.1 h.2; exact absurd this.2 (by decide))])
                    go_wp2_with fail
                    go_roundg (gk - 1)
                    case measure => omega
                    case rel => exact ⟨j + 1, by go_num, by rw [HFN.out], by omega, by omega, rfl⟩
                  | true =>
                    have HFN : Hid (fndP (pnG g) k (j + 1) = ((pnG g j : Nat) : Int)) := Lib.hid (by rw [HFS.out, if_pos ⟨by decide, HMM.out.2 ⟨rfl, rfl⟩⟩])
                    generalize pnG g j = pj at xo' HFN
                    go_wp2_with fail
                    go_roundg (gk - 1)
                    case measure => omega
                    case rel => exact ⟨j + 1, by go_num, by rw [HFN.out], by omega, by omega, rfl⟩
              · have HFN : Hid (fndP (pnG g) k (j + 1) = fv) := Lib.hid (by rw [HFS.out, if_neg (fun h => hneg h.1)])
                go_wp2_with fail
                go_roundg (gk - 1)
                case measure => omega
                case rel => exact ⟨j + 1, by go_num, by rw [HFN.out], by omega, by omega, rfl⟩
            · obtain rfl : j = k := by omega
              clear hjk hj hf2
              have HL8 : Hid (j ≤ 1000000) := Lib.hid (by have := HN.out; omega)
              have HBA := Lib.hid (bal (Below.refl wr.heap.size wr) (.cells #[.int .i64 ((pnG g j : Nat) : Int)] 3))
              have HOA := Lib.hid (own_below HOW.out HBA.out)
              have HRA := Lib.hid (HRT.out.below HBA.out)
              have KBA := Lib.hid (Bk.new wr 3 #[.int .i64 ((pnG g j : Nat) : Int)])
              have HS8 : Hid (B ≤ (wr.alloc (.cells #[.int .i64 ((pnG g j : Nat) : Int)] 3)).heap.size) := Lib.hid (by have := HBA.out.size; have := HB.out.size; have := HBB.out; omega)
              have HBN := Lib.hid (HB.out.trans (HBA.out.mono (show B ≤ wr.heap.size by have := HB.out.size; have := HBB.out; omega)))
              rcases HEND.out with ⟨he, hp⟩ | ⟨he, hp⟩
              · rw [he]
                have HSN : Hid (nx (pnG g) (j + 1) = nxk + 1) := Lib.hid (by rw [HSTEP.out, if_pos hp])
                rw [hp] at HOA HRA KBA HS8 HBN HTAB
                clear he hp HBA
                go_wp2_with (refine list_app1 rfl (.tmp 64) (.tmp 66) 22 3 (.int .i64 0) 8 rfl Try.underlying22 info_int rfl (by decide) B (.slice z6 j y6) j _ rfl HOA.out wr.heap.size (.int .i64 nxk) rfl KBA.out rfl HL8.out HS8.out _ HTAB.out ?_; intro g9 cp w9 O9 B9 G9 E9)
                go_roundg (g3 - 1)
                case measure => omega
                case rel => exact ⟨j + 1, by go_num, by rw [HSN.out]; go_num, by omega, by omega, O9.out, HRA.out.grown G9.out HOA.out, HBN.out.trans B9.out⟩
              · rw [he]
                have HSN : Hid (nx (pnG g) (j + 1) = nxk) := Lib.hid (by rw [HSTEP.out, if_neg hp])
                generalize pnG g j = pj at HOA HRA KBA HS8 HBN HTAB
                have hnn : ¬ ((pj : Int) < 0) := by omega
                clear he hp HBA
                go_wp2_with (refine list_app1 rfl (.tmp 64) (.tmp 66) 22 3 (.int .i64 0) 8 rfl Try.underlying22 info_int rfl (by decide) B (.slice z6 j y6) j _ rfl HOA.out wr.heap.size (.int .i64 pj) rfl KBA.out rfl HL8.out HS8.out _ HTAB.out ?_; intro g9 cp w9 O9 B9 G9 E9)
                go_roundg (g3 - 1)
                case measure => omega
                case rel => exact ⟨j + 1, by go_num, by rw [HSN.out], by omega, by omega, O9.out, HRA.out.grown G9.out HOA.out, HBN.out.trans B9.out⟩
        · obtain rfl : k = i := by omega
          have HRS : Hid (IntsD wr u6 (parG g)) := Lib.hid (by rw [HPR.out]; exact own_ints (by rw [tab_len]; exact how))
          clear hlt hk hf how
          go_wp2_with fail
          go_ret
          exact ⟨_, rfl, HRS.out, BX.out.trans (HB.out.mono HBB.out.1)⟩

end Go.Proofs.Ytkdpimifojjhaaa
