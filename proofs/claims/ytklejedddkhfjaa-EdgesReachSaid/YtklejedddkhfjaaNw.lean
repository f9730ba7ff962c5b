/- Layer 14's law: EdgesReach' walk. -/
import Derived.Test.YtklejedddkhfjaaNv
namespace Go.Proofs.Ytklejedddkhfjaa
set_option linter.unusedSimpArgs false
set_option linter.unusedVariables false
open Go.RowKit

set_option maxRecDepth 100000 in
set_option maxHeartbeats 8000000 in
theorem reach_in (g : Gr) (F : List Int) (vs va vt vf : Value) (w : World) (hd : GrD w vs va vt g) (hfd : IntsD w vf F) :
    Calls Try.prog 6 #[.agg #[vs, va, vt], vf] w fun e w' => e = .returned (.bool true) ∧ Below w.heap.size w w' := by
  obtain ⟨q, hq⟩ : ∃ q, lightG g = q := ⟨_, rfl⟩
  obtain ⟨q2, hq2⟩ : ∃ q, rightG g = q := ⟨_, rfl⟩
  have HLI := Lib.hid fun (W : World) (h : Below w.heap.size w W) => light14_any g vs va vt W (hd.below h) q hq
  have HSZ : Hid (q = true → g.st.length ≤ 80 ∧ g.to.length ≤ 400 ∧ g.ag.length ≤ 400) := Lib.hid (fun h => light_sz (hq.trans h))
  have HRI := Lib.hid fun (W : World) (h : Below w.heap.size w W) (hs : g.st.length ≤ 80 ∧ g.to.length ≤ 400 ∧ g.ag.length ≤ 400) => right14_any g vs va vt W (hd.below h) ⟨by omega, by omega, by omega⟩ q2 hq2
  have HQ2 := Lib.hid hq2
  have HAL := Lib.hid fun (W : World) (h : Below w.heap.size w W) (hs : g.st.length ≤ 80 ∧ g.to.length ≤ 400 ∧ g.ag.length ≤ 400) => all_any g vs va vt W (hd.below h) ⟨by omega, by omega, by omega⟩
  have HND := Lib.hid fun (W : World) (h : Below w.heap.size w W) (hs : g.st.length ≤ 80 ∧ g.to.length ≤ 400 ∧ g.ag.length ≤ 400) => nodes_any g vs va vt W (hd.below h) ⟨by omega, by omega, by omega⟩
  have HRE := Lib.hid fun (W : World) (h : Below w.heap.size w W) (hs : g.st.length ≤ 80 ∧ g.to.length ≤ 400 ∧ g.ag.length ≤ 400) (F' : List Int) (vf' : Value) (hf' : IntsD W vf' F') (hl : F'.length ≤ 1000) => reach_any g F' vs va vt vf' W (hd.below h) hf' ⟨by omega, by omega, by omega⟩ hl
  have HFD := Lib.hid hfd
  obtain ⟨fa, fc, hfe, hfc, _⟩ := hfd
  subst hfe
  have HFC : Hid (F.length ≤ fc) := Lib.hid hfc.1
  obtain ⟨nf, hnf⟩ : ∃ x, x = F.length := ⟨_, rfl⟩
  rw [← hnf] at HFD HFC ⊢
  have HNF := Lib.hid hnf
  clear hfc hnf
  obtain ⟨z1, n1, y1, z2, n2, y2, z3, n3, y3, rfl, rfl, rfl⟩ := hd.sh
  clear hd hq hq2
  have BX := Lib.hid (bal (Below.refl w.heap.size w) (.cells #[.slice z1 n1 y1, .slice z2 n2 y2, .slice z3 n3 y3] 26))
  have KX := Lib.hid (Bk.new w 26 #[.slice z1 n1 y1, .slice z2 n2 y2, .slice z3 n3 y3])
  go_enter Try.func6, Try.ntmps6
  go_wp2_with fail
  generalize World.alloc w _ = w0 at BX KX ⊢
  refine (HLI.out _ BX.out).mono ?_
  rintro e w1 ⟨rfl, b1⟩
  replace BX := Lib.hid (BX.out.trans (b1.mono BX.out.size))
  replace KX := Lib.hid (KX.out.below b1)
  clear b1 HLI
  cases q with
  | false =>
    go_wp2_with fail
    refine (known_any _).mono ?_
    rintro e w2 ⟨rfl, b2⟩
    replace BX := Lib.hid (BX.out.trans (b2.mono BX.out.size))
    clear b2
    go_wp2_with fail
    go_ret
    exact ⟨rfl, BX.out⟩
  | true =>
    have HS := Lib.hid (HSZ.out rfl)
    clear HSZ
    have c0 := KX.out.cell 0
    have c1 := KX.out.cell 1
    have c2 := KX.out.cell 2
    have lk := KX.out.lt
    go_wp2_with fail
    refine (HRI.out _ BX.out HS.out).mono ?_
    rintro e w2 ⟨rfl, b2⟩
    replace BX := Lib.hid (BX.out.trans (b2.mono BX.out.size))
    replace KX := Lib.hid (KX.out.below b2)
    clear b2 c0 c1 c2 lk HRI
    cases q2 with
    | false =>
      go_wp2_with fail
      refine (known_any _).mono ?_
      rintro e w3 ⟨rfl, b3⟩
      replace BX := Lib.hid (BX.out.trans (b3.mono BX.out.size))
      clear b3
      go_wp2_with fail
      go_ret
      exact ⟨rfl, BX.out⟩
    | true =>
      have HG := Lib.hid (right_RG g HQ2.out)
      by_cases hnf : 200 < nf
      · have hn1 : (200 : Int) < (nf : Int) := by omega
        go_wp2_with fail
        refine (known_any _).mono ?_
        rintro e w3 ⟨rfl, b3⟩
        replace BX := Lib.hid (BX.out.trans (b3.mono BX.out.size))
        clear b3
        go_wp2_with fail
        go_ret
        exact ⟨rfl, BX.out⟩
      · have hn1 : ¬ (200 : Int) < (nf : Int) := by omega
        have HNS : Hid (nf ≤ 200) := Lib.hid (by omega)
        have c0 := KX.out.cell 0
        have c1 := KX.out.cell 1
        have c2 := KX.out.cell 2
        have lk := KX.out.lt
        clear hnf
        go_wp2_with fail
        refine (HRE.out _ BX.out HS.out F _ (IntsD.below HFD.out BX.out) (by have := HNS.out; have := HNF.out; omega)).mono ?_
        rintro e w3 ⟨v, r, rfl, rd, rz, b3⟩
        have RZ := Lib.hid (rz.1 HQ2.out)
        obtain ⟨ra, rc, rfl⟩ := SlD.sh rd
        have RD := Lib.hid rd
        replace BX := Lib.hid (BX.out.trans (b3.mono BX.out.size))
        replace KX := Lib.hid (KX.out.below b3)
        obtain ⟨N, hN⟩ : ∃ N, N = numN g := ⟨_, rfl⟩
        have HN := Lib.hid hN
        rw [show r.length = N by rw [rz.1 HQ2.out |>.1, hN]] at RD ⊢
        have HNZ : Hid ((if rightG g = true then numN g else 0) = N) := Lib.hid (by rw [if_pos HQ2.out, hN])
        have HN80 : Hid (N ≤ 80) := Lib.hid (by rw [hN]; have := HS.out; unfold numN; omega)
        clear rd rz b3 c0 c1 c2 lk hN
        have c0 := KX.out.cell 0
        have c1 := KX.out.cell 1
        have c2 := KX.out.cell 2
        have lk := KX.out.lt
        have qN : ((N : Int) != (N : Int)) = false := by simp
        go_wp2_with fail
        refine (HND.out _ BX.out HS.out _ HNZ.out).mono ?_
        rintro e w4 ⟨rfl, b4⟩
        replace RD := Lib.hid (TrusD.below RD.out b4)
        replace BX := Lib.hid (BX.out.trans (b4.mono BX.out.size))
        replace KX := Lib.hid (KX.out.below b4)
        clear b4 c0 c1 c2 lk
        have c0 := KX.out.cell 0
        have c1 := KX.out.cell 1
        have c2 := KX.out.cell 2
        have lk := KX.out.lt
        go_wp2_with fail
        refine (HAL.out _ BX.out HS.out).mono ?_
        rintro e w5 ⟨v, rfl, va, b5⟩
        rw [show allZ g = allL g from if_pos HQ2.out] at va
        obtain ⟨la, lc, rfl⟩ := SlD.sh va
        have HV := Lib.hid va
        replace RD := Lib.hid (TrusD.below RD.out b5)
        replace BX := Lib.hid (BX.out.trans (b5.mono BX.out.size))
        replace KX := Lib.hid (KX.out.below b5)
        obtain ⟨M, hM⟩ : ∃ M, M = (allL g).length := ⟨_, rfl⟩
        rw [← hM] at HV ⊢
        have HM := Lib.hid hM
        have HMS : Hid (M ≤ 400) := Lib.hid (by rw [hM, HG.out.allLen]; have := HS.out; omega)
        clear va b5 c0 c1 c2 lk HAL HND hM qN
        go_wp2_with fail
        go_loopg [8] M (fun fuel i' wr => ∃ (k : Nat), i' = .int .i64 k ∧ k ≤ M ∧ M - k ≤ fuel ∧ wr = w5)
        case atStart => exact ⟨0, rfl, Nat.zero_le _, Nat.le_refl _, rfl⟩
        case round =>
          obtain ⟨k, rfl, hk, hf, rfl⟩ := hrel
          have i5 : IntKind.i64.wrap ((k : Int) + 1) = (k : Int) + 1 := IntWalk.i64_in _ (by have := HMS.out; omega)
          by_cases hlt : k < M
          · have hk1 : k < (allL g).length := by rw [← HM.out]; exact hlt
            have hok := of_decide_eq_true (HG.out.mem (List.getElem_mem hk1))
            have hst : r[(allL g)[k].1.toNat]? = some true → r[(allL g)[k].2.2.toNat]? = some true := by
              intro h
              have h1 := (RZ.out.2 _ (by omega)).1 h
              rw [show (((allL g)[k].1.toNat : Nat) : Int) = (allL g)[k].1 by omega] at h1
              have h2 := Rch.step _ (List.getElem_mem hk1) h1
              refine (RZ.out.2 _ (by omega)).2 ?_
              rw [show (((allL g)[k].2.2.toNat : Nat) : Int) = (allL g)[k].2.2 by omega]
              exact h2
            obtain ⟨b, off, rfl, hbl, x0, x1, x2⟩ := EdgsD.at2 HV.out k hk1
            obtain ⟨⟨ef, ea, et⟩, hE⟩ : ∃ e, e = (allL g)[k] := ⟨_, rfl⟩
            rw [← hE] at x0 x1 x2 hok hst
            obtain ⟨jf, rfl⟩ : ∃ j : Nat, ef = (j : Int) := ⟨ef.toNat, by have := hok.1.1; simp only [] at this; omega⟩
            obtain ⟨jt, rfl⟩ : ∃ j : Nat, et = (j : Int) := ⟨et.toNat, by have := hok.2.1.1; simp only [] at this; omega⟩
            have hjf : jf < r.length := by rw [RZ.out.1]; have := hok.1.2; simp only [] at this; omega
            have hjt : jt < r.length := by rw [RZ.out.1]; have := hok.2.1.2; simp only [] at this; omega
            simp only [Int.toNat_natCast] at hst
            obtain ⟨rb, ro, rfl, rbl, y0⟩ := TrusD.at2 RD.out jf hjf
            obtain ⟨rb', ro', he, _, y1⟩ := TrusD.at2 RD.out jt hjt
            injection he with he
            injection he with e1 e2
            subst e1 e2
            have HST : Hid (r[jf] = true → r[jt] = true) := Lib.hid (fun h => by
              have := hst (by rw [List.getElem?_eq_getElem hjf, h])
              rw [List.getElem?_eq_getElem hjt] at this
              exact Option.some.inj this)
            have j1 : (0 : Int) ≤ (jf : Int) := by omega
            have j2 : (jf : Int) < (N : Int) := by have := RZ.out.1; have := HN.out; omega
            have j3 : (0 : Int) ≤ (jt : Int) := by omega
            have j4 : (jt : Int) < (N : Int) := by have := RZ.out.1; have := HN.out; omega
            generalize r[jf] = bf at y0 HST
            generalize r[jt] = bt at y1 HST
            have i1 : (0 : Int) ≤ (k : Int) := by omega
            have i2 : (k : Int) < (M : Int) := by omega
            clear hk1 hE hok hst hjf hjt
            cases bf with
            | false =>
              go_wp2_with fail
              go_roundg (gk - 1)
              case measure => omega
              case rel => exact ⟨k + 1, by go_num, by omega, by omega, rfl⟩
            | true =>
              have hbt := HST.out rfl
              subst hbt
              go_wp2_with fail
              go_roundg (gk - 1)
              case measure => omega
              case rel => exact ⟨k + 1, by go_num, by omega, by omega, rfl⟩
          · obtain rfl : k = M := by omega
            go_wp2_with fail
            clear hlt hk hf i5
            obtain ⟨w6, rfl⟩ : ∃ x, x = wr := ⟨_, rfl⟩
            obtain ⟨g6, rfl⟩ : ∃ x, x = gk := ⟨_, rfl⟩
            obtain ⟨M, rfl⟩ : ∃ x, x = k := ⟨_, rfl⟩
            go_loopg [9] nf (fun fuel i' wr => ∃ (k : Nat), i' = .int .i64 k ∧ k ≤ nf ∧ nf - k ≤ fuel ∧ wr = w6)
            case atStart => exact ⟨0, rfl, Nat.zero_le _, Nat.le_refl _, rfl⟩
            case round =>
              obtain ⟨k, rfl, hk, hf, rfl⟩ := hrel
              have i5 : IntKind.i64.wrap ((k : Int) + 1) = (k : Int) + 1 := IntWalk.i64_in _ (by have := HNS.out; omega)
              by_cases hlt : k < nf
              · have hk1 : k < F.length := by rw [← HNF.out]; exact hlt
                have hrx : 0 ≤ F[k] → F[k] < (N : Int) → r[F[k].toNat]? = some true := by
                  intro h0 h1
                  rw [HN.out] at h1
                  refine (RZ.out.2 _ (by omega)).2 ?_
                  rw [show ((F[k].toNat : Nat) : Int) = F[k] by omega]
                  exact .base _ (List.getElem_mem hk1) h0 h1
                obtain ⟨b, off, rfl, hbl, x0⟩ := IntsD.at2 (IntsD.below HFD.out BX.out) k hk1
                generalize F[k] = x at x0 hrx
                have i1 : (0 : Int) ≤ (k : Int) := by omega
                have i2 : (k : Int) < (nf : Int) := by omega
                clear hk1
                by_cases h0 : 0 ≤ x
                · by_cases h1 : x < (N : Int)
                  · obtain ⟨j, rfl⟩ : ∃ j : Nat, x = (j : Int) := ⟨x.toNat, by omega⟩
                    have hj := hrx h0 h1
                    rw [Int.toNat_natCast] at hj
                    have hjr : j < r.length := (List.getElem?_eq_some_iff.1 hj).1
                    obtain ⟨rb, ro, rfl, rbl, y0⟩ := TrusD.at2 RD.out j hjr
                    rw [List.getElem?_eq_getElem hjr] at hj
                    rw [Option.some.inj hj] at y0
                    clear hrx hj hjr
                    go_wp2_with fail
                    go_roundg (gk - 1)
                    case measure => omega
                    case rel => exact ⟨k + 1, by go_num, by omega, by omega, rfl⟩
                  · clear hrx
                    go_wp2_with fail
                    go_roundg (gk - 1)
                    case measure => omega
                    case rel => exact ⟨k + 1, by go_num, by omega, by omega, rfl⟩
                · clear hrx
                  go_wp2_with fail
                  go_roundg (gk - 1)
                  case measure => omega
                  case rel => exact ⟨k + 1, by go_num, by omega, by omega, rfl⟩
              · obtain rfl : k = nf := by omega
                clear hlt hk hf i5
                obtain ⟨w7, rfl⟩ : ∃ x, x = wr := ⟨_, rfl⟩
                obtain ⟨g7, rfl⟩ : ∃ x, x = gk := ⟨_, rfl⟩
                obtain ⟨nf, rfl⟩ : ∃ x, x = k := ⟨_, rfl⟩
                obtain ⟨h, hh⟩ : ∃ h, h = nf / 2 := ⟨_, rfl⟩
                have HH : Hid (h ≤ nf) := Lib.hid (by omega)
                have HTK := Lib.hid fun (W : World) (hb : Below w.heap.size w W) => SlD.take (IntsD.below HFD.out hb) h fc HH.out (Nat.le_trans HH.out (by have := HFC.out; omega)) (Nat.le_refl _)
                have i1 : (0 : Int) ≤ (h : Int) := by omega
                have i2 : (h : Int) ≤ (fc : Int) := by have := HFC.out; have := HH.out; omega
                have c0 := KX.out.cell 0
                have c1 := KX.out.cell 1
                have c2 := KX.out.cell 2
                have lk := KX.out.lt
                have hq : IntKind.i64.wrap ((nf : Int) / 2) = (h : Int) := by rw [show (nf : Int) / 2 = (h : Int) by omega]; exact IntWalk.i64_in _ (by have := HNS.out; omega)
                clear hh
                go_wp2_with fail
                have BXD := Lib.hid (BX.out.drew)
                have HRC := Lib.hid (HRE.out _ BXD.out HS.out (F.take h) _ (HTK.out _ BXD.out) (by rw [List.length_take]; have := HNS.out; have := HNF.out; omega))
                clear HTK
                go_region_law (go_simp; go_at_call 27; (refine Calls.mono HRC.out ?_); rintro e w8 ⟨v2, r2, rfl, rd2, rz2, b2⟩; obtain ⟨sa, sc, rfl⟩ := SlD.sh rd2; have RD2 := Lib.hid rd2; have RZ2 := Lib.hid (rz2.1 HQ2.out); have B2 := Lib.hid b2)
                replace RD := Lib.hid (TrusD.below RD.out ((below_draws' _).trans B2.out))
                replace KX := Lib.hid (KX.out.below ((below_draws' _).trans B2.out))
                replace BX := Lib.hid (BXD.out.trans (B2.out.mono BXD.out.size))
                rw [show r2.length = N by rw [RZ2.out.1, HN.out]] at RD2
                rw [show r2.length = N by rw [RZ2.out.1, HN.out]]
                clear rd2 rz2 b2 BXD HRC c0 c1 c2 lk i1 i2 hq B2
                go_wp2_with fail
                go_loopg [11] N (fun fuel i' wr => ∃ (k : Nat), i' = .int .i64 k ∧ k ≤ N ∧ N - k ≤ fuel ∧ wr = w8)
                case atStart => exact ⟨0, rfl, Nat.zero_le _, Nat.le_refl _, rfl⟩
                case round =>
                  obtain ⟨k, rfl, hk, hf, rfl⟩ := hrel
                  have i5 : IntKind.i64.wrap ((k : Int) + 1) = (k : Int) + 1 := IntWalk.i64_in _ (by have := HN80.out; omega)
                  by_cases hlt : k < N
                  · have hk1 : k < r.length := by rw [RZ.out.1, ← HN.out]; exact hlt
                    have hk2 : k < r2.length := by rw [RZ2.out.1, ← HN.out]; exact hlt
                    have HST : Hid (r2[k] = true → r[k] = true) := Lib.hid (fun hb => by
                      have h1 := (RZ2.out.2 k (by rw [← HN.out]; exact hlt)).1 (by rw [List.getElem?_eq_getElem hk2, hb])
                      have h2 := (RZ.out.2 k (by rw [← HN.out]; exact hlt)).2 (rch_more (fun x hx => List.mem_of_mem_take hx) h1)
                      rw [List.getElem?_eq_getElem hk1] at h2
                      exact Option.some.inj h2)
                    obtain ⟨rb, ro, rfl, rbl, y0⟩ := TrusD.at2 RD.out k hk1
                    obtain ⟨sb, so, rfl, sbl, y1⟩ := TrusD.at2 RD2.out k hk2
                    generalize r[k] = bf at y0 HST
                    generalize r2[k] = bt at y1 HST
                    have i1 : (0 : Int) ≤ (k : Int) := by omega
                    have i2 : (k : Int) < (N : Int) := by omega
                    clear hk1 hk2
                    cases bt with
                    | false =>
                      go_wp2_with fail
                      go_roundg (gk - 1)
                      case measure => omega
                      case rel => exact ⟨k + 1, by go_num, by omega, by omega, rfl⟩
                    | true =>
                      have hbt := HST.out rfl
                      subst hbt
                      go_wp2_with fail
                      go_roundg (gk - 1)
                      case measure => omega
                      case rel => exact ⟨k + 1, by go_num, by omega, by omega, rfl⟩
                  · obtain rfl : k = N := by omega
                    clear hlt hk hf i5
                    obtain ⟨w9, rfl⟩ : ∃ x, x = wr := ⟨_, rfl⟩
                    obtain ⟨g9, rfl⟩ : ∃ x, x = gk := ⟨_, rfl⟩
                    obtain ⟨N, rfl⟩ : ∃ x, x = k := ⟨_, rfl⟩
                    have c0 := KX.out.cell 0
                    have c1 := KX.out.cell 1
                    have c2 := KX.out.cell 2
                    have lk := KX.out.lt
                    go_wp2_with fail
                    refine (HRE.out _ BX.out HS.out [] _ SlD.nil (by decide)).mono ?_
                    rintro e w10 ⟨v, r3, rfl, rd, rz, b3⟩
                    have RZ3 := Lib.hid (rz.1 HQ2.out)
                    obtain ⟨ta, tc, rfl⟩ := SlD.sh rd
                    have RD3 := Lib.hid rd
                    rw [show r3.length = N by rw [RZ3.out.1, HN.out]] at RD3
                    rw [show r3.length = N by rw [RZ3.out.1, HN.out]]
                    replace BX := Lib.hid (BX.out.trans (b3.mono BX.out.size))
                    clear rd rz b3 c0 c1 c2 lk HRE
                    go_wp2_with fail
                    go_loopg [13] N (fun fuel i' wr => ∃ (k : Nat), i' = .int .i64 k ∧ k ≤ N ∧ N - k ≤ fuel ∧ wr = w10)
                    case atStart => exact ⟨0, rfl, Nat.zero_le _, Nat.le_refl _, rfl⟩
                    case round =>
                      obtain ⟨k, rfl, hk, hf, rfl⟩ := hrel
                      have i5 : IntKind.i64.wrap ((k : Int) + 1) = (k : Int) + 1 := IntWalk.i64_in _ (by have := HN80.out; omega)
                      by_cases hlt : k < N
                      · have hk1 : k < r3.length := by rw [RZ3.out.1, ← HN.out]; exact hlt
                        have hno : r3[k] = false := by
                          rw [Bool.eq_false_iff]
                          intro hb
                          have h1 := (RZ3.out.2 k (by rw [← HN.out]; exact hlt)).1 (by rw [List.getElem?_eq_getElem hk1, hb])
                          exact rch_nil h1
                        obtain ⟨rb, ro, rfl, rbl, y0⟩ := TrusD.at2 RD3.out k hk1
                        rw [hno] at y0
                        have i1 : (0 : Int) ≤ (k : Int) := by omega
                        have i2 : (k : Int) < (N : Int) := by omega
                        clear hk1 hno
                        go_wp2_with fail
                        go_roundg (gk - 1)
                        case measure => omega
                        case rel => exact ⟨k + 1, by go_num, by omega, by omega, rfl⟩
                      · clear hk hf i5
                        have hlt2 : ¬ (k : Int) < (N : Int) := by omega
                        go_wp2_with fail
                        refine (known_any _).mono ?_
                        rintro e w11 ⟨rfl, b11⟩
                        replace BX := Lib.hid (BX.out.trans (b11.mono BX.out.size))
                        clear b11
                        go_wp2_with fail
                        go_ret
                        exact ⟨rfl, BX.out⟩

end Go.Proofs.Ytklejedddkhfjaa
