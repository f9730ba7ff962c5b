/- Layer 14's law: EdgesParts' walk. -/
import Derived.Test.YtklejedddkhfjaaNu
namespace Go.Proofs.Ytklejedddkhfjaa
set_option linter.unusedSimpArgs false
set_option linter.unusedVariables false
open Go.RowKit

theorem light_sz {g : Gr} (h : lightG g = true) : g.st.length ≤ 80 ∧ g.to.length ≤ 400 ∧ g.ag.length ≤ 400 := by
  unfold lightG at h
  simp only [Bool.and_eq_true, decide_eq_true_eq] at h
  exact h
theorem up_append (g : Gr) (k : Nat) : upL g k ++ outL g k = upL g (k + 1) := (upL_succ g k).symm
theorem outZ_of {g : Gr} (h : rightG g = true) (k : Nat) (hk : k < numN g) : outZ g (k : Int) = outL g k := if_pos ⟨h, by omega, by omega⟩
theorem cnt_step (l : List Edg) (p : Edg → Bool) (k : Nat) (h : k < l.length) : (l.take (k + 1)).countP p = (l.take k).countP p + if p l[k] = true then 1 else 0 := by
  rw [List.take_add_one, List.getElem?_eq_getElem h, List.countP_append]
  congr 1
  simp [List.countP_cons]

set_option maxRecDepth 100000 in
set_option maxHeartbeats 8000000 in
theorem parts_in (g : Gr) (vs va vt : Value) (w : World) (hd : GrD w vs va vt g) :
    Calls Try.prog 7 #[.agg #[vs, va, vt]] w fun e w' => e = .returned (.bool true) ∧ Below w.heap.size w w' := by
  obtain ⟨q, hq⟩ : ∃ q, lightG g = q := ⟨_, rfl⟩
  obtain ⟨q2, hq2⟩ : ∃ q, rightG g = q := ⟨_, rfl⟩
  have HLI := Lib.hid fun (W : World) (h : Below w.heap.size w W) => light14_any g vs va vt W (hd.below h) q hq
  have HSZ : Hid (q = true → g.st.length ≤ 80 ∧ g.to.length ≤ 400 ∧ g.ag.length ≤ 400) := Lib.hid (fun h => light_sz (hq.trans h))
  have HRI := Lib.hid fun (W : World) (h : Below w.heap.size w W) (hs : g.st.length ≤ 80 ∧ g.to.length ≤ 400 ∧ g.ag.length ≤ 400) => right14_any g vs va vt W (hd.below h) ⟨by omega, by omega, by omega⟩ q2 hq2
  have HQ2 := Lib.hid hq2
  have HAL := Lib.hid fun (W : World) (h : Below w.heap.size w W) (hs : g.st.length ≤ 80 ∧ g.to.length ≤ 400 ∧ g.ag.length ≤ 400) => all_any g vs va vt W (hd.below h) ⟨by omega, by omega, by omega⟩
  have HBK := Lib.hid fun (W : World) (h : Below w.heap.size w W) (hs : g.st.length ≤ 80 ∧ g.to.length ≤ 400 ∧ g.ag.length ≤ 400) => back_any g vs va vt W (hd.below h) ⟨by omega, by omega, by omega⟩
  have HND := Lib.hid fun (W : World) (h : Below w.heap.size w W) (hs : g.st.length ≤ 80 ∧ g.to.length ≤ 400 ∧ g.ag.length ≤ 400) => nodes_any g vs va vt W (hd.below h) ⟨by omega, by omega, by omega⟩
  have HOU := Lib.hid fun (W : World) (h : Below w.heap.size w W) (hs : g.st.length ≤ 80 ∧ g.to.length ≤ 400 ∧ g.ag.length ≤ 400) (i : Int) => out_any g vs va vt W (hd.below h) ⟨by omega, by omega, by omega⟩ i
  obtain ⟨z1, n1, y1, z2, n2, y2, z3, n3, y3, rfl, rfl, rfl⟩ := hd.sh
  clear hd hq hq2
  have BX := Lib.hid (bal (Below.refl w.heap.size w) (.cells #[.slice z1 n1 y1, .slice z2 n2 y2, .slice z3 n3 y3] 26))
  have KX := Lib.hid (Bk.new w 26 #[.slice z1 n1 y1, .slice z2 n2 y2, .slice z3 n3 y3])
  go_enter Try.func7, Try.ntmps7
  go_wp2_with fail
  generalize World.alloc w _ = w0 at BX KX ⊢
  refine (HLI.out _ BX.out).mono ?_
  rintro e w1 ⟨rfl, b1⟩
  replace BX := Lib.hid (BX.out.trans (b1.mono BX.out.size))
  replace KX := Lib.hid (KX.out.below b1)
  clear b1 HLI
  cases q with
  | false =>
    go_wp2_with fail
    refine (known_any _).mono ?_
    rintro e w2 ⟨rfl, b2⟩
    replace BX := Lib.hid (BX.out.trans (b2.mono BX.out.size))
    clear b2
    go_wp2_with fail
    go_ret
    exact ⟨rfl, BX.out⟩
  | true =>
    have HS := Lib.hid (HSZ.out rfl)
    clear HSZ
    have c0 := KX.out.cell 0
    have c1 := KX.out.cell 1
    have c2 := KX.out.cell 2
    have lk := KX.out.lt
    go_wp2_with fail
    refine (HRI.out _ BX.out HS.out).mono ?_
    rintro e w2 ⟨rfl, b2⟩
    replace BX := Lib.hid (BX.out.trans (b2.mono BX.out.size))
    replace KX := Lib.hid (KX.out.below b2)
    clear b2 c0 c1 c2 lk HRI
    cases q2 with
    | false =>
      go_wp2_with fail
      refine (known_any _).mono ?_
      rintro e w3 ⟨rfl, b3⟩
      replace BX := Lib.hid (BX.out.trans (b3.mono BX.out.size))
      clear b3
      go_wp2_with fail
      go_ret
      exact ⟨rfl, BX.out⟩
    | true =>
      have HG := Lib.hid (right_RG g HQ2.out)
      have c0 := KX.out.cell 0
      have c1 := KX.out.cell 1
      have c2 := KX.out.cell 2
      have lk := KX.out.lt
      go_wp2_with fail
      refine (HAL.out _ BX.out HS.out).mono ?_
      rintro e w3 ⟨v, rfl, va, b3⟩
      rw [show allZ g = allL g from if_pos HQ2.out] at va
      obtain ⟨la, lc, rfl⟩ := SlD.sh va
      have HV := Lib.hid va
      replace BX := Lib.hid (BX.out.trans (b3.mono BX.out.size))
      replace KX := Lib.hid (KX.out.below b3)
      obtain ⟨M, hM⟩ : ∃ M, M = (allL g).length := ⟨_, rfl⟩
      rw [← hM] at HV ⊢
      have HM := Lib.hid hM
      have HMS : Hid (M ≤ 400 ∧ numN g ≤ 80) := Lib.hid (by rw [hM, HG.out.allLen]; have := HS.out; unfold numN; omega)
      clear va b3 c0 c1 c2 lk HAL hM
      have c0 := KX.out.cell 0
      have c1 := KX.out.cell 1
      have c2 := KX.out.cell 2
      have lk := KX.out.lt
      go_wp2_with fail
      refine (HBK.out _ BX.out HS.out).mono ?_
      rintro e w4 ⟨us, ua, ut, rfl, gd, b4⟩
      rw [show backZ g = backG g from if_pos HQ2.out] at gd
      obtain ⟨f1, fn1, fc1, f2, fn2, fc2, f3, fn3, fc3, rfl, rfl, rfl⟩ := gd.sh
      have bb := (Below.refl w4.heap.size w4).alloc (Nat.le_refl _) (.cells #[.slice f1 fn1 fc1, .slice f2 fn2 fc2, .slice f3 fn3 fc3] 26)
      have DB := Lib.hid (gd.below bb)
      replace HV := Lib.hid (EdgsD.below (EdgsD.below HV.out b4) bb)
      replace BX := Lib.hid ((BX.out.trans (b4.mono BX.out.size)).trans (bb.mono (by have := BX.out.size; have := b4.size; omega)))
      replace KX := Lib.hid ((KX.out.below b4).below bb)
      have KB := Lib.hid (Bk.new w4 26 #[.slice f1 fn1 fc1, .slice f2 fn2 fc2, .slice f3 fn3 fc3])
      clear gd b4 bb c0 c1 c2 lk HBK
      go_upto_region 6 with fail
      obtain ⟨gb, hgb⟩ : ∃ x, x = w4.heap.size := ⟨_, rfl⟩
      rw [← hgb] at KB ⊢
      generalize World.alloc w4 _ = w5 at DB HV BX KX KB ⊢
      clear hgb
      have HRB := Lib.hid HG.out.back
      have HBN : Hid (numN (backG g) = numN g) := Lib.hid (bld_num _ _)
      have HBL : Hid ((backG g).st.length ≤ 1001 ∧ (backG g).to.length ≤ 1000 ∧ (backG g).ag.length ≤ 1000) := Lib.hid (by
        have h1 := HG.out.backAll
        rw [HRB.out.allLen] at h1
        have h2 := HRB.out.alen
        have h3 := HBN.out
        have h4 := HMS.out
        have h5 := HM.out
        unfold numN at h3 h4
        omega)
      have HBR : Hid (rightG (backG g) = true) := Lib.hid (RG_right _ HRB.out)
      have HN : Hid ((if rightG g = true then numN g else 0) = numN g) := Lib.hid (if_pos HQ2.out)
      go_wp2_with fail
      go_loopg [3, 6] (numN g) (fun fuel s3 i' wr => ∃ (k : Nat), i' = .int .i64 k ∧ k ≤ numN g ∧ numN g - k ≤ fuel ∧ wr.ownsRow w5.heap.size 44 3 s3 (upL g k).length (rowG (upL g k)) ∧ Below w5.heap.size w5 wr)
      case atStart => exact ⟨0, rfl, Nat.zero_le _, Nat.le_refl _, ownE_nil _ _, Below.refl _ _⟩
      case round =>
        obtain ⟨k, rfl, hk, hf, ho, hb⟩ := hrel
        have HW := Lib.hid ho
        have HB := Lib.hid hb
        have BW := Lib.hid (BX.out.trans (hb.mono BX.out.size))
        have KW := Lib.hid (KX.out.below hb)
        have c0 := KW.out.cell 0
        have c1 := KW.out.cell 1
        have c2 := KW.out.cell 2
        have lk := KW.out.lt
        clear ho hb
        go_wp2_with fail
        refine (HND.out _ BW.out HS.out _ HN.out).mono ?_
        rintro e w6 ⟨rfl, b6⟩
        replace HW := Lib.hid (own_below HW.out b6)
        replace HB := Lib.hid (HB.out.trans (b6.mono HB.out.size))
        replace BW := Lib.hid (BW.out.trans (b6.mono BW.out.size))
        clear b6 c0 c1 c2 lk KW
        have HKN := Lib.hid hk
        have HF := Lib.hid hf
        have i5 : IntKind.i64.wrap ((k : Int) + 1) = (k : Int) + 1 := IntWalk.i64_in _ (by have := HMS.out; omega)
        by_cases hlt : k < numN g
        · have HLT := Lib.hid hlt
          have HO : Hid (outZ g (k : Int) = outL g k) := Lib.hid (outZ_of HQ2.out k hlt)
          have KW2 := Lib.hid (KX.out.below HB.out)
          have c0 := KW2.out.cell 0
          have c1 := KW2.out.cell 1
          have c2 := KW2.out.cell 2
          have lk := KW2.out.lt
          clear hk hf
          go_wp2_with fail
          refine (HOU.out _ BW.out HS.out k).mono ?_
          rintro e w7 ⟨v, rfl, vd, b7⟩
          rw [HO.out] at vd
          obtain ⟨oa, oc, rfl⟩ := SlD.sh vd
          have HV7 := Lib.hid vd
          replace HW := Lib.hid (own_below HW.out b7)
          replace HB := Lib.hid (HB.out.trans (b7.mono HB.out.size))
          replace BW := Lib.hid (BW.out.trans (b7.mono BW.out.size))
          have HSZ7 : Hid (w5.heap.size ≤ w7.heap.size) := Lib.hid HB.out.size
          have HUP := Lib.hid (up_append g k)
          have HNL : Hid ((upL g k).length + (outL g k).length ≤ 1000000) := Lib.hid (by
            rw [← List.length_append, HUP.out, HG.out.upLen (k + 1) hlt]
            have h1 := HG.out.le (k + 1) hlt
            have h2 := HS.out
            omega)
          obtain ⟨ol, hol⟩ : ∃ x, x = (outL g k).length := ⟨_, rfl⟩
          rw [← hol] at HV7 ⊢
          clear vd b7 c0 c1 c2 lk KW2 hol
          go_wp2_with (at_builtin; refine append_edgs rfl (.tmp 28) (.tmp 31) rfl w5.heap.size _ (upL g k) (outL g k) rfl oa ol oc rfl HW.out HV7.out HNL.out HSZ7.out _ HUP.out ?_)
          intro v8 w8 O8 B8
          have HB8 := Lib.hid (HB.out.trans B8.out)
          have BW8 := Lib.hid (BX.out.trans (HB8.out.mono BX.out.size))
          have HV8 := Lib.hid (EdgsD.below HV.out HB8.out)
          clear HW HB BW HV7 HNL HSZ7 B8
          go_wp2_with fail
          obtain ⟨g5, rfl⟩ : ∃ x, x = gk := ⟨_, rfl⟩
          obtain ⟨w8', rfl⟩ : ∃ x, x = w8 := ⟨_, rfl⟩
          obtain ⟨k0, rfl⟩ : ∃ x, x = k := ⟨_, rfl⟩
          obtain ⟨wr0, hwr0⟩ : ∃ x, x = wr := ⟨_, rfl⟩
          clear hwr0 wr0
          go_loopg [7, 8] M (fun fuel s7 i' wr => ∃ (k : Nat), i' = .int .i64 k ∧ s7 = .int .i64 (((allL g).take k).countP (fun e => e.2.2 == (k0 : Int)) : Nat) ∧ k ≤ M ∧ M - k ≤ fuel ∧ wr = w8')
          case atStart => exact ⟨0, rfl, rfl, Nat.zero_le _, Nat.le_refl _, rfl⟩
          case round =>
            obtain ⟨k, rfl, rfl, hk, hf, rfl⟩ := hrel
            have i6 : IntKind.i64.wrap ((k : Int) + 1) = (k : Int) + 1 := IntWalk.i64_in _ (by have := HMS.out; omega)
            have HCL : Hid (((allL g).take k).countP (fun e => e.2.2 == (k0 : Int)) ≤ M) := Lib.hid (by have h1 : ((allL g).take k).countP (fun e => e.2.2 == (k0 : Int)) ≤ ((allL g).take k).length := List.countP_le_length; rw [List.length_take] at h1; have := HM.out; omega)
            by_cases hlt : k < M
            · have hk1 : k < (allL g).length := by rw [← HM.out]; exact hlt
              have HCS := Lib.hid (cnt_step (allL g) (fun e => e.2.2 == (k0 : Int)) k hk1)
              obtain ⟨b, off, rfl, hbl, x0, x1, x2⟩ := EdgsD.at2 HV8.out k hk1
              obtain ⟨⟨ef, ea, et⟩, hE⟩ : ∃ e, e = (allL g)[k] := ⟨_, rfl⟩
              rw [← hE] at x0 x1 x2 HCS
              obtain ⟨c, hc⟩ : ∃ c, c = ((allL g).take k).countP (fun e => e.2.2 == (k0 : Int)) := ⟨_, rfl⟩
              rw [← hc] at HCS HCL ⊢
              have i1 : (0 : Int) ≤ (k : Int) := by omega
              have i2 : (k : Int) < (M : Int) := by omega
              have i7 : IntKind.i64.wrap ((c : Int) + 1) = (c : Int) + 1 := IntWalk.i64_in _ (by have := HMS.out; have := HCL.out; omega)
              clear hk1 hE hc
              by_cases hq : et = (k0 : Int)
              · have qq : (et == (k0 : Int)) = true := by simpa using hq
                have HC1 : Hid (((allL g).take (k + 1)).countP (fun e => e.2.2 == (k0 : Int)) = c + 1) := Lib.hid (by rw [HCS.out]; simp only [qq, if_true])
                clear hq
                go_wp2_with fail
                go_roundg (gk - 1)
                case measure => omega
                case rel => exact ⟨k + 1, by go_num, by rw [HC1.out]; go_num, by omega, by omega, rfl⟩
              · have qq : (et == (k0 : Int)) = false := by simpa using hq
                have HC1 : Hid (((allL g).take (k + 1)).countP (fun e => e.2.2 == (k0 : Int)) = c) := Lib.hid (by rw [HCS.out]; simp [qq])
                clear hq
                go_wp2_with fail
                go_roundg (gk - 1)
                case measure => omega
                case rel => exact ⟨k + 1, by go_num, by rw [HC1.out], by omega, by omega, rfl⟩
            · obtain rfl : k = M := by omega
              have HC0 : Hid (((allL g).take k).countP (fun e => e.2.2 == (k0 : Int)) = (outZ (backG g) (k0 : Int)).length) := Lib.hid (by rw [outZ_of HBR.out k0 (by rw [HBN.out]; exact HLT.out), RG.backOut k0 HLT.out, HM.out, List.take_length])
              rw [HC0.out]
              have KB8 := Lib.hid (KB.out.below HB8.out)
              have c0 := KB8.out.cell 0
              have c1 := KB8.out.cell 1
              have c2 := KB8.out.cell 2
              have lk := KB8.out.lt
              have HOB := Lib.hid (out_any (backG g) _ _ _ _ (DB.out.below HB8.out) HBL.out (k0 : Int))
              obtain ⟨L, hL⟩ : ∃ L, L = (outZ (backG g) (k0 : Int)).length := ⟨_, rfl⟩
              have HLE := Lib.hid hL
              rw [← hL]
              have qL : ((L : Int) != (L : Int)) = false := by simp
              clear hL hlt hk hf HC0 HCL
              go_wp2_with fail
              refine HOB.out.mono ?_
              rintro e w9 ⟨v, rfl, vd, b9⟩
              obtain ⟨oa2, oc2, rfl⟩ := SlD.sh vd
              rw [← HLE.out]
              have O9 := Lib.hid (own_below O8.out b9)
              have HB9 := Lib.hid (HB8.out.trans (b9.mono HB8.out.size))
              clear vd b9 c0 c1 c2 lk
              go_wp2_with fail
              have hf := HF.out
              have hlt := HLT.out
              go_roundg (g5 - 1)
              case measure => omega
              case rel => exact ⟨k0 + 1, by go_num, by omega, by omega, O9.out, HB9.out⟩
        · obtain rfl : k = numN g := by have := HKN.out; omega
          have HV6 := Lib.hid (EdgsD.below HV.out HB.out)
          have HOE := Lib.hid (edgsD_of_own HW.out)
          have HEQ : Hid (upL g (numN g) = allL g) := Lib.hid rfl
          obtain ⟨sa, sc, rfl⟩ := SlD.sh HOE.out
          rw [HEQ.out] at HOE ⊢
          rw [← HM.out] at HOE ⊢
          have KB6 := Lib.hid (KB.out.below HB.out)
          have DB6 := Lib.hid (DB.out.below HB.out)
          clear hlt hk hf HW HOU HND
          go_wp2_with fail
          refine (edges_gen _ _ _ _ _ HOE.out HV6.out (by rw [← HM.out]; have := HMS.out; omega) true (by simp)).mono ?_
          rintro e w7 ⟨rfl, b7⟩
          replace KB6 := Lib.hid (KB6.out.below b7)
          replace DB6 := Lib.hid (DB6.out.below b7)
          replace BW := Lib.hid (BW.out.trans (b7.mono BW.out.size))
          have c0 := KB6.out.cell 0
          have c1 := KB6.out.cell 1
          have c2 := KB6.out.cell 2
          have lk := KB6.out.lt
          clear b7 HOE HV6
          go_wp2_with fail
          refine (all_any (backG g) _ _ _ _ DB6.out HBL.out).mono ?_
          rintro e w8 ⟨v, rfl, vd, b8⟩
          obtain ⟨oa2, oc2, rfl⟩ := SlD.sh vd
          replace BW := Lib.hid (BW.out.trans (b8.mono BW.out.size))
          rw [show (allZ (backG g)).length = M by rw [show allZ (backG g) = allL (backG g) from if_pos HBR.out, HG.out.backAll, HM.out]]
          have qM : ((M : Int) == (M : Int)) = true := by simp
          clear vd b8 c0 c1 c2 lk
          go_wp2_with fail
          refine (known_any _).mono ?_
          rintro e w9 ⟨rfl, b9⟩
          replace BW := Lib.hid (BW.out.trans (b9.mono BW.out.size))
          clear b9
          go_wp2_with fail
          go_ret
          exact ⟨rfl, BW.out⟩

end Go.Proofs.Ytklejedddkhfjaa
