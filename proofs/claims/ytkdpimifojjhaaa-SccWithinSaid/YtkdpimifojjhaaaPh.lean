/- Layer 14, the reference: Reach. -/
import Derived.Test.YtkdpimifojjhaaaPe
import Derived.Test.YtkdpimifojjhaaaNr
namespace Go.Proofs.Ytkdpimifojjhaaa
set_option linter.unusedSimpArgs false
set_option linter.unusedVariables false
open Go.RowKit

/-- What is marked can be reached. -/
structure Snd (g : Gr) (F F' : List Int) (R : List Bool) : Prop where
  len : R.length = numN g
  snd : ∀ i : Nat, R[i]? = some true → Rch (allL g) F (numN g) i
  frm : ∀ x ∈ F', 0 ≤ x → x < (numN g : Int) → R[x.toNat]? = some true
theorem set_true {R : List Bool} {k i : Nat} (h : (R.set k true)[i]? = some true) : R[i]? = some true ∨ (i = k ∧ k < R.length) := by
  rw [List.getElem?_set] at h
  by_cases he : k = i
  · rw [if_pos he] at h
    by_cases hl : k < R.length
    · exact .inr ⟨he.symm, hl⟩
    · rw [if_neg hl] at h; cases h
  · rw [if_neg he] at h; exact .inl h
theorem true_set {R : List Bool} {k i : Nat} (h : R[i]? = some true) : (R.set k true)[i]? = some true := by
  rw [List.getElem?_set]
  by_cases he : k = i
  · rw [if_pos he, if_pos (by rw [he]; exact (List.getElem?_eq_some_iff.1 h).1)]
  · rw [if_neg he]; exact h
theorem Snd.start (g : Gr) (F : List Int) : Snd g F [] (List.replicate (numN g) false) :=
  ⟨List.length_replicate, fun i h => by rw [List.getElem?_replicate] at h; split at h <;> simp at h, fun x hx => (by cases hx)⟩
theorem Snd.skip {g : Gr} {F : List Int} {R : List Bool} {k : Nat} (s : Snd g F (F.take k) R) (hk : k < F.length) (h : ¬ (0 ≤ F[k] ∧ F[k] < (numN g : Int))) : Snd g F (F.take (k + 1)) R :=
  ⟨s.len, s.snd, fun x hx h0 h1 => by
    rcases (take_mem hk).1 hx with hx | rfl
    · exact s.frm x hx h0 h1
    · exact absurd ⟨h0, h1⟩ h⟩
theorem Snd.mark {g : Gr} {F : List Int} {R : List Bool} {k : Nat} (s : Snd g F (F.take k) R) (hk : k < F.length) (h0 : 0 ≤ F[k]) (h1 : F[k] < (numN g : Int)) : Snd g F (F.take (k + 1)) (R.set F[k].toNat true) := by
  refine ⟨by rw [List.length_set]; exact s.len, fun i hi => ?_, fun x hx g0 g1 => ?_⟩
  · rcases set_true hi with h | ⟨h, _⟩
    · exact s.snd i h
    · rw [h, show ((F[k].toNat : Nat) : Int) = F[k] by omega]
      exact .base _ (List.getElem_mem hk) h0 h1
  · rcases (take_mem hk).1 hx with hx | rfl
    · exact true_set (s.frm x hx g0 g1)
    · rw [List.getElem?_set_self (by rw [s.len]; omega)]
theorem Snd.go {g : Gr} {F : List Int} {R : List Bool} {e : Edg} (hg : RG g) (s : Snd g F F R) (he : e ∈ allL g) (h : R[e.1.toNat]? = some true) : Snd g F F (R.set e.2.2.toNat true) := by
  have hok := of_decide_eq_true (hg.mem he)
  refine ⟨by rw [List.length_set]; exact s.len, fun i hi => ?_, fun x hx g0 g1 => true_set (s.frm x hx g0 g1)⟩
  rcases set_true hi with h2 | ⟨h2, _⟩
  · exact s.snd i h2
  · rw [h2, show ((e.2.2.toNat : Nat) : Int) = e.2.2 by have := hok.2.1.1; omega]
    refine .step e he ?_
    have := s.snd _ h
    rwa [show ((e.1.toNat : Nat) : Int) = e.1 by have := hok.1.1; omega] at this
theorem Snd.fin {g : Gr} {F : List Int} {R : List Bool} (hg : RG g) (s : Snd g F F R) (hc : ∀ e ∈ allL g, R[e.1.toNat]? = some true → R[e.2.2.toNat]? = some true) : IsR (allL g) F (numN g) R :=
  isR_of hg.allOk s.len s.snd s.frm hc

set_option maxRecDepth 100000 in
set_option maxHeartbeats 8000000 in
theorem rreach_any (g : Gr) (F : List Int) (vs va vt vf : Value) (w : World) (hd : GrD w vs va vt g) (hfd : IntsD w vf F) (hn : g.st.length ≤ 1001 ∧ g.to.length ≤ 1000) (hF : F.length ≤ 1000) :
    Calls Try.prog 23 #[.agg #[vs, va, vt], vf] w fun e w' => ∃ v r, e = .returned v ∧ TrusD w' v r ∧ ReachZ g F r ∧ Below w.heap.size w w' := by
  obtain ⟨q, hq⟩ : ∃ q, rightG g = q := ⟨_, rfl⟩
  have HRI := Lib.hid fun (W : World) (h : Below w.heap.size w W) => rright14_any g vs va vt W (hd.below h) hn q hq
  have HAL := Lib.hid fun (W : World) (h : Below w.heap.size w W) => rall_any g vs va vt W (hd.below h) hn
  obtain ⟨N, hN⟩ : ∃ b, (if rightG g = true then numN g else 0) = b := ⟨_, rfl⟩
  have HND := Lib.hid fun (W : World) (h : Below w.heap.size w W) => rnodes_any g vs va vt W (hd.below h) hn N hN
  have HQ := Lib.hid hq
  have HFD := Lib.hid hfd
  have HNQ := Lib.hid hN
  have HSZ : Hid (g.st.length ≤ 1001 ∧ g.to.length ≤ 1000 ∧ F.length ≤ 1000) := Lib.hid ⟨hn.1, hn.2, hF⟩
  obtain ⟨z1, n1, y1, z2, n2, y2, z3, n3, y3, rfl, rfl, rfl⟩ := hd.sh
  obtain ⟨fa, fc, rfl⟩ := hfd.shape0
  obtain ⟨nf, hnf⟩ : ∃ x, x = F.length := ⟨_, rfl⟩
  rw [← hnf] at HFD ⊢
  have HNF := Lib.hid hnf
  clear hd hn hq hfd hF hnf hN
  have BX := Lib.hid (bal (Below.refl w.heap.size w) (.cells #[.slice z1 n1 y1, .slice z2 n2 y2, .slice z3 n3 y3] 24))
  have KX := Lib.hid (Bk.new w 24 #[.slice z1 n1 y1, .slice z2 n2 y2, .slice z3 n3 y3])
  go_enter Try.func23, Try.ntmps23
  go_wp2_with fail
  generalize (w.alloc _) = w0 at BX KX ⊢
  refine (HND.out _ BX.out).mono ?_
  rintro e w1 ⟨rfl, b1⟩
  replace BX := Lib.hid (BX.out.trans (b1.mono BX.out.size))
  replace KX := Lib.hid (KX.out.below b1)
  clear b1 HND
  have c0 := KX.out.cell 0
  have c1 := KX.out.cell 1
  have c2 := KX.out.cell 2
  have lw := KX.out.lt
  go_wp2_with fail
  refine (HRI.out _ BX.out).mono ?_
  rintro e w2 ⟨rfl, b2⟩
  replace BX := Lib.hid (BX.out.trans (b2.mono BX.out.size))
  replace KX := Lib.hid (KX.out.below b2)
  clear b2 HRI c0 c1 c2 lw
  cases q with
  | false =>
    go_wp2_with fail
    go_ret
    exact ⟨_, [], rfl, SlD.nil, ⟨fun h => (by rw [HQ.out] at h; cases h), fun _ => rfl⟩, BX.out⟩
  | true =>
    have HG := Lib.hid (right_RG g HQ.out)
    have HNU : Hid (N = numN g ∧ N ≤ 1000) := Lib.hid (by have h := HNQ.out; rw [if_pos HQ.out] at h; refine ⟨h.symm, ?_⟩; rw [← h]; have := HSZ.out; unfold numN; omega)
    have hn6 : N ≤ 1000000 := by have := HNU.out; omega
    go_wp2_with (refine make_one rfl (.tmp 16) (.tmp 16) 32 4 (.bool false) 1 Try.underlying32 info_bool rfl (by decide) rfl N rfl rfl hn6 ?_)
    intro w3 Z HZ hz b3
    have HT0 := Lib.hid (bkT_new HZ.out hz.out)
    obtain ⟨gm, hgm⟩ : ∃ x, x = w2.heap.size := ⟨_, rfl⟩
    rw [← hgm] at HT0 ⊢
    have HGM : Hid (gm = w2.heap.size) := Lib.hid hgm
    have B3 := Lib.hid b3
    have HS0 : Hid (Snd g F (F.take 0) (List.replicate N false)) := Lib.hid (by rw [HNU.out.1, List.take_zero]; exact Snd.start g F)
    clear hz HZ b3 hgm hn6
    go_wp2_with fail
    go_loopg [7] nf (fun fuel i' wr => ∃ (k : Nat) (R : List Bool), i' = .int .i64 k ∧ k ≤ nf ∧ nf - k ≤ fuel ∧ BkT wr gm R ∧ Snd g F (F.take k) R ∧ Below w2.heap.size w2 wr)
    case atStart => exact ⟨0, _, rfl, Nat.zero_le _, Nat.le_refl _, HT0.out, HS0.out, B3.out⟩
    case round =>
      clear HT0 HS0 B3
      obtain ⟨k, R, rfl, hk, hf, ht, hs, hb⟩ := hrel
      have HT := Lib.hid ht
      have HS := Lib.hid hs
      have HB := Lib.hid hb
      have i5 : IntKind.i64.wrap ((k : Int) + 1) = (k : Int) + 1 := IntWalk.i64_in _ (by have := HSZ.out; have := HNF.out; omega)
      clear ht hs hb
      by_cases hlt : k < nf
      · have hk1 : k < F.length := by rw [← HNF.out]; exact hlt
        have HMK := Lib.hid (fun h0 h1 => HS.out.mark hk1 h0 h1)
        have HSK := Lib.hid (fun h => HS.out.skip hk1 h)
        obtain ⟨b, off, rfl, hbl, x0⟩ := IntsD.at2 (IntsD.below HFD.out (BX.out.trans (HB.out.mono BX.out.size))) k hk1
        generalize F[k] = x at x0 HMK HSK
        have i1 : (0 : Int) ≤ (k : Int) := by omega
        have i2 : (k : Int) < (nf : Int) := by omega
        clear hk1
        by_cases h0 : 0 ≤ x
        · by_cases h1 : x < (N : Int)
          · obtain ⟨j, rfl⟩ : ∃ j : Nat, x = (j : Int) := ⟨x.toNat, by omega⟩
            have HSN := Lib.hid (HMK.out h0 (by rw [← HNU.out.1]; exact h1))
            rw [Int.toNat_natCast] at HSN
            have hjr : j < R.length := by rw [HS.out.len, ← HNU.out.1]; omega
            have y0 := HT.out.at (List.getElem?_eq_getElem hjr)
            have f0 := HT.out.fz j
            have l0 := HT.out.lt
            have HTN := Lib.hid (HT.out.set j true)
            have HBN := Lib.hid (HB.out.setCell (p := ⟨gm, j, none⟩) (Nat.le_of_eq HGM.out.symm) (.bool true))
            generalize R[j] = rj at y0
            clear hjr
            go_wp2_with fail
            go_roundg (gk - 1)
            case measure => omega
            case rel => exact ⟨k + 1, _, by go_num, by omega, by omega, HTN.out, HSN.out, HBN.out⟩
          · have HSN := Lib.hid (HSK.out (fun h => by have := HNU.out; omega))
            go_wp2_with fail
            go_roundg (gk - 1)
            case measure => omega
            case rel => exact ⟨k + 1, _, by go_num, by omega, by omega, HT.out, HSN.out, HB.out⟩
        · have HSN := Lib.hid (HSK.out (fun h => h0 h.1))
          go_wp2_with fail
          go_roundg (gk - 1)
          case measure => omega
          case rel => exact ⟨k + 1, _, by go_num, by omega, by omega, HT.out, HSN.out, HB.out⟩
      · obtain rfl : k = nf := by omega
        have HS2 : Hid (Snd g F F R) := Lib.hid (by have h := HS.out; rw [HNF.out, List.take_length] at h; exact h)
        have BW := Lib.hid (BX.out.trans (HB.out.mono BX.out.size))
        have KW := Lib.hid (KX.out.below HB.out)
        have c0 := KW.out.cell 0
        have c1 := KW.out.cell 1
        have c2 := KW.out.cell 2
        have lw := KW.out.lt
        clear hlt hk hf i5 HS
        go_wp2_with fail
        refine (HAL.out _ BW.out).mono ?_
        rintro e w4 ⟨v, rfl, ho, b4⟩
        rw [show allZ g = allL g from if_pos HQ.out] at ho
        obtain ⟨la, lc, rfl, _⟩ := own_shape' ho
        have HE := Lib.hid (edgsD_of_own ho)
        have HT4 := Lib.hid (Bk.below HT.out b4)
        have HB4 := Lib.hid (HB.out.trans (b4.mono HB.out.size))
        have HLB : Hid (∀ W, Oth (fun x => x = gm) w4 W → EdgsD W (.slice la (allL g).length lc) (allL g)) := Lib.hid (fun W h => by
          exact edgsD_of_own (h.own ho (fun x hx h1 => by have h2 := (ho.lt x hx).1; have h3 := HT.out.lt; omega)))
        obtain ⟨M, hM⟩ : ∃ M, M = (allL g).length := ⟨_, rfl⟩
        rw [← hM] at HE HLB ⊢
        have HM := Lib.hid hM
        have HMS : Hid (M ≤ 1000) := Lib.hid (by rw [hM, HG.out.allLen]; have := HSZ.out; omega)
        clear ho b4 c0 c1 c2 lw hM
        have HCF : Hid (cf R ≤ N) := Lib.hid (by have h1 := cf_le R; rw [HS2.out.len, ← HNU.out.1] at h1; exact h1)
        go_wp2_with fail
        go_loopg [9, 10] (N + 2) (fun fuel s9 s10 wr => ∃ (R : List Bool) (mb : Bool), s9 = .bool mb ∧ (mb = true → cf R + 2 ≤ fuel) ∧ (mb = false → ∀ e ∈ allL g, R[e.1.toNat]? = some true → R[e.2.2.toNat]? = some true) ∧ BkT wr gm R ∧ Snd g F F R ∧ Oth (fun x => x = gm) w4 wr ∧ 1 ≤ fuel + 1)
        case atStart => exact ⟨R, true, rfl, (fun _ => by have := HCF.out; omega), (fun h => by cases h), HT4.out, HS2.out, Oth.refl _ _, by omega⟩
        case round =>
          clear HT4 HS2 HT HB HCF R
          obtain ⟨R, mb, rfl, hm1, hm2, ht, hs, ho, _⟩ := hrel
          have HT := Lib.hid ht
          have HS := Lib.hid hs
          have HO := Lib.hid ho
          clear ht hs ho
          cases mb with
          | false =>
            have HC := Lib.hid (hm2 rfl)
            have HRL : Hid (R.length = N) := Lib.hid (by rw [HS.out.len, HNU.out.1])
            clear hm1 hm2
            go_wp2_with fail
            go_ret
            exact ⟨_, R, rfl, BkT.trus HT.out HRL.out (by have := HNU.out; omega), ⟨fun _ => HS.out.fin HG.out HC.out, fun h => (by rw [HQ.out] at h; cases h)⟩, BX.out.trans ((HB4.out.trans (HO.out.below (fun x hx => by rw [hx]; exact Nat.le_of_eq HGM.out.symm) HB4.out.size)).mono BX.out.size)⟩
          | true =>
            have HF1 := Lib.hid (hm1 rfl)
            clear hm1 hm2
            go_wp2_with fail
            obtain ⟨w5, rfl⟩ : ∃ x, x = wr := ⟨_, rfl⟩
            obtain ⟨g5, rfl⟩ : ∃ x, x = gk := ⟨_, rfl⟩
            obtain ⟨R0, rfl⟩ : ∃ x, x = R := ⟨_, rfl⟩
            go_loopg [9, 10] M (fun fuel s9 s10 wr => ∃ (k : Nat) (R : List Bool) (mb : Bool), s10 = .int .i64 k ∧ s9 = .bool mb ∧ k ≤ M ∧ M - k ≤ fuel ∧ (mb = true → cf R < cf R0) ∧ (mb = false → R = R0 ∧ ∀ e ∈ (allL g).take k, R[e.1.toNat]? = some true → R[e.2.2.toNat]? = some true) ∧ BkT wr gm R ∧ Snd g F F R ∧ Oth (fun x => x = gm) w4 wr)
            case atStart => exact ⟨0, R0, false, rfl, rfl, Nat.zero_le _, Nat.le_refl _, (fun h => by cases h), (fun _ => ⟨rfl, fun e he => by rw [List.take_zero] at he; cases he⟩), HT.out, HS.out, HO.out⟩
            case round =>
              clear HT HS HO
              obtain ⟨k, R, mb, rfl, rfl, hk, hf, hm1, hm2, ht, hs, ho⟩ := hrel
              have HT := Lib.hid ht
              have HS := Lib.hid hs
              have HO := Lib.hid ho
              have HM1 := Lib.hid hm1
              have HM2 := Lib.hid hm2
              have i5 : IntKind.i64.wrap ((k : Int) + 1) = (k : Int) + 1 := IntWalk.i64_in _ (by have := HMS.out; omega)
              clear ht hs ho hm1 hm2
              by_cases hlt : k < M
              · have hk1 : k < (allL g).length := by rw [← HM.out]; exact hlt
                have hmem := List.getElem_mem hk1
                have hok := of_decide_eq_true (HG.out.mem hmem)
                have HGO := Lib.hid (fun h => HS.out.go HG.out hmem h)
                have HTK : Hid (∀ e, e ∈ (allL g).take (k + 1) ↔ e ∈ (allL g).take k ∨ e = (allL g)[k]) := Lib.hid (fun e => by
                  rw [List.take_add_one, List.getElem?_eq_getElem hk1, List.mem_append]
                  simp)
                obtain ⟨b, off, rfl, hbl, x0, x1, x2⟩ := EdgsD.at2 (HLB.out _ HO.out) k hk1
                obtain ⟨⟨ef, ea, et⟩, hE⟩ : ∃ e, e = (allL g)[k] := ⟨_, rfl⟩
                rw [← hE] at x0 x1 x2 hok HGO HTK
                obtain ⟨jf, rfl⟩ : ∃ j : Nat, ef = (j : Int) := ⟨ef.toNat, by have := hok.1.1; simp only [] at this; omega⟩
                obtain ⟨jt, rfl⟩ : ∃ j : Nat, et = (j : Int) := ⟨et.toNat, by have := hok.2.1.1; simp only [] at this; omega⟩
                have hjf : jf < R.length := by rw [HS.out.len]; have := hok.1.2; simp only [] at this; omega
                have hjt : jt < R.length := by rw [HS.out.len]; have := hok.2.1.2; simp only [] at this; omega
                simp only [Int.toNat_natCast] at HGO
                have y0 := HT.out.at (List.getElem?_eq_getElem hjf)
                have y1 := HT.out.at (List.getElem?_eq_getElem hjt)
                have f1 := HT.out.fz jt
                have l1 := HT.out.lt
                obtain ⟨bf, hbf⟩ : ∃ b, R[jf] = b := ⟨_, rfl⟩
                obtain ⟨bt, hbt⟩ : ∃ b, R[jt] = b := ⟨_, rfl⟩
                have HBF : Hid (R[jf]? = some bf) := Lib.hid (by rw [List.getElem?_eq_getElem hjf, hbf])
                have HBT : Hid (R[jt]? = some bt) := Lib.hid (by rw [List.getElem?_eq_getElem hjt, hbt])
                rw [hbf] at y0
                rw [hbt] at y1
                have i1 : (0 : Int) ≤ (k : Int) := by omega
                have i2 : (k : Int) < (M : Int) := by omega
                have j1 : (0 : Int) ≤ (jf : Int) := by omega
                have j2 : (jf : Int) < (N : Int) := by have := HS.out.len; have := HNU.out; omega
                have j3 : (0 : Int) ≤ (jt : Int) := by omega
                have j4 : (jt : Int) < (N : Int) := by have := HS.out.len; have := HNU.out; omega
                clear hk1 hE hok hjf hjt hbf hbt hmem
                have HSAME : Hid ((bf = true → bt = true) → mb = false → R = R0 ∧ ∀ e ∈ (allL g).take (k + 1), R[e.1.toNat]? = some true → R[e.2.2.toNat]? = some true) := Lib.hid (fun hi hm => by
                  obtain ⟨e1, e2⟩ := HM2.out hm
                  refine ⟨e1, fun e he h => ?_⟩
                  rcases (HTK.out e).1 he with he | rfl
                  · exact e2 e he h
                  · simp only [Int.toNat_natCast] at h ⊢
                    rw [HBF.out] at h
                    rw [HBT.out, hi (Option.some.inj h)])
                cases bf with
                | false =>
                  have HSM := Lib.hid (HSAME.out (fun h => by cases h))
                  go_wp2_with fail
                  go_roundg (gk - 1)
                  case measure => omega
                  case rel => exact ⟨k + 1, R, mb, by go_num, rfl, by omega, by omega, HM1.out, HSM.out, HT.out, HS.out, HO.out⟩
                | true =>
                  cases bt with
                  | true =>
                    have HSM := Lib.hid (HSAME.out (fun _ => rfl))
                    go_wp2_with fail
                    go_roundg (gk - 1)
                    case measure => omega
                    case rel => exact ⟨k + 1, R, mb, by go_num, rfl, by omega, by omega, HM1.out, HSM.out, HT.out, HS.out, HO.out⟩
                  | false =>
                    have HSN := Lib.hid (HGO.out HBF.out)
                    have HTN := Lib.hid (HT.out.set jt true)
                    have HON := Lib.hid (HO.out.trans (G := fun x => x = gm) (Oth.set wr gm jt (.bool true)) (fun _ h => h) (fun _ _ h => h))
                    have HCL : Hid (cf (R.set jt true) < cf R0) := Lib.hid (by
                      have h1 := cf_set R jt HBT.out
                      cases hmb : mb with
                      | true => have := HM1.out hmb; omega
                      | false => have := (HM2.out hmb).1; rw [this] at h1 ⊢; omega)
                    clear HSAME
                    go_wp2_with fail
                    go_roundg (gk - 1)
                    case measure => omega
                    case rel => exact ⟨k + 1, _, true, by go_num, rfl, by omega, by omega, (fun _ => HCL.out), (fun h => by cases h), HTN.out, HSN.out, HON.out⟩
              · obtain rfl : k = M := by omega
                have HCC : Hid (mb = false → ∀ e ∈ allL g, R[e.1.toNat]? = some true → R[e.2.2.toNat]? = some true) := Lib.hid (fun h => by
                  have h2 := (HM2.out h).2
                  rw [HM.out, List.take_length] at h2
                  exact h2)
                have HCD : Hid (mb = true → cf R + 2 ≤ g5 - 1) := Lib.hid (fun h => by have := HM1.out h; have := HF1.out; omega)
                clear hlt hk hf i5
                go_wp2_with fail
                go_roundg (g5 - 1)
                case measure => have := HF1.out; omega
                case rel => exact ⟨R, mb, rfl, HCD.out, HCC.out, HT.out, HS.out, HO.out, by omega⟩

end Go.Proofs.Ytkdpimifojjhaaa
