/- StmtBack: the law's own walk. -/
import Derived.Test.YtmlcdnfejebhoaaGreatDoorWd
import Derived.Test.YtmlcdnfejebhoaaGreatDoorZq
namespace Go.Proofs.YtmlcdnfejebhoaaGreatDoor
open Go.RowKit
theorem tok_all (k : List UInt8) (s : ByteArray) (w : World) (h : s = ⟨k.toArray⟩) (hk : k.length ≤ maxLen) : Calls Tryz.prog 13 #[.string s] w (fun e w' => ∃ v, e = .returned v ∧ w'.ownsRow w.heap.size 35 4 v (scanL k).1.length (rowOf (scanL k).1) ∧ Below w.heap.size w w') := by
  subst h
  exact tokens_all ⟨k.toArray⟩ w (by rw [Lib.size_eq]; exact hk)
theorem par_all (k : List UInt8) (ys : List St) (j : Nat) (h2 : stmtR (scanL k).1 0 = .ok ys j) (B : Nat) (lv : Value) (w : World) (h : w.ownsRow B 35 4 lv (scanL k).1.length (rowOf (scanL k).1)) (hs : Tabs w) :
    Calls Tryz.prog 14 #[lv, .int .i64 0] w fun e w' => ∃ v ts, e = .returned (.tuple #[v, .int .i64 j, .int .i64 0, .int .i64 0]) ∧ StsD w' v ts ∧ ts.map (·.1) = ys ∧ Below w.heap.size w w' := by
  have H := spar_all k B lv 0 w h hs.1
  rw [h2] at H
  refine H.mono ?_
  rintro e w' ⟨v, rfl, ho, hb⟩
  obtain ⟨ts, e1, e2⟩ := stsD_of_own ho
  exact ⟨v, ts, rfl, e2, e1, hb⟩
theorem same_back (ts us : List SI) (u v : Value) (w : World) (hu : StsD w u ts) (hv : StsD w v us) (h : (us.map (·.1)).map St.er = (ts.map (·.1)).map St.er) (hl : ts.length ≤ 1000) (he : SmOK (ts.map (·.1))) :
    Calls Tryz.prog 16 #[u, v, .bool false] w fun e w' => e = .returned (.bool true) ∧ Below w.heap.size w w' :=
  same_of_er ts us u v w hu hv h hl (fun x hx => ⟨(he x hx).2.2.1, (he x hx).2.2.2.1⟩) fun _ _ _ h => stsC_of_D h
set_option maxHeartbeats 2000000 in
theorem sback_heavy (v : Value) (d : Int) (w : World) (hf : Flds w) (ht : Tabs w) (hl : Calls Tryz.prog 17 #[v] w fun e w' => e = .returned (.bool false) ∧ Below w.heap.size w w') :
    Calls Tryz.prog 4 #[v, .int .u8 d] w fun e w' => e = .returned (.bool true) ∧ Below w.heap.size w w' := by
  have HT := Lib.hid ht
  have HF := Lib.hid hf
  clear ht hf
  go_enter Tryz.func4, Tryz.ntmps4
  go_wp2_with fail
  refine hl.mono ?_
  rintro e w0 ⟨rfl, b0⟩
  go_wp2_with fail
  refine (known_any w0 (HF.out.below b0) (HT.out.below b0)).mono ?_
  rintro e w1 ⟨rfl, c1⟩
  go_wp2
  go_ret
  exact ⟨rfl, b0.trans (c1.mono b0.size)⟩
set_option maxHeartbeats 2000000 in
theorem sback_wrong (ts : List SI) (v : Value) (d : Int) (w : World) (hv : StsD w v ts) (hn : ts.length ≤ 60) (hz : SmOK (ts.map (·.1))) (hf : Flds w) (ht : Tabs w) (hl : Calls Tryz.prog 17 #[v] w fun e w' => e = .returned (.bool true) ∧ Below w.heap.size w w') (hr : rightSB (ts.map (·.1)) = false) :
    Calls Tryz.prog 4 #[v, .int .u8 d] w fun e w' => e = .returned (.bool true) ∧ Below w.heap.size w w' := by
  have HT := Lib.hid ht
  have HF := Lib.hid hf
  have HR := Lib.hid hr
  clear ht hf hr
  go_enter Tryz.func4, Tryz.ntmps4
  go_wp2_with fail
  refine hl.mono ?_
  rintro e w0 ⟨rfl, b0⟩
  have H := sright_any ts v w0 (hv.below b0) (by omega) hz (HF.out.below b0)
  rw [HR.out] at H
  go_wp2_with fail
  refine H.mono ?_
  clear H
  rintro e w1 ⟨rfl, c1⟩
  have b1 := b0.trans (c1.mono b0.size)
  go_wp2_with fail
  refine (known_any w1 (HF.out.below b1) (HT.out.below b1)).mono ?_
  rintro e w2 ⟨rfl, c2⟩
  go_wp2
  go_ret
  exact ⟨rfl, b1.trans (c2.mono b1.size)⟩
set_option maxRecDepth 100000 in
set_option maxHeartbeats 8000000 in
theorem sback_right (ts : List SI) (v : Value) (d : Int) (w : World) (hv : StsD w v ts) (hd0 : 0 ≤ d) (hd1 : d ≤ 255) (hn : ts.length ≤ 60) (hz : SmOK (ts.map (·.1))) (hf : Flds w) (ht : Tabs w) (hl : Calls Tryz.prog 17 #[v] w fun e w' => e = .returned (.bool true) ∧ Below w.heap.size w w') (hr : rightS (ts.map (·.1))) :
    Calls Tryz.prog 4 #[v, .int .u8 d] w fun e w' => e = .returned (.bool true) ∧ Below w.heap.size w w' := by
  obtain ⟨h200, t, htf, hok, hh⟩ := id hr
  obtain ⟨k, hk, hk4⟩ : ∃ k : Nat, Int.tmod d 5 = k ∧ k ≤ 4 := ⟨(Int.tmod d 5).toNat, by rw [Int.tmod_eq_emod_of_nonneg hd0]; omega, by rw [Int.tmod_eq_emod_of_nonneg hd0]; omega⟩
  have hok' : ∀ x ∈ t.flat, okSt x := by rw [htf]; exact hok
  have hlen : t.flat.length ≤ 200 := by rw [htf]; exact h200
  obtain ⟨ys, hp, he, hy⟩ := back_text t k hok' hh hlen
  have htl := text_len t k hok' (by omega)
  have htx := textS_tree hr t htf k
  obtain ⟨q, hq⟩ : ∃ q, q = t.text k := ⟨_, rfl⟩
  rw [← hq] at hp he htl htx
  have hql : q.length ≤ 16000000 := by
    have : t.flat.length * 80000 ≤ 200 * 80000 := Nat.mul_le_mul_right _ hlen
    omega
  obtain ⟨s, hs⟩ : ∃ s : ByteArray, s = ⟨q.toArray⟩ := ⟨_, rfl⟩
  have hss : s.size = q.length := by rw [hs, Lib.size_eq]
  have HT := Lib.hid ht
  have HF := Lib.hid hf
  have HZ := Lib.hid hz
  have HR := Lib.hid ((rightSB_iff _).2 hr)
  have HP := Lib.hid hp
  have HE := Lib.hid (show q.length ≤ 20000 → ys.map St.er = (ts.map (·.1)).map St.er by rw [← htf]; exact he)
  have HTX := Lib.hid htx
  have HS := Lib.hid hs
  have HQ := Lib.hid hql
  have HM := Lib.hid hk
  clear h200 htf hok hh hok' hlen htl hq hs hp he htx hr hz ht hf hql
  obtain ⟨ad, cap, rfl, j1, j2, j3⟩ := id hv
  clear j3
  have HN := Lib.hid hn
  obtain ⟨n, hN⟩ : ∃ n, n = ts.length := ⟨_, rfl⟩
  have HNN := Lib.hid hN
  have HV := Lib.hid hv
  rw [← hN] at hl hn HV j1 ⊢
  clear hN hv
  go_enter Tryz.func4, Tryz.ntmps4
  go_wp2_with fail
  refine hl.mono ?_
  rintro e w0 ⟨rfl, b0⟩
  have V0 := Lib.hid (HV.out.below b0)
  have H := sright_any ts _ w0 V0.out (by have := HN.out; omega) HZ.out (HF.out.below b0)
  rw [HR.out] at H
  go_wp2_with fail
  refine H.mono ?_
  clear H
  rintro e w1 ⟨rfl, c1⟩
  have b1 := b0.trans (c1.mono b0.size)
  have V1 := Lib.hid (V0.out.below c1)
  clear b0 c1 V0 HV hl
  have H := show_any ts _ k w1 (by omega) V1.out (by have := HN.out; omega) HZ.out (HF.out.below b1) (HT.out.below b1)
  unfold TextIs at H
  rw [HTX.out, ← HS.out] at H
  have m1 : IntKind.i64.wrap d = d := IntWalk.i64_in _ (by omega)
  have m2 : Int.tmod d 5 = (k : Int) := HM.out
  have m3 : IntKind.i64.wrap (k : Int) = (k : Int) := IntWalk.i64_in _ (by omega)
  go_wp2_with fail
  refine H.mono ?_
  clear H
  rintro e w2 ⟨rfl, c2⟩
  have b2 := b1.trans (c2.mono b1.size)
  have V2 := Lib.hid (V1.out.below c2)
  clear b1 c2 V1
  go_wp2_with fail
  refine (tok_all q s w2 HS.out (by have := HQ.out; unfold maxLen; omega)).mono ?_
  rintro e w3 ⟨tv, rfl, o3, c3⟩
  have b3 := b2.trans (c3.mono b2.size)
  have V3 := Lib.hid (V2.out.below c3)
  have HO3 := Lib.hid o3
  obtain ⟨tad, tcap, rfl, _⟩ := own_shape o3
  clear b2 c3 V2 o3
  go_wp2_with fail
  refine (par_all q ys _ HP.out _ _ w3 HO3.out (HT.out.below b3)).mono ?_
  rintro e w4 ⟨z2, us, rfl, N2, hus, c4⟩
  have b4 := b3.trans (c4.mono b3.size)
  have V4 := Lib.hid (V3.out.below c4)
  have HUS := Lib.hid hus
  have U4 := Lib.hid N2
  obtain ⟨ad2, cap2, rfl, j1', j2', j3'⟩ := N2
  clear j3' j1' j2' b3 c4 V3 hus HO3
  obtain ⟨m, hM⟩ : ∃ m, m = us.length := ⟨_, rfl⟩
  rw [← hM] at U4 ⊢
  clear hM
  obtain ⟨N, hNt⟩ : ∃ N, N = (scanL q).1.length := ⟨_, rfl⟩
  rw [← hNt]
  clear hNt
  have HSAME : Hid (q.length ≤ 20000 → Calls Tryz.prog 16 #[.slice ad n cap, .slice ad2 m cap2, .bool false] w4 fun e w' => e = .returned (.bool true) ∧ Below w4.heap.size w4 w') :=
    Lib.hid fun hq => same_back ts us _ _ w4 V4.out U4.out (by rw [HUS.out]; exact HE.out hq) (by have := HN.out; omega) HZ.out
  have HK := Lib.hid (fun w' (hb : Below w4.heap.size w4 w') => known_any w' (HF.out.below (b4.trans (hb.mono b4.size))) (HT.out.below (b4.trans (hb.mono b4.size))))
  have HB4 := Lib.hid b4
  clear V4 U4 b4
  by_cases hlong : 20000 < q.length
  · have e2 : decide ((20000 : Int) < (s.size : Int)) = true := decide_eq_true (by omega)
    have e3 : decide (20000 < s.size) = true := decide_eq_true (by omega)
    go_wp2_with fail
    refine (HK.out _ (Below.refl _ _)).mono ?_
    rintro e w7 ⟨rfl, c7⟩
    go_wp2
    go_ret
    exact ⟨rfl, HB4.out.trans (c7.mono HB4.out.size)⟩
  · have e2 : decide ((20000 : Int) < (s.size : Int)) = false := decide_eq_false (by omega)
    have e3 : decide (20000 < s.size) = false := decide_eq_false (by omega)
    go_wp2_with fail
    refine (HSAME.out (by omega)).mono ?_
    rintro e w7 ⟨rfl, c7⟩
    go_wp2_with fail
    refine (HK.out _ c7).mono ?_
    rintro e w8 ⟨rfl, c8⟩
    go_wp2
    go_ret
    have b7 := HB4.out.trans (c7.mono HB4.out.size)
    exact ⟨rfl, b7.trans (c8.mono b7.size)⟩
theorem stmtBack_walk (ts : List SI) (v : Value) (d : Int) (w : World) (hv : StsD w v ts) (hn : BigOK ts) (_hnil : NilOK v) (hd : (Lit.int .u8 d).wf = true) (hf : Flds w) (ht : Tabs w) :
    Calls Tryz.prog 4 #[v, .int .u8 d] w fun e w' => e = .returned (.bool true) ∧ Below w.heap.size w w' := by
  have hd01 : 0 ≤ d ∧ d ≤ 255 := by
    have e1 : IntKind.u8.min = 0 := by decide
    have e2 : IntKind.u8.max = 255 := by decide
    simp only [Lit.wf, Bool.and_eq_true, decide_eq_true_eq, e1, e2] at hd
    exact hd
  cases hb : lightS ts with
  | true =>
    obtain ⟨h1, h2⟩ := lightS_smOK hb
    cases hr : rightSB (ts.map (·.1)) with
    | true => exact sback_right ts v d w hv hd01.1 hd01.2 h1 h2 hf ht (lightS_any ts v w hv hn true hb) ((rightSB_iff _).1 hr)
    | false => exact sback_wrong ts v d w hv h1 h2 hf ht (lightS_any ts v w hv hn true hb) hr
  | false => exact sback_heavy v d w hf ht (lightS_any ts v w hv hn false hb)
end Go.Proofs.YtmlcdnfejebhoaaGreatDoor
