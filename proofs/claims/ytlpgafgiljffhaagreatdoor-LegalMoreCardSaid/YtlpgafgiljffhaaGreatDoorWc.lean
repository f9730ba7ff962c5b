/- Whether statements are light; tokens and Parse of any text; the text of right statements is read as they were. -/
import Derived.Test.YtlpgafgiljffhaaGreatDoorPo
namespace Go.Proofs.YtlpgafgiljffhaaGreatDoor
open Go.RowKit
def lightSt (x : St) : Bool := decide (x.reg.size ≤ 100 ∧ x.loc.size ≤ 100) && (lightB x.e && lightB x.f)
def lightS (l : List SI) : Bool := decide (l.length ≤ 60) && l.all fun t => lightSt t.1
theorem all_atS (p : SI → Bool) (l : List SI) (k : Nat) (h : k < l.length) : (l.drop k).all p = (p l[k] && (l.drop (k + 1)).all p) := by
  rw [List.drop_eq_getElem_cons h, List.all_cons]
theorem all_overS (p : SI → Bool) (l : List SI) (k : Nat) (h : ¬ k < l.length) : (l.drop k).all p = true := by
  rw [List.drop_eq_nil_of_le (by omega)]; rfl
set_option maxRecDepth 100000 in
set_option maxHeartbeats 400000 in
theorem lightS_big (ts : List SI) (v : Value) (w : World) (hv : StsD w v ts) (hn : BigOK ts) (h : 60 < ts.length) :
    Calls Tryz.prog 19 #[v] w fun e w' => e = .returned (.bool (lightS ts)) ∧ w = w' := by
  have hb : lightS ts = false := by simp [lightS]; omega
  rw [hb]
  obtain ⟨ad, cap, rfl, _⟩ := hv
  obtain ⟨hn, _⟩ := hn
  unfold maxLen at hn
  clear hb
  go_enter Tryz.func19, Tryz.ntmps19
  go_wp2
  go_ret
  exact ⟨rfl, rfl⟩
set_option maxRecDepth 100000 in
set_option maxHeartbeats 2000000 in
theorem lightS_small (ts : List SI) (v : Value) (w : World) (hv : StsD w v ts) (hn : BigOK ts) (h : ts.length ≤ 60) :
    Calls Tryz.prog 19 #[v] w fun e w' => e = .returned (.bool (lightS ts)) ∧ w = w' := by
  have hb : lightS ts = (ts.drop 0).all fun t => lightSt t.1 := by simp [lightS, h]
  rw [hb]
  obtain ⟨R, hR⟩ : ∃ R, ((ts.drop 0).all fun t => lightSt t.1) = R := ⟨_, rfl⟩
  rw [hR]
  have HR := Lib.hid hR
  have HM := Lib.hid hn.2
  clear hR hn
  obtain ⟨ad, cap, rfl, _, _, hc⟩ := hv
  obtain ⟨n, hN⟩ : ∃ n, n = ts.length := ⟨_, rfl⟩
  rw [← hN] at h ⊢
  have HC := Lib.hid hc
  have HN := Lib.hid hN
  clear hc hN hb
  go_enter Tryz.func19, Tryz.ntmps19
  go_wp2
  go_loopg [3] n (fun fuel i' wr => ∃ k : Nat, i' = .int .i64 k ∧ k ≤ n ∧ n - k ≤ fuel ∧ R = ((ts.drop k).all fun t => lightSt t.1) ∧ w = wr)
  case atStart => exact ⟨0, rfl, Nat.zero_le _, Nat.le_refl _, HR.out.symm, rfl⟩
  case round =>
    obtain ⟨k, rfl, hk, hf, ha, rfl⟩ := hrel
    have HA := Lib.hid ha; clear ha
    by_cases hlt : k < n
    · have hk' : k < ts.length := by have := HN.out; omega
      have HE := Lib.hid (all_atS (fun t => lightSt t.1) ts k hk')
      obtain ⟨b, off, rfl, hbl, ⟨c0, c1, c2, c3, c4, c5, c6, c7, c8⟩, hE, hF⟩ := HC.out k hk'
      have hmm := HM.out _ (List.getElem_mem hk')
      obtain ⟨t, ht⟩ : ∃ t, t = ts[k] := ⟨_, rfl⟩
      have HT := Lib.hid ht
      rw [← ht] at c1 c2 c3 c4 hE hF hmm
      clear ht c0 c5 c6 c7 c8
      have HCE := Lib.hid (fun w' (hw : w = w') => light_any t.1.e t.2.1 w (hE.nds) hmm.1 _ rfl)
      have HCF := Lib.hid (fun w' (hw : w = w') => light_any t.1.f t.2.2 w (hF.nds) hmm.2 _ rfl)
      obtain ⟨x, ve, vf⟩ := t
      obtain ⟨xk, xr, xl, xe, xf, xn, xb, xq, xp⟩ := x
      simp only [] at c1 c2 c3 c4 HCE HCF hE hF
      obtain ⟨a1, p1, rfl, _⟩ := hE
      obtain ⟨a2, p2, rfl, _⟩ := hF
      clear hmm
      by_cases h1 : 100 < xr.size
      · go_wp2
        go_ret
        exact ⟨ret_bool (by rw [HA.out, HE.out, ← HT.out]; simp [lightSt]; omega), rfl⟩
      · by_cases h2 : 100 < xl.size
        · go_wp2
          go_ret
          exact ⟨ret_bool (by rw [HA.out, HE.out, ← HT.out]; simp [lightSt]; omega), rfl⟩
        · obtain ⟨bE, hbE⟩ : ∃ bE, bE = lightB xe := ⟨_, rfl⟩
          obtain ⟨bF, hbF⟩ : ∃ bF, bF = lightB xf := ⟨_, rfl⟩
          rw [← hbE] at HCE
          rw [← hbF] at HCF
          have HRS : Hid (lightSt ⟨xk, xr, xl, xe, xf, xn, xb, xq, xp⟩ = (bE && bF)) := by
            refine Lib.hid ?_
            rw [hbE, hbF]
            unfold lightSt
            simp only []
            rw [show decide (xr.size ≤ 100 ∧ xl.size ≤ 100) = true by simp; omega, Bool.true_and]
          clear hbE hbF
          cases bE with
          | false =>
            go_wp2_with fail
            refine (HCE.out _ rfl).mono ?_
            rintro e w2 ⟨rfl, rfl⟩
            go_wp2
            go_ret
            exact ⟨ret_bool (by rw [HA.out, HE.out, ← HT.out]; simp only []; rw [HRS.out]; rfl), rfl⟩
          | true =>
            cases bF with
            | false =>
              go_wp2_with fail
              refine (HCE.out _ rfl).mono ?_
              rintro e w2 ⟨rfl, rfl⟩
              go_wp2_with fail
              refine (HCF.out _ rfl).mono ?_
              rintro e w2 ⟨rfl, rfl⟩
              go_wp2
              go_ret
              exact ⟨ret_bool (by rw [HA.out, HE.out, ← HT.out]; simp only []; rw [HRS.out]; rfl), rfl⟩
            | true =>
              go_wp2_with fail
              refine (HCE.out _ rfl).mono ?_
              rintro e w2 ⟨rfl, rfl⟩
              go_wp2_with fail
              refine (HCF.out _ rfl).mono ?_
              rintro e w2 ⟨rfl, rfl⟩
              go_wp2
              go_roundg (gk - 1)
              case measure => omega
              case rel => exact ⟨k + 1, by go_num, by omega, by omega, by rw [HA.out, HE.out, ← HT.out]; simp only []; rw [HRS.out]; rfl, rfl⟩
    · have HE := Lib.hid (all_overS (fun t => lightSt t.1) ts k (by have := HN.out; omega))
      go_wp2
      go_ret
      exact ⟨ret_bool (by rw [HA.out, HE.out]), rfl⟩
theorem lightS_any (ts : List SI) (v : Value) (w : World) (hv : StsD w v ts) (hn : BigOK ts) (b : Bool) (hb : lightS ts = b) :
    Calls Tryz.prog 19 #[v] w fun e w' => e = .returned (.bool b) ∧ Below w.heap.size w w' := by
  subst hb
  have h : Calls Tryz.prog 19 #[v] w fun e w' => e = .returned (.bool (lightS ts)) ∧ w = w' := by
    by_cases h : 60 < ts.length
    · exact lightS_big ts v w hv hn h
    · exact lightS_small ts v w hv hn (by omega)
  refine h.mono ?_
  rintro e w' ⟨h1, rfl⟩
  exact ⟨h1, Below.refl _ _⟩
end Go.Proofs.YtlpgafgiljffhaaGreatDoor
