/- Layer 8: the reference's Right of a buffer. -/
import Derived.Test.YtmkgijedchpgcaaUt
namespace Go.Proofs.Ytmkgijedchpgcaa
set_option linter.unusedSimpArgs false
set_option linter.unusedVariables false
open Go.RowKit

set_option maxRecDepth 100000 in
set_option maxHeartbeats 2000000 in
theorem rcount_any (l : List Ent) (v : Value) (loc : Int) (w : World) (hv : EntsD w v l) (hn : l.length ≤ 100000) (z : Nat) (hz : cntL l loc = z) :
    Calls Try.prog 43 #[v, .int .i64 loc] w fun e w' => e = .returned (.int .i64 z) ∧ w = w' := by
  have HV := Lib.hid hv
  have HZ0 : Hid (0 + cntL (l.drop 0) loc = z) := Lib.hid (by rw [Nat.zero_add]; exact hz)
  obtain ⟨ad, cap, rfl⟩ := hv.shape0
  obtain ⟨n, hN⟩ : ∃ n, n = l.length := ⟨_, rfl⟩
  rw [← hN] at HV hn ⊢
  have HN := Lib.hid hN
  clear hv hz hN
  go_enter Try.func43, Try.ntmps43
  go_wp2_with fail
  go_loopg [5, 6] n (fun fuel m' i' wr => ∃ (k m : Nat), i' = .int .i64 k ∧ m' = .int .i64 m ∧ k ≤ n ∧ n - k ≤ fuel ∧ m ≤ k ∧ m + cntL (l.drop k) loc = z ∧ w = wr)
  case atStart => exact ⟨0, 0, rfl, rfl, Nat.zero_le _, Nat.le_refl _, Nat.le_refl _, HZ0.out, rfl⟩
  case round =>
    obtain ⟨k, m, rfl, rfl, hk, hf, hm, ha, rfl⟩ := hrel
    have HA := Lib.hid ha
    clear ha
    by_cases hlt : k < n
    · have hk' : k < l.length := by rw [← HN.out]; exact hlt
      have HE := Lib.hid (cntL_at l loc k hk')
      obtain ⟨b, off, rfl, hbl, x0, _⟩ := EntsD.at2 HV.out k hk'
      obtain ⟨x, hx⟩ : ∃ x, x = l[k].1 := ⟨_, rfl⟩
      rw [← hx] at x0 HE
      by_cases hq : x = loc
      · have q1 : (x == loc) = true := by simpa using hq
        have HE2 : Hid (m + 1 + cntL (l.drop (k + 1)) loc = z) := Lib.hid (by have := HA.out; rw [HE.out, if_pos hq] at this; omega)
        clear hx hq HE
        go_wp2
        go_roundg (gk - 1)
        case measure => omega
        case rel => exact ⟨k + 1, m + 1, by go_num, by go_num, by omega, by omega, by omega, HE2.out, rfl⟩
      · have q1 : (x == loc) = false := by simpa using hq
        have HE2 : Hid (m + cntL (l.drop (k + 1)) loc = z) := Lib.hid (by have := HA.out; rw [HE.out, if_neg hq] at this; omega)
        clear hx hq HE
        go_wp2
        go_roundg (gk - 1)
        case measure => omega
        case rel => exact ⟨k + 1, m, by go_num, rfl, by omega, by omega, by omega, HE2.out, rfl⟩
    · have HE : Hid (m = z) := Lib.hid (by have := HA.out; rw [List.drop_eq_nil_of_le (by rw [← HN.out]; omega)] at this; simpa [cntL] using this)
      go_wp2
      go_ret
      exact ⟨ret_int (by rw [HE.out]), rfl⟩

/-- Does an entry break the buffer? -/
def badR (l : List Ent) (model room mod locs : Int) (k : Nat) : Bool :=
  decide ((l.getD k (0, 0)).1 < 0 ∨ locs ≤ (l.getD k (0, 0)).1 ∨ (l.getD k (0, 0)).2 < 0 ∨ mod ≤ (l.getD k (0, 0)).2 ∨ (model = 3 ∧ ((0 < k ∧ (l.getD k (0, 0)).1 < (l.getD (k - 1) (0, 0)).1) ∨ room < (cntL l (l.getD k (0, 0)).1 : Int))))
def badF (l : List Ent) (model room mod locs : Int) : Nat → Nat → Bool
  | 0, _ => false
  | f + 1, k => badR l model room mod locs k || badF l model room mod locs f (k + 1)
def refR (l : List Ent) (model room mod locs : Int) : Bool :=
  if model < 1 ∨ 3 < model ∨ room < 1 ∨ 4 < room ∨ mod < 2 ∨ 16 < mod then false else
  if badF l model room mod locs l.length 0 then false else
  ((decide (model ≠ 1) && (decide (model = 3) || decide ((l.length : Int) ≤ room))) || decide (l.length = 0))

theorem badF_at (l : List Ent) (model room mod locs : Int) (n k : Nat) (h : k < n) : badF l model room mod locs (n - k) k = (badR l model room mod locs k || badF l model room mod locs (n - (k + 1)) (k + 1)) := by
  obtain ⟨f, hf⟩ : ∃ f, n - k = f + 1 := ⟨n - k - 1, by omega⟩
  rw [hf, show n - (k + 1) = f by omega]; rfl

set_option maxRecDepth 100000 in
set_option maxHeartbeats 8000000 in
theorem rsright_any (l : List Ent) (v : Value) (model room mod locs : Int) (w : World) (hv : EntsD w v l) (hn : l.length ≤ 100000) (z : Bool) (hz : refR l model room mod locs = z) :
    Calls Try.prog 34 #[v, .int .i64 model, .int .i64 room, .int .i64 mod, .int .i64 locs] w fun e w' => e = .returned (.bool z) ∧ Below w.heap.size w w' := by
  have HV := Lib.hid hv
  have HCN := Lib.hid (fun (k : Int) (W : World) (h : Below w.heap.size w W) => rcount_any l v k W (EntsD.below hv h) hn _ rfl)
  obtain ⟨ad, cap, rfl⟩ := hv.shape0
  obtain ⟨n, hN⟩ : ∃ n, n = l.length := ⟨_, rfl⟩
  by_cases hP : 1 ≤ model ∧ model ≤ 3 ∧ 1 ≤ room ∧ room ≤ 4 ∧ 2 ≤ mod ∧ mod ≤ 16
  · have HZ : Hid ((if badF l model room mod locs (n - 0) 0 then false else ((decide (model ≠ 1) && (decide (model = 3) || decide ((n : Int) ≤ room))) || decide (n = 0))) = z) := Lib.hid (by
      rw [← hz, hN]; unfold refR; rw [if_neg (show ¬ (model < 1 ∨ 3 < model ∨ room < 1 ∨ 4 < room ∨ mod < 2 ∨ 16 < mod) by omega)]; rfl)
    rw [← hN] at HV HCN hn ⊢
    have HN := Lib.hid hN
    have HP := Lib.hid hP
    have g1 : ¬ model < 1 := by omega
    have g2 : ¬ 3 < model := by omega
    have g3 : ¬ room < 1 := by omega
    have g4 : ¬ 4 < room := by omega
    have g5 : ¬ mod < 2 := by omega
    have g6 : ¬ 16 < mod := by omega
    clear hv hz hN hP
    go_enter Try.func34, Try.ntmps34
    go_wp2_with fail
    go_loopg [11] n (fun fuel i' wr => ∃ (k : Nat), i' = .int .i64 k ∧ k ≤ n ∧ n - k ≤ fuel ∧ (if badF l model room mod locs (n - k) k then false else ((decide (model ≠ 1) && (decide (model = 3) || decide ((n : Int) ≤ room))) || decide (n = 0))) = z ∧ Below w.heap.size w wr)
    case atStart => exact ⟨0, rfl, Nat.zero_le _, Nat.le_refl _, HZ.out, Below.refl _ _⟩
    case round =>
      obtain ⟨k, rfl, hk, hf, ha, hb⟩ := hrel
      have HA := Lib.hid ha
      have HB := Lib.hid hb
      clear ha hb
      by_cases hlt : k < n
      · have hk' : k < l.length := by rw [← HN.out]; exact hlt
        have HE := Lib.hid (badF_at l model room mod locs n k hlt)
        obtain ⟨b, off, rfl, hbl0, y0, y1⟩ := EntsD.at2 (EntsD.below HV.out HB.out) k hk'
        obtain ⟨x, hxl⟩ : ∃ x, (l.getD k (0, 0)).1 = x := ⟨_, rfl⟩
        obtain ⟨y, hxn⟩ : ∃ y, (l.getD k (0, 0)).2 = y := ⟨_, rfl⟩
        rw [← getD_at _ _ hk', hxl] at y0
        rw [← getD_at _ _ hk', hxn] at y1
        have HCQ := Lib.hid (fun (j : Nat) => calls_quiet (j := j) (HCN.out x (wr.drewN j) (below_drewN' HB.out j)))
        obtain ⟨cn, hcn⟩ : ∃ c, cntL l x = c := ⟨_, rfl⟩
        rw [hcn] at HCQ
        have hcx : cntL l (l.getD k (0, 0)).1 = cn := by rw [hxl]; exact hcn
        clear hcn hk'
        by_cases q1 : x < 0
        · have HBF : Hid (z = false) := Lib.hid (by rw [← HA.out, HE.out, show badR l model room mod locs k = true from decide_eq_true (by rw [hxl, hxn]; omega)]; rfl)
          clear hxl hxn
          go_wp2_with fail
          have e1 : (0 : Int) ≤ (k : Int) := by omega
          have e2 : (k : Int) < (n : Int) := by omega
          have e3 : k < n := by omega
          go_quiet ((go_at_call 43; with_reducible exact HCQ.out _))
          go_wp2
          go_ret
          exact ⟨ret_bool HBF.out.symm, below_drewN' HB.out _⟩
        · by_cases q2 : locs ≤ x
          · have HBF : Hid (z = false) := Lib.hid (by rw [← HA.out, HE.out, show badR l model room mod locs k = true from decide_eq_true (by rw [hxl, hxn]; omega)]; rfl)
            clear hxl hxn
            go_wp2_with fail
            have e1 : (0 : Int) ≤ (k : Int) := by omega
            have e2 : (k : Int) < (n : Int) := by omega
            have e3 : k < n := by omega
            have f1 : ¬ x < 0 := by omega
            go_quiet ((go_at_call 43; with_reducible exact HCQ.out _))
            go_wp2
            go_ret
            exact ⟨ret_bool HBF.out.symm, below_drewN' HB.out _⟩
          · by_cases q3 : y < 0
            · have HBF : Hid (z = false) := Lib.hid (by rw [← HA.out, HE.out, show badR l model room mod locs k = true from decide_eq_true (by rw [hxl, hxn]; omega)]; rfl)
              clear hxl hxn
              go_wp2_with fail
              have e1 : (0 : Int) ≤ (k : Int) := by omega
              have e2 : (k : Int) < (n : Int) := by omega
              have e3 : k < n := by omega
              have f1 : ¬ x < 0 := by omega
              have f2 : ¬ locs ≤ x := by omega
              go_quiet ((go_at_call 43; with_reducible exact HCQ.out _))
              go_wp2
              go_ret
              exact ⟨ret_bool HBF.out.symm, below_drewN' HB.out _⟩
            · by_cases q4 : mod ≤ y
              · have HBF : Hid (z = false) := Lib.hid (by rw [← HA.out, HE.out, show badR l model room mod locs k = true from decide_eq_true (by rw [hxl, hxn]; omega)]; rfl)
                clear hxl hxn
                go_wp2_with fail
                have e1 : (0 : Int) ≤ (k : Int) := by omega
                have e2 : (k : Int) < (n : Int) := by omega
                have e3 : k < n := by omega
                have f1 : ¬ x < 0 := by omega
                have f2 : ¬ locs ≤ x := by omega
                have f3 : ¬ y < 0 := by omega
                go_quiet ((go_at_call 43; with_reducible exact HCQ.out _))
                go_wp2
                go_ret
                exact ⟨ret_bool HBF.out.symm, below_drewN' HB.out _⟩
              · by_cases q5 : model = 3
                · have f5 : (model == 3) = true := by simpa using q5
                  by_cases q6 : k = 0
                  · have Q6 := Lib.hid q6
                    have F5 := Lib.hid f5
                    clear f5
                    by_cases q7 : room < (cn : Int)
                    · have HBF : Hid (z = false) := Lib.hid (by rw [← HA.out, HE.out, show badR l model room mod locs k = true from decide_eq_true (by rw [hcx, hxl, hxn]; omega)]; rfl)
                      clear hxl hxn q5 q6
                      go_wp2_with fail
                      have e1 : (0 : Int) ≤ (k : Int) := by omega
                      have e2 : (k : Int) < (n : Int) := by omega
                      have e3 : k < n := by omega
                      have f1 : ¬ x < 0 := by omega
                      have f2 : ¬ locs ≤ x := by omega
                      have f3 : ¬ y < 0 := by omega
                      have f4 : ¬ mod ≤ y := by omega
                      have f5 : (model == 3) = true := F5.out
                      have f6 : ¬ (0 : Int) < (k : Int) := by have := Q6.out; omega
                      have f6b : ¬ 0 < k := by have := Q6.out; omega
                      have f7 : room < (cn : Int) := by omega
                      go_quiet ((go_at_call 43; with_reducible exact HCQ.out _))
                      go_wp2
                      go_ret
                      exact ⟨ret_bool HBF.out.symm, below_drewN' HB.out _⟩
                    · have HG : Hid ((if badF l model room mod locs (n - (k + 1)) (k + 1) then false else ((decide (model ≠ 1) && (decide (model = 3) || decide ((n : Int) ≤ room))) || decide (n = 0))) = z) := Lib.hid (by rw [← HA.out, HE.out, show badR l model room mod locs k = false from decide_eq_false (by rw [hcx, hxl, hxn]; omega)]; rfl)
                      clear hxl hxn q5 q6
                      go_wp2_with fail
                      have e1 : (0 : Int) ≤ (k : Int) := by omega
                      have e2 : (k : Int) < (n : Int) := by omega
                      have e3 : k < n := by omega
                      have f1 : ¬ x < 0 := by omega
                      have f2 : ¬ locs ≤ x := by omega
                      have f3 : ¬ y < 0 := by omega
                      have f4 : ¬ mod ≤ y := by omega
                      have f5 : (model == 3) = true := F5.out
                      have f6 : ¬ (0 : Int) < (k : Int) := by have := Q6.out; omega
                      have f6b : ¬ 0 < k := by have := Q6.out; omega
                      have f7 : ¬ room < (cn : Int) := by omega
                      go_quiet ((go_at_call 43; with_reducible exact HCQ.out _))
                      go_wp2
                      go_roundg (gk - 1)
                      case measure => omega
                      case rel => exact ⟨k + 1, by go_num, by omega, by omega, HG.out, below_drewN' HB.out _⟩
                  · have F5 := Lib.hid f5
                    clear f5
                    obtain ⟨j, hj⟩ : ∃ j, k = j + 1 := ⟨k - 1, by omega⟩
                    have hj' : j < l.length := by rw [← HN.out]; omega
                    obtain ⟨b', off', hbb, hz1, yp, hz2⟩ := EntsD.at2 (EntsD.below HV.out HB.out) j hj'
                    injection hbb with hbb
                    injection hbb with hb1 hb2
                    subst hb1
                    subst hb2
                    obtain ⟨pv, hpv⟩ : ∃ p, (l.getD j (0, 0)).1 = p := ⟨_, rfl⟩
                    rw [← getD_at _ _ hj', hpv] at yp
                    have hpk : (l.getD (k - 1) (0, 0)).1 = pv := by rw [show k - 1 = j by omega]; exact hpv
                    have ew : IntKind.i64.wrap ((k : Int) - 1) = (j : Int) := by rw [IntKind.wrap_i64]; omega
                    have HJ := Lib.hid hj
                    clear hz1 hz2 hpv hj hj'
                    by_cases q8 : x < pv
                    · have HBF : Hid (z = false) := Lib.hid (by rw [← HA.out, HE.out, show badR l model room mod locs k = true from decide_eq_true (by rw [hpk, hxl, hxn]; omega)]; rfl)
                      clear hxl hxn hpk q5
                      go_wp2_with fail
                      have e1 : (0 : Int) ≤ (k : Int) := by omega
                      have e2 : (k : Int) < (n : Int) := by omega
                      have e3 : k < n := by omega
                      have f1 : ¬ x < 0 := by omega
                      have f2 : ¬ locs ≤ x := by omega
                      have f3 : ¬ y < 0 := by omega
                      have f4 : ¬ mod ≤ y := by omega
                      have f5 : (model == 3) = true := F5.out
                      have f6 : (0 : Int) < (k : Int) := by omega
                      have f6b : 0 < k := by omega
                      have f8 : (0 : Int) ≤ (j : Int) := by omega
                      have f9 : (j : Int) < (n : Int) := by have := HJ.out; omega
                      have f10 : j < n := by have := HJ.out; omega
                      have f11 : x < pv := by omega
                      go_quiet ((go_at_call 43; with_reducible exact HCQ.out _))
                      go_wp2
                      go_ret
                      exact ⟨ret_bool HBF.out.symm, below_drewN' HB.out _⟩
                    · by_cases q7 : room < (cn : Int)
                      · have HBF : Hid (z = false) := Lib.hid (by rw [← HA.out, HE.out, show badR l model room mod locs k = true from decide_eq_true (by rw [hcx, hpk, hxl, hxn]; omega)]; rfl)
                        clear hxl hxn hpk q5
                        go_wp2_with fail
                        have e1 : (0 : Int) ≤ (k : Int) := by omega
                        have e2 : (k : Int) < (n : Int) := by omega
                        have e3 : k < n := by omega
                        have f1 : ¬ x < 0 := by omega
                        have f2 : ¬ locs ≤ x := by omega
                        have f3 : ¬ y < 0 := by omega
                        have f4 : ¬ mod ≤ y := by omega
                        have f5 : (model == 3) = true := F5.out
                        have f6 : (0 : Int) < (k : Int) := by omega
                        have f6b : 0 < k := by omega
                        have f8 : (0 : Int) ≤ (j : Int) := by omega
                        have f9 : (j : Int) < (n : Int) := by have := HJ.out; omega
                        have f10 : j < n := by have := HJ.out; omega
                        have f11 : ¬ x < pv := by omega
                        have f7 : room < (cn : Int) := by omega
                        go_quiet ((go_at_call 43; with_reducible exact HCQ.out _))
                        go_wp2
                        go_ret
                        exact ⟨ret_bool HBF.out.symm, below_drewN' HB.out _⟩
                      · have HG : Hid ((if badF l model room mod locs (n - (k + 1)) (k + 1) then false else ((decide (model ≠ 1) && (decide (model = 3) || decide ((n : Int) ≤ room))) || decide (n = 0))) = z) := Lib.hid (by rw [← HA.out, HE.out, show badR l model room mod locs k = false from decide_eq_false (by rw [hcx, hpk, hxl, hxn]; omega)]; rfl)
                        clear hxl hxn hpk q5
                        go_wp2_with fail
                        have e1 : (0 : Int) ≤ (k : Int) := by omega
                        have e2 : (k : Int) < (n : Int) := by omega
                        have e3 : k < n := by omega
                        have f1 : ¬ x < 0 := by omega
                        have f2 : ¬ locs ≤ x := by omega
                        have f3 : ¬ y < 0 := by omega
                        have f4 : ¬ mod ≤ y := by omega
                        have f5 : (model == 3) = true := F5.out
                        have f6 : (0 : Int) < (k : Int) := by omega
                        have f6b : 0 < k := by omega
                        have f8 : (0 : Int) ≤ (j : Int) := by omega
                        have f9 : (j : Int) < (n : Int) := by have := HJ.out; omega
                        have f10 : j < n := by have := HJ.out; omega
                        have f11 : ¬ x < pv := by omega
                        have f7 : ¬ room < (cn : Int) := by omega
                        go_quiet ((go_at_call 43; with_reducible exact HCQ.out _))
                        go_wp2
                        go_roundg (gk - 1)
                        case measure => omega
                        case rel => exact ⟨k + 1, by go_num, by omega, by omega, HG.out, below_drewN' HB.out _⟩
                · have HG : Hid ((if badF l model room mod locs (n - (k + 1)) (k + 1) then false else ((decide (model ≠ 1) && (decide (model = 3) || decide ((n : Int) ≤ room))) || decide (n = 0))) = z) := Lib.hid (by rw [← HA.out, HE.out, show badR l model room mod locs k = false from decide_eq_false (by rw [hxl, hxn]; omega)]; rfl)
                  clear hxl hxn
                  go_wp2_with fail
                  have e1 : (0 : Int) ≤ (k : Int) := by omega
                  have e2 : (k : Int) < (n : Int) := by omega
                  have e3 : k < n := by omega
                  have f1 : ¬ x < 0 := by omega
                  have f2 : ¬ locs ≤ x := by omega
                  have f3 : ¬ y < 0 := by omega
                  have f4 : ¬ mod ≤ y := by omega
                  have f5 : (model == 3) = false := by simpa using q5
                  go_quiet ((go_at_call 43; with_reducible exact HCQ.out _))
                  go_wp2
                  go_roundg (gk - 1)
                  case measure => omega
                  case rel => exact ⟨k + 1, by go_num, by omega, by omega, HG.out, below_drewN' HB.out _⟩
      · have HG : Hid (((decide (model ≠ 1) && (decide (model = 3) || decide ((n : Int) ≤ room))) || decide (n = 0)) = z) := Lib.hid (by
          have h2 := HA.out
          rw [show n - k = 0 by omega] at h2
          exact h2)
        clear HA HZ HCN
        by_cases n0 : n = 0
        · have HT : Hid (z = true) := Lib.hid (by rw [← HG.out]; rw [decide_eq_true n0]; simp)
          have f1 : ((n : Int) == 0) = true := by simpa using n0
          clear HG n0
          go_wp2
          all_goals
            go_ret
            exact ⟨ret_bool HT.out.symm, HB.out⟩
        · have f1 : ((n : Int) == 0) = false := by simpa using n0
          replace HG := Lib.hid (by have h := HG.out; rw [decide_eq_false n0, Bool.or_false] at h; exact h)
          by_cases m1 : model = 1
          · have HT : Hid (z = false) := Lib.hid (by rw [← HG.out]; rw [decide_eq_false (show ¬ model ≠ 1 from fun h => h m1)]; rfl)
            clear HG
            go_wp2
            all_goals
              go_ret
              exact ⟨ret_bool HT.out.symm, HB.out⟩
          · replace HG := Lib.hid (by have h := HG.out; rw [decide_eq_true (show model ≠ 1 from m1), Bool.true_and] at h; exact h)
            by_cases m3 : model = 3
            · have HT : Hid (z = true) := Lib.hid (by rw [← HG.out]; rw [decide_eq_true m3]; rfl)
              clear HG
              go_wp2
              all_goals
                go_ret
                exact ⟨ret_bool HT.out.symm, HB.out⟩
            · replace HG := Lib.hid (by have h := HG.out; rw [decide_eq_false m3, Bool.false_or] at h; exact h)
              by_cases lr : (n : Int) ≤ room
              · have HT : Hid (z = true) := Lib.hid (by rw [← HG.out]; exact decide_eq_true lr)
                clear HG
                go_wp2
                all_goals
                  go_ret
                  exact ⟨ret_bool HT.out.symm, HB.out⟩
              · have HT : Hid (z = false) := Lib.hid (by rw [← HG.out]; exact decide_eq_false lr)
                have M3 := Lib.hid m3
                clear HG
                go_wp2
                all_goals
                  go_ret
                  first | exact ⟨ret_bool HT.out.symm, HB.out⟩ | exact ⟨ret_bool (by rw [HT.out]; simp [M3.out]), HB.out⟩
  · have HBF : Hid (z = false) := Lib.hid (by rw [← hz]; unfold refR; rw [if_pos (by omega)])
    rw [← hN]
    clear hv hz HCN
    go_enter Try.func34, Try.ntmps34
    go_wp2_with fail
    all_goals first
      | (go_ret
         exact ⟨ret_bool HBF.out.symm, Below.refl _ _⟩)
      | (exfalso; omega)

end Go.Proofs.Ytmkgijedchpgcaa
