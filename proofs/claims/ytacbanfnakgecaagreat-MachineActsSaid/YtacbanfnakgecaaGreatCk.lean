/- Layer 11, the code: Agents, Name, Number. Layer 11, the document's answer: Agents, digits. -/
import Derived.Test.YtacbanfnakgecaaGreatCi
import Derived.Test.YtacbanfnakgecaaGreatCe
import Derived.Test.YtacbanfnakgecaaGreatYa
import Derived.Test.YtacbanfnakgecaaGreatUl
namespace Go.Proofs.YtacbanfnakgecaaGreat
set_option linter.unusedSimpArgs false
set_option linter.unusedVariables false
open Go.RowKit
def agA (u : Un) (model : Int) : Nat := if rightU u = true then agN u.code.length u.init.length model else 0
def nameA (u : Un) (model a : Int) : ByteArray := if rightU u = true then nmG (agOf u.code.length u.init.length model a) else ⟨#[]⟩
def numG (nm : Int → ByteArray) (s : ByteArray) : Nat → Nat → Int
  | 0, _ => -1
  | f + 1, k => if nm (k : Int) = s then (k : Int) else numG nm s f (k + 1)
def numA (u : Un) (model : Int) (s : ByteArray) : Int := numG (nameA u model) s (agA u model) 0
theorem agOf_bd {u : Un} (h : rightU u = true) (model a : Int) : (∀ t, agOf u.code.length u.init.length model a = .thr t → 0 ≤ t ∧ t ≤ 5) ∧ ∀ t loc, agOf u.code.length u.init.length model a = .fl t loc → (0 ≤ t ∧ t ≤ 5) ∧ -1 ≤ loc ∧ loc ≤ 5 := by
  have hlc := rightU_lc h
  unfold agOf
  constructor
  · intro t ht
    split at ht
    · next hb =>
      split at ht
      · injection ht with ht; omega
      · split at ht <;> cases ht
    · cases ht
  · intro t loc ht
    split at ht
    · next hb =>
      split at ht
      · cases ht
      · next hn =>
        split at ht
        · next hm =>
          injection ht with h1 h2
          have h3 := hb.2
          unfold agN at h3
          rw [if_neg (by omega), if_pos hm] at h3
          omega
        · next hm =>
          injection ht with h1 h2
          have h3 := hb.2
          unfold agN at h3
          by_cases hm1 : model = 1
          · rw [if_pos hm1] at h3; omega
          rw [if_neg hm1, if_neg hm] at h3
          by_cases hm3 : model = 3
          · rw [if_pos hm3] at h3
            obtain ⟨d, hd⟩ : ∃ d : Nat, a - (u.code.length : Int) = (d : Int) := ⟨(a - u.code.length).toNat, by omega⟩
            rw [hd] at h1 h2
            have hdl : d < u.code.length * u.init.length := by omega
            have hni : 0 < u.init.length := by
              rcases Nat.eq_zero_or_pos u.init.length with h0 | h0
              · rw [h0, Nat.mul_zero] at hdl; omega
              · exact h0
            rw [← Int.natCast_ediv] at h1
            rw [← Int.natCast_emod] at h2
            have h5 : d / u.init.length < u.code.length := Nat.div_lt_of_lt_mul (by rw [Nat.mul_comm]; exact hdl)
            have h6 : d % u.init.length < u.init.length := Nat.mod_lt _ hni
            generalize d / u.init.length = qq at h1 h5
            generalize d % u.init.length = rr at h2 h6
            omega
          · rw [if_neg hm3] at h3; omega
    · cases ht
theorem mright_any (u : Un) (vi vr vc : Value) (w : World) (hd : UnD w vi vr vc u) (hs : ShortU u) (b : Bool) (hb : rightU u = b) :
    Calls Tryz.prog 63 #[.agg #[.int .i64 u.mod, vi, vr, vc]] w fun e w' => e = .returned (.bool b) ∧ Below w.heap.size w w' := lright_any u vi vr vc w hd hs b hb
set_option maxRecDepth 100000 in
set_option maxHeartbeats 2000000 in
theorem magents_any (u : Un) (model : Int) (vi vr vc : Value) (w : World) (hu : UnD w vi vr vc u) (hl : LtU u) (hs : ShortU u) (n : Int) (hn : (agA u model : Int) = n) :
    Calls Tryz.prog 39 #[.agg #[.int .i64 u.mod, vi, vr, vc], .int .i64 model] w fun e w' => e = .returned (.int .i64 n) ∧ Below w.heap.size w w' := by
  have HR := Lib.hid (fun (W : World) (h : Below w.heap.size w W) => mright_any u vi vr vc W (hu.below h) hs _ rfl)
  have HC := Lib.hid (fun (W : World) (h : Below w.heap.size w W) => mcount_any u model vi vr vc W (hu.below h) hl _ rfl)
  have L0 : Hid (Below w.heap.size w (w.alloc (.cells #[.int .i64 u.mod, vi, vr, vc] 25))) := (Below.refl _ _).alloc (Nat.le_refl _) _
  have KU := Lib.hid (Bk.new w 25 #[.int .i64 u.mod, vi, vr, vc])
  have HN : Hid (((if rightU u = true then agN u.code.length u.init.length model else 0 : Nat) : Int) = n) := Lib.hid hn
  clear hu hn
  generalize agN u.code.length u.init.length model = N at HC HN
  generalize rightU u = q at HR HN
  go_enter Tryz.func39, Tryz.ntmps39
  go_wp2_with fail
  generalize World.alloc w _ = w1 at L0 KU ⊢
  refine (HR.out w1 L0.out).mono ?_
  rintro e w2 ⟨rfl, b⟩
  have B2 := Lib.hid (L0.out.trans (b.mono L0.out.size))
  have KU2 := Lib.hid (KU.out.below b)
  clear b L0 KU
  obtain ⟨u0, u1, u2, u3, ul⟩ : w2.cell? ⟨w.heap.size, 0, none⟩ = some (.int .i64 u.mod) ∧ w2.cell? ⟨w.heap.size, 1, none⟩ = some vi ∧ w2.cell? ⟨w.heap.size, 2, none⟩ = some vr ∧ w2.cell? ⟨w.heap.size, 3, none⟩ = some vc ∧ w.heap.size < w2.heap.size := ⟨KU2.out.cell 0, KU2.out.cell 1, KU2.out.cell 2, KU2.out.cell 3, KU2.out.lt⟩
  cases q with
  | false =>
    go_wp2_with fail
    go_ret
    exact ⟨ret_int (by rw [← HN.out]; rfl), B2.out⟩
  | true =>
    go_wp2_with fail
    refine (HC.out w2 B2.out).mono ?_
    rintro e w3 ⟨rfl, b⟩
    go_wp2_with fail
    go_ret
    exact ⟨ret_int (by rw [← HN.out]; rfl), B2.out.trans (b.mono B2.out.size)⟩
set_option maxRecDepth 100000 in
set_option maxHeartbeats 2000000 in
theorem mname_any (u : Un) (model a : Int) (vi vr vc : Value) (w : World) (hu : UnD w vi vr vc u) (hl : LtU u) (hs : ShortU u) (s : ByteArray) (hn : nameA u model a = s) :
    Calls Tryz.prog 40 #[.agg #[.int .i64 u.mod, vi, vr, vc], .int .i64 model, .int .i64 a] w fun e w' => e = .returned (.string s) ∧ Below w.heap.size w w' := by
  have HR := Lib.hid (fun (W : World) (h : Below w.heap.size w W) => mright_any u vi vr vc W (hu.below h) hs _ rfl)
  obtain ⟨g, hg⟩ : ∃ g, agOf u.code.length u.init.length model a = g := ⟨_, rfl⟩
  have HAG := Lib.hid (fun (W : World) (h : Below w.heap.size w W) => agentOf_any u model a vi vr vc W (hu.below h) hl g hg)
  have HBD : Hid (rightU u = true → (∀ t, g = .thr t → 0 ≤ t ∧ t ≤ 5) ∧ ∀ t loc, g = .fl t loc → (0 ≤ t ∧ t ≤ 5) ∧ -1 ≤ loc ∧ loc ≤ 5) := Lib.hid (fun h => hg ▸ agOf_bd h model a)
  have L0 : Hid (Below w.heap.size w (w.alloc (.cells #[.int .i64 u.mod, vi, vr, vc] 25))) := (Below.refl _ _).alloc (Nat.le_refl _) _
  have KU := Lib.hid (Bk.new w 25 #[.int .i64 u.mod, vi, vr, vc])
  unfold nameA at hn
  rw [hg] at hn
  have HN := Lib.hid hn
  clear hu hn hg
  generalize rightU u = q at HR HN HBD
  cases g with
  | no =>
    have hs0 : s = ⟨#[]⟩ := by rw [← HN.out]; cases q <;> rfl
    subst hs0
    unfold agV agB at HAG
    go_enter Tryz.func40, Tryz.ntmps40
    go_wp2_with fail
    generalize World.alloc w _ = w1 at L0 KU ⊢
    refine (HAG.out w1 L0.out).mono ?_
    rintro e w2 ⟨rfl, b⟩
    go_wp2_with fail
    go_ret
    exact ⟨rfl, L0.out.trans (b.mono L0.out.size)⟩
  | thr t =>
    have HT := Lib.hid (fun h => (HBD.out h).1 t rfl)
    have hme := meth_thr_na #[.int .i64 u.mod, vi, vr, vc, .int .i64 model, .int .i64 t]
    unfold agV agB at HAG
    clear HBD
    go_enter Tryz.func40, Tryz.ntmps40
    go_wp2_with fail
    generalize World.alloc w _ = w1 at L0 KU ⊢
    refine (HAG.out w1 L0.out).mono ?_
    rintro e w2 ⟨rfl, b⟩
    have B2 := Lib.hid (L0.out.trans (b.mono L0.out.size))
    have KU2 := Lib.hid (KU.out.below b)
    clear b L0 KU
    obtain ⟨u0, u1, u2, u3, ul⟩ : w2.cell? ⟨w.heap.size, 0, none⟩ = some (.int .i64 u.mod) ∧ w2.cell? ⟨w.heap.size, 1, none⟩ = some vi ∧ w2.cell? ⟨w.heap.size, 2, none⟩ = some vr ∧ w2.cell? ⟨w.heap.size, 3, none⟩ = some vc ∧ w.heap.size < w2.heap.size := ⟨KU2.out.cell 0, KU2.out.cell 1, KU2.out.cell 2, KU2.out.cell 3, KU2.out.lt⟩
    go_wp2_with fail
    refine (HR.out w2 B2.out).mono ?_
    rintro e w3 ⟨rfl, b⟩
    replace B2 := Lib.hid (B2.out.trans (b.mono B2.out.size))
    clear b u0 u1 u2 u3 ul
    cases q with
    | false =>
      go_wp2_with fail
      go_ret
      exact ⟨ret_str (by rw [← HN.out]; rfl), B2.out⟩
    | true =>
      obtain ⟨h0, h5⟩ := HT.out rfl
      go_wp2_with fail
      refine (thr_na _ _ t _ _ _ w3 h0 h5).mono ?_
      rintro e w4 ⟨rfl, b⟩
      go_wp2_with fail
      go_ret
      exact ⟨ret_str (by rw [← HN.out]; rfl), B2.out.trans (b.mono B2.out.size)⟩
  | fl t loc =>
    have HT := Lib.hid (fun h => (HBD.out h).2 t loc rfl)
    have hme := meth_fl_na #[.int .i64 model, .int .i64 t, .int .i64 loc]
    unfold agV agB at HAG
    clear HBD
    go_enter Tryz.func40, Tryz.ntmps40
    go_wp2_with fail
    generalize World.alloc w _ = w1 at L0 KU ⊢
    refine (HAG.out w1 L0.out).mono ?_
    rintro e w2 ⟨rfl, b⟩
    have B2 := Lib.hid (L0.out.trans (b.mono L0.out.size))
    have KU2 := Lib.hid (KU.out.below b)
    clear b L0 KU
    obtain ⟨u0, u1, u2, u3, ul⟩ : w2.cell? ⟨w.heap.size, 0, none⟩ = some (.int .i64 u.mod) ∧ w2.cell? ⟨w.heap.size, 1, none⟩ = some vi ∧ w2.cell? ⟨w.heap.size, 2, none⟩ = some vr ∧ w2.cell? ⟨w.heap.size, 3, none⟩ = some vc ∧ w.heap.size < w2.heap.size := ⟨KU2.out.cell 0, KU2.out.cell 1, KU2.out.cell 2, KU2.out.cell 3, KU2.out.lt⟩
    go_wp2_with fail
    refine (HR.out w2 B2.out).mono ?_
    rintro e w3 ⟨rfl, b⟩
    replace B2 := Lib.hid (B2.out.trans (b.mono B2.out.size))
    clear b u0 u1 u2 u3 ul
    cases q with
    | false =>
      go_wp2_with fail
      go_ret
      exact ⟨ret_str (by rw [← HN.out]; rfl), B2.out⟩
    | true =>
      obtain ⟨⟨h0, h5⟩, l0, l5⟩ := HT.out rfl
      go_wp2_with fail
      refine (fl_na _ t loc w3 h0 h5 l0 l5).mono ?_
      rintro e w4 ⟨rfl, b⟩
      go_wp2_with fail
      go_ret
      exact ⟨ret_str (by rw [← HN.out]; rfl), B2.out.trans (b.mono B2.out.size)⟩
theorem toL_ne {a b : ByteArray} (h : ¬ a = b) : (a.toList == b.toList) = false := by
  rw [ByteArray.toList_eq, ByteArray.toList_eq]
  refine beq_eq_false_iff_ne.2 fun e => h ?_
  cases a; cases b
  exact congrArg ByteArray.mk (Array.toList_inj.1 e)
theorem numG_at (nm : Int → ByteArray) (s : ByteArray) (n k : Nat) (h : k < n) : numG nm s (n - k) k = if nm (k : Int) = s then (k : Int) else numG nm s (n - (k + 1)) (k + 1) := by
  obtain ⟨f, hf⟩ : ∃ f, n - k = f + 1 := ⟨n - k - 1, by omega⟩
  rw [hf, show n - (k + 1) = f by omega]; rfl
theorem numG_over (nm : Int → ByteArray) (s : ByteArray) (n k : Nat) (h : ¬ k < n) : numG nm s (n - k) k = -1 := by
  rw [show n - k = 0 by omega]; rfl
set_option maxRecDepth 100000 in
set_option maxHeartbeats 4000000 in
theorem mnumber_any (u : Un) (model : Int) (s : ByteArray) (vi vr vc : Value) (w : World) (hu : UnD w vi vr vc u) (hl : LtU u) (hs : ShortU u) (n : Int) (hn : numA u model s = n) :
    Calls Tryz.prog 41 #[.agg #[.int .i64 u.mod, vi, vr, vc], .int .i64 model, .string s] w fun e w' => e = .returned (.int .i64 n) ∧ Below w.heap.size w w' := by
  have HA := Lib.hid (fun (W : World) (h : Below w.heap.size w W) => magents_any u model vi vr vc W (hu.below h) hl hs _ rfl)
  have HAG := Lib.hid (fun (a : Int) (W : World) (h : Below w.heap.size w W) => agentOf_any u model a vi vr vc W (hu.below h) hl _ rfl)
  have HN : Hid (numG (nameA u model) s (agA u model - 0) 0 = n) := Lib.hid hn
  have HB := Lib.hid (show ∀ k : Nat, k < agA u model → rightU u = true ∧ agB (agOf u.code.length u.init.length model k) = true from fun k hk => by
    unfold agA at hk
    split at hk
    · next h =>
      refine ⟨h, ?_⟩
      unfold agOf
      rw [if_pos ⟨by omega, by omega⟩]
      split
      · rfl
      · split <;> rfl
    · omega)
  have hN4 : agA u model ≤ 420 := by unfold agA; have := agN_400 hl model; split <;> omega
  have HBD := Lib.hid (fun (h : rightU u = true) (a : Int) => agOf_bd h model a)
  have HNM := Lib.hid (fun (h : rightU u = true) (a : Int) => (show nameA u model a = nmG (agOf u.code.length u.init.length model a) by unfold nameA; rw [if_pos h]))
  have L0 : Hid (Below w.heap.size w (w.alloc (.cells #[.int .i64 u.mod, vi, vr, vc] 25))) := (Below.refl _ _).alloc (Nat.le_refl _) _
  have KU := Lib.hid (Bk.new w 25 #[.int .i64 u.mod, vi, vr, vc])
  clear hu hn
  generalize agA u model = N at HA HN HB hN4
  go_enter Tryz.func41, Tryz.ntmps41
  go_wp2_with fail
  generalize World.alloc w _ = w1 at L0 KU ⊢
  refine (HA.out w1 L0.out).mono ?_
  rintro e w2 ⟨rfl, b⟩
  have B2 := Lib.hid (L0.out.trans (b.mono L0.out.size))
  have KU2 := Lib.hid (KU.out.below b)
  clear b L0 KU
  go_wp2_with fail
  go_loopg [13] N (fun fuel i' wr => ∃ (k : Nat), i' = .int .i64 k ∧ k ≤ N ∧ N - k ≤ fuel ∧ Hid (numG (nameA u model) s (N - k) k = n) ∧ Below w2.heap.size w2 wr)
  case atStart => exact ⟨0, rfl, Nat.zero_le _, Nat.le_refl _, HN, Below.refl _ _⟩
  case round =>
    obtain ⟨k, rfl, hk, hf, HE0, hb⟩ := hrel
    have HE := HE0.out
    clear HE0
    have HB2 := Lib.hid (B2.out.trans (hb.mono B2.out.size))
    have KUR := Lib.hid (KU2.out.below hb)
    have HW := Lib.hid hb
    clear hb
    obtain ⟨u0, u1, u2, u3, ul⟩ : wr.cell? ⟨w.heap.size, 0, none⟩ = some (.int .i64 u.mod) ∧ wr.cell? ⟨w.heap.size, 1, none⟩ = some vi ∧ wr.cell? ⟨w.heap.size, 2, none⟩ = some vr ∧ wr.cell? ⟨w.heap.size, 3, none⟩ = some vc ∧ w.heap.size < wr.heap.size := ⟨KUR.out.cell 0, KUR.out.cell 1, KUR.out.cell 2, KUR.out.cell 3, KUR.out.lt⟩
    by_cases hlt : k < N
    · have HX := Lib.hid (HAG.out (k : Int) wr HB2.out)
      obtain ⟨hrt, hab⟩ := HB.out k hlt
      have hbd := HBD.out hrt (k : Int)
      have hnm := HNM.out hrt (k : Int)
      rw [numG_at _ _ _ _ hlt] at HE
      obtain ⟨g, hg⟩ : ∃ g, agOf u.code.length u.init.length model (k : Int) = g := ⟨_, rfl⟩
      rw [hg] at hab hbd
      cases g with
      | no => cases hab
      | thr t =>
        have hme := meth_thr_na #[.int .i64 u.mod, vi, vr, vc, .int .i64 model, .int .i64 t]
        obtain ⟨h0, h5⟩ := hbd.1 t rfl
        clear hab hbd
        rw [hg] at HX
        unfold agV agB at HX
        rw [hg] at hnm
        replace hnm := Lib.hid hnm
        go_wp2_with fail
        clear u0 u1 u2 u3 ul
        refine HX.out.mono ?_
        rintro e w3 ⟨rfl, b⟩
        replace HB2 := Lib.hid (HB2.out.trans (b.mono HB2.out.size))
        replace HW := Lib.hid (HW.out.trans (b.mono HW.out.size))
        clear b HX KUR
        go_wp2_with fail
        refine (thr_na _ _ t _ _ _ w3 h0 h5).mono ?_
        rintro e w4 ⟨rfl, b⟩
        replace HB2 := Lib.hid (HB2.out.trans (b.mono HB2.out.size))
        replace HW := Lib.hid (HW.out.trans (b.mono HW.out.size))
        clear b
        rw [hnm.out] at HE
        generalize nmG _ = y at HE ⊢
        by_cases hys : y = s
        · subst hys
          have hyy : (y.toList == y.toList) = true := by simp
          rw [if_pos rfl] at HE
          go_wp2_with fail
          go_ret
          exact ⟨rfl, HB2.out⟩
        · have hyy : (y.toList == s.toList) = false := toL_ne hys
          rw [if_neg hys] at HE
          replace hys := Lib.hid hys
          replace HE := Lib.hid HE
          go_wp2_with fail
          go_roundg (gk - 1)
          case measure => omega
          case rel => exact ⟨k + 1, by go_num, by omega, by omega, HE, HW.out⟩
      | fl t loc =>
        have hme := meth_fl_na #[.int .i64 model, .int .i64 t, .int .i64 loc]
        obtain ⟨⟨h0, h5⟩, l0, l5⟩ := hbd.2 t loc rfl
        clear hab hbd
        rw [hg] at HX
        unfold agV agB at HX
        rw [hg] at hnm
        replace hnm := Lib.hid hnm
        go_wp2_with fail
        clear u0 u1 u2 u3 ul
        refine HX.out.mono ?_
        rintro e w3 ⟨rfl, b⟩
        replace HB2 := Lib.hid (HB2.out.trans (b.mono HB2.out.size))
        replace HW := Lib.hid (HW.out.trans (b.mono HW.out.size))
        clear b HX KUR
        go_wp2_with fail
        refine (fl_na _ t loc w3 h0 h5 l0 l5).mono ?_
        rintro e w4 ⟨rfl, b⟩
        replace HB2 := Lib.hid (HB2.out.trans (b.mono HB2.out.size))
        replace HW := Lib.hid (HW.out.trans (b.mono HW.out.size))
        clear b
        rw [hnm.out] at HE
        generalize nmG _ = y at HE ⊢
        by_cases hys : y = s
        · subst hys
          have hyy : (y.toList == y.toList) = true := by simp
          rw [if_pos rfl] at HE
          go_wp2_with fail
          go_ret
          exact ⟨rfl, HB2.out⟩
        · have hyy : (y.toList == s.toList) = false := toL_ne hys
          rw [if_neg hys] at HE
          replace hys := Lib.hid hys
          replace HE := Lib.hid HE
          go_wp2_with fail
          go_roundg (gk - 1)
          case measure => omega
          case rel => exact ⟨k + 1, by go_num, by omega, by omega, HE, HW.out⟩
    · obtain rfl : k = N := by omega
      rw [numG_over _ _ _ _ hlt] at HE
      subst HE
      go_wp2_with fail
      go_ret
      exact ⟨rfl, HB2.out⟩
end Go.Proofs.YtacbanfnakgecaaGreat

namespace Go.Proofs.YtacbanfnakgecaaGreat
set_option linter.unusedSimpArgs false
set_option linter.unusedVariables false
open Go.RowKit
set_option maxRecDepth 100000 in
set_option maxHeartbeats 2000000 in
theorem ragents_any (u : Un) (model : Int) (vi vr vc : Value) (w : World) (hu : UnD w vi vr vc u) (hs : ShortU u) (n : Int) (hn : (agA u model : Int) = n) :
    Calls Tryz.prog 46 #[.agg #[.int .i64 u.mod, vi, vr, vc], .int .i64 model] w fun e w' => e = .returned (.int .i64 n) ∧ Below w.heap.size w w' := by
  have HR := Lib.hid (fun (W : World) (h : Below w.heap.size w W) => uright_any u vi vr vc W (hu.below h) hs _ rfl)
  have L0 : Hid (Below w.heap.size w (w.alloc (.cells #[.int .i64 u.mod, vi, vr, vc] 25))) := (Below.refl _ _).alloc (Nat.le_refl _) _
  obtain ⟨ai, ci, rfl⟩ := hu.i.shape0
  obtain ⟨ar, cr, rfl⟩ := hu.r.shape0
  have KU := Lib.hid (Bk.new w 25 #[.int .i64 u.mod, .slice ai u.init.length ci, .slice ar u.regs.length cr, vc])
  subst hn
  obtain ⟨q, hq⟩ : ∃ q, rightU u = q := ⟨_, rfl⟩
  rw [hq] at HR
  have HLC : Hid (q = true → u.regs.length = u.code.length ∧ u.regs.length ≤ 4 ∧ u.init.length ≤ 6) := Lib.hid (fun h => by have := rightU_lc (hq.trans h); omega)
  have HA : Hid (agA u model = if q = true then agN u.code.length u.init.length model else 0) := Lib.hid (by unfold agA; rw [hq])
  clear hu hq hs
  generalize agA u model = N at HA ⊢
  generalize u.init.length = ni at *
  generalize u.regs.length = nr at *
  generalize u.code.length = nc at *
  cases q with
  | false =>
    obtain rfl : N = 0 := HA.out
    go_enter Tryz.func46, Tryz.ntmps46
    go_wp2_with fail
    generalize World.alloc w _ = w1 at L0 KU ⊢
    refine (HR.out w1 L0.out).mono ?_
    rintro e w2 ⟨rfl, b⟩
    go_wp2_with fail
    go_ret
    exact ⟨rfl, L0.out.trans (b.mono L0.out.size)⟩
  | true =>
    obtain ⟨rfl, h4, h6⟩ := HLC.out rfl
    replace HA := Lib.hid (HA.out.trans (if_pos rfl))
    have hmul : nr * ni ≤ 4 * 6 := Nat.mul_le_mul h4 h6
    have h3 : ((nr * ni : Nat) : Int) = (nr : Int) * (ni : Int) := Int.natCast_mul nr ni
    have w1' : IntKind.i64.wrap (2 * (nr : Int)) = 2 * (nr : Int) := IntWalk.i64_in _ (by omega)
    have w2' : IntKind.i64.wrap ((nr : Int) * (ni : Int)) = (nr : Int) * (ni : Int) := IntWalk.i64_in _ (by omega)
    have w3' : IntKind.i64.wrap ((nr : Int) + (nr : Int) * (ni : Int)) = (nr : Int) + (nr : Int) * (ni : Int) := IntWalk.i64_in _ (by omega)
    by_cases m1 : model = 1
    · subst m1
      obtain rfl : N = nr := HA.out.trans (by unfold agN; rw [if_pos rfl])
      go_enter Tryz.func46, Tryz.ntmps46
      go_wp2_with fail
      generalize World.alloc w _ = w1 at L0 KU ⊢
      refine (HR.out w1 L0.out).mono ?_
      rintro e w2 ⟨rfl, b⟩
      have KU2 := Lib.hid (KU.out.below b)
      obtain ⟨u0, u1, u2, u3, ul⟩ : w2.cell? ⟨w.heap.size, 0, none⟩ = some (.int .i64 u.mod) ∧ w2.cell? ⟨w.heap.size, 1, none⟩ = some (.slice ai ni ci) ∧ w2.cell? ⟨w.heap.size, 2, none⟩ = some (.slice ar N cr) ∧ w2.cell? ⟨w.heap.size, 3, none⟩ = some vc ∧ w.heap.size < w2.heap.size := ⟨KU2.out.cell 0, KU2.out.cell 1, KU2.out.cell 2, KU2.out.cell 3, KU2.out.lt⟩
      go_wp2_with fail
      go_ret
      exact ⟨rfl, L0.out.trans (b.mono L0.out.size)⟩
    by_cases m2 : model = 2
    · subst m2
      obtain rfl : N = nr + nr := HA.out.trans (by unfold agN; simp)
      go_enter Tryz.func46, Tryz.ntmps46
      go_wp2_with fail
      generalize World.alloc w _ = w1 at L0 KU ⊢
      refine (HR.out w1 L0.out).mono ?_
      rintro e w2 ⟨rfl, b⟩
      have KU2 := Lib.hid (KU.out.below b)
      obtain ⟨u0, u1, u2, u3, ul⟩ : w2.cell? ⟨w.heap.size, 0, none⟩ = some (.int .i64 u.mod) ∧ w2.cell? ⟨w.heap.size, 1, none⟩ = some (.slice ai ni ci) ∧ w2.cell? ⟨w.heap.size, 2, none⟩ = some (.slice ar nr cr) ∧ w2.cell? ⟨w.heap.size, 3, none⟩ = some vc ∧ w.heap.size < w2.heap.size := ⟨KU2.out.cell 0, KU2.out.cell 1, KU2.out.cell 2, KU2.out.cell 3, KU2.out.lt⟩
      go_wp2_with fail
      go_ret
      exact ⟨ret_int (by omega), L0.out.trans (b.mono L0.out.size)⟩
    by_cases m3 : model = 3
    · subst m3
      obtain rfl : N = nr + nr * ni := HA.out.trans (by unfold agN; simp)
      go_enter Tryz.func46, Tryz.ntmps46
      go_wp2_with fail
      generalize World.alloc w _ = w1 at L0 KU ⊢
      refine (HR.out w1 L0.out).mono ?_
      rintro e w2 ⟨rfl, b⟩
      have KU2 := Lib.hid (KU.out.below b)
      obtain ⟨u0, u1, u2, u3, ul⟩ : w2.cell? ⟨w.heap.size, 0, none⟩ = some (.int .i64 u.mod) ∧ w2.cell? ⟨w.heap.size, 1, none⟩ = some (.slice ai ni ci) ∧ w2.cell? ⟨w.heap.size, 2, none⟩ = some (.slice ar nr cr) ∧ w2.cell? ⟨w.heap.size, 3, none⟩ = some vc ∧ w.heap.size < w2.heap.size := ⟨KU2.out.cell 0, KU2.out.cell 1, KU2.out.cell 2, KU2.out.cell 3, KU2.out.lt⟩
      go_wp2_with fail
      go_ret
      exact ⟨ret_int (by omega), L0.out.trans (b.mono L0.out.size)⟩
    · obtain rfl : N = 0 := HA.out.trans (by unfold agN; rw [if_neg m1, if_neg m2, if_neg m3])
      replace HA := m1
      have n1 : (model == 1) = false := by simpa using m1
      have n2 : (model == 2) = false := by simpa using m2
      have n3 : (model == 3) = false := by simpa using m3
      clear HA
      replace m1 := Lib.hid m1
      replace m2 := Lib.hid m2
      replace m3 := Lib.hid m3
      go_enter Tryz.func46, Tryz.ntmps46
      go_wp2_with fail
      generalize World.alloc w _ = w1 at L0 KU ⊢
      refine (HR.out w1 L0.out).mono ?_
      rintro e w2 ⟨rfl, b⟩
      have KU2 := Lib.hid (KU.out.below b)
      obtain ⟨u0, u1, u2, u3, ul⟩ : w2.cell? ⟨w.heap.size, 0, none⟩ = some (.int .i64 u.mod) ∧ w2.cell? ⟨w.heap.size, 1, none⟩ = some (.slice ai ni ci) ∧ w2.cell? ⟨w.heap.size, 2, none⟩ = some (.slice ar nr cr) ∧ w2.cell? ⟨w.heap.size, 3, none⟩ = some vc ∧ w.heap.size < w2.heap.size := ⟨KU2.out.cell 0, KU2.out.cell 1, KU2.out.cell 2, KU2.out.cell 3, KU2.out.lt⟩
      go_wp2_with fail
      go_ret
      exact ⟨rfl, L0.out.trans (b.mono L0.out.size)⟩
end Go.Proofs.YtacbanfnakgecaaGreat
