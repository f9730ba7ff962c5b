/- MachineNames' plain facts: two agents have two names. MachineNames: its walk. -/
import Derived.Test.YtobmbkgeafbamaaGreatCk
import Derived.Test.YtobmbkgeafbamaaGreatCq
import Derived.Test.YtobmbkgeafbamaaGreatCf
namespace Go.Proofs.YtobmbkgeafbamaaGreat
set_option linter.unusedSimpArgs false
set_option linter.unusedVariables false
open Go.RowKit

def nmL : Ag → List UInt8
  | .no => []
  | .thr t => [116, UInt8.ofNat (48 + t.toNat)]
  | .fl t loc => if loc = -1 then [102, UInt8.ofNat (48 + t.toNat)] else [102, UInt8.ofNat (48 + t.toNat), 46, UInt8.ofNat (48 + loc.toNat)]
theorem nmL_thr (t : Int) : nmL (.thr t) = [116, UInt8.ofNat (48 + t.toNat)] := rfl
theorem nmL_fl (t loc : Int) : nmL (.fl t loc) = if loc = -1 then [102, UInt8.ofNat (48 + t.toNat)] else [102, UInt8.ofNat (48 + t.toNat), 46, UInt8.ofNat (48 + loc.toNat)] := rfl
theorem nmG_fl (t loc : Int) : nmG (.fl t loc) = if loc = -1 then byF ++ dgS t else byF ++ dgS t ++ byP ++ dgS loc := rfl
theorem nmG_list (g : Ag) : (nmG g).data.toList = nmL g := by
  cases g with
  | no => rfl
  | thr t => show (byT ++ dgS t).data.toList = _; rw [nmL_thr, ByteArray.data_append]; rfl
  | fl t loc =>
    rw [nmG_fl, nmL_fl]
    split
    · rw [ByteArray.data_append]; rfl
    · rw [ByteArray.data_append, ByteArray.data_append, ByteArray.data_append]; rfl
theorem dig_inj {a b : Int} (ha : 0 ≤ a ∧ a ≤ 5) (hb : 0 ≤ b ∧ b ≤ 5) (h : UInt8.ofNat (48 + a.toNat) = UInt8.ofNat (48 + b.toNat)) : a = b := by
  have h1 := congrArg UInt8.toNat h
  rw [UInt8.toNat_ofNat', UInt8.toNat_ofNat'] at h1
  omega
/-- Bounds of an agent. -/
def agOK : Ag → Prop
  | .no => False
  | .thr t => 0 ≤ t ∧ t ≤ 5
  | .fl t loc => (0 ≤ t ∧ t ≤ 5) ∧ -1 ≤ loc ∧ loc ≤ 5
theorem nmL_inj {g g' : Ag} (h : agOK g) (h' : agOK g') (he : nmL g = nmL g') : g = g' := by
  cases g with
  | no => exact h.elim
  | thr t =>
    cases g' with
    | no => exact h'.elim
    | thr t' =>
      rw [nmL_thr, nmL_thr] at he
      injection he with _ he
      injection he with he _
      rw [dig_inj h h' he]
    | fl t' l' =>
      rw [nmL_thr, nmL_fl] at he
      split at he <;> (injection he with he _; exact absurd he (by decide))
  | fl t l =>
    cases g' with
    | no => exact h'.elim
    | thr t' =>
      rw [nmL_thr, nmL_fl] at he
      split at he <;> (injection he with he _; exact absurd he (by decide))
    | fl t' l' =>
      rw [nmL_fl, nmL_fl] at he
      by_cases h1 : l = -1
      · by_cases h2 : l' = -1
        · rw [if_pos h1, if_pos h2] at he
          injection he with _ he
          injection he with he _
          rw [dig_inj h.1 h'.1 he, h1, h2]
        · rw [if_pos h1, if_neg h2] at he
          have := congrArg List.length he
          simp at this
      · by_cases h2 : l' = -1
        · rw [if_neg h1, if_pos h2] at he
          have := congrArg List.length he
          simp at this
        · rw [if_neg h1, if_neg h2] at he
          injection he with _ he
          injection he with e1 he
          injection he with _ he
          injection he with e2 _
          rw [dig_inj h.1 h'.1 e1, dig_inj ⟨by have := h.2; omega, h.2.2⟩ ⟨by have := h'.2; omega, h'.2.2⟩ e2]
def backA (n l : Nat) : Ag → Int
  | .no => -1
  | .thr t => t
  | .fl t loc => if loc = -1 then n + t else n + (t * l + loc)
theorem back_fl (n l : Nat) (t loc : Int) : backA n l (.fl t loc) = if loc = -1 then n + t else n + (t * l + loc) := rfl
theorem back_agOf {u : Un} (h : rightU u = true) (model a : Int) (ha : 0 ≤ a ∧ a < (agN u.code.length u.init.length model : Int)) : backA u.code.length u.init.length (agOf u.code.length u.init.length model a) = a ∧ agOK (agOf u.code.length u.init.length model a) := by
  have hb := agOf_bd h model a
  obtain ⟨g, hg⟩ : ∃ g, agOf u.code.length u.init.length model a = g := ⟨_, rfl⟩
  rw [hg] at hb ⊢
  have hg' := hg
  unfold agOf at hg
  rw [if_pos ha] at hg
  by_cases h1 : a < u.code.length
  · rw [if_pos h1] at hg
    subst hg
    exact ⟨rfl, hb.1 a rfl⟩
  rw [if_neg h1] at hg
  by_cases h2 : model = 2
  · rw [if_pos h2] at hg
    subst hg
    refine ⟨?_, hb.2 _ _ rfl⟩
    rw [back_fl, if_pos rfl]; omega
  · rw [if_neg h2] at hg
    subst hg
    have hbd := hb.2 _ _ rfl
    refine ⟨?_, hbd⟩
    rw [back_fl]
    have hl : 0 < u.init.length := by
      have h3 := ha.2
      unfold agN at h3
      by_cases hm1 : model = 1
      · rw [if_pos hm1] at h3; omega
      rw [if_neg hm1, if_neg h2] at h3
      by_cases hm3 : model = 3
      · rw [if_pos hm3] at h3
        rcases Nat.eq_zero_or_pos u.init.length with h0 | h0
        · rw [h0, Nat.mul_zero] at h3; omega
        · exact h0
      · rw [if_neg hm3] at h3; omega
    have hm := Int.emod_nonneg (a - (u.code.length : Int)) (show (u.init.length : Int) ≠ 0 by omega)
    rw [if_neg (by omega)]
    have := Int.mul_ediv_add_emod (a - (u.code.length : Int)) (u.init.length : Int)
    rw [Int.mul_comm] at this
    omega
theorem name_inj {u : Un} (h : rightU u = true) (model a b : Int) (ha : 0 ≤ a ∧ a < (agN u.code.length u.init.length model : Int)) (hb : 0 ≤ b ∧ b < (agN u.code.length u.init.length model : Int)) (he : nameA u model a = nameA u model b) : a = b := by
  unfold nameA at he
  rw [if_pos h, if_pos h] at he
  obtain ⟨e1, k1⟩ := back_agOf h model a ha
  obtain ⟨e2, k2⟩ := back_agOf h model b hb
  have h3 : nmL (agOf u.code.length u.init.length model a) = nmL (agOf u.code.length u.init.length model b) := by rw [← nmG_list, ← nmG_list, he]
  have h4 := nmL_inj k1 k2 h3
  rw [← e1, ← e2, h4]
theorem name_some {u : Un} (h : rightU u = true) (model a : Int) (ha : 0 ≤ a ∧ a < (agN u.code.length u.init.length model : Int)) : nameA u model a ≠ ⟨#[]⟩ := by
  intro he
  unfold nameA at he
  rw [if_pos h] at he
  obtain ⟨_, k1⟩ := back_agOf h model a ha
  have h3 := nmG_list (agOf u.code.length u.init.length model a)
  rw [he] at h3
  revert h3 k1
  cases agOf u.code.length u.init.length model a with
  | no => exact fun k _ => k.elim
  | thr t => intro _ h; cases h
  | fl t loc => intro _ h; rw [nmL_fl] at h; split at h <;> cases h
theorem numG_first (nm : Int → ByteArray) (s : ByteArray) : ∀ (f k a : Nat), k ≤ a → a < k + f → nm (a : Int) = s → (∀ j, k ≤ j → j < a → nm (j : Int) ≠ s) → numG nm s f k = (a : Int)
  | 0, k, a, h1, h2, _, _ => by omega
  | f + 1, k, a, h1, h2, h3, h4 => by
    show (if nm (k : Int) = s then (k : Int) else numG nm s f (k + 1)) = _
    by_cases hk : k = a
    · subst hk; rw [if_pos h3]
    · rw [if_neg (h4 k (Nat.le_refl _) (by omega))]
      exact numG_first nm s f (k + 1) a (by omega) (by omega) h3 fun j hj hja => h4 j (by omega) hja
theorem numG_none (nm : Int → ByteArray) (s : ByteArray) : ∀ (f k : Nat), (∀ j, k ≤ j → j < k + f → nm (j : Int) ≠ s) → numG nm s f k = -1
  | 0, k, _ => rfl
  | f + 1, k, h => by
    show (if nm (k : Int) = s then (k : Int) else numG nm s f (k + 1)) = _
    rw [if_neg (h k (Nat.le_refl _) (by omega))]
    exact numG_none nm s f (k + 1) fun j hj hjf => h j (by omega) (by omega)
/-- A name's number is its agent's. -/
theorem num_name (u : Un) (model a : Int) (h : nameA u model a ≠ ⟨#[]⟩) : numA u model (nameA u model a) = a := by
  have hr : rightU u = true := by
    cases hq : rightU u with
    | true => rfl
    | false => exfalso; apply h; unfold nameA; rw [if_neg (by rw [hq]; simp)]
  have ha : 0 ≤ a ∧ a < (agN u.code.length u.init.length model : Int) := by
    apply Classical.byContradiction
    intro hn
    apply h
    unfold nameA agOf
    rw [if_pos hr, if_neg hn]
    rfl
  unfold numA agA
  rw [if_pos hr]
  obtain ⟨k, rfl⟩ : ∃ k : Nat, a = (k : Int) := ⟨a.toNat, by omega⟩
  refine numG_first _ _ _ 0 k (Nat.zero_le _) (by omega) rfl fun j _ hj he => ?_
  have := name_inj hr model (j : Int) (k : Int) ⟨by omega, by omega⟩ ha he
  omega
theorem num_none (u : Un) (model : Int) : numA u model ⟨#[]⟩ = -1 := by
  unfold numA
  refine numG_none _ _ _ 0 fun j _ hj => ?_
  unfold agA at hj
  split at hj
  · next hr => exact name_some hr model (j : Int) ⟨by omega, by omega⟩
  · omega

end Go.Proofs.YtobmbkgeafbamaaGreat

namespace Go.Proofs.YtobmbkgeafbamaaGreat
set_option linter.unusedSimpArgs false
set_option linter.unusedVariables false
open Go.RowKit

attribute [local go_sem ↓] Go.wp_at_zero Go.wp_at_succ
set_option maxRecDepth 100000 in
set_option maxHeartbeats 16000000 in
theorem mnames_in (hkn : ∀ W : World, Calls Tryz.prog 23 #[] W fun e w' => e = .returned (.bool true) ∧ Below W.heap.size W w') (u : Un) (model : Int) (s : ByteArray) (vi vr vc : Value) (w : World) (hu : UnD w vi vr vc u) :
    Calls Tryz.prog 5 #[.agg #[.int .i64 u.mod, vi, vr, vc], .int .i64 model, .string s] w fun e w' => e = .returned (.bool true) ∧ Below w.heap.size w w' := by
  have HKN := Lib.hid hkn
  have HU := Lib.hid hu
  have HLT := Lib.hid (fun (W : World) (h : Below w.heap.size w W) => ulight_any u _ _ _ W (HU.out.below h) _ rfl)
  have HAG := Lib.hid (fun (hl : LtU u) (hs : ShortU u) (W : World) (h : Below w.heap.size w W) => magents_any u model _ _ _ W (HU.out.below h) hl hs _ rfl)
  have HRA := Lib.hid (fun (hl : LtU u) (hs : ShortU u) (W : World) (h : Below w.heap.size w W) => ragents_any u model _ _ _ W (HU.out.below h) hs _ rfl)
  have HNU := Lib.hid (fun (hl : LtU u) (hs : ShortU u) (s : ByteArray) (W : World) (h : Below w.heap.size w W) => mnumber_any u model s _ _ _ W (HU.out.below h) hl hs _ rfl)
  have HRN := Lib.hid (fun (hl : LtU u) (hs : ShortU u) (s : ByteArray) (W : World) (h : Below w.heap.size w W) => rnumber_any u model s _ _ _ W (HU.out.below h) hl hs _ rfl)
  have HNA := Lib.hid (fun (hl : LtU u) (hs : ShortU u) (a : Int) (W : World) (h : Below w.heap.size w W) => mname_any u model a _ _ _ W (HU.out.below h) hl hs _ rfl)
  have HRM := Lib.hid (fun (hl : LtU u) (hs : ShortU u) (a : Int) (W : World) (h : Below w.heap.size w W) => rname_any u model a _ _ _ W (HU.out.below h) hs _ rfl)
  have HN4 : Hid (LtU u → agA u model ≤ 420) := Lib.hid (fun hl => by unfold agA; have := agN_400 hl model; split <;> omega)
  have HNN := Lib.hid (num_none u model)
  have HNE := Lib.hid (fun (a : Int) => num_name u model a)
  obtain ⟨q, hq⟩ : ∃ q, lightU u = q := ⟨_, rfl⟩
  rw [hq] at HLT
  have HSH : Hid (q = true → ShortU u) := Lib.hid (fun h => lightU_short (hq.trans h))
  have HLU : Hid (q = true → LtU u) := Lib.hid (fun h => by have h9 := hq.trans h; unfold lightU at h9; simp only [Bool.and_eq_true, decide_eq_true_eq] at h9; exact ⟨by omega, by omega⟩)
  clear hu hq hkn HU
  generalize u.mod = md at HLT HAG HRA HNU HRN HNA HRM ⊢
  generalize agA u model = N at HAG HRA HN4
  have Ku := Lib.hid (Bk.new w 25 #[.int .i64 md, vi, vr, vc])
  have B : Hid (Below w.heap.size w (World.alloc w (.cells #[.int .i64 md, vi, vr, vc] 25))) := Lib.hid (bal (Below.refl _ _) _)
  by_cases hsz : s.size ≤ 300
  case neg =>
    have hs1 : 300 < s.size := by omega
    have hs2 : (300 : Int) < (s.size : Int) := by omega
    go_enter Tryz.func5, Tryz.ntmps5
    go_wp2_with fail
    generalize World.alloc w _ = w1 at Ku B ⊢
    refine (HLT.out w1 B.out).mono ?_
    rintro e w2 ⟨rfl, b⟩
    replace Ku := Lib.hid (Ku.out.below b)
    replace B := Lib.hid (B.out.trans (b.mono B.out.size))
    clear b
    cases q with
    | false =>
      go_wp2_with fail
      refine (HKN.out w2).mono ?_
      rintro e w3 ⟨rfl, b⟩
      replace Ku := Lib.hid (Ku.out.below b)
      replace B := Lib.hid (B.out.trans (b.mono B.out.size))
      clear b
      go_wp2
      go_ret
      exact ⟨ret_bool rfl, B.out⟩
    | true =>
      go_wp2_with fail
      refine (HKN.out w2).mono ?_
      rintro e w3 ⟨rfl, b⟩
      replace Ku := Lib.hid (Ku.out.below b)
      replace B := Lib.hid (B.out.trans (b.mono B.out.size))
      clear b
      go_wp2
      go_ret
      exact ⟨ret_bool rfl, B.out⟩
  have hs1 : ¬ 300 < s.size := by omega
  have hs2 : ¬ (300 : Int) < (s.size : Int) := by omega
  go_enter Tryz.func5, Tryz.ntmps5
  go_wp2_with fail
  generalize World.alloc w _ = w1 at Ku B ⊢
  refine (HLT.out w1 B.out).mono ?_
  rintro e w2 ⟨rfl, b⟩
  replace Ku := Lib.hid (Ku.out.below b)
  replace B := Lib.hid (B.out.trans (b.mono B.out.size))
  clear b
  cases q with
  | false =>
    go_wp2_with fail
    refine (HKN.out w2).mono ?_
    rintro e w3 ⟨rfl, b⟩
    replace Ku := Lib.hid (Ku.out.below b)
    replace B := Lib.hid (B.out.trans (b.mono B.out.size))
    clear b
    go_wp2
    go_ret
    exact ⟨ret_bool rfl, B.out⟩
  | true =>
    have hl := HLU.out rfl
    have hsh := HSH.out rfl
    replace HAG := Lib.hid (HAG.out hl hsh)
    replace HRA := Lib.hid (HRA.out hl hsh)
    replace HNU := Lib.hid (HNU.out hl hsh)
    replace HRN := Lib.hid (HRN.out hl hsh)
    replace HNA := Lib.hid (HNA.out hl hsh)
    replace HRM := Lib.hid (HRM.out hl hsh)
    have hN := HN4.out hl
    clear hl hsh HLU HSH HN4
    obtain ⟨uc0, uc1, uc2, uc3, ucl⟩ : w2.cell? ⟨w.heap.size, 0, none⟩ = some (.int .i64 md) ∧ w2.cell? ⟨w.heap.size, 1, none⟩ = some (vi) ∧ w2.cell? ⟨w.heap.size, 2, none⟩ = some (vr) ∧ w2.cell? ⟨w.heap.size, 3, none⟩ = some (vc) ∧ w.heap.size < w2.heap.size := ⟨Ku.out.cell 0, Ku.out.cell 1, Ku.out.cell 2, Ku.out.cell 3, Ku.out.lt⟩
    go_wp2_with fail
    clear uc0 uc1 uc2 uc3 ucl
    refine (HAG.out w2 B.out).mono ?_
    rintro e w3 ⟨rfl, b⟩
    replace Ku := Lib.hid (Ku.out.below b)
    replace B := Lib.hid (B.out.trans (b.mono B.out.size))
    clear b
    have hnn : ((N : Int) != (N : Int)) = false := by simp
    have HRA2 := Lib.hid (fun (W : World) (h : Below w3.heap.size w3 W) => HRA.out W (B.out.trans (h.mono B.out.size)))
    have HNU2 := Lib.hid (fun (W : World) (h : Below w3.heap.size w3 W) => HNU.out s W (B.out.trans (h.mono B.out.size)))
    have HRN2 := Lib.hid (fun (W : World) (h : Below w3.heap.size w3 W) => HRN.out s W (B.out.trans (h.mono B.out.size)))
    have hmm : ((numA u model s) != (numA u model s)) = false := by simp
    generalize numA u model s = z0 at HNU2 HRN2 hmm
    obtain ⟨uc0, uc1, uc2, uc3, ucl⟩ : w3.cell? ⟨w.heap.size, 0, none⟩ = some (.int .i64 md) ∧ w3.cell? ⟨w.heap.size, 1, none⟩ = some (vi) ∧ w3.cell? ⟨w.heap.size, 2, none⟩ = some (vr) ∧ w3.cell? ⟨w.heap.size, 3, none⟩ = some (vc) ∧ w.heap.size < w3.heap.size := ⟨Ku.out.cell 0, Ku.out.cell 1, Ku.out.cell 2, Ku.out.cell 3, Ku.out.lt⟩
    go_wp2_with fail
    have HCC := Lib.hid (fun (w' : World) (h : Below w3.heap.size w3 w') => (⟨(h.cell (p := ⟨w.heap.size, _, none⟩) Ku.out.lt).trans (Ku.out.cell 0), (h.cell (p := ⟨w.heap.size, _, none⟩) Ku.out.lt).trans (Ku.out.cell 1), (h.cell (p := ⟨w.heap.size, _, none⟩) Ku.out.lt).trans (Ku.out.cell 2), (h.cell (p := ⟨w.heap.size, _, none⟩) Ku.out.lt).trans (Ku.out.cell 3), h⟩ : (fun w' => w'.cell? ⟨w.heap.size, 0, none⟩ = some (.int .i64 md) ∧ w'.cell? ⟨w.heap.size, 1, none⟩ = some (vi) ∧ w'.cell? ⟨w.heap.size, 2, none⟩ = some (vr) ∧ w'.cell? ⟨w.heap.size, 3, none⟩ = some (vc) ∧ Below w3.heap.size w3 w') w'))
    have bb0 : Below w3.heap.size w3 w3 := Below.refl _ _
    clear uc0 uc1 uc2 uc3 ucl
    go_region_held3 (fun w' => w'.cell? ⟨w.heap.size, 0, none⟩ = some (.int .i64 md) ∧ w'.cell? ⟨w.heap.size, 1, none⟩ = some (vi) ∧ w'.cell? ⟨w.heap.size, 2, none⟩ = some (vr) ∧ w'.cell? ⟨w.heap.size, 3, none⟩ = some (vc) ∧ Below w3.heap.size w3 w')
      (first | with_reducible exact HCC.out _ bb0 | with_reducible exact HCC.out _ bb0.drew | with_reducible assumption | (go_split_ands; with_reducible exact HCC.out _ (by with_reducible assumption)))
      ((first | (go_split_ands; (with_reducible refine Calls.mono (HRA2.out _ (by assumption)) ?_); rintro e wn ⟨rfl, bn⟩; have bb : Below w3.heap.size w3 wn := Below.trans (by assumption) (bn.mono (Below.size (by assumption)))) | (go_split_ands; (with_reducible refine Calls.mono (HNU2.out _ (by assumption)) ?_); rintro e wn ⟨rfl, bn⟩; have bb : Below w3.heap.size w3 wn := Below.trans (by assumption) (bn.mono (Below.size (by assumption)))) | (go_split_ands; (with_reducible refine Calls.mono (HRN2.out _ (by assumption)) ?_); rintro e wn ⟨rfl, bn⟩; have bb : Below w3.heap.size w3 wn := Below.trans (by assumption) (bn.mono (Below.size (by assumption))))))
    all_goals
      go_split_ands
      go_wp2_with fail
      go_loopg [8] (N + 2) (fun fuel i' wr => ∃ (m : Int), i' = .int .i64 m ∧ -1 ≤ m ∧ m ≤ (N : Int) + 1 ∧ ((N : Int) + 1 - m).toNat ≤ fuel ∧ Below w3.heap.size w3 wr)
      case atStart => exact ⟨-1, rfl, by omega, by omega, by omega, by assumption⟩
      case round =>
        obtain ⟨m, rfl, hm1, hm2, hf, hb⟩ := hrel
        clear bb0 HCC HRA2 HNU2 HRN2 hmm
        have HB := Lib.hid hb
        have Kr := Lib.hid (Ku.out.below hb)
        have Br := Lib.hid (B.out.trans (hb.mono B.out.size))
        clear hb
        by_cases hlt : m ≤ (N : Int)
        ·
          have hw : IntKind.i64.wrap (m + 1) = m + 1 := IntWalk.i64_in _ (by omega)
          obtain ⟨y, hy⟩ : ∃ y, nameA u model m = y := ⟨_, rfl⟩
          have HX := Lib.hid (HNA.out m)
          have HY := Lib.hid (HRM.out m)
          have HZ := HNE.out m
          rw [hy] at HX HY HZ
          replace HZ := Lib.hid HZ
          clear hy
          obtain ⟨rc0, rc1, rc2, rc3, rcl⟩ : wr.cell? ⟨w.heap.size, 0, none⟩ = some (.int .i64 md) ∧ wr.cell? ⟨w.heap.size, 1, none⟩ = some (vi) ∧ wr.cell? ⟨w.heap.size, 2, none⟩ = some (vr) ∧ wr.cell? ⟨w.heap.size, 3, none⟩ = some (vc) ∧ w.heap.size < wr.heap.size := ⟨Kr.out.cell 0, Kr.out.cell 1, Kr.out.cell 2, Kr.out.cell 3, Kr.out.lt⟩
          go_wp2_with fail
          clear rc0 rc1 rc2 rc3 rcl
          refine (HX.out wr Br.out).mono ?_
          rintro e w5 ⟨rfl, b⟩
          replace Kr := Lib.hid (Kr.out.below b)
          replace Br := Lib.hid (Br.out.trans (b.mono Br.out.size))
          replace HB := Lib.hid (HB.out.trans (b.mono HB.out.size))
          clear b
          have hyy : (y.toList == y.toList) = true := by simp
          by_cases hye : y = ⟨#[]⟩
          ·
            subst hye
            obtain ⟨rc0, rc1, rc2, rc3, rcl⟩ : w5.cell? ⟨w.heap.size, 0, none⟩ = some (.int .i64 md) ∧ w5.cell? ⟨w.heap.size, 1, none⟩ = some (vi) ∧ w5.cell? ⟨w.heap.size, 2, none⟩ = some (vr) ∧ w5.cell? ⟨w.heap.size, 3, none⟩ = some (vc) ∧ w.heap.size < w5.heap.size := ⟨Kr.out.cell 0, Kr.out.cell 1, Kr.out.cell 2, Kr.out.cell 3, Kr.out.lt⟩
            go_wp2_with fail
            clear rc0 rc1 rc2 rc3 rcl
            refine (HY.out w5 Br.out).mono ?_
            rintro e w6 ⟨rfl, b⟩
            replace Kr := Lib.hid (Kr.out.below b)
            replace Br := Lib.hid (Br.out.trans (b.mono Br.out.size))
            replace HB := Lib.hid (HB.out.trans (b.mono HB.out.size))
            clear b
            go_wp2_with fail
            go_roundg (gk - 1)
            case measure => omega
            case rel => exact ⟨m + 1, by first | rfl | go_num, by omega, by omega, by omega, HB.out⟩
          ·
            have hyn : ¬ y.toList = [] := fun h => hye (by rw [ByteArray.toList_eq] at h; cases y; exact congrArg ByteArray.mk (Array.toList_inj.1 h))
            have HZ2 := HZ.out hye
            have HQ := Lib.hid (HNU.out y)
            rw [HZ2] at HQ
            clear HZ2
            replace hye := Lib.hid hye
            have hmm2 : (m != m) = false := by simp
            obtain ⟨rc0, rc1, rc2, rc3, rcl⟩ : w5.cell? ⟨w.heap.size, 0, none⟩ = some (.int .i64 md) ∧ w5.cell? ⟨w.heap.size, 1, none⟩ = some (vi) ∧ w5.cell? ⟨w.heap.size, 2, none⟩ = some (vr) ∧ w5.cell? ⟨w.heap.size, 3, none⟩ = some (vc) ∧ w.heap.size < w5.heap.size := ⟨Kr.out.cell 0, Kr.out.cell 1, Kr.out.cell 2, Kr.out.cell 3, Kr.out.lt⟩
            go_wp2_with fail
            clear rc0 rc1 rc2 rc3 rcl
            refine (HY.out w5 Br.out).mono ?_
            rintro e w6 ⟨rfl, b⟩
            replace Kr := Lib.hid (Kr.out.below b)
            replace Br := Lib.hid (Br.out.trans (b.mono Br.out.size))
            replace HB := Lib.hid (HB.out.trans (b.mono HB.out.size))
            clear b
            obtain ⟨rc0, rc1, rc2, rc3, rcl⟩ : w6.cell? ⟨w.heap.size, 0, none⟩ = some (.int .i64 md) ∧ w6.cell? ⟨w.heap.size, 1, none⟩ = some (vi) ∧ w6.cell? ⟨w.heap.size, 2, none⟩ = some (vr) ∧ w6.cell? ⟨w.heap.size, 3, none⟩ = some (vc) ∧ w.heap.size < w6.heap.size := ⟨Kr.out.cell 0, Kr.out.cell 1, Kr.out.cell 2, Kr.out.cell 3, Kr.out.lt⟩
            go_wp2_with fail
            clear rc0 rc1 rc2 rc3 rcl
            refine (HQ.out w6 Br.out).mono ?_
            rintro e w7 ⟨rfl, b⟩
            replace Kr := Lib.hid (Kr.out.below b)
            replace Br := Lib.hid (Br.out.trans (b.mono Br.out.size))
            replace HB := Lib.hid (HB.out.trans (b.mono HB.out.size))
            clear b
            go_wp2_with fail
            go_roundg (gk - 1)
            case measure => omega
            case rel => exact ⟨m + 1, by first | rfl | go_num, by omega, by omega, by omega, HB.out⟩
        ·
          have HQ := Lib.hid (HNU.out ⟨#[]⟩)
          rw [HNN.out] at HQ
          obtain ⟨rc0, rc1, rc2, rc3, rcl⟩ : wr.cell? ⟨w.heap.size, 0, none⟩ = some (.int .i64 md) ∧ wr.cell? ⟨w.heap.size, 1, none⟩ = some (vi) ∧ wr.cell? ⟨w.heap.size, 2, none⟩ = some (vr) ∧ wr.cell? ⟨w.heap.size, 3, none⟩ = some (vc) ∧ w.heap.size < wr.heap.size := ⟨Kr.out.cell 0, Kr.out.cell 1, Kr.out.cell 2, Kr.out.cell 3, Kr.out.lt⟩
          go_wp2_with fail
          clear rc0 rc1 rc2 rc3 rcl
          refine (HQ.out wr Br.out).mono ?_
          rintro e w5 ⟨rfl, b⟩
          replace Kr := Lib.hid (Kr.out.below b)
          replace Br := Lib.hid (Br.out.trans (b.mono Br.out.size))
          replace HB := Lib.hid (HB.out.trans (b.mono HB.out.size))
          clear b
          go_wp2_with fail
          refine (HKN.out w5).mono ?_
          rintro e w6 ⟨rfl, b⟩
          replace Kr := Lib.hid (Kr.out.below b)
          replace Br := Lib.hid (Br.out.trans (b.mono Br.out.size))
          replace HB := Lib.hid (HB.out.trans (b.mono HB.out.size))
          clear b
          go_wp2
          go_ret
          exact ⟨ret_bool rfl, Br.out⟩

end Go.Proofs.YtobmbkgeafbamaaGreat
