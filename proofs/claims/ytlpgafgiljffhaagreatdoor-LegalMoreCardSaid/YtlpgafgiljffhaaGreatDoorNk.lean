/- What the reference's Right and Depth do. What both Names do. What both Shows do. Scanning and parsing a text. Parsing a text that was scanned. -/
import Derived.Test.YtlpgafgiljffhaaGreatDoorYb
import Derived.Test.YtlpgafgiljffhaaGreatDoorNa
import Derived.Test.YtlpgafgiljffhaaGreatDoorTa
import Derived.Deep.RegionWith
import Derived.Deep.RegionHeld3
import Derived.Laws.IdiomStrings
import Derived.Test.YtlpgafgiljffhaaGreatDoorJ
namespace Go.Proofs.YtlpgafgiljffhaaGreatDoor
open Go.RowKit
set_option maxRecDepth 100000 in
set_option maxHeartbeats 4000000 in
theorem rright_any (l : List Nd) (v : Value) (w : World) (hv : Nds w v l) (hn : l.length ≤ 100000) (hz : NmOK l) (b : Bool) (hb : rightB l = b) :
    Calls Tryz.prog 66 #[v] w fun e w' => e = .returned (.bool b) ∧ Below w.heap.size w w' := by
  have HEND := fun w hv => rend_any l v 0 w hv hn
  obtain ⟨ad, cap, hv0, hc⟩ := hv.cases
  rcases right_cases l with ⟨h1, h2⟩ | ⟨e, h1, h2, h3, h4, h5⟩
  · rw [right_no l h1] at hb
    subst hb
    by_cases hl : 200 < l.length
    · subst hv0
      have HL := Lib.hid hl
      obtain ⟨n, hN⟩ : ∃ n, n = l.length := ⟨_, rfl⟩
      rw [← hN] at hl hn ⊢
      clear h2 h1 hN hv HEND hz HL hc
      go_enter Tryz.func66, Tryz.ntmps66
      go_wp2_with fail
      go_ret
      exact ⟨rfl, Below.refl _ _⟩
    · have h2' : endL l 0 ≠ l.length := by rcases h2 with h | h; exact absurd h hl; exact h
      have HE := HEND w hv
      obtain ⟨z, hz2⟩ : ∃ z, z = endL l 0 := ⟨_, rfl⟩
      rw [← hz2] at HE h2'
      subst hv0
      obtain ⟨n, hN⟩ : ∃ n, n = l.length := ⟨_, rfl⟩
      rw [← hN] at hl hn h2' HE ⊢
      have q : (z != (n : Int)) = true := by simpa using h2'
      clear h2 h1 hN hv HEND hz hz2 h2' hc
      by_cases h0 : n = 0
      · subst h0
        go_enter Tryz.func66, Tryz.ntmps66
        go_wp2_with fail
        go_ret
        exact ⟨rfl, Below.refl _ _⟩
      · have q1 : ((n : Int) == 0) = false := by simp; omega
        go_enter Tryz.func66, Tryz.ntmps66
        go_wp2_with fail
        refine HE.mono ?_
        rintro e w1 ⟨rfl, rfl⟩
        go_wp2
        go_ret
        exact ⟨rfl, Below.refl _ _⟩
  · rw [h5] at hb
    have HE := HEND w hv
    rw [h4] at HE
    have HDEEP : Hid (∀ w', Below w.heap.size w w' → Calls Tryz.prog 97 #[v, .int .i64 0] w' fun e' w'' => e' = .returned (.int .i64 e.depth) ∧ w' = w'') := fun w' h => by
      have := deep_any l (by omega) e.size e 0 [] v w' (Nat.le_refl _) h1 (by rw [← h2]; simp) (hv.below h)
      exact this
    obtain ⟨dp, hdp⟩ : ∃ dp, dp = e.depth := ⟨_, rfl⟩
    rw [← hdp] at HDEEP hb
    have hdl : dp ≤ 200 := by have := e.depth_le; rw [← e.flat_length, h2] at this; omega
    have hpos : 0 < l.length := by rw [← h2, e.flat_length]; exact e.size_pos'
    subst hv0
    obtain ⟨n, hN⟩ : ∃ n, n = l.length := ⟨_, rfl⟩
    obtain ⟨A, hA⟩ : ∃ A, (l.drop 0).all okN = A := ⟨_, rfl⟩
    rw [show l.all okN = A from hA] at hb
    have HA0 := Lib.hid hA
    rw [← hN] at h3 hn HE HDEEP hpos ⊢
    have q : (((n : Int)) != (n : Int)) = false := by simp
    have q1 : ((n : Int) == 0) = false := by simp; omega
    have HBB := Lib.hid hb
    have HC := Lib.hid hc
    have HN := Lib.hid hN
    have HZ := Lib.hid hz
    clear h5 h4 HEND hz hv hN hdp hb h2 h1 hA hc
    go_enter Tryz.func66, Tryz.ntmps66
    go_wp2_with fail
    refine HE.mono ?_
    rintro e w1 ⟨rfl, rfl⟩
    go_wp2_with fail
    go_loopg [3] n (fun fuel i' wr => ∃ k : Nat, i' = .int .i64 k ∧ k ≤ n ∧ n - k ≤ fuel ∧ (l.drop k).all okN = A ∧ Below w.heap.size w wr)
    case atStart => exact ⟨0, rfl, Nat.zero_le _, Nat.le_refl _, HA0.out, Below.refl _ _⟩
    case round =>
      obtain ⟨k, rfl, hk, hf, ha, hb⟩ := hrel
      have HA := Lib.hid ha
      have HB := Lib.hid hb
      have hww := hb.size
      clear ha hb
      by_cases hlt : k < n
      · have hk' : k < l.length := by have := HN.out; omega
        have HE2 := Lib.hid (List.all_cons (f := okN) (a := l[k]) (l := l.drop (k + 1)))
        have HD := Lib.hid (List.drop_eq_getElem_cons hk')
        obtain ⟨b, off, rfl, hbl, x0, x1, x2, x3, x4⟩ := HC.out k hk'
        have hnm := HZ.out k hk'
        obtain ⟨⟨xo, xn, xm, xi, xp⟩, hx⟩ : ∃ x, x = l[k] := ⟨_, rfl⟩
        have HX := Lib.hid hx
        rw [← hx] at x0 x1 x2 x3 x4 hnm
        simp only [] at x0 x1 x2 x3 x4 hnm
        clear hx
        have c0 : wr.cell? ⟨b, off + k * 5, none⟩ = some (.int .i64 xo) := (HB.out.cell (p := ⟨b, _, none⟩) hbl).trans x0
        have c1 : wr.cell? ⟨b, off + k * 5 + 1, none⟩ = some (.int .i64 xn) := (HB.out.cell (p := ⟨b, _, none⟩) hbl).trans x1
        have c2 : wr.cell? ⟨b, off + k * 5 + 2, none⟩ = some (.string xm) := (HB.out.cell (p := ⟨b, _, none⟩) hbl).trans x2
        have c3 : wr.cell? ⟨b, off + k * 5 + 3, none⟩ = some (.string xi) := (HB.out.cell (p := ⟨b, _, none⟩) hbl).trans x3
        have c4 : wr.cell? ⟨b, off + k * 5 + 4, none⟩ = some (.int .i64 xp) := (HB.out.cell (p := ⟨b, _, none⟩) hbl).trans x4
        obtain ⟨q, hq⟩ : ∃ q, okN ⟨xo, xn, xm, xi, xp⟩ = q := ⟨_, rfl⟩
        have HFL : ∀ w, Calls Tryz.prog 96 #[.agg #[.int .i64 xo, .int .i64 xn, .string xm, .string xi, .int .i64 xp]] w fun e w' => e = .returned (.bool q) ∧ Below w.heap.size w w' := fun w => rnode_any ⟨xo, xn, xm, xi, xp⟩ w hnm q hq
        have HQ := Lib.hid hq
        clear x0 x1 x2 x3 x4 hq
        go_wp2_with fail
        refine (HFL _).mono ?_
        rintro e w2 ⟨rfl, hb2⟩
        have HB2 := Lib.hid (HB.out.trans (hb2.mono hww))
        clear hb2 c0 c1 c2 c3 c4
        cases q with
        | true =>
          go_wp2
          go_roundg (gk - 1)
          case measure => omega
          case rel =>
            refine ⟨k + 1, by go_num, by omega, by omega, ?_, HB2.out⟩
            have := HA.out
            rw [HD.out, HE2.out, ← HX.out, HQ.out] at this
            simpa using this
        | false =>
          go_wp2
          go_ret
          refine ⟨ret_bool ?_, HB2.out⟩
          have := HA.out
          rw [HD.out, HE2.out, ← HX.out, HQ.out] at this
          rw [← HBB.out, ← this]; rfl
      · have HE2 := Lib.hid (drop_over l k (by have := HN.out; omega))
        have HDD := Lib.hid (HDEEP.out _ HB.out)
        go_wp2_with fail
        refine HDD.out.mono ?_
        rintro e w2 ⟨rfl, rfl⟩
        go_wp2
        go_ret
        refine ⟨ret_bool ?_, HB.out⟩
        have := HA.out
        rw [HE2.out] at this
        rw [← HBB.out, ← this, Bool.eq_iff_iff]
        simp
        try omega
end Go.Proofs.YtlpgafgiljffhaaGreatDoor

namespace Go.Proofs.YtlpgafgiljffhaaGreatDoor
open Go.RowKit
def isNm (x : Nd) : Bool := decide (x.op = 2 ∨ x.op = 3 ∨ x.op = 4)
def namesL (l : List Nd) : List Nd := l.filter isNm
def NamesAns (l : List Nd) (w : World) (e : Ending) (w' : World) : Prop :=
  ∃ v, e = .returned v ∧ w'.ownsRow w.heap.size 65 5 v (namesL l).length (rowN (namesL l)) ∧ Below w.heap.size w w'
theorem names_at (l : List Nd) (k : Nat) (h : k < l.length) : namesL (l.take (k + 1)) = namesL (l.take k) ++ (if isNm l[k] then [l[k]] else []) := by
  unfold namesL
  rw [List.take_succ_eq_append_getElem h, List.filter_append]
  cases hn : isNm l[k] <;> simp [hn]
theorem names_le (l : List Nd) (k : Nat) : (namesL (l.take k)).length ≤ k := Nat.le_trans (List.length_filter_le _ _) (List.length_take_le _ _)
set_option maxRecDepth 100000 in
set_option maxHeartbeats 4000000 in
theorem rnames_any (l : List Nd) (v : Value) (w : World) (hv : Nds w v l) (hn : l.length ≤ 100000) :
    Calls Tryz.prog 65 #[v] w (NamesAns l w) := by
  obtain ⟨ad, cap, rfl, hc⟩ := hv.cases
  obtain ⟨n, hN⟩ : ∃ n, n = l.length := ⟨_, rfl⟩
  rw [← hN] at hn ⊢
  have HC := Lib.hid hc
  have HN := Lib.hid hN
  clear hc hN hv
  go_enter Tryz.func65, Tryz.ntmps65
  go_wp2_with fail
  go_loopg [3, 4] n (fun fuel v' i' wr => ∃ (k m cap2 : Nat) (ad2 : Option Addr), i' = .int .i64 k ∧ k ≤ n ∧ n - k ≤ fuel ∧ v' = .slice ad2 m cap2 ∧ m = (namesL (l.take k)).length ∧ wr.ownsRow w.heap.size 65 5 (.slice ad2 m cap2) m (rowN (namesL (l.take k))) ∧ Below w.heap.size w wr)
  case atStart => exact ⟨0, 0, 0, none, rfl, Nat.zero_le _, Nat.le_refl _, rfl, rfl, World.ownsRow_nil _ _ _ _, Below.refl _ _⟩
  case round =>
    obtain ⟨k, m, cap2, ad2, rfl, hk, hf, rfl, hm, ho, hb⟩ := hrel
    have HO := Lib.hid ho
    have HM := Lib.hid hm
    have HB := Lib.hid hb
    have hww := hb.size
    have hmk : m ≤ k := by rw [hm]; exact names_le l k
    clear ho hm hb
    by_cases hlt : k < n
    · have hk' : k < l.length := by have := HN.out; omega
      have HE := Lib.hid (names_at l k hk')
      obtain ⟨b, off, rfl, hbl, x0, x1, x2, x3, x4⟩ := HC.out k hk'
      obtain ⟨⟨xo, xn, xm, xi, xp⟩, hx⟩ : ∃ x, x = l[k] := ⟨_, rfl⟩
      have HX := Lib.hid hx
      rw [← hx] at x0 x1 x2 x3 x4
      simp only [] at x0 x1 x2 x3 x4
      clear hx
      have c0 : wr.cell? ⟨b, off + k * 5, none⟩ = some (.int .i64 xo) := (HB.out.cell (p := ⟨b, _, none⟩) hbl).trans x0
      have c1 : wr.cell? ⟨b, off + k * 5 + 1, none⟩ = some (.int .i64 xn) := (HB.out.cell (p := ⟨b, _, none⟩) hbl).trans x1
      have c2 : wr.cell? ⟨b, off + k * 5 + 2, none⟩ = some (.string xm) := (HB.out.cell (p := ⟨b, _, none⟩) hbl).trans x2
      have c3 : wr.cell? ⟨b, off + k * 5 + 3, none⟩ = some (.string xi) := (HB.out.cell (p := ⟨b, _, none⟩) hbl).trans x3
      have c4 : wr.cell? ⟨b, off + k * 5 + 4, none⟩ = some (.int .i64 xp) := (HB.out.cell (p := ⟨b, _, none⟩) hbl).trans x4
      clear x0 x1 x2 x3 x4
      by_cases hop : xo = 2 ∨ xo = 3 ∨ xo = 4
      · have HI : Hid (isNm ⟨xo, xn, xm, xi, xp⟩ = true) := decide_eq_true hop
        have HNEW := Lib.hid (own_new wr ⟨xo, xn, xm, xi, xp⟩)
        simp only [] at HNEW
        rcases hop with rfl | rfl | rfl
        all_goals
          go_wp2_with (at_builtin; refine append_nds rfl (.tmp 33) (.tmp 38) rfl w.heap.size _ m 1 _ _ (rowN (namesL (l.take k))) [⟨_, xn, xm, xi, xp⟩] rfl rfl (own_below HO.out ((Below.refl _ _).alloc (Nat.le_refl _) _)) HNEW.out rfl (by omega) (by simp; omega) ?_)
          intro v3 w3 hown3 hb3
          obtain ⟨ad4, cap4, rfl, _⟩ := own_shape hown3
          have HB3 := Lib.hid ((HB.out.alloc hww (.cells #[.int .i64 _, .int .i64 xn, .string xm, .string xi, .int .i64 xp] 65)).trans hb3)
          have HO3 := Lib.hid hown3
          clear hown3 hb3
          go_wp2_with fail
          go_roundg (gk - 1)
          case measure => omega
          case rel =>
            refine ⟨k + 1, m + 1, cap4, ad4, by go_num, hlt, (by rw [Nat.sub_add_eq]; exact Nat.sub_le_sub_right hf 1), rfl, ?_, ?_, HB3.out⟩
            · rw [HE.out, ← HX.out, HI.out, HM.out]; simp
            · rw [HE.out, ← HX.out, HI.out]
              have h := HO3.out
              rw [if_pos rfl, rowN_append]
              exact h
      · have HI : Hid (isNm ⟨xo, xn, xm, xi, xp⟩ = false) := decide_eq_false hop
        have q2 : (xo == 2) = false := by simp; omega
        have q3 : (xo == 3) = false := by simp; omega
        have q4 : (xo == 4) = false := by simp; omega
        clear hop
        go_wp2_with fail
        go_roundg (gk - 1)
        case measure => omega
        case rel =>
          refine ⟨k + 1, m, cap2, ad2, by go_num, by omega, by omega, rfl, ?_, ?_, HB.out⟩
          · rw [HE.out, ← HX.out, HI.out, HM.out]; simp
          · rw [HE.out, ← HX.out, HI.out]
            rw [if_neg (by simp), List.append_nil]
            exact HO.out
    · have hkn : k = l.length := by have := HN.out; omega
      have hall : l.take k = l := by rw [hkn, List.take_length]
      have HO2 := HO.out
      have HM2 := HM.out
      rw [hall] at HO2 HM2
      have HO3 := Lib.hid HO2
      have HM3 := Lib.hid HM2
      clear HO2 HM2 hall
      go_wp2
      go_ret
      exact ⟨_, rfl, by rw [← HM3.out]; exact HO3.out, HB.out⟩
end Go.Proofs.YtlpgafgiljffhaaGreatDoor

namespace Go.Proofs.YtlpgafgiljffhaaGreatDoor
open Go.RowKit
open Classical in
noncomputable def textOf (l : List Nd) : List UInt8 := if h : rightP l then showE h.choose else []
theorem textOf_tree (l : List Nd) (h : rightP l) (e : Ex) (hw : e.wf) (he : e.flat = l) : textOf l = showE e := by
  unfold textOf
  rw [dif_pos h]
  obtain ⟨h1, h2, _⟩ := h.choose_spec
  rw [Ex.flat_inj _ e h1 hw (h2.trans he.symm)]
end Go.Proofs.YtlpgafgiljffhaaGreatDoor
namespace Go.Proofs.YtlpgafgiljffhaaGreatDoor
open Go.RowKit
theorem rowN_at (l : List Nd) : ∀ i, (h : i < l.length) → (rowN l)[i * 5]? = some (.int .i64 (l[i]).op) ∧ (rowN l)[i * 5 + 1]? = some (.int .i64 (l[i]).n) ∧ (rowN l)[i * 5 + 2]? = some (.string (l[i]).nm) ∧ (rowN l)[i * 5 + 3]? = some (.string (l[i]).inn) ∧ (rowN l)[i * 5 + 4]? = some (.int .i64 (l[i]).pl) := by
  induction l with
  | nil => intro i h; exact absurd h (Nat.not_lt_zero _)
  | cons a l ih =>
    intro i h
    have hr : rowN (a :: l) = a.cells ++ rowN l := rfl
    have hl : a.cells.length = 5 := rfl
    cases i with
    | zero => refine ⟨?_, ?_, ?_, ?_, ?_⟩ <;> rw [hr, List.getElem?_append_left (by rw [hl]; omega)] <;> rfl
    | succ i =>
      have := ih i (by simpa using h)
      rw [hr]
      simp only [List.getElem_cons_succ]
      refine ⟨?_, ?_, ?_, ?_, ?_⟩ <;> rw [List.getElem?_append_right (by rw [hl]; omega), hl]
      · rw [show (i + 1) * 5 - 5 = i * 5 by omega]; exact this.1
      · rw [show (i + 1) * 5 + 1 - 5 = i * 5 + 1 by omega]; exact this.2.1
      · rw [show (i + 1) * 5 + 2 - 5 = i * 5 + 2 by omega]; exact this.2.2.1
      · rw [show (i + 1) * 5 + 3 - 5 = i * 5 + 3 by omega]; exact this.2.2.2.1
      · rw [show (i + 1) * 5 + 4 - 5 = i * 5 + 4 by omega]; exact this.2.2.2.2
theorem ndsC_of_own {w : World} {B : Nat} {v : Value} {l : List Nd} (h : w.ownsRow B 65 5 v l.length (rowN l)) : NdsC w v l := by
  have hl := h.lt
  have hc := @World.ownsRow.cells _ _ _ _ _ _ _ h
  rcases h.2 with ⟨rfl, h0⟩ | ⟨g, cap, cur, rfl, _, hg, h1, h2, _⟩
  · have := List.eq_nil_of_length_eq_zero h0
    subst this
    exact ⟨none, 0, rfl, Nat.zero_le _, by omega, fun i hi => absurd hi (Nat.not_lt_zero _)⟩
  · refine ⟨_, cap, rfl, h1, by unfold maxLen at h2; omega, fun i hi => ?_⟩
    obtain ⟨r0, r1, r2, r3, r4⟩ := rowN_at l i hi
    have k0 := hc (g := g) rfl _ _ r0
    have k1 := hc (g := g) rfl _ _ r1
    have k2 := hc (g := g) rfl _ _ r2
    have k3 := hc (g := g) rfl _ _ r3
    have k4 := hc (g := g) rfl _ _ r4
    rw [addr_add] at k0 k1 k2 k3 k4
    refine ⟨g, 0, rfl, (hl g rfl).2, ?_⟩
    rw [Nat.zero_add]
    exact ⟨k0, k1, k2, k3, k4⟩
end Go.Proofs.YtlpgafgiljffhaaGreatDoor
namespace Go.Proofs.YtlpgafgiljffhaaGreatDoor
open Go.RowKit
theorem tk_num (l : List UInt8) (k n v : Nat) (h : tk l = (0, k, n, v)) : v ≤ 9999 := by
  cases l with
  | nil => simp [tk] at h
  | cons c r =>
    rw [tk] at h
    by_cases h1 : ltr (c.toNat : Int) = true
    · rw [if_pos h1] at h
      by_cases h2 : 16 < spanN wrd (c :: r)
      · rw [if_pos h2] at h; simp only [Prod.mk.injEq] at h; omega
      · rw [if_neg h2] at h; simp only [Prod.mk.injEq] at h; omega
    · rw [if_neg h1] at h
      by_cases h2 : dig (c.toNat : Int) = true
      · rw [if_pos h2] at h
        by_cases h3 : 9999 < numV ((c :: r).take (spanN dig (c :: r)))
        · rw [if_pos h3] at h; simp only [Prod.mk.injEq] at h; omega
        · rw [if_neg h3] at h; simp only [Prod.mk.injEq] at h; omega
      · rw [if_neg h2] at h
        by_cases h3 : 0 < sgnN (c :: r)
        · rw [if_pos h3] at h; simp only [Prod.mk.injEq] at h; omega
        · rw [if_neg h3] at h; simp only [Prod.mk.injEq] at h; omega
theorem scan_tokOK (l : List UInt8) (h : l.length ≤ 20000) : TokOK (scanL l).1 := by
  intro i
  have hp := (scanL_place l h).1
  have hg := scanL_good l
  obtain ⟨ts, hts⟩ : ∃ ts, ts = (scanL l).1 := ⟨_, rfl⟩
  rw [← hts] at hp hg ⊢
  by_cases hi : i < ts.length
  · have e : tokO ts i = ts[i] := by simp [tokO, hi]
    rw [e]
    have h1 := hp _ (List.getElem_mem hi)
    have h2 := hg _ (List.getElem_mem hi)
    unfold Pl at h1
    unfold Good at h2
    have h3 := tk_num _ _ _ _ h2
    omega
  · have e : tokO ts i = (0, [], 0, 0) := by simp [tokO, hi]
    rw [e]
    simp
theorem scan_few (l : List UInt8) (h : l.length ≤ 20000) : (scanL l).1.length ≤ 40000 := by
  have h1 := scanL_lenS l
  have h2 := length_le_lenS (scanL l).1
  omega
def k1 : List UInt8 := [97, 32, 43, 32, 98, 32, 42, 32, 50, 32, 59]
def k2 : List UInt8 := [97, 32, 45, 32, 116, 46, 98, 32, 45, 32, 33, 99]
def k3 : List UInt8 := [40, 97, 32, 43, 32, 59]
def k4 : List UInt8 := [97, 32, 60]
def ndN (s : List UInt8) (pl : Int) : Nd := ⟨2, 0, ⟨s.toArray⟩, ⟨#[]⟩, pl⟩
def e1 : Ex := .bin (opN 6 2) (.leaf (ndN [97] 0)) (.bin (opN 8 6) (.leaf (ndN [98] 4)) (.leaf ⟨1, 2, ⟨#[]⟩, ⟨#[]⟩, 8⟩))
def e2 : Ex := .bin (opN 7 8) (.bin (opN 7 2) (.leaf (ndN [97] 0)) (.leaf ⟨4, 0, ⟨#[98]⟩, ⟨#[116]⟩, 4⟩)) (.un (opN 5 10) (.leaf (ndN [99] 11)))
def t1 : List Tok := [(1, [97], 0, 0), (3, [43], 0, 2), (1, [98], 0, 4), (3, [42], 0, 6), (2, [50], 2, 8), (3, [59], 0, 10)]
def t2 : List Tok := [(1, [97], 0, 0), (3, [45], 0, 2), (1, [116], 0, 4), (3, [46], 0, 5), (1, [98], 0, 6), (3, [45], 0, 8), (3, [33], 0, 10), (1, [99], 0, 11)]
def t3 : List Tok := [(3, [40], 0, 0), (1, [97], 0, 1), (3, [43], 0, 3), (3, [59], 0, 5)]
def t4 : List Tok := [(1, [97], 0, 0), (3, [60], 0, 2)]
theorem s1 : (scanL k1).1 = t1 := by decide +kernel
theorem s2 : (scanL k2).1 = t2 := by decide +kernel
theorem s3 : (scanL k3).1 = t3 := by decide +kernel
theorem s4 : (scanL k4).1 = t4 := by decide +kernel
theorem p1 : parseR t1 0 = .ok e1 5 := (parse_of t1 0 60 (.ok e1 5) (by decide) (by kernel_rfl)).trans (by rfl)
theorem p2 : parseR t2 0 = .ok e2 8 := (parse_of t2 0 70 (.ok e2 8) (by decide) (by kernel_rfl)).trans (by rfl)
theorem p3 : parseR t3 0 = .err 5 5 := (parse_of t3 0 60 (.err 5 5) (by decide) (by kernel_rfl)).trans (by rfl)
theorem r1 : rightP e1.flat := ⟨e1, by simp [e1, Ex.wf, opN, ndN, ar], rfl, by decide +kernel, by decide +kernel, by decide +kernel⟩
theorem r2 : rightP e2.flat := ⟨e2, by simp [e2, Ex.wf, opN, ndN, ar], rfl, by decide +kernel, by decide +kernel, by decide +kernel⟩
theorem x1 : textOf e1.flat = [97, 32, 43, 32, 40, 98, 32, 42, 32, 50, 41] := by rw [textOf_tree _ r1 e1 (by simp [e1, Ex.wf, opN, ndN, ar]) rfl]; decide +kernel
theorem x2 : textOf e2.flat = [40, 97, 32, 45, 32, 116, 46, 98, 41, 32, 45, 32, 33, 99] := by rw [textOf_tree _ r2 e2 (by simp [e2, Ex.wf, opN, ndN, ar]) rfl]; decide +kernel
theorem d1 : DepthIs e1.flat 2 := .inl ⟨e1, by simp [e1, Ex.wf, opN, ndN, ar], rfl, r1, by decide +kernel⟩
theorem n1 : endL e1.flat 2 = 5 := by decide +kernel
theorem m2 : (namesL e2.flat).length = 3 := by decide +kernel
end Go.Proofs.YtlpgafgiljffhaaGreatDoor
