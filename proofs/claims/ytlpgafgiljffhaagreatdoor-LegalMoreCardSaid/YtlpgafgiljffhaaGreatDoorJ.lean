/- What the reference's one does at a sign, and at any token. What the reference's Scan does: the same tokens. -/
import Derived.Test.YtlpgafgiljffhaaGreatDoorI
namespace Go.Proofs.YtlpgafgiljffhaaGreatDoor
open Go.RowKit
def sgnF : List (List UInt8) → List UInt8 → Nat
  | [], _ => 0
  | x :: L, l => if (l.take x.length == x) = true then x.length else sgnF L l
theorem sgnF_len (n : Nat) (l : List UInt8) (rest : List (List UInt8)) : ∀ L : List (List UInt8), (∀ x ∈ L, x.length = n) → sgnF (L ++ rest) l = if L.contains (l.take n) then n else sgnF rest l := by
  intro L
  induction L with
  | nil => intro _; simp
  | cons x L ih =>
    intro h
    have hx := h x (by simp)
    have ih' := ih fun y hy => h y (by simp [hy])
    show (if (l.take x.length == x) = true then x.length else sgnF (L ++ rest) l) = _
    rw [hx, ih', List.contains_cons]
    rcases hq : (l.take n == x) with _ | _
    · simp
    · simp
theorem ones_all : ∀ n : Fin 256, [[59], [44], [123], [125], [40], [41], [46], [61], [43], [45], [42], [33], [60]].contains [UInt8.ofFin n] = sgn1 (((UInt8.ofFin n).toNat : Nat) : Int) := by decide +kernel
theorem sgnF_eq (l : List UInt8) : sgnF signsB l = sgnN l := by
  have h : signsB = [[61, 61], [33, 61], [60, 61], [38, 38], [124, 124]] ++ ([[59], [44], [123], [125], [40], [41], [46], [61], [43], [45], [42], [33], [60]] ++ []) := rfl
  rw [h, sgnF_len 2 l _ _ (by decide), sgnF_len 1 l _ _ (by decide)]
  unfold sgnN
  congr 1
  cases l with
  | nil => rfl
  | cons c r =>
    have := ones_all c.toFin
    simp only [UInt8.ofFin_toFin] at this
    show (if List.contains _ [c] = true then 1 else 0) = _
    rw [this]
theorem sgnF_no (s : ByteArray) (p k : Nat) (x : ByteArray) (hd : signsB.drop k = x.toList :: signsB.drop (k + 1)) (hx0 : 0 < x.size) (h : ¬ p + x.size ≤ s.size ∨ ((s.extract p (p + x.size)).toList == x.toList) = false) :
    sgnF (signsB.drop k) (s.data.toList.drop p) = sgnF (signsB.drop (k + 1)) (s.data.toList.drop p) := by
  rw [hd, sgnF]
  have hx : x.toList.length = x.size := by rw [Lib.toList_data, ← Lib.size_eq]
  rw [if_neg]
  rw [hx]
  rcases h with h | h
  · intro e
    have e' := congrArg List.length (eq_of_beq e)
    rw [hx, List.length_take, drop_len] at e'
    omega
  · rw [Lib.extract_toList, Nat.add_sub_cancel_left] at h
    rw [h]; decide
theorem sgnF_yes (s : ByteArray) (p k : Nat) (x : ByteArray) (hd : signsB.drop k = x.toList :: signsB.drop (k + 1)) (h : ((s.extract p (p + x.size)).toList == x.toList) = true) :
    sgnF (signsB.drop k) (s.data.toList.drop p) = x.size ∧ s.extract p (p + x.size) = x := by
  have hx : x.toList.length = x.size := by rw [Lib.toList_data, ← Lib.size_eq]
  constructor
  · rw [hd, sgnF, if_pos, hx]
    rw [Lib.extract_toList, Nat.add_sub_cancel_left] at h
    rw [hx]; exact h
  · have := eq_of_beq h
    rw [Lib.toList_data, Lib.toList_data, Lib.extract_data, Nat.add_sub_cancel_left] at this
    rw [Lib.extract_eq, Nat.add_sub_cancel_left, this]
theorem cellsS_get (l : List (List UInt8)) (k : Nat) (h : k < l.length) : (cellsS l)[k]? = some (.string ⟨(l[k]).toArray⟩) := by
  simp [cellsS, h]
theorem drewN_add (w : World) (a b : Nat) : w.drewN (a + b) = (w.drewN a).drewN b := by
  simp [World.drewN, Nat.add_assoc]
theorem below_set4 {w w' : World} {b : Nat} (h : Below b w w') (x0 x1 x2 x3 : Value) : Below b w ((((w'.setCell ⟨b, 0, none⟩ x0).setCell ⟨b, 1, none⟩ x1).setCell ⟨b, 2, none⟩ x2).setCell ⟨b, 3, none⟩ x3) :=
  (((h.setCell (p := ⟨b, 0, none⟩) (Nat.le_refl _) _).setCell (p := ⟨b, 1, none⟩) (Nat.le_refl _) _).setCell (p := ⟨b, 2, none⟩) (Nat.le_refl _) _).setCell (p := ⟨b, 3, none⟩) (Nat.le_refl _) _
def SgnAns (s : ByteArray) (p : Nat) (w : World) (e : Ending) (w' : World) : Prop :=
  (0 < sgnN (s.data.toList.drop p) ∧ OneGood 3 0 p (s.extract p (p + sgnN (s.data.toList.drop p))) w e w') ∨ (sgnN (s.data.toList.drop p) = 0 ∧ OneBad 3 w e w')
theorem signs_pos : ∀ k, (h : k < signsB.length) → 0 < (signsB[k]).length ∧ (signsB[k]).length ≤ 2 := by decide
set_option maxRecDepth 100000 in
set_option maxHeartbeats 2000000 in
theorem one_sign (s : ByteArray) (p : Nat) (w : World) (hp : p < s.size) (hs : s.size ≤ 20000) (h0 : ltr (s[p].toNat : Int) = false) (h1 : dig (s[p].toNat : Int) = false) :
    Calls Tryz.prog 81 #[.string s, .int .i64 p] w (SgnAns s p w) := by
  have hc := s[p].toNat_lt
  have HF := Lib.hid (sgnF_eq (s.data.toList.drop p))
  go_enter Tryz.func81, Tryz.ntmps81
  go_wp2
  go_loopg [6] 0 (fun fuel to' wr => to' = .int .i64 p ∧ (w.alloc (.cells #[.int .i64 0, .string ⟨#[]⟩, .int .i64 0, .int .i64 0] 89)) = wr)
  case atStart => exact ⟨rfl, rfl⟩
  case round =>
    obtain ⟨rfl, rfl⟩ := hrel
    go_wp2_with (first
      | (go_at_call 59; refine (rletter_any _ _).mono ?_; rintro e w2 ⟨rfl, rfl⟩)
      | (go_at_call 61; refine (rdigit_any _ _).mono ?_; rintro e w2 ⟨rfl, rfl⟩))
    go_loopg [6, 7] 0 (fun fuel to' n' wr => to' = .int .i64 p ∧ (w.alloc (.cells #[.int .i64 0, .string ⟨#[]⟩, .int .i64 0, .int .i64 0] 89)) = wr)
    case atStart => exact ⟨rfl, rfl⟩
    case round =>
      obtain ⟨rfl, rfl⟩ := hrel
      go_wp2_with (first
        | (go_at_call 59; refine (rletter_any _ _).mono ?_; rintro e w2 ⟨rfl, rfl⟩)
        | (go_at_call 61; refine (rdigit_any _ _).mono ?_; rintro e w2 ⟨rfl, rfl⟩)
        | (go_at_call 111; refine (signs_any _).mono ?_; rintro e w2 ⟨rfl, rfl⟩))
      go_loopg [9] 18 (fun fuel i wr => ∃ k : Nat, k ≤ 18 ∧ i = .int .i64 k ∧ 18 - k ≤ fuel ∧ sgnF signsB (s.data.toList.drop p) = sgnF (signsB.drop k) (s.data.toList.drop p) ∧ ∃ d : Nat, ((w.alloc (.cells #[.int .i64 0, .string ⟨#[]⟩, .int .i64 0, .int .i64 0] 89)).alloc (.cells (cellsS signsB) 9)).drewN d = wr)
      case atStart => exact ⟨0, by omega, rfl, by omega, rfl, 0, rfl⟩
      case round =>
        obtain ⟨k, hk, rfl, hf, hsg, d, rfl⟩ := hrel
        have HS := Lib.hid hsg; clear hsg
        by_cases hlt : k < 18
        · have hlt' : k < signsB.length := hlt
          have hcell := cellsS_get signsB k hlt'
          have hdr := List.drop_eq_getElem_cons hlt'
          obtain ⟨x, hx⟩ : ∃ x : ByteArray, x = ⟨(signsB[k]).toArray⟩ := ⟨_, rfl⟩
          rw [← hx] at hcell
          have hxl : x.toList = signsB[k] := by rw [Lib.toList_data, hx]
          rw [← hxl] at hdr
          have hx2 : 0 < x.size ∧ x.size ≤ 2 := by
            have := signs_pos k hlt'
            rw [← hxl, Lib.toList_data, ← Lib.size_eq] at this; exact this
          obtain ⟨hx2, hx3⟩ := hx2
          have HD := Lib.hid hdr
          clear hdr hx hxl hlt'
          by_cases hle : p + x.size ≤ s.size
          · have hld : decide ((p : Int) + (x.size : Int) ≤ (s.size : Int)) = true := by simp; omega
            rcases hq : ((s.extract p (p + x.size)).toList == x.toList) with _ | _
            · have HN := Lib.hid (sgnF_no s p k x HD.out hx2 (Or.inr hq))
              go_wp2
              go_quiet (fail)
              go_wp2
              go_roundg (gk - 1)
              case measure => omega
              case rel => exact ⟨k + 1, by omega, by go_num, by omega, by rw [HS.out, HN.out], d + nq, by rw [drewN_add]⟩
            · have HN := Lib.hid (sgnF_yes s p k x HD.out hq)
              go_wp2
              go_quiet (fail)
              go_wp2
              refine bodyPost_ret (v := .tuple #[.agg #[.int .i64 3, .string x, .int .i64 0, .int .i64 p], .int .i64 0]) (by simp [results, Tryz.results81, go_sem]) rfl ?_
              have e : sgnN (s.data.toList.drop p) = x.size := by rw [← HF.out, HS.out, HN.out.1]
              refine Or.inl ⟨by omega, ?_, ?_⟩
              · rw [e, HN.out.2]; rfl
              · exact below_set4 (below_drewN (((Below.refl _ _).alloc (Nat.le_refl _) _).alloc (by simp) _) _) _ _ _ _
          · have HN := Lib.hid (sgnF_no s p k x HD.out hx2 (Or.inl hle))
            have hld : decide ((p : Int) + (x.size : Int) ≤ (s.size : Int)) = false := by simp; omega
            go_wp2
            go_quiet (fail)
            go_wp2
            go_roundg (gk - 1)
            case measure => omega
            case rel => exact ⟨k + 1, by omega, by go_num, by omega, by rw [HS.out, HN.out], d + nq, by rw [drewN_add]⟩
        · obtain rfl : k = 18 := by omega
          go_wp2
          refine bodyPost_ret (v := .tuple #[.agg #[.int .i64 0, .string ⟨#[]⟩, .int .i64 0, .int .i64 0], .int .i64 3]) (by simp [results, Tryz.results81, go_sem]) rfl ?_
          have e : sgnN (s.data.toList.drop p) = 0 := by rw [← HF.out, HS.out]; rfl
          refine Or.inr ⟨e, rfl, ?_⟩
          exact below_set4 (below_drewN (((Below.refl _ _).alloc (Nat.le_refl _) _).alloc (by simp) _) _) _ _ _ _
theorem one_at (s : ByteArray) (p : Nat) (hlt : p < s.size) (hs : s.size ≤ 20000) :
    ∃ (er k n v : Nat) (t : ByteArray), Hid (tk (s.data.toList.drop p) = (er, k, n, v)) ∧ Hid (t = ⟨((s.data.toList.drop p).take n).toArray⟩) ∧ (er = 0 → t.size = n ∧ 0 < n ∧ n ≤ s.size - p) ∧
      (er ≠ 0 → ∀ w, Calls Tryz.prog 81 #[.string s, .int .i64 p] w (OneBad er w)) ∧
      (er = 0 → ∀ w, Calls Tryz.prog 81 #[.string s, .int .i64 p] w (OneGood k v p t w)) := by
  obtain ⟨⟨er, k, n, v⟩, hT⟩ : ∃ T, tk (s.data.toList.drop p) = T := ⟨_, rfl⟩
  have hl := tk_len (s.data.toList.drop p)
  rw [hT] at hl
  simp only [drop_len] at hl
  have hx : ∀ m, s.extract p (p + m) = ⟨((s.data.toList.drop p).take m).toArray⟩ := by
    intro m; rw [Lib.extract_eq, Nat.add_sub_cancel_left]
  have e := hT
  rw [drop_at s p hlt, tk, ← drop_at s p hlt] at e
  refine ⟨er, k, n, v, s.extract p (p + n), hT, hx n, ?_, ?_⟩
  · intro h
    have := hl h
    refine ⟨?_, this⟩
    simp; omega
  rcases h1 : ltr (s[p].toNat : Int) with _ | _
  · rcases h2 : dig (s[p].toNat : Int) with _ | _
    · have H := fun w => one_sign s p w hlt hs h1 h2
      by_cases h3 : 0 < sgnN (s.data.toList.drop p)
      · rw [h1, h2, if_pos h3] at e
        simp only [Bool.false_eq_true, if_false, Prod.mk.injEq] at e
        obtain ⟨rfl, rfl, rfl, rfl⟩ := e
        refine ⟨fun h => absurd rfl h, fun _ w => (H w).mono fun e w' h => ?_⟩
        rcases h with ⟨_, h⟩ | ⟨h, _⟩
        · exact h
        · omega
      · rw [h1, h2, if_neg h3] at e
        simp only [Bool.false_eq_true, if_false, Prod.mk.injEq] at e
        obtain ⟨rfl, rfl, rfl, rfl⟩ := e
        refine ⟨fun _ w => (H w).mono fun e w' h => ?_, fun h => by cases h⟩
        rcases h with ⟨h, _⟩ | ⟨_, h⟩
        · omega
        · exact h
    · by_cases h3 : 9999 < numV ((s.data.toList.drop p).take (spanN dig (s.data.toList.drop p)))
      · rw [h1, h2, if_pos h3] at e
        simp only [Bool.false_eq_true, if_false, if_true, Prod.mk.injEq] at e
        obtain ⟨rfl, rfl, rfl, rfl⟩ := e
        exact ⟨fun _ w => one_digit_big s p w hlt hs h1 h2 h3, fun h => by cases h⟩
      · rw [h1, h2, if_neg h3] at e
        simp only [Bool.false_eq_true, if_false, if_true, Prod.mk.injEq] at e
        obtain ⟨rfl, rfl, rfl, rfl⟩ := e
        exact ⟨fun h => absurd rfl h, fun _ w => one_digit_ok s p w hlt hs h1 h2 (by omega)⟩
  · by_cases h3 : 16 < spanN wrd (s.data.toList.drop p)
    · rw [h1, if_pos h3] at e
      simp only [if_true, Prod.mk.injEq] at e
      obtain ⟨rfl, rfl, rfl, rfl⟩ := e
      exact ⟨fun _ w => one_word_big s p w hlt hs h1 h3, fun h => by cases h⟩
    · rw [h1, if_neg h3] at e
      simp only [if_true, Prod.mk.injEq] at e
      obtain ⟨rfl, rfl, rfl, rfl⟩ := e
      exact ⟨fun h => absurd rfl h, fun _ w => one_word_ok s p w hlt hs h1 (by omega)⟩
end Go.Proofs.YtlpgafgiljffhaaGreatDoor

namespace Go.Proofs.YtlpgafgiljffhaaGreatDoor
open Go.RowKit
theorem scanL_scX (s : ByteArray) (h : ¬ 20000 < s.size) : scanL s.data.toList = scX s 0 [] := by
  unfold scanL scX
  rw [if_neg (by rw [← Lib.size_eq]; exact h), ← Lib.size_eq]; rfl
set_option maxRecDepth 100000 in
set_option maxHeartbeats 400000 in
theorem rscan_big (s : ByteArray) (w : World) (h : 20000 < s.size) (hs : s.size ≤ maxLen) :
    Calls Tryz.prog 50 #[.string s] w (ScanAns w.heap.size (scanL s.data.toList) w) := by
  have hR : scanL s.data.toList = ([], 2, 20000) := by unfold scanL; rw [if_pos (by rw [← Lib.size_eq]; exact h)]
  rw [hR]; clear hR
  unfold maxLen at hs
  go_enter Tryz.func50, Tryz.ntmps50
  go_wp2
  go_ret3
  exact ⟨_, rfl, World.ownsRow_nil _ _ _ _, Below.refl _ _⟩
set_option maxRecDepth 100000 in
set_option maxHeartbeats 2000000 in
theorem rscan_small (s : ByteArray) (w : World) (h : s.size ≤ 20000) :
    Calls Tryz.prog 50 #[.string s] w (ScanAns w.heap.size (scanL s.data.toList) w) := by
  rw [scanL_scX s (by omega)]
  obtain ⟨R, hR⟩ : ∃ R, scX s 0 [] = R := ⟨_, rfl⟩
  rw [hR]
  have HR := Lib.hid hR; clear hR
  go_enter Tryz.func50, Tryz.ntmps50
  go_wp2_with (go_at_call 80; refine (gap_any s 0 _ (Nat.zero_le _) h).mono ?_; rintro e w1 ⟨q0, rfl, hg0, rfl⟩)
  have HG0 := Lib.hid hg0; clear hg0
  go_loopg [5, 6] s.size (fun fuel v at' wr => ∃ (p : Nat) (acc : List Tok), p ≤ s.size ∧ at' = .int .i64 p ∧ s.size - p ≤ fuel ∧ scX s p acc = R ∧ (∀ h : p < s.size, blank (s[p].toNat : Int) = false ∧ (s[p].toNat : Int) ≠ 35) ∧ wr.ownsRow w.heap.size 89 4 v acc.length (rowOf acc) ∧ Below w.heap.size w wr ∧ acc.length ≤ p)
  case atStart =>
    obtain ⟨g1, g2, g3, g4⟩ := HG0.out
    exact ⟨q0, [], g2, rfl, by omega, by rw [← g3, HR.out], g4, World.ownsRow_nil _ _ _ _, Below.refl _ _, Nat.zero_le _⟩
  case round =>
    obtain ⟨p, acc, hp, rfl, hf, hsc, hcl, hown, hbw, hal⟩ := hrel
    by_cases hlt : p < s.size
    · obtain ⟨hb, h35⟩ := hcl hlt
      obtain ⟨er, k, n, v, tx, HT, HX, hnn, hbad, hgood⟩ := one_at s p hlt h
      by_cases her : er = 0
      · subst her
        obtain ⟨hn0, hn1, hn2⟩ := hnn rfl
        have hsc2 := scX_tok s p acc hlt hb h35 (by rw [HT.out])
        rw [HT.out, hsc] at hsc2
        have HR' := Lib.hid hsc2
        have HC := hgood rfl
        obtain ⟨i0, hi, hz0, hz1, hz2⟩ := info_parts info29
        have HGap : ∀ w, Calls Tryz.prog 80 #[.string s, .int .i64 ((p : Int) + (n : Int))] w (GapAns s (p + n) w) := fun w => by
          have := gap_any s (p + n) w (by omega) h
          rw [Int.natCast_add] at this; exact this
        clear hb h35 hsc hsc2 hnn hbad hgood HT hcl
        go_wp2_with (first
          | (go_at_call 81; refine (HC _).mono ?_; rintro e w1 ⟨rfl, hb1⟩; have hown1 := own_below hown hb1; have hbw1 := hbw.trans (hb1.mono hbw.size); have hz := hbw1.size; clear hown hbw hb1)
          | (at_builtin; refine wpList_append_own _ rfl (.tmp 28) (.tmp 30) 81 rfl w.heap.size 89 i0 (.agg #[.int .i64 0, .string ⟨#[]⟩, .int .i64 0, .int .i64 0]) 4 40 Tryz.underlying81 hi hz0 hz1 hz2 rfl (by decide) _ _ _ rfl ((hown1.alloc _).alloc _) ⟨w1.heap.size + 1, 0, none⟩ 1 1 [.int .i64 k, .string tx, .int .i64 v, .int .i64 p] ?hx rfl ?c1 ?c2 ?c3 ?c4 ?c5 ?_))
        case hx => rfl
        case c1 => exact cell_four_new _ _ _ _ _ _ _ (by simp)
        case c2 => exact four_oneCell _ _ _ _
        case c3 => unfold maxLen; omega
        case c4 => omega
        case c5 => simp; omega
        intro v' w2 hown2 hgrow _
        have hbk : w2.heap[w1.heap.size]? = some (.cells #[.int .i64 k, .string tx, .int .i64 v, .int .i64 p] 89 (0, 0)) := by
          rw [hgrow.block w1.heap.size (by simp; omega) (fun e => by have := (hown1.lt _ e.symm).2; omega)]
          rw [Below.heap_alloc _ _ _ (by simp)]
          exact heap_alloc_new w1 _
        have hcell : w2.cell? ⟨w1.heap.size, 1, none⟩ = some (.string tx) := by simp [World.cell?, hbk]
        have hbw2 : Below w.heap.size w w2 := ((hbw1.alloc hz _).alloc (by simp; omega) _).grown hgrow (by simp; omega) (fun k hk => (hown1.lt k hk).1)
        clear hown1 hbw1 hgrow hbk
        go_wp2_with (go_at_call 80; refine (HGap _).mono ?_; rintro e w3 ⟨q, rfl, hg, rfl⟩)
        obtain ⟨g1, g2, g3, g4⟩ := hg
        have HG3 := Lib.hid (g3 (acc ++ [(k, List.take n (List.drop p s.data.toList), v, p)]))
        clear g3
        go_roundg (gk - 1)
        case measure => omega
        case rel =>
          have hr : rowOf (acc ++ [(k, List.take n (List.drop p s.data.toList), v, p)]) = rowOf acc ++ [.int .i64 k, .string tx, .int .i64 v, .int .i64 p] := by
            rw [HX.out]; simp [rowOf, cellsOf]
          refine ⟨q, acc ++ [(k, List.take n (List.drop p s.data.toList), v, p)], g2, rfl, by omega, by rw [HR'.out, HG3.out], g4, ?_, hbw2, by simp; omega⟩
          rw [hr, List.length_append]; exact hown2
      · have HC := hbad her
        have hsc2 := scX_bad s p acc hlt hb h35 (by rw [HT.out]; exact her)
        rw [HT.out, hsc] at hsc2
        have HR' := Lib.hid hsc2
        have hne : ((er : Int) == 0) = false := (by simp [her])
        clear hb h35 hsc hsc2 hnn hbad hgood her HT HX hcl
        go_wp2_with (go_at_call 81; refine (HC _).mono ?_; rintro e w1 ⟨rfl, hb1⟩)
        go_ret3
        rw [HR'.out]
        have hb2 := hbw.trans (hb1.mono hbw.size)
        exact ⟨_, rfl, World.ownsRow_nil _ _ _ _, hb2.alloc hb2.size _⟩
    · have HE := Lib.hid (scX_end s p acc hlt)
      have HS := Lib.hid hsc
      clear hsc hcl
      go_wp2
      go_ret3
      have hR : R = (acc, 0, 0) := by rw [← HS.out, HE.out]
      rw [hR]
      exact ⟨_, rfl, hown, hbw⟩
theorem rscan_any (s : ByteArray) (w : World) (hs : s.size ≤ maxLen) :
    Calls Tryz.prog 50 #[.string s] w (ScanAns w.heap.size (scanL s.data.toList) w) := by
  by_cases h : 20000 < s.size
  · exact rscan_big s w h hs
  · exact rscan_small s w (by omega)
end Go.Proofs.YtlpgafgiljffhaaGreatDoor
