/- Layer 8: the walk of StoreOrder. -/
import Derived.Test.YtponbnlhedigoaaSl
import Derived.Deep.RegionHeld3
namespace Go.Proofs.Ytponbnlhedigoaa
open Go.RowKit

/-- An entry put in its place. -/
def insL (e : Ent) : List Ent → List Ent
  | [] => [e]
  | a :: r => if e.1 < a.1 then e :: a :: r else a :: insL e r

theorem fstL_shift (p : Ent → Bool) (l : List Ent) : ∀ k, fstL p l (k + 1) = if fstL p l k = -1 then -1 else fstL p l k + 1 := by
  induction l with
  | nil => intro k; rfl
  | cons a r ih =>
    intro k
    unfold fstL
    by_cases h : p a = true
    · rw [if_pos h, if_pos h, if_neg (by omega)]; rfl
    · rw [if_neg h, if_neg h]; exact ih (k + 1)
theorem endL_cons (a : Ent) (r : List Ent) (k : Int) : endL (a :: r) k = if k < a.1 then 0 else endL r k + 1 := by
  have hr := fstL_range (fun e => decide (k < e.1)) r 0
  have e1 : fstL (fun e => decide (k < e.1)) (a :: r) 0 = if k < a.1 then 0 else fstL (fun e => decide (k < e.1)) r 1 := by
    show (if decide (k < a.1) = true then ((0 : Nat) : Int) else _) = _
    by_cases h : k < a.1
    · rw [if_pos (decide_eq_true h), if_pos h]; rfl
    · rw [if_neg (by simpa using h), if_neg h]
  have e2 := fstL_shift (fun e => decide (k < e.1)) r 0
  rw [Nat.zero_add] at e2
  unfold endL
  rw [e1, e2]
  by_cases h : k < a.1
  · rw [if_pos h, if_pos h, if_neg (by decide)]
  · rw [if_neg h, if_neg h]
    rcases hr with hr | hr
    · rw [hr, if_pos rfl, if_pos (by decide)]; simp
    · rw [if_neg (by omega), if_neg (by omega), if_neg (by omega)]
theorem pushL_ins (l : List Ent) (e : Ent) : pushL l 3 e = insL e l := by
  unfold pushL
  rw [if_neg (by decide), if_pos rfl]
  induction l with
  | nil => rfl
  | cons a r ih =>
    rw [endL_cons]
    unfold insL
    by_cases h : e.1 < a.1
    · rw [if_pos h, if_pos h]; rfl
    · have hr := (endL_range r e.1).1
      rw [if_neg h, if_neg h, show (endL r e.1 + 1).toNat = (endL r e.1).toNat + 1 by omega, List.take_succ_cons, List.drop_succ_cons, List.cons_append, ih]

theorem insL_comm (x y : Ent) (h : x.1 ≠ y.1) (l : List Ent) : insL y (insL x l) = insL x (insL y l) := by
  induction l with
  | nil =>
    show (if y.1 < x.1 then [y, x] else [x, y]) = (if x.1 < y.1 then [x, y] else [y, x])
    by_cases h1 : y.1 < x.1
    · rw [if_pos h1, if_neg (by omega)]
    · rw [if_neg h1, if_pos (by omega)]
  | cons a r ih =>
    have e : ∀ (u : Ent) (b : Ent) (s : List Ent), insL u (b :: s) = if u.1 < b.1 then u :: b :: s else b :: insL u s := fun _ _ _ => rfl
    by_cases h1 : x.1 < a.1
    · by_cases h2 : y.1 < a.1
      · by_cases h3 : y.1 < x.1
        · have h4 : ¬ x.1 < y.1 := by omega
          simp only [e, h1, h2, h3, h4, reduceIte]
        · have h4 : x.1 < y.1 := by omega
          simp only [e, h1, h2, h3, h4, reduceIte]
      · have h3 : ¬ y.1 < x.1 := by omega
        simp only [e, h1, h2, h3, reduceIte]
    · by_cases h2 : y.1 < a.1
      · have h3 : ¬ x.1 < y.1 := by omega
        simp only [e, h1, h2, h3, reduceIte]
      · simp only [e, h1, h2, ih, reduceIte]

theorem pushL_two (l : List Ent) (e : Ent) : pushL l 2 e = l ++ [e] := by unfold pushL; rw [if_pos rfl]
theorem push_swap (l : List Ent) (x y : Ent) (h : x.1 ≠ y.1) : pushL (pushL l 3 x) 3 y = pushL (pushL l 3 y) 3 x := by
  rw [pushL_ins, pushL_ins, pushL_ins, pushL_ins, insL_comm x y h]
theorem below_draws' (w : World) : Below w.heap.size w w.drew := (Below.refl _ _).drew
theorem insL_len (e : Ent) (l : List Ent) : (insL e l).length = l.length + 1 := by
  induction l with
  | nil => rfl
  | cons a r ih => unfold insL; split <;> simp [ih]

set_option maxRecDepth 100000 in
set_option maxHeartbeats 8000000 in
theorem order_in (l : List Ent) (v : Value) (x1 x2 y1 y2 : Int) (w : World) (hv : EntsD w v l) :
    Calls Try.prog 5 #[v, .agg #[.int .i64 x1, .int .i64 x2], .agg #[.int .i64 y1, .int .i64 y2]] w fun e w' => e = .returned (.bool true) ∧ Below w.heap.size w w' := by
  have T0 := Lib.hid (two_new w 25 25 #[.int .i64 x1, .int .i64 x2] #[.int .i64 y1, .int .i64 y2])
  have D0 := Lib.hid (EntsD.below hv T0.out.1)
  have HL := Lib.hid (fun W (hb : Below w.heap.size w W) => light_any l v W (EntsD.below hv hb))
  obtain ⟨ad, cap, rfl, _⟩ := hv.shape
  by_cases hn : l.length ≤ 60
  · rw [decide_eq_true hn] at HL
    have HN : Hid (l.length ≤ 60) := Lib.hid hn
    obtain ⟨n, hN⟩ : ∃ n, n = l.length := ⟨_, rfl⟩
    rw [← hN] at D0 HL hn ⊢
    have HNN := Lib.hid hN
    clear hv hN
    go_enter Try.func5, Try.ntmps5
    go_wp2_with fail
    generalize (w.alloc _).alloc _ = w0 at T0 D0 ⊢
    refine (HL.out w0 T0.out.1).mono ?_
    rintro e w0' ⟨rfl, rfl⟩
    have c0 : w0.cell? ⟨w.heap.size, 0, none⟩ = some (.int .i64 x1) := T0.out.2.1.cell 0
    have c1 : w0.cell? ⟨w.heap.size, 1, none⟩ = some (.int .i64 x2) := T0.out.2.1.cell 1
    have c2 : w0.cell? ⟨w.heap.size + 1, 0, none⟩ = some (.int .i64 y1) := T0.out.2.2.cell 0
    have c3 : w0.cell? ⟨w.heap.size + 1, 1, none⟩ = some (.int .i64 y2) := T0.out.2.2.cell 1
    have hlt := T0.out.2.2.lt
    clear HL
    obtain ⟨X1, hX1⟩ : ∃ X, l ++ [(x1, x2)] = X := ⟨_, rfl⟩
    obtain ⟨X2, hX2⟩ : ∃ X, X1 ++ [(y1, y2)] = X := ⟨_, rfl⟩
    have HX1 := Lib.hid hX1
    have HX2 := Lib.hid hX2
    have hl1 : X1.length ≤ 100000 := by rw [← hX1, List.length_append]; have := HN.out; simp only [List.length_cons, List.length_nil]; omega
    obtain ⟨m, hm⟩ : ∃ m, m = n + 2 := ⟨_, rfl⟩
    have HM := Lib.hid hm
    have hl2 : X2.length = m := by rw [hm]; exact (show X2.length = n + 2 by rw [← hX2, List.length_append, ← hX1, List.length_append, ← HNN.out]; rfl)
    have KK := Lib.hid (fun W (hb : Below w0.heap.size w0 W) => (⟨(T0.out.2.1.below hb).cell 0, (T0.out.2.1.below hb).cell 1, (T0.out.2.2.below hb).cell 0, (T0.out.2.2.below hb).cell 1, hb⟩ : W.cell? ⟨w.heap.size, 0, none⟩ = some (.int .i64 x1) ∧ W.cell? ⟨w.heap.size, 1, none⟩ = some (.int .i64 x2) ∧ W.cell? ⟨w.heap.size + 1, 0, none⟩ = some (.int .i64 y1) ∧ W.cell? ⟨w.heap.size + 1, 1, none⟩ = some (.int .i64 y2) ∧ Below w0.heap.size w0 W))
    have G1 := Lib.hid (fun W (hb : Below w0.heap.size w0 W) => push_any l _ 2 x1 x2 W (EntsD.below D0.out hb) (by have := HN.out; omega) X1 (by rw [pushL_two]; exact HX1.out))
    have G2 := Lib.hid (fun W vv (hb : Below w0.heap.size w0 W) (hd : EntsD W vv X1) => push_any X1 vv 2 y1 y2 W hd hl1 X2 (by rw [pushL_two]; exact HX2.out))
    have hb0 : Below w0.heap.size w0 w0 := Below.refl _ _
    have HL2 := Lib.hid hl2
    clear hX1 hX2 hl1 hm
    go_wp2_with fail
    go_region_held3 (fun w' => w'.cell? ⟨w.heap.size, 0, none⟩ = some (.int .i64 x1) ∧ w'.cell? ⟨w.heap.size, 1, none⟩ = some (.int .i64 x2) ∧ w'.cell? ⟨w.heap.size + 1, 0, none⟩ = some (.int .i64 y1) ∧ w'.cell? ⟨w.heap.size + 1, 1, none⟩ = some (.int .i64 y2) ∧ Below w0.heap.size w0 w')
      (first | exact ⟨c0, c1, c2, c3, Below.refl _ _⟩ | exact ⟨c0, c1, c2, c3, (Below.refl _ _).drew⟩ | assumption | (go_split_ands; exact KK.out _ bb))
      ((first
        | (go_split_ands; (with_reducible refine Calls.mono (G1.out _ (by assumption)) ?_); rintro e wn ⟨v1, rfl, dn, bn⟩; have dn0 := dn; obtain ⟨a1, cc1, rfl, _⟩ := dn.shape; have bb : Below w0.heap.size w0 wn := Below.trans (by assumption) (bn.mono (Below.size (by assumption))))
        | (go_split_ands; (with_reducible refine Calls.mono (G2.out _ _ (by assumption) (by assumption)) ?_); rintro e wn2 ⟨v2, rfl, dn2, bn2⟩; obtain ⟨a2, cc2, rfl, _⟩ := dn2.shape; have bb : Below w0.heap.size w0 wn2 := Below.trans (by assumption) (bn2.mono (Below.size (by assumption))))))
    have BW : Hid (Below w0.heap.size w0 wn2) := Lib.hid bb
    have DT := Lib.hid dn2
    have DB := Lib.hid (EntsD.below D0.out (by assumption : Below w0.heap.size w0 wn2))
    obtain ⟨k0, k1, k2, k3, _⟩ := KK.out wn2 BW.out
    have BF := Lib.hid (T0.out.1.trans (BW.out.mono T0.out.1.size))
    clear G1 G2 KK dn2 dn0 dn bn bn2 bb c0 c1 c2 c3 hb0
    go_split_ands
    have hm := HM.out
    have hl3 := HL2.out
    obtain ⟨n1, hn1⟩ : ∃ m, m = n + 1 := ⟨_, rfl⟩
    obtain ⟨bt, offt, hab, hbt, t0, t1, t2, t3⟩ : ∃ b off, a2 = some ⟨b, off, none⟩ ∧ b < wn2.heap.size ∧ wn2.cell? ⟨b, off + n * 2, none⟩ = some (.int .i64 x1) ∧ wn2.cell? ⟨b, off + n * 2 + 1, none⟩ = some (.int .i64 x2) ∧ wn2.cell? ⟨b, off + n1 * 2, none⟩ = some (.int .i64 y1) ∧ wn2.cell? ⟨b, off + n1 * 2 + 1, none⟩ = some (.int .i64 y2) := by
      obtain ⟨a', c', hv', _, _, hc⟩ := DT.out
      injection hv' with e1 _ _
      obtain ⟨b, off, he, hl, u0, u1⟩ := hc n (by omega)
      obtain ⟨b', off', he', hl', u2, u3⟩ := hc n1 (by omega)
      rw [he] at he'
      injection he' with he'
      injection he' with e5 e6
      subst e5; subst e6
      have g1 : X2[n]'(by omega) = (x1, x2) := by
        have : X2[n]? = some (x1, x2) := by
          rw [← HX2.out, ← HX1.out, List.append_assoc, List.getElem?_append_right (by rw [← HNN.out]; exact Nat.le_refl _), ← HNN.out, Nat.sub_self]; rfl
        rw [List.getElem?_eq_getElem (by omega)] at this
        exact Option.some.inj this
      have g2 : X2[n1]'(by omega) = (y1, y2) := by
        have : X2[n1]? = some (y1, y2) := by
          rw [← HX2.out, ← HX1.out, List.append_assoc, List.getElem?_append_right (by rw [← HNN.out]; omega), ← HNN.out, show n1 - n = 1 by omega]; rfl
        rw [List.getElem?_eq_getElem (by omega)] at this
        exact Option.some.inj this
      rw [g1] at u0 u1
      rw [g2] at u2 u3
      exact ⟨b, off, by rw [e1, he], hl, u0, u1, u2, u3⟩
    subst hab
    have ew1 : IntKind.i64.wrap ((n : Int) + 2) = (m : Int) := by rw [IntKind.wrap_i64]; omega
    have ew2 : IntKind.i64.wrap ((n : Int) + 1) = (n1 : Int) := by rw [IntKind.wrap_i64]; omega
    have g1 : (0 : Int) ≤ (n : Int) := Int.natCast_nonneg _
    have g2 : (n : Int) < (m : Int) := by omega
    have g3 : n < m := by omega
    have g4 : (0 : Int) ≤ (n1 : Int) := Int.natCast_nonneg _
    have g5 : (n1 : Int) < (m : Int) := by omega
    have g6 : n1 < m := by omega
    clear hm hn1 hl2 hl3
    go_wp2_with fail
    go_quiet (fail)
    go_wp2_with fail
    have BQ := Lib.hid (below_drewN' BW.out nq)
    generalize wn2.drewN nq = w3 at BQ ⊢
    clear BW BF DT DB k0 k1 k2 k3 t0 t1 t2 t3 hbt ew1 ew2 g1 g2 g3 g4 g5 g6
    go_loopg [8, 9] (n + 1) (fun fuel s' i' wr => ∃ (k : Nat) (q : Bool), i' = .int .i64 k ∧ s' = .bool q ∧ 1 ≤ k ∧ k ≤ n + 1 ∧ n + 1 - k ≤ fuel ∧ Below w0.heap.size w0 wr)
    case atStart => exact ⟨1, true, rfl, rfl, Nat.le_refl _, by omega, by omega, BQ.out⟩
    case round =>
      obtain ⟨k, q, rfl, rfl, hk1, hk, hf, hb⟩ := hrel
      have HB := Lib.hid hb
      have DBR := Lib.hid (EntsD.below D0.out hb)
      clear hb
      by_cases hlt' : k < n
      · obtain ⟨j, hj⟩ : ∃ j, k = j + 1 := ⟨k - 1, by omega⟩
        obtain ⟨b, off, cp, hv1, hbl, u0⟩ := EntsD.at DBR.out k (by rw [← HNN.out]; exact hlt')
        obtain ⟨b', off', cp', hv2, hbl', u1⟩ := EntsD.at DBR.out j (by rw [← HNN.out]; omega)
        rw [← HNN.out] at hv1 hv2
        cases hv1
        cases hv2
        obtain ⟨pk, hpk⟩ : ∃ p, (l.getD k (0, 0)).1 = p := ⟨_, rfl⟩
        obtain ⟨pj, hpj⟩ : ∃ p, (l.getD j (0, 0)).1 = p := ⟨_, rfl⟩
        rw [hpk] at u0
        rw [hpj] at u1
        have ew : IntKind.i64.wrap ((k : Int) - 1) = (j : Int) := by rw [IntKind.wrap_i64]; omega
        have g0 : (0 : Int) ≤ (j : Int) := Int.natCast_nonneg _
        have g1 : (j : Int) < (n : Int) := by omega
        have g2 : j < n := by omega
        have g3 : (0 : Int) ≤ (k : Int) := Int.natCast_nonneg _
        have g4 : (k : Int) < (n : Int) := by omega
        clear hj hpk hpj
        cases q with
        | false =>
          go_wp2_with fail
          go_quiet (fail)
          go_wp2
          go_roundg (gk - 1)
          case measure => omega
          case rel => exact ⟨k + 1, _, by go_num, rfl, by omega, by omega, by omega, below_drewN' HB.out _⟩
        | true =>
          obtain ⟨qq, hqq⟩ : ∃ qq, decide (pj ≤ pk) = qq := ⟨_, rfl⟩
          go_wp2_with fail
          go_quiet (fail)
          go_wp2
          all_goals
            go_roundg (gk - 1)
            case measure => omega
            case rel => exact ⟨k + 1, _, by go_num, rfl, by omega, by omega, by omega, below_drewN' HB.out _⟩
      · have gg : ¬ (k : Int) < (n : Int) := by omega
        obtain ⟨j0, j1, j2, j3⟩ : wr.cell? ⟨w.heap.size, 0, none⟩ = some (.int .i64 x1) ∧ wr.cell? ⟨w.heap.size, 1, none⟩ = some (.int .i64 x2) ∧ wr.cell? ⟨w.heap.size + 1, 0, none⟩ = some (.int .i64 y1) ∧ wr.cell? ⟨w.heap.size + 1, 1, none⟩ = some (.int .i64 y2) :=
          ⟨(T0.out.2.1.below HB.out).cell 0, (T0.out.2.1.below HB.out).cell 1, (T0.out.2.2.below HB.out).cell 0, (T0.out.2.2.below HB.out).cell 1⟩
        have BF := Lib.hid (T0.out.1.trans (HB.out.mono T0.out.1.size))
        cases q with
        | false =>
          go_wp2_with fail
          refine (known_any wr).mono ?_
          rintro e wB ⟨rfl, bB⟩
          have BB := Lib.hid (BF.out.trans (bB.mono BF.out.size))
          clear bB
          go_wp2
          go_ret
          exact ⟨rfl, BB.out⟩
        | true =>
          by_cases hxy : x1 = y1
          · have q1 : (x1 == y1) = true := by simpa using hxy
            clear hxy
            go_wp2_with fail
            refine (known_any wr).mono ?_
            rintro e wB ⟨rfl, bB⟩
            have BB := Lib.hid (BF.out.trans (bB.mono BF.out.size))
            clear bB
            go_wp2
            go_ret
            exact ⟨rfl, BB.out⟩
          · have q1 : (x1 == y1) = false := by simpa using hxy
            have HSW := Lib.hid (push_swap l (x1, x2) (y1, y2) hxy)
            have hl0 : l.length ≤ 100000 := by have := HN.out; omega
            have hl1 : (pushL l 3 (x1, x2)).length ≤ 100000 := by rw [pushL_ins, insL_len]; have := HN.out; omega
            have hl2 : (pushL l 3 (y1, y2)).length ≤ 100000 := by rw [pushL_ins, insL_len]; have := HN.out; omega
            have hl3 : (pushL (pushL l 3 (x1, x2)) 3 (y1, y2)).length ≤ 100000 := by rw [pushL_ins, pushL_ins, insL_len, insL_len]; have := HN.out; omega
            have H0 := Lib.hid hl0
            have H1 := Lib.hid hl1
            have H2 := Lib.hid hl2
            have GP := Lib.hid (fun (W : World) (vv : Value) (L : List Ent) (p q : Int) (hd : EntsD W vv L) (hl : Hid (L.length ≤ 100000)) => push_any L vv 3 p q W hd hl.out _ rfl)
            have GS := Lib.hid (fun (W : World) (va vb : Value) (ha : EntsD W va (pushL (pushL l 3 (x1, x2)) 3 (y1, y2))) (hc : EntsD W vb (pushL (pushL l 3 (y1, y2)) 3 (x1, x2))) => same_any _ va vb W ha (by rw [HSW.out]; exact hc) hl3)
            have KK := Lib.hid (fun W (hb : Below wr.heap.size wr W) => (⟨(T0.out.2.1.below (HB.out.trans (hb.mono HB.out.size))).cell 0, (T0.out.2.1.below (HB.out.trans (hb.mono HB.out.size))).cell 1, (T0.out.2.2.below (HB.out.trans (hb.mono HB.out.size))).cell 0, (T0.out.2.2.below (HB.out.trans (hb.mono HB.out.size))).cell 1, hb⟩ : W.cell? ⟨w.heap.size, 0, none⟩ = some (.int .i64 x1) ∧ W.cell? ⟨w.heap.size, 1, none⟩ = some (.int .i64 x2) ∧ W.cell? ⟨w.heap.size + 1, 0, none⟩ = some (.int .i64 y1) ∧ W.cell? ⟨w.heap.size + 1, 1, none⟩ = some (.int .i64 y2) ∧ Below wr.heap.size wr W))
            have DR := Lib.hid (EntsD.below DBR.out (below_draws' wr))
            have db : EntsD wr.drew (.slice ad n cap) l := DR.out
            clear hxy hl0 hl1 hl2 hl3 D0 DR
            go_wp2_with fail
            go_region_held3 (fun w' => w'.cell? ⟨w.heap.size, 0, none⟩ = some (.int .i64 x1) ∧ w'.cell? ⟨w.heap.size, 1, none⟩ = some (.int .i64 x2) ∧ w'.cell? ⟨w.heap.size + 1, 0, none⟩ = some (.int .i64 y1) ∧ w'.cell? ⟨w.heap.size + 1, 1, none⟩ = some (.int .i64 y2) ∧ Below wr.heap.size wr w')
              (first | exact ⟨j0, j1, j2, j3, Below.refl _ _⟩ | exact ⟨j0, j1, j2, j3, (Below.refl _ _).drew⟩ | assumption | (go_split_ands; exact KK.out _ bb))
              ((first
                | (go_at_call 8; go_split_ands; (with_reducible refine Calls.mono (GP.out _ _ _ _ _ (by assumption) (by assumption)) ?_); rintro e wn ⟨v1, rfl, d1, bn⟩; obtain ⟨a1', cc1', rfl, _⟩ := d1.shape; (try have p3 := EntsD.below p2 bn); (try have p2 := EntsD.below p1 bn); have p1 := d1; have bb : Below wr.heap.size wr wn := Below.trans (by assumption) (bn.mono (Below.size (by assumption))); have db := EntsD.below DBR.out bb)
                | (go_at_call 14; go_split_ands; (with_reducible refine Calls.mono (GS.out _ _ _ p3 p1) ?_); rintro e wn ⟨rfl, bn⟩; have bb : Below wr.heap.size wr wn := Below.trans (by assumption) (bn.mono (Below.size (by assumption))))
                | (go_at_call 6; go_split_ands; (with_reducible refine Calls.mono (known_any _) ?_); rintro e wn ⟨rfl, bn⟩; have bb : Below wr.heap.size wr wn := Below.trans (by assumption) (bn.mono (Below.size (by assumption))))))
            all_goals
              go_split_ands
              go_wp2
              go_ret
              exact ⟨rfl, BF.out.trans (Below.mono (by assumption) BF.out.size)⟩
  · rw [decide_eq_false hn] at HL
    generalize l.length = n at D0 HL
    clear hv hn
    go_enter Try.func5, Try.ntmps5
    go_wp2_with fail
    generalize (w.alloc _).alloc _ = w0 at T0 D0 ⊢
    refine (HL.out w0 T0.out.1).mono ?_
    rintro e w0' ⟨rfl, rfl⟩
    go_wp2_with fail
    refine (known_any w0).mono ?_
    rintro e wB ⟨rfl, bB⟩
    have BB := Lib.hid (T0.out.1.trans (bB.mono T0.out.1.size))
    clear bB
    go_wp2
    go_ret
    exact ⟨rfl, BB.out⟩

end Go.Proofs.Ytponbnlhedigoaa
