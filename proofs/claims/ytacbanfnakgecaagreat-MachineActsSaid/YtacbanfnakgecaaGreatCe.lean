/- Layer 11, the code: Moves. -/
import Derived.Test.YtacbanfnakgecaaGreatCc
import Derived.Test.YtacbanfnakgecaaGreatWa
import Derived.Test.YtacbanfnakgecaaGreatXj
namespace Go.Proofs.YtacbanfnakgecaaGreat
set_option linter.unusedSimpArgs false
set_option linter.unusedVariables false
open Go.RowKit
set_option maxRecDepth 100000 in
set_option maxHeartbeats 4000000 in
theorem moves_core (u : Un) (model room : Int) (vi vr vc xp xr xm xb : Value) (w : World) (hu : UnD w vi vr vc u) (hl : LtU u) (en : Int → Bool)
    (H : ∀ (a : Int) W, Below w.heap.size w W → Calls Tryz.prog 17 #[.agg #[.int .i64 u.mod, vi, vr, vc], .agg #[xp, xr, xm, xb], .int .i64 model, .int .i64 room, .int .i64 a] W fun e w' => e = .returned (.bool (en a)) ∧ Below W.heap.size W w') :
    Calls Tryz.prog 19 #[.agg #[.int .i64 u.mod, vi, vr, vc], .agg #[xp, xr, xm, xb], .int .i64 model, .int .i64 room] w fun e w' => ∃ v, e = .returned v ∧ OwnI w' w.heap.size v (mvG en (agN u.code.length u.init.length model)) ∧ Below w.heap.size w w' := by
  have HCN := Lib.hid (fun (W : World) (h : Below w.heap.size w W) => mcount_any u model vi vr vc W (hu.below h) hl _ rfl)
  have hN4 := agN_400 hl model
  have HH := Lib.hid H
  clear H hu
  generalize agN u.code.length u.init.length model = N at *
  have L0 := Lib.hid (two_new w 25 29 #[.int .i64 u.mod, vi, vr, vc] #[xp, xr, xm, xb]).1
  have KU := Lib.hid (two_new w 25 29 #[.int .i64 u.mod, vi, vr, vc] #[xp, xr, xm, xb]).2.1
  have KC := Lib.hid (two_new w 25 29 #[.int .i64 u.mod, vi, vr, vc] #[xp, xr, xm, xb]).2.2
  go_enter Tryz.func19, Tryz.ntmps19
  go_wp2_with fail
  generalize World.alloc (World.alloc w _) _ = w1 at L0 KU KC ⊢
  refine (HCN.out w1 L0.out).mono ?_
  rintro e w2 ⟨rfl, b⟩
  have B2 := Lib.hid (L0.out.trans (b.mono L0.out.size))
  have KU2 := Lib.hid (KU.out.below b)
  have KC2 := Lib.hid (KC.out.below b)
  clear b L0 KU KC
  go_wp2_with fail
  go_loopg [9, 14] N (fun fuel mv i' wr => ∃ (k : Nat), i' = .int .i64 k ∧ k ≤ N ∧ N - k ≤ fuel ∧ OwnI wr w2.heap.size mv (mvG en k) ∧ Below w2.heap.size w2 wr)
  case atStart => exact ⟨0, rfl, Nat.zero_le _, Nat.le_refl _, World.ownsRow_nil _ _ _ _, Below.refl _ _⟩
  case round =>
    obtain ⟨k, rfl, hk, hf, ho, hb⟩ := hrel
    have HB := Lib.hid hb
    have HO := Lib.hid ho
    have KUR := Lib.hid (KU2.out.below hb)
    have KCR := Lib.hid (KC2.out.below hb)
    clear ho hb
    obtain ⟨u0, u1, u2, u3, ul, c0, c1, c2, c3, cl⟩ : wr.cell? ⟨w.heap.size, 0, none⟩ = some (.int .i64 u.mod) ∧ wr.cell? ⟨w.heap.size, 1, none⟩ = some vi ∧ wr.cell? ⟨w.heap.size, 2, none⟩ = some vr ∧ wr.cell? ⟨w.heap.size, 3, none⟩ = some vc ∧ w.heap.size < wr.heap.size ∧ wr.cell? ⟨w.heap.size + 1, 0, none⟩ = some xp ∧ wr.cell? ⟨w.heap.size + 1, 1, none⟩ = some xr ∧ wr.cell? ⟨w.heap.size + 1, 2, none⟩ = some xm ∧ wr.cell? ⟨w.heap.size + 1, 3, none⟩ = some xb ∧ w.heap.size + 1 < wr.heap.size := ⟨KUR.out.cell 0, KUR.out.cell 1, KUR.out.cell 2, KUR.out.cell 3, KUR.out.lt, KCR.out.cell 0, KCR.out.cell 1, KCR.out.cell 2, KCR.out.cell 3, KCR.out.lt⟩
    by_cases hlt : k < N
    · have HX := Lib.hid (HH.out (k : Int) wr (B2.out.trans (HB.out.mono B2.out.size)))
      have HS : mvG en (k + 1) = if en (k : Int) = true then mvG en k ++ [(k : Int)] else mvG en k := rfl
      obtain ⟨q, hq⟩ : ∃ q, en (k : Int) = q := ⟨_, rfl⟩
      rw [hq] at HX HS
      replace HS := Lib.hid HS
      clear hq
      have HL := Lib.hid (mvG_len en k)
      go_wp2_with fail
      clear u0 u1 u2 u3 ul c0 c1 c2 c3 cl
      refine HX.out.mono ?_
      rintro e w3 ⟨rfl, b⟩
      replace HB := Lib.hid (HB.out.trans (b.mono HB.out.size))
      replace HO := Lib.hid (own_below HO.out b)
      clear b HX KUR KCR
      cases q with
      | false =>
        go_wp2_with fail
        go_roundg (gk - 1)
        case measure => omega
        case rel => exact ⟨k + 1, by go_num, by omega, by omega, by rw [HS.out, if_neg (by simp)]; exact HO.out, HB.out⟩
      | true =>
        obtain ⟨ad2, cap2, rfl, _⟩ := own_shape' HO.out
        have L1 : Hid (Below w3.heap.size w3 (w3.alloc (.cells #[.int .i64 k] 3))) := (Below.refl _ _).alloc (Nat.le_refl _) _
        go_wp2_with (at_builtin; refine append_num rfl (.tmp 23) (.tmp 25) rfl w2.heap.size (mvG en k).length (.slice ad2 (mvG en k).length cap2) (rowI (mvG en k)) k rfl w3.heap.size rfl (own_below HO.out L1.out) (heap_alloc_new _ _) (by have := HL.out; omega) (by have := HB.out.size; have := L1.out.size; omega) ?_; intro g' cap' w4 ho4 hb4)
        have B4 := Lib.hid (HB.out.trans (L1.out.mono HB.out.size))
        go_roundg (gk - 1)
        case measure => omega
        case rel =>
          refine ⟨k + 1, by go_num, by omega, by omega, ?_, B4.out.trans hb4⟩
          rw [HS.out, if_pos trivial]
          have h1 : (mvG en k ++ [(k : Int)]).length = (mvG en k).length + 1 := by simp
          have h2 : rowI (mvG en k ++ [(k : Int)]) = rowI (mvG en k) ++ [.int .i64 k] := by rw [rowI_app]; rfl
          show World.ownsRow _ _ _ _ _ _ _
          rw [h1, h2]
          exact ho4
    · obtain rfl : k = N := by omega
      go_wp2_with fail
      go_ret
      exact ⟨_, rfl, own_base HO.out B2.out.size, B2.out.trans (HB.out.mono B2.out.size)⟩
end Go.Proofs.YtacbanfnakgecaaGreat
