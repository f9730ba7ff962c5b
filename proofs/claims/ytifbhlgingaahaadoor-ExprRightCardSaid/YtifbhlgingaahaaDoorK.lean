/- What the reference's Scan does: the same tokens. -/
import Derived.Test.YtifbhlgingaahaaDoorJ
namespace Go.Proofs.YtifbhlgingaahaaDoor
open Go.RowKit

theorem scanL_scX (s : ByteArray) (h : ¬ 20000 < s.size) : scanL s.data.toList = scX s 0 [] := by
  unfold scanL scX
  rw [if_neg (by rw [← Lib.size_eq]; exact h), ← Lib.size_eq]; rfl

set_option maxHeartbeats 400000 in
theorem rscan_big (s : ByteArray) (w : World) (h : 20000 < s.size) (hs : s.size ≤ maxLen) :
    Calls Tryd.prog 30 #[.string s] w (ScanAns w.heap.size (scanL s.data.toList) w) := by
  have hR : scanL s.data.toList = ([], 2, 20000) := by unfold scanL; rw [if_pos (by rw [← Lib.size_eq]; exact h)]
  rw [hR]; clear hR
  unfold maxLen at hs
  go_enter Tryd.func30, Tryd.ntmps30
  go_wp2
  go_ret3
  exact ⟨_, rfl, World.ownsRow_nil _ _ _ _, Below.refl _ _⟩

set_option maxHeartbeats 2000000 in
theorem rscan_small (s : ByteArray) (w : World) (h : s.size ≤ 20000) :
    Calls Tryd.prog 30 #[.string s] w (ScanAns w.heap.size (scanL s.data.toList) w) := by
  rw [scanL_scX s (by omega)]
  obtain ⟨R, hR⟩ : ∃ R, scX s 0 [] = R := ⟨_, rfl⟩
  rw [hR]
  have HR := Lib.hid hR; clear hR
  go_enter Tryd.func30, Tryd.ntmps30
  go_wp2_with (go_at_call 41; refine (gap_any s 0 _ (Nat.zero_le _) h).mono ?_; rintro e w1 ⟨q0, rfl, hg0, rfl⟩)
  have HG0 := Lib.hid hg0; clear hg0
  go_loopg [5, 6] s.size (fun fuel v at' wr => ∃ (p : Nat) (acc : List Tok), p ≤ s.size ∧ at' = .int .i64 p ∧ s.size - p ≤ fuel ∧ scX s p acc = R ∧ (∀ h : p < s.size, blank (s[p].toNat : Int) = false ∧ (s[p].toNat : Int) ≠ 35) ∧ wr.ownsRow w.heap.size 51 4 v acc.length (rowOf acc) ∧ Below w.heap.size w wr ∧ acc.length ≤ p)
  case atStart =>
    obtain ⟨g1, g2, g3, g4⟩ := HG0.out
    exact ⟨q0, [], g2, rfl, by omega, by rw [← g3, HR.out], g4, World.ownsRow_nil _ _ _ _, Below.refl _ _, Nat.zero_le _⟩
  case round =>
    obtain ⟨p, acc, hp, rfl, hf, hsc, hcl, hown, hbw, hal⟩ := hrel
    by_cases hlt : p < s.size
    · obtain ⟨hb, h35⟩ := hcl hlt
      obtain ⟨er, k, n, v, tx, HT, HX, hnn, hbad, hgood⟩ := one_at s p hlt h
      by_cases her : er = 0
      · subst her
        obtain ⟨hn0, hn1, hn2⟩ := hnn rfl
        have hsc2 := scX_tok s p acc hlt hb h35 (by rw [HT.out])
        rw [HT.out, hsc] at hsc2
        have HR' := Lib.hid hsc2
        have HC := hgood rfl
        obtain ⟨i0, hi, hz0, hz1, hz2⟩ := info_parts info29
        have HGap : ∀ w, Calls Tryd.prog 41 #[.string s, .int .i64 ((p : Int) + (n : Int))] w (GapAns s (p + n) w) := fun w => by
          have := gap_any s (p + n) w (by omega) h
          rw [Int.natCast_add] at this; exact this
        clear hb h35 hsc hsc2 hnn hbad hgood HT hcl
        go_wp2_with (first
          | (go_at_call 42; refine (HC _).mono ?_; rintro e w1 ⟨rfl, hb1⟩; have hown1 := own_below hown hb1; have hbw1 := hbw.trans (hb1.mono hbw.size); have hz := hbw1.size; clear hown hbw hb1)
          | (at_builtin; refine wpList_append_own _ rfl (.tmp 28) (.tmp 30) 33 rfl w.heap.size 51 i0 (.agg #[.int .i64 0, .string ⟨#[]⟩, .int .i64 0, .int .i64 0]) 4 40 Tryd.underlying33 hi hz0 hz1 hz2 rfl (by decide) _ _ _ rfl ((hown1.alloc _).alloc _) ⟨w1.heap.size + 1, 0, none⟩ 1 1 [.int .i64 k, .string tx, .int .i64 v, .int .i64 p] ?hx rfl ?c1 ?c2 ?c3 ?c4 ?c5 ?_))
        case hx => rfl
        case c1 => exact cell_four_new _ _ _ _ _ _ _ (by simp)
        case c2 => exact four_oneCell _ _ _ _
        case c3 => unfold maxLen; omega
        case c4 => omega
        case c5 => simp; omega
        intro v' w2 hown2 hgrow _
        have hbk : w2.heap[w1.heap.size]? = some (.cells #[.int .i64 k, .string tx, .int .i64 v, .int .i64 p] 51 (0, 0)) := by
          rw [hgrow.block w1.heap.size (by simp; omega) (fun e => by have := (hown1.lt _ e.symm).2; omega)]
          rw [Below.heap_alloc _ _ _ (by simp)]
          exact heap_alloc_new w1 _
        have hcell : w2.cell? ⟨w1.heap.size, 1, none⟩ = some (.string tx) := by simp [World.cell?, hbk]
        have hbw2 : Below w.heap.size w w2 := ((hbw1.alloc hz _).alloc (by simp; omega) _).grown hgrow (by simp; omega) (fun k hk => (hown1.lt k hk).1)
        clear hown1 hbw1 hgrow hbk
        go_wp2_with (go_at_call 41; refine (HGap _).mono ?_; rintro e w3 ⟨q, rfl, hg, rfl⟩)
        obtain ⟨g1, g2, g3, g4⟩ := hg
        have HG3 := Lib.hid (g3 (acc ++ [(k, List.take n (List.drop p s.data.toList), v, p)]))
        clear g3
        go_roundg (gk - 1)
        case measure => omega
        case rel =>
          have hr : rowOf (acc ++ [(k, List.take n (List.drop p s.data.toList), v, p)]) = rowOf acc ++ [.int .i64 k, .string tx, .int .i64 v, .int .i64 p] := by
            rw [HX.out]; simp [rowOf, cellsOf]
          refine ⟨q, acc ++ [(k, List.take n (List.drop p s.data.toList), v, p)], g2, rfl, by omega, by rw [HR'.out, HG3.out], g4, ?_, hbw2, by simp; omega⟩
          rw [hr, List.length_append]; exact hown2
      · have HC := hbad her
        have hsc2 := scX_bad s p acc hlt hb h35 (by rw [HT.out]; exact her)
        rw [HT.out, hsc] at hsc2
        have HR' := Lib.hid hsc2
        have hne : ((er : Int) == 0) = false := (by simp [her])
        clear hb h35 hsc hsc2 hnn hbad hgood her HT HX hcl
        go_wp2_with (go_at_call 42; refine (HC _).mono ?_; rintro e w1 ⟨rfl, hb1⟩)
        go_ret3
        rw [HR'.out]
        have hb2 := hbw.trans (hb1.mono hbw.size)
        exact ⟨_, rfl, World.ownsRow_nil _ _ _ _, hb2.alloc hb2.size _⟩
    · have HE := Lib.hid (scX_end s p acc hlt)
      have HS := Lib.hid hsc
      clear hsc hcl
      go_wp2
      go_ret3
      have hR : R = (acc, 0, 0) := by rw [← HS.out, HE.out]
      rw [hR]
      exact ⟨_, rfl, hown, hbw⟩

theorem rscan_any (s : ByteArray) (w : World) (hs : s.size ≤ maxLen) :
    Calls Tryd.prog 30 #[.string s] w (ScanAns w.heap.size (scanL s.data.toList) w) := by
  by_cases h : 20000 < s.size
  · exact rscan_big s w h hs
  · exact rscan_small s w (by omega)

end Go.Proofs.YtifbhlgingaahaaDoor
