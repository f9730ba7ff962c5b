/- Layer 14, the code: Reach. -/
import Derived.Test.YtklejedddkhfjaaNp
import Derived.StillTailTactics
namespace Go.Proofs.Ytklejedddkhfjaa
set_option linter.unusedSimpArgs false
set_option linter.unusedVariables false
open Go.RowKit

/-- A row of truths, whole in its block. -/
def truths (l : List Bool) : List Value := l.map Value.bool
abbrev BkT (w : World) (g : Nat) (l : List Bool) : Prop := Bk w g 4 (truths l).toArray
theorem truths_len (l : List Bool) : (truths l).length = l.length := by simp [truths]
theorem truths_rep (n : Nat) : truths (List.replicate n false) = List.replicate n (.bool false) := by simp [truths]
theorem truths_flat (l : List Bool) : truths l = l.flatMap fun x => [Value.bool x] := by
  induction l with
  | nil => rfl
  | cons a l ih => rw [List.flatMap_cons, ← ih]; rfl
section
variable {w : World} {g g' k : Nat} {l : List Bool} {x : Bool}
theorem BkT.at (h : BkT w g l) (hk : l[k]? = some x) : w.cell? ⟨g, k, none⟩ = some (.bool x) := by
  rw [h.cell k]; simp [truths, hk]
theorem BkT.set (h : BkT w g l) (k : Nat) (x : Bool) : BkT (w.setCell ⟨g, k, none⟩ (.bool x)) g (l.set k x) := by
  have e : ((truths l).toArray.setIfInBounds k (.bool x)) = (truths (l.set k x)).toArray := by simp [truths, List.map_set]
  show Bk _ _ _ _
  rw [← e]
  exact heap_setCell_same w g k _ _ _ h
theorem BkT.trus (h : BkT w g l) {n : Nat} (hn : l.length = n) (hl : n ≤ 1000000) : TrusD w (.slice (some ⟨g, 0, none⟩) n n) l := by
  subst hn
  exact slD_of_bk (fun x => [Value.bool x]) 1 (fun _ => rfl) h (truths_flat l) hl fun i hi hk => hk 0 (by decide)
end
theorem info_bool : (Try.prog.info? 4).map (fun i => (i.zero, i.size, i.bytes)) = some (some (.bool false), 1, 1) := by kernel_rfl
theorem bkT_new {w : World} {g : Nat} {n : Nat} {Z : List Value} (hZ : Z = List.replicate n (.bool false)) (h : w.heap[g]? = some (.cells Z.toArray 4 (0, 0))) : BkT w g (List.replicate n false) := by
  unfold BkT Bk
  rw [truths_rep, ← hZ]; exact h

/-- The search's state: what is reached, what is open; each variable in a block of its own. -/
structure RS (w : World) (B g1 gr g2 n : Nat) (R : List Bool) (vo : Value) (S : List Int) : Prop where
  r1 : Bk w g1 33 #[.slice (some ⟨gr, 0, none⟩) n n]
  rr : BkT w gr R
  r2 : Bk w g2 24 #[vo]
  ow : w.ownsRow B 3 1 vo S.length (ints S)
  b1 : g1 < B
  br : gr < B
  b2 : g2 < B
  bw : B ≤ w.heap.size
def Fs (B gr g2 : Nat) (x : Nat) : Prop := x = gr ∨ x = g2 ∨ B ≤ x
theorem RS.drew {w : World} {B g1 gr g2 n : Nat} {R : List Bool} {vo : Value} {S : List Int} (h : RS w B g1 gr g2 n R vo S) : RS w.drew B g1 gr g2 n R vo S := ⟨h.r1, h.rr, h.r2, h.ow, h.b1, h.br, h.b2, h.bw⟩
theorem RS.ne {w : World} {B g1 gr g2 n : Nat} {R : List Bool} {vo : Value} {S : List Int} (h : RS w B g1 gr g2 n R vo S) : g1 ≠ gr ∧ g1 ≠ g2 ∧ gr ≠ g2 := ⟨bk_ne h.r1 h.rr (by decide), bk_ne h.r1 h.r2 (by decide), bk_ne h.rr h.r2 (by decide)⟩
/-- A node is marked. -/
theorem RS.mark {w : World} {B g1 gr g2 n : Nat} {R : List Bool} {vo : Value} {S : List Int} (h : RS w B g1 gr g2 n R vo S) (k : Nat) : RS (w.setCell ⟨gr, k, none⟩ (.bool true)) B g1 gr g2 n (R.set k true) vo S :=
  ⟨h.r1.other h.ne.1 k, h.rr.set k true, h.r2.other (Ne.symm h.ne.2.2) k, own_setT h.ow h.rr (by decide), h.b1, h.br, h.b2, by rw [setCell_size]; exact h.bw⟩
/-- Another row stands in the variable. -/
theorem RS.put {w w2 : World} {B g1 gr g2 n : Nat} {R : List Bool} {vo v' : Value} {S S' : List Int} (h : RS w B g1 gr g2 n R vo S) (hb : Below B w w2) (ho : w2.ownsRow B 3 1 v' S'.length (ints S')) : RS (w2.setCell ⟨g2, 0, none⟩ v') B g1 gr g2 n R v' S' := by
  have k1 : Bk w2 g1 _ _ := (hb.block g1 h.b1).trans h.r1
  have k2 : Bk w2 gr _ _ := (hb.block gr h.br).trans h.rr
  have k3 : Bk w2 g2 _ _ := (hb.block g2 h.b2).trans h.r2
  refine ⟨k1.other h.ne.2.1 0, Bk.other k2 h.ne.2.2 0, ?_, own_setT ho k3 (by decide), h.b1, h.br, h.b2, by rw [setCell_size]; exact Nat.le_trans h.bw hb.size⟩
  exact heap_setCell_same w2 g2 0 _ _ v' k3

set_option maxRecDepth 100000 in
set_option maxHeartbeats 8000000 in
theorem visit_any (B g1 gr g2 n : Nat) (l : List Int) (v : Value) (R : List Bool) (vo : Value) (S : List Int) (w : World) (hs : RS w B g1 gr g2 n R vo S) (hR : R.length = n) (hd : ∀ W, Oth (Fs B gr g2) w W → IntsD W v l) (hl : l.length ≤ 1000) (hn : n ≤ 1000) (hm : 2 * cf R + S.length ≤ 2000) :
    Calls Try.prog 36 #[v, .pointer (some ⟨g1, 0, none⟩), .pointer (some ⟨g2, 0, none⟩)] w fun e w' => e = .returned (.tuple #[]) ∧ ∃ R' vo' S', RS w' B g1 gr g2 n R' vo' S' ∧ Vis n l R S R' S' ∧ Oth (Fs B gr g2) w w' := by
  have HD := Lib.hid hd
  have HS := Lib.hid hs
  obtain ⟨ad, cap, rfl⟩ := (hd w (Oth.refl _ _)).shape0
  obtain ⟨M, hM⟩ : ∃ M, M = l.length := ⟨_, rfl⟩
  rw [← hM] at HD hl ⊢
  have HM := Lib.hid hM
  have HSZ : Hid (M ≤ 1000 ∧ n ≤ 1000 ∧ 2 * cf R + S.length ≤ 2000 ∧ R.length = n) := Lib.hid ⟨hl, hn, hm, hR⟩
  clear hs hR hd hl hn hm hM
  go_enter Try.func36, Try.ntmps36
  go_wp2_with fail
  go_loopg [5, 8] M (fun fuel s5 i' wr => ∃ (k : Nat) (R' : List Bool) (vo' : Value) (S' : List Int), i' = .int .i64 k ∧ k ≤ M ∧ M - k ≤ fuel ∧ RS wr B g1 gr g2 n R' vo' S' ∧ Vis n (l.take k) R S R' S' ∧ Oth (Fs B gr g2) w wr)
  case atStart => exact ⟨0, _, _, _, rfl, Nat.zero_le _, Nat.le_refl _, HS.out, by rw [List.take_zero]; exact Vis.start n R S, Oth.refl _ _⟩
  case round =>
    clear HS
    obtain ⟨k, R', vo', S', rfl, hk, hf, hs, hv, ho⟩ := hrel
    have HS := Lib.hid hs
    have HV := Lib.hid hv
    have HO := Lib.hid ho
    clear hs hv ho
    have i5 : IntKind.i64.wrap ((k : Int) + 1) = (k : Int) + 1 := IntWalk.i64_in _ (by have := HSZ.out; omega)
    by_cases hlt : k < M
    · have hk1 : k < l.length := by rw [← HM.out]; exact hlt
      have HK1 := Lib.hid hk1
      obtain ⟨b, off, rfl, hbl, x0⟩ := IntsD.at2 (HD.out wr HO.out) k hk1
      have HSK := Lib.hid (fun h => HV.out.skip hk1 h)
      have HPU := Lib.hid (fun h0 h1 h => HV.out.push hk1 h0 h1 h)
      generalize l[k] = x at x0 HSK HPU
      have i1 : (0 : Int) ≤ (k : Int) := by omega
      have i2 : (k : Int) < (M : Int) := by omega
      have c1 := HS.out.r1.cell 0
      have l1 := HS.out.r1.lt
      clear hk1
      obtain ⟨q, hq⟩ : ∃ q, decide (0 ≤ x ∧ x < (n : Int)) = q := ⟨_, rfl⟩
      have HQ := Lib.hid hq
      clear hq
      go_wp2_with fail
      refine (within_any _ _ q HQ.out _).mono ?_
      rintro e w7 ⟨rfl, rfl⟩
      cases q with
      | false =>
        have HVN := Lib.hid (HSK.out (fun h0 h1 => absurd ⟨h0, h1⟩ (of_decide_eq_false HQ.out)))
        go_wp2_with fail
        go_roundg (gk - 1)
        case measure => omega
        case rel => exact ⟨k + 1, _, _, _, by go_num, by omega, by omega, HS.out, HVN.out, HO.out⟩
      | true =>
        have hx := of_decide_eq_true HQ.out
        obtain ⟨j, rfl⟩ : ∃ j : Nat, x = (j : Int) := ⟨x.toNat, by omega⟩
        rw [Int.toNat_natCast] at HSK HPU
        have hjn : j < n := by omega
        have HRL : Hid (R'.length = n) := Lib.hid (by rw [HV.out.len]; exact HSZ.out.2.2.2)
        have hj1 : j < R'.length := by rw [HRL.out]; exact hjn
        obtain ⟨y, hy⟩ : ∃ y, R'[j]? = some y := ⟨_, List.getElem?_eq_getElem hj1⟩
        have c2 := HS.out.rr.at hy
        have l2 := HS.out.rr.lt
        have j1 : (0 : Int) ≤ (j : Int) := by omega
        have j2 : (j : Int) < (n : Int) := by omega
        have HX : Hid ((0 : Int) ≤ (j : Int) ∧ (j : Int) < (n : Int)) := Lib.hid hx
        have HY := Lib.hid hy
        clear hx hjn hj1 hy
        cases y with
        | true =>
          have HVN := Lib.hid (HSK.out (fun h0 h1 => HY.out))
          go_wp2_with fail
          go_roundg (gk - 1)
          case measure => omega
          case rel => exact ⟨k + 1, _, _, _, by go_num, by omega, by omega, HS.out, HVN.out, HO.out⟩
        | false =>
          have HVN := Lib.hid (HPU.out HX.out.1 HX.out.2 HY.out)
          have f2 := HS.out.rr.fz j
          have HS2 := Lib.hid (HS.out.mark j)
          have HO2 := Lib.hid (HO.out.trans (G := Fs B gr g2) (Oth.set _ gr j (.bool true)) (fun _ h => h) (fun _ _ h => .inl h))
          go_upto_region 5 with fail
          generalize World.setCell _ _ _ = w5 at HS2 HO2 ⊢
          obtain ⟨zo, zc, hvo, _⟩ := own_shape' HS2.out.ow
          subst hvo
          clear c1 l1 c2 l2 f2 x0
          have c3 := HS2.out.r2.cell 0
          have l3 := HS2.out.r2.lt
          have OW8 := Lib.hid (World.ownsRow.alloc HS2.out.ow (.cells #[.int .i64 j] 3))
          have KB8 := Lib.hid (Bk.new w5 3 #[.int .i64 j])
          have HL8 : Hid (S'.length ≤ 1000000) := Lib.hid (by have := HV.out.meas; have := HSZ.out; omega)
          have HS8 : Hid (B ≤ (w5.alloc (.cells #[.int .i64 j] 3)).heap.size) := Lib.hid (by rw [alloc_size]; have := HS2.out.bw; omega)
          have HB8 : Hid (Below B w5 (w5.alloc (.cells #[.int .i64 j] 3))) := Lib.hid ((Below.refl _ _).alloc HS2.out.bw _)
          have HZ8 : Hid (ints S' ++ [.int .i64 j] = ints (S' ++ [(j : Int)])) := Lib.hid (by simp [ints])
          go_wp2_with (refine list_app1 rfl (.tmp 26) (.tmp 28) 24 3 (.int .i64 0) 8 rfl Try.underlying24 info_int rfl (by decide) B _ S'.length _ rfl OW8.out w5.heap.size (.int .i64 j) rfl KB8.out rfl HL8.out HS8.out _ HZ8.out ?_)
          intro g' cp w9 O9 B9 G9 E9
          have HB9 := Lib.hid (HB8.out.trans B9.out)
          have HO9 : Hid (w9.ownsRow B 3 1 (.slice (some ⟨g', 0, none⟩) (S'.length + 1) cp) (S' ++ [(j : Int)]).length (ints (S' ++ [(j : Int)]))) := Lib.hid (by rw [List.length_append]; exact O9.out)
          have HS9 := Lib.hid (HS2.out.put HB9.out HO9.out)
          have K9 : Bk w9 g2 24 _ := (HB9.out.block g2 HS2.out.b2).trans HS2.out.r2
          have c4 := K9.cell 0
          have f4 := K9.fz 0
          have l4 := K9.lt
          have HOA := Lib.hid ((HO2.out.trans (G := Fs B gr g2) (F' := fun x => B ≤ x) ⟨HB9.out.mono (Nat.zero_le _), fun x _ hn => HB9.out.block x (by omega)⟩ (fun _ h => h) (fun _ _ h => .inr (.inr h))).trans (G := Fs B gr g2) (Oth.set w9 g2 0 (.slice (some ⟨g', 0, none⟩) (S'.length + 1) cp)) (fun _ h => h) (fun _ _ h => .inr (.inl h)))
          clear O9 B9 G9 E9 OW8 KB8 HL8 HS8 HB8 HZ8 K9 c3 l3
          go_wp2_with fail
          go_roundg (gk - 1)
          case measure => omega
          case rel => exact ⟨k + 1, _, _, _, by go_num, by omega, by omega, HS9.out, HVN.out, HOA.out⟩
    · obtain rfl : k = M := by omega
      go_wp2_with fail
      exact bodyPost_end (v := .tuple #[]) (by simp [results, Try.results36, go_sem]) rfl ⟨rfl, R', vo', S', HS.out, by have h := HV.out; rw [HM.out, List.take_length] at h; exact h, HO.out⟩

end Go.Proofs.Ytklejedddkhfjaa
