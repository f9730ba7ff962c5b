/- Layer 17, the code: the search's state in memory; isFound, meet. -/
import Derived.Test.YtkdpimifojjhaaaQb
import Derived.Test.YtkdpimifojjhaaaNr
namespace Go.Proofs.Ytkdpimifojjhaaa
set_option linter.unusedSimpArgs false
set_option linter.unusedVariables false
open Go.RowKit

/-- The search's state, in memory. -/
structure SR (w : World) (B n gS gO gL gD : Nat) (T : TT) (vo : Value) : Prop where
  r : Bk w gS 63 #[.int .i64 T.cnt, .slice (some ⟨gO, 0, none⟩) n n, .slice (some ⟨gL, 0, none⟩) n n, .slice (some ⟨gD, 0, none⟩) n n, vo]
  o : BkI w gO (tab n fun j => (T.ord j : Int))
  l : BkI w gL (tab n fun j => (T.low j : Int))
  d : BkI w gD (tab n T.lead)
  ow : w.ownsRow B 3 1 vo T.opn.length (ints (T.opn.map Int.ofNat))
  bS : gS < B
  bO : gO < B
  bL : gL < B
  bD : gD < B
  nOL : gO ≠ gL
  nOD : gO ≠ gD
  nLD : gL ≠ gD
  bw : B ≤ w.heap.size
theorem oth_drew {F : Nat → Prop} {w w' : World} (h : Oth F w w') : Oth F w w'.drew := ⟨h.b.drew, h.k⟩
theorem own_blk {w : World} {B T S n : Nat} {v : Value} {xs : List Value} (h : w.ownsRow B T S v n xs) (x : Nat) (hx : v.ownBlock = some x) : B ≤ x ∧ x < w.heap.size := h.lt x hx
theorem own_ge {w : World} {B T S n g : Nat} {v : Value} {xs : List Value} (h : w.ownsRow B T S v n xs) (hg : g < B) : v.ownBlock ≠ some g := fun e => by have := (own_blk h g e).1; omega
theorem own_setB {w : World} {B T S n g k : Nat} {v u : Value} {xs : List Value} (h : w.ownsRow B T S v n xs) (hg : v.ownBlock ≠ some g) : (w.setCell ⟨g, k, none⟩ u).ownsRow B T S v n xs :=
  (Oth.set w g k u).own h fun x hx e => hg (by rw [hx, e])
theorem tab_setN (n : Nat) (f : Nat → Nat) (i x : Nat) : (tab n fun j => (f j : Int)).set i (x : Int) = tab n fun j => ((upd f i x j : Nat) : Int) := by
  rw [tab_set]
  refine tab_congr fun j _ => ?_
  unfold upd
  split <;> rfl
section
variable {w : World} {B n gS gO gL gD : Nat} {T : TT} {vo : Value}
theorem SR.ne (h : SR w B n gS gO gL gD T vo) : gS ≠ gO ∧ gS ≠ gL ∧ gS ≠ gD := ⟨bk_ne h.r h.o (by decide), bk_ne h.r h.l (by decide), bk_ne h.r h.d (by decide)⟩
theorem SR.drew (h : SR w B n gS gO gL gD T vo) : SR w.drew B n gS gO gL gD T vo := ⟨h.r, h.o, h.l, h.d, h.ow, h.bS, h.bO, h.bL, h.bD, h.nOL, h.nOD, h.nLD, h.bw⟩
theorem SR.oth {F : Nat → Prop} {w' : World} (h : SR w B n gS gO gL gD T vo) (ho : Oth F w w') (hF : ∀ x, F x → x ≠ gS ∧ x ≠ gO ∧ x ≠ gL ∧ x ≠ gD ∧ vo.ownBlock ≠ some x) : SR w' B n gS gO gL gD T vo :=
  ⟨ho.bk h.r (fun e => (hF _ e).1 rfl), ho.bk h.o (fun e => (hF _ e).2.1 rfl), ho.bk h.l (fun e => (hF _ e).2.2.1 rfl), ho.bk h.d (fun e => (hF _ e).2.2.2.1 rfl), ho.own h.ow (fun g hg e => (hF _ e).2.2.2.2 hg), h.bS, h.bO, h.bL, h.bD, h.nOL, h.nOD, h.nLD, Nat.le_trans h.bw ho.b.size⟩
theorem SR.setL (h : SR w B n gS gO gL gD T vo) (i x : Nat) : SR (w.setCell ⟨gL, i, none⟩ (.int .i64 x)) B n gS gO gL gD { T with low := upd T.low i x } vo := by
  refine ⟨h.r.other h.ne.2.1 i, Bk.other h.o h.nOL i, ?_, Bk.other h.d (Ne.symm h.nLD) i, own_setB h.ow (own_ge h.ow h.bL), h.bS, h.bO, h.bL, h.bD, h.nOL, h.nOD, h.nLD, by rw [setCell_size]; exact h.bw⟩
  have := h.l.set i (x : Int)
  rw [tab_setN] at this
  exact this
theorem SR.setO (h : SR w B n gS gO gL gD T vo) (i x : Nat) : SR (w.setCell ⟨gO, i, none⟩ (.int .i64 x)) B n gS gO gL gD { T with ord := upd T.ord i x } vo := by
  refine ⟨h.r.other h.ne.1 i, ?_, Bk.other h.l (Ne.symm h.nOL) i, Bk.other h.d (Ne.symm h.nOD) i, own_setB h.ow (own_ge h.ow h.bO), h.bS, h.bO, h.bL, h.bD, h.nOL, h.nOD, h.nLD, by rw [setCell_size]; exact h.bw⟩
  have := h.o.set i (x : Int)
  rw [tab_setN] at this
  exact this
theorem SR.setD (h : SR w B n gS gO gL gD T vo) (i : Nat) (x : Int) : SR (w.setCell ⟨gD, i, none⟩ (.int .i64 x)) B n gS gO gL gD { T with lead := upd T.lead i x } vo := by
  refine ⟨h.r.other h.ne.2.2 i, Bk.other h.o h.nOD i, Bk.other h.l h.nLD i, ?_, own_setB h.ow (own_ge h.ow h.bD), h.bS, h.bO, h.bL, h.bD, h.nOL, h.nOD, h.nLD, by rw [setCell_size]; exact h.bw⟩
  have := h.d.set i x
  rw [tab_set] at this
  exact this
theorem SR.setC (h : SR w B n gS gO gL gD T vo) (x : Nat) : SR (w.setCell ⟨gS, 0, none⟩ (.int .i64 x)) B n gS gO gL gD { T with cnt := x } vo :=
  ⟨heap_setCell_same w gS 0 _ _ (.int .i64 x) h.r, Bk.other h.o (Ne.symm h.ne.1) 0, Bk.other h.l (Ne.symm h.ne.2.1) 0, Bk.other h.d (Ne.symm h.ne.2.2) 0, own_setT h.ow h.r (by decide), h.bS, h.bO, h.bL, h.bD, h.nOL, h.nOD, h.nLD, by rw [setCell_size]; exact h.bw⟩
/-- Another row stands in it. -/
theorem SR.setV (h : SR w B n gS gO gL gD T vo) {w2 : World} {v' : Value} {l : List Nat} (hb : Below B w w2) (ho : w2.ownsRow B 3 1 v' l.length (ints (l.map Int.ofNat))) : SR (w2.setCell ⟨gS, 4, none⟩ v') B n gS gO gL gD { T with opn := l } v' := by
  have k1 : Bk w2 gS _ _ := (hb.block gS h.bS).trans h.r
  have k2 : Bk w2 gO _ _ := (hb.block gO h.bO).trans h.o
  have k3 : Bk w2 gL _ _ := (hb.block gL h.bL).trans h.l
  have k4 : Bk w2 gD _ _ := (hb.block gD h.bD).trans h.d
  exact ⟨heap_setCell_same w2 gS 4 _ _ v' k1, Bk.other k2 (Ne.symm h.ne.1) 4, Bk.other k3 (Ne.symm h.ne.2.1) 4, Bk.other k4 (Ne.symm h.ne.2.2) 4, own_setT ho k1 (by decide), h.bS, h.bO, h.bL, h.bD, h.nOL, h.nOD, h.nLD, by rw [setCell_size]; exact Nat.le_trans h.bw hb.size⟩

set_option maxRecDepth 100000 in
theorem isFound_any (h : SR w B n gS gO gL gD T vo) (i : Nat) (hi : i < n) (q : Bool) (hq : decide (0 < T.ord i) = q) :
    Calls Try.prog 42 #[.pointer (some ⟨gS, 0, none⟩), .int .i64 i] w fun e w' => e = .returned (.bool q) ∧ w' = w := by
  have c1 := h.r.cell 1
  have x0 := h.o.at (tab_at n _ i hi)
  have lS := h.r.lt
  have lO := h.o.lt
  have i1 : (0 : Int) ≤ (i : Int) := by omega
  have i2 : (i : Int) < (n : Int) := by omega
  have HQ := Lib.hid hq
  generalize T.ord i = o at x0 HQ
  clear hq h hi
  go_enter Try.func42, Try.ntmps42
  go_wp2_with fail
  go_ret
  refine ⟨ret_bool ?_, rfl⟩
  rw [← HQ.out]
  try (by_cases ho : 0 < o
       · rw [decide_eq_true ho]; exact decide_eq_true (by omega)
       · rw [decide_eq_false ho]; exact decide_eq_false (by omega))

set_option maxRecDepth 100000 in
set_option maxHeartbeats 4000000 in
theorem meet_any (h : SR w B n gS gO gL gD T vo) (i c : Nat) (hi : i < n) (hc : c < n) :
    Calls Try.prog 44 #[.pointer (some ⟨gS, 0, none⟩), .int .i64 i, .int .i64 c] w fun e w' => e = .returned (.tuple #[]) ∧ SR w' B n gS gO gL gD (T.met i c) vo ∧ Oth (fun x => x = gL) w w' := by
  have c3 := h.r.cell 3
  have c2 := h.r.cell 2
  have x0 := h.d.at (tab_at n _ c hc)
  have x1 := h.l.at (tab_at n _ i hi)
  have x2 := h.l.at (tab_at n _ c hc)
  have f1 := h.l.fz i
  have lS := h.r.lt
  have lD := h.d.lt
  have lL := h.l.lt
  have i1 : (0 : Int) ≤ (i : Int) := by omega
  have i2 : (i : Int) < (n : Int) := by omega
  have i3 : (0 : Int) ≤ (c : Int) := by omega
  have i4 : (c : Int) < (n : Int) := by omega
  have H := Lib.hid h
  by_cases hl : T.lead c = -1
  · have HS := Lib.hid (h.setL i (min (T.low i) (T.low c)))
    have e : { T with low := upd T.low i (min (T.low i) (T.low c)) } = { T.met i c with nxt := T.nxt } := by unfold TT.met; rw [if_pos hl]
    rw [e] at HS
    have HS2 : Hid (SR (w.setCell ⟨gL, i, none⟩ (.int .i64 ((min (T.low i) (T.low c) : Nat) : Int))) B n gS gO gL gD (T.met i c) vo) := Lib.hid ⟨HS.out.r, HS.out.o, HS.out.l, HS.out.d, HS.out.ow, h.bS, h.bO, h.bL, h.bD, h.nOL, h.nOD, h.nLD, HS.out.bw⟩
    rw [hl] at x0
    have hm : (min (T.low i : Int) (T.low c : Int)) = ((min (T.low i) (T.low c) : Nat) : Int) := by omega
    clear e HS hl H h hi hc
    generalize T.low i = p at x1 hm HS2
    generalize T.low c = q at x2 hm HS2
    go_enter Try.func44, Try.ntmps44
    go_wp2_with fail
    go_region
    go_wp2_with fail
    all_goals
      first
        | rw [show min p q = q by omega] at HS2
        | rw [show min p q = p by omega] at HS2
      exact bodyPost_end (v := .tuple #[]) (by simp [results, Try.results44, go_sem]) rfl ⟨rfl, HS2.out.drew, oth_drew (Oth.set w gL i _)⟩
  · have HS : Hid (SR w B n gS gO gL gD (T.met i c) vo) := Lib.hid ⟨h.r, h.o, by have := h.l; unfold TT.met; rw [if_neg hl]; exact this, h.d, h.ow, h.bS, h.bO, h.bL, h.bD, h.nOL, h.nOD, h.nLD, h.bw⟩
    generalize T.lead c = y at x0 hl
    clear H h hi hc x1 x2
    go_enter Try.func44, Try.ntmps44
    go_wp2_with fail
    exact bodyPost_end (v := .tuple #[]) (by simp [results, Try.results44, go_sem]) rfl ⟨rfl, HS.out, Oth.refl _ _⟩
end

end Go.Proofs.Ytkdpimifojjhaaa
