/- Layer 17, the code: what leaders keeps in memory. -/
import Derived.Test.YtkdpimifojjhaaaQc
import Derived.Test.YtkdpimifojjhaaaQe
import Derived.Test.YtkdpimifojjhaaaQf
import Derived.Test.YtkdpimifojjhaaaQg
import Derived.Test.YtkdpimifojjhaaaQh
namespace Go.Proofs.Ytkdpimifojjhaaa
set_option linter.unusedSimpArgs false
set_option linter.unusedVariables false
open Go.RowKit

/-- The graph, the search, the edges still to be followed, the path. -/
structure LR (w0 w : World) (vs va vt : Value) (g : Gr) (B BN gG n gS gO gL gD : Nat) (vn vo vp : Value) (T : TT) (P : List Nat) : Prop where
  G : Bk w gG 24 #[vs, va, vt]
  s : SR w B n gS gO gL gD T vo
  nx : w.ownsRow BN 3 1 vn (n + 1) (ints (tab (n + 1) fun j => (T.nxt j : Int)))
  pa : w.ownsRow B 3 1 vp P.length (ints (P.map Int.ofNat))
  ap : ∀ x, vp.ownBlock = some x → vo.ownBlock ≠ some x
  bn : ∀ x, vn.ownBlock = some x → x < B
  cS : gS < BN
  cO : gO < BN
  cL : gL < BN
  cD : gD < BN
  cG : gG < BN
  gw : w0.heap.size ≤ gG ∧ w0.heap.size ≤ gS ∧ w0.heap.size ≤ gO ∧ w0.heap.size ≤ gL ∧ w0.heap.size ≤ gD ∧ w0.heap.size ≤ BN ∧ BN ≤ B
  nG : gG ≠ gS ∧ gG ≠ gO ∧ gG ≠ gL ∧ gG ≠ gD
  b : Below w0.heap.size w0 w
section
variable {w0 w w' : World} {vs va vt : Value} {g : Gr} {B BN gG n gS gO gL gD : Nat} {vn vo vo' vp vp' : Value} {T T' : TT} {P P' : List Nat}
theorem LR.oth {F : Nat → Prop} (h : LR w0 w vs va vt g B BN gG n gS gO gL gD vn vo vp T P) (ho : Oth F w w') (hs : SR w' B n gS gO gL gD T' vo') (ht : T'.nxt = T.nxt) (hF : ∀ x, F x → (x = gS ∨ x = gO ∨ x = gL ∨ x = gD) ∨ vo.ownBlock = some x)
    (hv : ∀ x, vo'.ownBlock = some x → vo.ownBlock = some x ∨ w.heap.size ≤ x) : LR w0 w' vs va vt g B BN gG n gS gO gL gD vn vo' vp T' P := by
  have hgB : gG < B := Nat.lt_of_lt_of_le h.cG h.gw.2.2.2.2.2.2
  have hnx : w'.ownsRow BN 3 1 vn (n + 1) (ints (tab (n + 1) fun j => (T'.nxt j : Int))) := by
    rw [ht]
    refine ho.own h.nx fun x hx e => ?_
    have h1 := (own_blk h.nx x hx).1
    have h2 := h.bn x hx
    have := h.cS; have := h.cO; have := h.cL; have := h.cD
    rcases hF _ e with (e | e | e | e) | e
    · omega
    · omega
    · omega
    · omega
    · have := (own_blk h.s.ow x e).1; omega
  refine ⟨ho.bk h.G fun e => ?_, hs, hnx, ho.own h.pa fun x hx e => ?_, fun x hx e => ?_, h.bn, h.cS, h.cO, h.cL, h.cD, h.cG, h.gw, h.nG, h.b.trans (ho.below (fun x hx => ?_) h.b.size)⟩
  · rcases hF _ e with (e | e | e | e) | e
    · exact h.nG.1 e
    · exact h.nG.2.1 e
    · exact h.nG.2.2.1 e
    · exact h.nG.2.2.2 e
    · exact own_ge h.s.ow hgB e
  · have h1 := (own_blk h.pa x hx).1
    have := h.s.bS; have := h.s.bO; have := h.s.bL; have := h.s.bD
    rcases hF _ e with (e | e | e | e) | e
    · omega
    · omega
    · omega
    · omega
    · exact h.ap x hx e
  · rcases hv x e with e | e
    · exact h.ap x hx e
    · have := (own_blk h.pa x hx).2; omega
  · obtain ⟨a1, a2, a3, a4, a5, a6, a7⟩ := h.gw
    rcases hF _ hx with (e | e | e | e) | e
    · omega
    · omega
    · omega
    · omega
    · have := (own_blk h.s.ow x e).1; omega
theorem LR.below (h : LR w0 w vs va vt g B BN gG n gS gO gL gD vn vo vp T P) (hb : Below w.heap.size w w') : LR w0 w' vs va vt g B BN gG n gS gO gL gD vn vo vp T P :=
  h.oth (F := fun _ => False) (Oth.of hb) (h.s.oth (F := fun _ => False) (Oth.of hb) (fun _ e => e.elim)) rfl (fun _ e => e.elim) (fun _ e => .inl e)
theorem LR.drew (h : LR w0 w vs va vt g B BN gG n gS gO gL gD vn vo vp T P) : LR w0 w.drew vs va vt g B BN gG n gS gO gL gD vn vo vp T P := h.below (bdr (Below.refl _ _))
/-- An edge was followed. -/
theorem LR.next (h : LR w0 w vs va vt g B BN gG n gS gO gL gD vn vo vp T P) (i c : Nat) (hi : i < n) (hs : SR w' B n gS gO gL gD (T.met i c) vo) (ho : Oth (fun x => x = gL) w w') :
    ∃ gN cap, vn = .slice (some ⟨gN, 0, none⟩) (n + 1) cap ∧ gN < w'.heap.size ∧ w'.cell? ⟨gN, i, none⟩ = some (.int .i64 (T.nxt i)) ∧ w'.frozen? ⟨gN, i, none⟩ = false ∧ LR w0 (w'.setCell ⟨gN, i, none⟩ (.int .i64 ((T.nxt i + 1 : Nat) : Int))) vs va vt g B BN gG n gS gO gL gD vn vo vp (T.met i c) P := by
  have hon : w'.ownsRow BN 3 1 vn (n + 1) (ints (tab (n + 1) fun j => (T.nxt j : Int))) := ho.own h.nx fun x hx e => by have := (own_blk h.nx x hx).1; have := h.cL; omega
  obtain ⟨gN, cap, e, h1, h2, h3, h4, h5⟩ := own_put hon (show i < n + 1 by omega)
  have hgN : vn.ownBlock = some gN := by rw [e]; rfl
  have hgB := h.bn gN hgN
  have hc : w'.cell? ⟨gN, i, none⟩ = some (.int .i64 (T.nxt i)) := by
    rw [h3]; unfold ints; rw [List.getElem?_map, tab_at _ _ _ (show i < n + 1 by omega)]; rfl
  refine ⟨gN, cap, e, h2, hc, h4, ?_⟩
  have hO : Oth (fun x => x = gL ∨ x = gN) w (w'.setCell ⟨gN, i, none⟩ (.int .i64 ((T.nxt i + 1 : Nat) : Int))) := ho.trans (Oth.set w' gN i _) (fun _ e => .inl e) (fun _ _ e => .inr e)
  have a1 := h.cS; have a2 := h.cO; have a3 := h.cL; have a4 := h.cD; have a5 := h.cG
  obtain ⟨b1, b2, b3, b4, b5, b6, b7⟩ := h.gw
  have hs2 : SR (w'.setCell ⟨gN, i, none⟩ (.int .i64 ((T.nxt i + 1 : Nat) : Int))) B n gS gO gL gD (T.met i c) vo := hs.oth (Oth.set w' gN i _) fun x e => by
    subst e
    exact ⟨by omega, by omega, by omega, by omega, own_ge hs.ow hgB⟩
  refine ⟨hO.bk h.G fun e => ?_, hs2, ?_, hO.own h.pa fun x hx e => ?_, h.ap, h.bn, h.cS, h.cO, h.cL, h.cD, h.cG, h.gw, h.nG, h.b.trans (hO.below (fun x hx => ?_) h.b.size)⟩
  · rcases e with e | e
    · exact h.nG.2.2.1 e
    · omega
  · have h6 := h5 (.int .i64 ((T.nxt i + 1 : Nat) : Int))
    have e2 : (ints (tab (n + 1) fun j => (T.nxt j : Int))).set i (.int .i64 ((T.nxt i + 1 : Nat) : Int)) = ints (tab (n + 1) fun j => ((T.met i c).nxt j : Int)) := by
      unfold ints
      rw [← List.map_set, tab_setN]
      rfl
    rw [e2] at h6
    exact h6
  · have := (own_blk h.pa x hx).1
    have := h.s.bL
    rcases e with e | e <;> omega
  · rcases hx with e | e <;> omega
theorem LR.nAt {gN cN i : Nat} (h : LR w0 w vs va vt g B BN gG n gS gO gL gD (.slice (some ⟨gN, 0, none⟩) (n + 1) cN) vo vp T P) (hi : i < n) : w.cell? ⟨gN, i, none⟩ = some (.int .i64 (T.nxt i)) ∧ gN < w.heap.size := by
  obtain ⟨gN', cN', eN, _, lN, xN, _⟩ := own_put h.nx (show i < n + 1 by omega)
  injection eN with eN _ _
  injection eN with eN
  injection eN with eN _ _
  subst eN
  refine ⟨?_, lN⟩
  rw [xN]; unfold ints; rw [List.getElem?_map, tab_at _ _ _ (show i < n + 1 by omega)]; rfl
/-- The path grows. -/
theorem LR.push (h : LR w0 w vs va vt g B BN gG n gS gO gL gD vn vo vp T P) (hb : Below B w w') (hg : w.grownBy w' vp.ownBlock) (hp : w'.ownsRow B 3 1 vp' P'.length (ints (P'.map Int.ofNat))) (hv : ∀ x, vp'.ownBlock = some x → vp.ownBlock = some x ∨ w.heap.size ≤ x) : LR w0 w' vs va vt g B BN gG n gS gO gL gD vn vo vp' T P' := by
  have ho : Oth (fun x => vp.ownBlock = some x) w w' := ⟨hb.mono (Nat.zero_le _), fun x hx hn => hg.block x hx fun e => hn e.symm⟩
  obtain ⟨b1, b2, b3, b4, b5, b6, b7⟩ := h.gw
  have hgB : gG < B := Nat.lt_of_lt_of_le h.cG b7
  refine ⟨ho.bk h.G (own_ge h.pa hgB), h.s.oth ho fun x e => ?_, ho.own h.nx fun x hx e => own_ge h.pa (h.bn x hx) e, hp, fun x hx e => ?_, h.bn, h.cS, h.cO, h.cL, h.cD, h.cG, h.gw, h.nG, h.b.trans (ho.below (fun x hx => ?_) h.b.size)⟩
  · have := (own_blk h.pa x e).1
    have := h.s.bS; have := h.s.bO; have := h.s.bL; have := h.s.bD
    exact ⟨by omega, by omega, by omega, by omega, h.ap x e⟩
  · rcases hv x hx with e2 | e2
    · exact h.ap x e2 e
    · have := (own_blk h.s.ow x e).2; omega
  · have := (own_blk h.pa x hx).1; omega
/-- The path shrinks. -/
theorem LR.pop (h : LR w0 w vs va vt g B BN gG n gS gO gL gD vn vo vp T P) (hp : w.ownsRow B 3 1 vp' P'.length (ints (P'.map Int.ofNat))) (hv : vp'.ownBlock = vp.ownBlock) : LR w0 w vs va vt g B BN gG n gS gO gL gD vn vo vp' T P' :=
  ⟨h.G, h.s, h.nx, hp, fun x hx => h.ap x (by rw [← hv]; exact hx), h.bn, h.cS, h.cO, h.cL, h.cD, h.cG, h.gw, h.nG, h.b⟩
end

end Go.Proofs.Ytkdpimifojjhaaa
