/- The reference's parser of programs: progress; the frame of Parse. -/
import Derived.Test.YtlpgafgiljffhaaGreatDoorHf
namespace Go.Proofs.YtlpgafgiljffhaaGreatDoor
open Go.RowKit
set_option linter.unusedSimpArgs false
set_option linter.unusedVariables false
theorem refK_nz (l : List Tok) (i : Nat) : (refK l i).1 ≠ 0 := by unfold refK; split; exact Nat.succ_ne_zero 4; exact Nat.succ_ne_zero 5
/-- From q to q': as long as nothing is wrong, on, and not past the end. -/
def AdvR (l : List Tok) (q q' : Pq) : Prop := q'.k = 0 → q.k = 0 ∧ q.n ≤ q'.n ∧ (q.n ≤ l.length → q'.n ≤ l.length)
section
variable {l : List Tok} {q q' q2 : Pq}
theorem AdvR.refl (l : List Tok) (q : Pq) : AdvR l q q := fun h => ⟨h, Nat.le_refl _, id⟩
theorem AdvR.trans (h : AdvR l q q') (k : AdvR l q' q2) : AdvR l q q2 := fun h2 => by
  obtain ⟨a, b, c⟩ := k h2
  obtain ⟨d, e, f⟩ := h a
  exact ⟨d, Nat.le_trans e b, fun x => c (f x)⟩
theorem adv_wr (l : List Tok) (q : Pq) : AdvR l q (wrP l q) := fun h => by
  unfold wrP at h
  split at h
  · exact absurd h (refK_nz _ _)
  · exact absurd h (by assumption)
theorem adv_step (h : q.n < l.length) : AdvR l q ⟨q.n + 1, q.k, q.a⟩ := fun hk => ⟨hk, Nat.le_succ _, fun _ => h⟩
theorem adv_sg (l : List Tok) (q : Pq) (x : List UInt8) : AdvR l q (rsgP l q x) := by
  unfold rsgP; split
  · next h => exact adv_step (sgAt_lt h.2)
  · exact adv_wr l q
theorem adv_nm (l : List Tok) (q : Pq) : AdvR l q (rnmP l q).2 := by
  unfold rnmP; split
  · next h => exact adv_step (nmAt_lt h.2)
  · exact adv_wr l q
theorem adv_nu (l : List Tok) (q : Pq) : AdvR l q (rnuP l q).2 := by
  unfold rnuP; split
  · next h =>
    refine adv_step ?_
    by_cases hh : q.n < l.length
    · exact hh
    · have h1 := h.2
      unfold tokO at h1
      rw [List.getElem?_eq_none (by omega)] at h1
      exact absurd h1 (by decide)
  · exact adv_wr l q
theorem adv_rgL (l : List Tok) : ∀ f (q : Pq) rs, AdvR l q (rgL l f q rs).2
  | 0, q, rs => AdvR.refl l q
  | f + 1, q, rs => by
    unfold rgL; split
    · next h => exact (adv_step (sgAt_lt h.2)).trans ((adv_nm l _).trans (adv_rgL l f _ _))
    · exact AdvR.refl l q
theorem adv_rg (l : List Tok) (q : Pq) : AdvR l q (rgP l q).2 := by
  unfold rgP; split
  · next h => exact (adv_step (kyB_lt h).2).trans ((adv_nm l _).trans ((adv_rgL l _ _ _).trans (adv_sg l _ _)))
  · exact AdvR.refl l q
theorem stmt_ge (hok : TokOK l) (i : Nat) (hi : i ≤ l.length) (xs : List St) (j : Nat) (h : stmtR l (i : Nat) = .ok xs j) : i ≤ j ∧ j ≤ l.length := by
  have hp : ∀ i, (tokO l i).2.2.2 + (tokO l i).2.1.length ≤ 200000 := fun i => by have := hok i; omega
  obtain ⟨res, hres⟩ := lst_total l hp (l.length + 1) 0 i hi (by omega)
  rw [stmtR_of l i res hi hres] at h
  have hf := lst_fit l hp _ _ _ _ hi hres
  cases res with
  | err k a => cases h
  | ok ys m =>
    have h3 : (if 200 < ys.length then SRes.err 2 (refK l i).2 else .ok ys m) = .ok xs j := h
    split at h3
    · cases h3
    · cases h3; exact ⟨hf.1, hf.2.1⟩
theorem stmt_ne' (hok : TokOK l) (i : Nat) (hi : i ≤ l.length) (k a : Nat) (h : stmtR l (i : Nat) = .err k a) : k ≠ 0 := by
  have hp : ∀ i, (tokO l i).2.2.2 + (tokO l i).2.1.length ≤ 200000 := fun i => by have := hok i; omega
  obtain ⟨res, hres⟩ := lst_total l hp (l.length + 1) 0 i hi (by omega)
  rw [stmtR_of l i res hi hres] at h
  have hf := lst_fit l hp _ _ _ _ hi hres
  cases res with
  | err k2 a2 => cases h; exact hf
  | ok ys m =>
    have h3 : (if 200 < ys.length then SRes.err 2 (refK l i).2 else .ok ys m) = .err k a := h
    split at h3
    · cases h3; decide
    · cases h3
theorem adv_bd (hok : TokOK l) (q : Pq) (hq : q.k = 0 → q.n ≤ l.length) : AdvR l q (bdP l q).2 := by
  unfold bdP; split
  · next h =>
    intro hk
    refine ⟨h, ?_⟩
    unfold bdR at hk ⊢
    cases hs : stmtR l q.n with
    | err k a =>
      have hne := stmt_ne' hok q.n (hq h) k a hs
      rw [hs] at hk
      simp only [faP, h, hne, ne_eq, not_false_eq_true, and_self, if_true] at hk
    | ok xs j =>
      have hj := stmt_ge hok q.n (hq h) xs j hs
      exact ⟨hj.1, fun _ => hj.2⟩
  · exact AdvR.refl l q
theorem adv_th (hok : TokOK l) (h : q.n < l.length) : AdvR l ⟨q.n + 1, q.k, q.a⟩ (rthP l q).2 := by
  unfold rthP
  simp only []
  have a1 := ((adv_nm l ⟨q.n + 1, q.k, q.a⟩).trans (adv_sg l _ [123])).trans (adv_rg l _)
  refine (a1.trans (adv_bd hok _ fun hk => ?_)).trans (adv_sg l _ _)
  exact (a1 hk).2.2 h
theorem adv_cl (hok : TokOK l) (h : q.n < l.length) (kd : Int) : AdvR l ⟨q.n + 1, q.k, q.a⟩ (rclP l q kd).2 := by
  have ho := parse_out' l (q.n + 1) h (fun i => by have := hok i; omega)
  unfold rclP
  cases hR : parseR l (q.n + 1) with
  | err k a =>
    rw [hR] at ho
    intro hk
    have := (adv_sg l ⟨q.n + 1, k, a⟩ [59] hk).1
    exact absurd this ho
  | ok x j =>
    rw [hR] at ho
    obtain ⟨_, _, _, h4, h5⟩ := ho
    refine AdvR.trans (q' := ⟨j, q.k, q.a⟩) (fun hk => ⟨hk, Nat.le_of_lt h4, fun _ => h5⟩) (adv_sg l _ _)
theorem adv_lc (l : List Tok) (q : Pq) : AdvR l ⟨q.n + 1, q.k, q.a⟩ (rlcP l q).2 := by
  unfold rlcP
  simp only []
  exact (((adv_nm l _).trans (adv_sg l _ _)).trans (adv_nu l _)).trans (adv_sg l _ _)
theorem kdP_lt (h : 0 < kdP l q) : q.k = 0 ∧ q.n < l.length := by
  unfold kdP at h
  split at h
  · next h1 => exact kyB_lt h1
  · split at h
    · next h1 => exact kyB_lt h1
    · split at h
      · next h1 => exact kyB_lt h1
      · exact absurd h (by decide)
end

section
variable {w w' : World} {B : Nat} {v : Value} {b T : Nat} {cs : Array Value}
theorem TIn.keepB {ts : List TI} (h : TIn w ts) (hc : Bk w b T cs) (h0 : 9 ≠ T) (h1 : 61 ≠ T) (h2 : 65 ≠ T) (hk : Keep b w w') : TIn w' ts := fun t ht => ⟨own_keepB (h t ht).1 hc h0 hk, (h t ht).2.keepB hc h1 h2 hk⟩
theorem CIn.keepB {ts : List CI} (h : CIn w ts) (hc : Bk w b T cs) (h2 : 65 ≠ T) (hk : Keep b w w') : CIn w' ts := fun t ht => own_keepB (h t ht) hc h2 hk
theorem POwn.keepB {x y z : Value} {g : Pg} (h : POwn w B x y z g) (hc : Bk w b 86 cs) (hk : Keep b w w') : POwn w' B x y z g := by
  obtain ⟨h1, ⟨ts, t1, t2, t3⟩, us, u1, u2, u3⟩ := h
  exact ⟨own_keepB h1 hc (by decide) hk, ⟨ts, t1, own_keepB t2 hc (by decide) hk, t3.keepB hc (by decide) (by decide) (by decide) hk⟩, us, u1, own_keepB u2 hc (by decide) hk, u3.keepB hc (by decide) hk⟩
theorem pown_mono {B' : Nat} {x y z : Value} {g : Pg} (h : POwn w B x y z g) (hB : B' ≤ B) : POwn w B' x y z g := ⟨own_mono h.l hB, h.t.mono hB, h.c.mono hB⟩
end
/-- Parse in the middle: the world behind the scanner is w1; the state's block is its first new one, the program's the next. -/
structure PFx (w w1 : World) (l : List Tok) (v : Value) (q : Pq) (wr : World) (g : Pg) (x y z : Value) : Prop where
  rs : Rs wr w1.heap.size l v q
  bl : Below w1.heap.size w1 wr
  t0 : TokS w1 w1.heap.size v l
  b0 : Below w.heap.size w w1
  lw : w.heap.size < w1.heap.size
  rb : Bk wr w.heap.size 26 #[.int .i64 0, .slice none 0 0, .slice none 0 0, .slice none 0 0]
  xb : Bk wr (w1.heap.size + 1) 26 #[.int .i64 g.mod, x, y, z]
  po : POwn wr w1.heap.size x y z g
  len : g.locs.length + g.ths.length + g.cls.length ≤ l.length + 1
  lek : q.k = 0 → g.locs.length + g.ths.length + g.cls.length ≤ q.n
section
variable {w w1 : World} {l : List Tok} {v : Value} {q q2 : Pq} {wr w2 w3 : World} {g : Pg} {x y z : Value}
theorem PFx.call (h : PFx w w1 l v q wr g x y z) (hs : Rs w2 w1.heap.size l v q2) (hk : Keep w1.heap.size wr w2) (ha : AdvR l q q2) : PFx w w1 l v q2 w2 g x y z :=
  ⟨hs, h.bl.trans (hk.under h.bl.size), h.t0, h.b0, h.lw, h.rb.keep hk (by have := h.lw; omega), h.xb.keep hk (by omega), h.po.keepB h.rs.bk hk, h.len, fun h2 => Nat.le_trans (h.lek (ha h2).1) (ha h2).2.1⟩
theorem PFx.below (h : PFx w w1 l v q wr g x y z) (hb : Below wr.heap.size wr w2) : PFx w w1 l v q w2 g x y z := h.call (h.rs.below hb) (Below.keep hb) (AdvR.refl l q)
theorem PFx.next (h : PFx w w1 l v q wr g x y z) (hlt : q.n < l.length) (i : Int) (hi : i = (q.n + 1 : Nat)) : PFx w w1 l v ⟨q.n + 1, q.k, q.a⟩ (wr.setCell ⟨w1.heap.size, 1, none⟩ (.int .i64 i)) g x y z :=
  h.call (h.rs.setN (q.n + 1) i hi) ((Keep.refl _ wr).setCell 1 (.int .i64 i)) (adv_step hlt)
/-- A block of another type that is written. -/
theorem PFx.oth (h : PFx w w1 l v q wr g x y z) {c o : Nat} (u : Value) (hc : w1.heap.size + 1 < c) (hx : x.ownBlock ≠ some c) {cs : Array Value} (hb : Bk wr c 40 cs) : PFx w w1 l v q (wr.setCell ⟨c, o, none⟩ u) g x y z :=
  ⟨h.rs.setNew (Below.keep h.bl) h.t0 c o (by omega) (by omega) u, h.bl.setCell (p := ⟨c, o, none⟩) (show w1.heap.size ≤ c by omega) u, h.t0, h.b0, h.lw, h.rb.other (by have := h.lw; omega) o u, h.xb.other (by omega) o u,
   ⟨ownsRow_setCell_other h.po.l hx u, h.po.t.setBk hb (by decide) (by decide) (by decide) (by decide), h.po.c.setBk hb (by decide) (by decide)⟩, h.len, h.lek⟩
theorem PFx.mod (h : PFx w w1 l v q wr g x y z) (m : Int) : PFx w w1 l v q (wr.setCell ⟨w1.heap.size + 1, 0, none⟩ (.int .i64 m)) { g with mod := m } x y z :=
  ⟨h.rs.setNew (Below.keep h.bl) h.t0 _ 0 (by omega) (by omega) _, h.bl.setCell (p := ⟨w1.heap.size + 1, 0, none⟩) (show w1.heap.size ≤ w1.heap.size + 1 by omega) _, h.t0, h.b0, h.lw, h.rb.other (by have := h.lw; omega) 0 _, by simpa using h.xb.set 0 (.int .i64 m),
   ⟨own_setBk h.po.l h.xb (by decide), h.po.t.setBk h.xb (by decide) (by decide) (by decide) (by decide), h.po.c.setBk h.xb (by decide) (by decide)⟩, h.len, h.lek⟩
/-- Behind an append to one of the rows: what the store wants. -/
theorem PFx.grownX (h : PFx w w1 l v q wr g x y z) {e size n : Nat} {u : Value} {xs : List Value} (O : wr.ownsRow w1.heap.size e size u n xs) (h1 : e ≠ 86) (h2 : e ≠ 26) (hg : wr.grownBy w2 u.ownBlock) :
    Rs w2 w1.heap.size l v q ∧ Below w1.heap.size w1 w2 ∧ Bk w2 w.heap.size 26 #[.int .i64 0, .slice none 0 0, .slice none 0 0, .slice none 0 0] ∧ Bk w2 (w1.heap.size + 1) 26 #[.int .i64 g.mod, x, y, z] := by
  have hb : Below w1.heap.size w1 w2 := h.bl.grown hg h.bl.size (fun k hk => (O.lt k hk).1)
  exact ⟨⟨bk_grown O h.rs.bk h1 hg, h.t0.keep (Below.keep hb), h.rs.hn, h.rs.hok, h.rs.hnum⟩, hb, bk_grown O h.rb h2 hg, bk_grown O h.xb h2 hg⟩
theorem PFx.done (h : Rs w2 w1.heap.size l v q ∧ Below w1.heap.size w1 w2 ∧ Bk w2 w.heap.size 26 #[.int .i64 0, .slice none 0 0, .slice none 0 0, .slice none 0 0] ∧ Bk w2 (w1.heap.size + 1) 26 #[.int .i64 g.mod, x, y, z])
    (t0 : TokS w1 w1.heap.size v l) (b0 : Below w.heap.size w w1) (lw : w.heap.size < w1.heap.size) (k : Nat) (u : Value) {g' : Pg} {x' y' z' : Value} (hc : (#[.int .i64 g.mod, x, y, z] : Array Value).setIfInBounds k u = #[.int .i64 g'.mod, x', y', z'])
    (po : POwn w2 w1.heap.size x' y' z' g') (len : g'.locs.length + g'.ths.length + g'.cls.length ≤ l.length + 1) (lek : q.k = 0 → g'.locs.length + g'.ths.length + g'.cls.length ≤ q.n) :
    PFx w w1 l v q (w2.setCell ⟨w1.heap.size + 1, k, none⟩ u) g' x' y' z' := by
  obtain ⟨h1, h2, h3, h4⟩ := h
  exact ⟨h1.setNew (Below.keep h2) t0 _ k (by omega) (by omega) u, h2.setCell (p := ⟨w1.heap.size + 1, k, none⟩) (show w1.heap.size ≤ w1.heap.size + 1 by omega) u, t0, b0, lw, h3.other (by omega) k u, by rw [← hc]; exact h4.set k u, po.setBk h4, len, lek⟩
theorem PFx.appV (h : PFx w w1 l v q wr g x y z) {X : Vr} {u : Value} (hl1 : g.locs.length + g.ths.length + g.cls.length ≤ l.length) (hl2 : q.k = 0 → g.locs.length + g.ths.length + g.cls.length + 1 ≤ q.n)
    (ho : w2.ownsRow w1.heap.size 40 3 u (g.locs.length + 1) (rowV g.locs ++ [.string X.nm, .int .i64 X.n, .int .i64 X.pl])) (hg : wr.grownBy w2 x.ownBlock) :
    PFx w w1 l v q (w2.setCell ⟨w1.heap.size + 1, 1, none⟩ u) { g with locs := g.locs ++ [X] } u y z := by
  have hv : wr.ownsRow w1.heap.size 40 3 x g.locs.length (rowV g.locs) := h.po.l
  refine PFx.done (h.grownX hv (by decide) (by decide) hg) h.t0 h.b0 h.lw 1 u rfl ⟨?_, h.po.t.apart hv (by decide) (by decide) (by decide) (by decide) hg, h.po.c.apart hv (by decide) (by decide) hg⟩ ?_ ?_
  · show w2.ownsRow _ _ _ _ (g.locs ++ [X]).length (rowV (g.locs ++ [X]))
    rw [rowV_append, List.length_append]; exact ho
  · simp only [List.length_append, List.length_cons, List.length_nil]; omega
  · intro hk; have := hl2 hk; simp only [List.length_append, List.length_cons, List.length_nil]; omega
theorem PFx.appT (h : PFx w w1 l v q wr g x y z) {X : Th} {vr vb u : Value} (hl1 : g.locs.length + g.ths.length + g.cls.length ≤ l.length) (hl2 : q.k = 0 → g.locs.length + g.ths.length + g.cls.length + 1 ≤ q.n)
    {ts : List TI} (e1 : ts.map (·.1) = g.ths) (hv : wr.ownsRow w1.heap.size 43 4 y ts.length (rowT ts)) (hT : TIn wr ts) (i1 : wr.ownsRow 0 9 1 vr X.regs.length (rowB X.regs)) (i2 : SOwn wr 0 vb X.body)
    (ho : w2.ownsRow w1.heap.size 43 4 u (ts.length + 1) (rowT ts ++ [.string X.nm, vr, vb, .int .i64 X.pl])) (hg : wr.grownBy w2 y.ownBlock) :
    PFx w w1 l v q (w2.setCell ⟨w1.heap.size + 1, 2, none⟩ u) { g with ths := g.ths ++ [X] } x u z := by
  refine PFx.done (h.grownX hv (by decide) (by decide) hg) h.t0 h.b0 h.lw 2 u rfl ⟨World.ownsRow.kept h.po.l hg (own_apartE h.po.l hv (by decide)), ⟨ts ++ [(X, vr, vb)], by rw [List.map_append, e1]; rfl, ?_, (hT.apart hv (by decide) (by decide) (by decide) hg).snoc (i1.kept hg (own_apartE i1 hv (by decide))) (i2.apart hv (by decide) (by decide) hg)⟩, h.po.c.apart hv (by decide) (by decide) hg⟩ ?_ ?_
  · rw [rowT_append, List.length_append]; exact ho
  · simp only [List.length_append, List.length_cons, List.length_nil]; omega
  · intro hk; have := hl2 hk; simp only [List.length_append, List.length_cons, List.length_nil]; omega
theorem PFx.appC (h : PFx w w1 l v q wr g x y z) {X : Cl} {ve u : Value} (hl1 : g.locs.length + g.ths.length + g.cls.length ≤ l.length) (hl2 : q.k = 0 → g.locs.length + g.ths.length + g.cls.length + 1 ≤ q.n)
    {ts : List CI} (e1 : ts.map (·.1) = g.cls) (hv : wr.ownsRow w1.heap.size 49 3 z ts.length (rowC ts)) (hT : CIn wr ts) (i1 : wr.ownsRow 0 65 5 ve X.e.length (rowN X.e))
    (ho : w2.ownsRow w1.heap.size 49 3 u (ts.length + 1) (rowC ts ++ [.int .i64 X.kind, ve, .int .i64 X.pl])) (hg : wr.grownBy w2 z.ownBlock) :
    PFx w w1 l v q (w2.setCell ⟨w1.heap.size + 1, 3, none⟩ u) { g with cls := g.cls ++ [X] } x y u := by
  refine PFx.done (h.grownX hv (by decide) (by decide) hg) h.t0 h.b0 h.lw 3 u rfl ⟨World.ownsRow.kept h.po.l hg (own_apartE h.po.l hv (by decide)), h.po.t.apart hv (by decide) (by decide) (by decide) (by decide) hg, ⟨ts ++ [(X, ve)], by rw [List.map_append, e1]; rfl, ?_, (hT.apart hv (by decide) hg).snoc (i1.kept hg (own_apartE i1 hv (by decide)))⟩⟩ ?_ ?_
  · rw [rowC_append, List.length_append]; exact ho
  · simp only [List.length_append, List.length_cons, List.length_nil]; omega
  · intro hk; have := hl2 hk; simp only [List.length_append, List.length_cons, List.length_nil]; omega
end

end Go.Proofs.YtlpgafgiljffhaaGreatDoor
