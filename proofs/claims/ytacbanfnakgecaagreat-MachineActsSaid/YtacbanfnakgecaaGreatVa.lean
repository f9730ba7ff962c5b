/- Configurations of one's own: rows that a call has made; what they hold, plainly. Layer 9, the code: copies. -/
import Derived.Test.YtacbanfnakgecaaGreatUo
namespace Go.Proofs.YtacbanfnakgecaaGreat
set_option linter.unusedSimpArgs false
set_option linter.unusedVariables false
open Go.RowKit
def Kp (B : Nat) (w w' : World) : Prop := w.heap.size ≤ w'.heap.size ∧ ∀ g, B ≤ g → g < w.heap.size → w'.heap[g]? = w.heap[g]?
theorem Kp.refl (B : Nat) (w : World) : Kp B w w := ⟨Nat.le_refl _, fun _ _ _ => rfl⟩
theorem Kp.trans {B : Nat} {w w1 w2 : World} (h : Kp B w w1) (h2 : Kp B w1 w2) : Kp B w w2 :=
  ⟨Nat.le_trans h.1 h2.1, fun g h3 h4 => (h2.2 g h3 (Nat.lt_of_lt_of_le h4 h.1)).trans (h.2 g h3 h4)⟩
theorem Kp.below {B C : Nat} {w w' : World} (h : Below C w w') (hC : w.heap.size ≤ C) : Kp B w w' := ⟨h.size, fun g _ h4 => h.block g (Nat.lt_of_lt_of_le h4 hC)⟩
theorem own_kp {w w' : World} {B e size n : Nat} {v : Value} {xs : List Value} (h : w.ownsRow B e size v n xs) (hk : Kp B w w') : w'.ownsRow B e size v n xs := by
  obtain ⟨h1, h2⟩ := h
  refine ⟨h1, ?_⟩
  rcases h2 with h2 | ⟨g, cap, cur, hv, hg, hh, r⟩
  · exact .inl h2
  · exact .inr ⟨g, cap, cur, hv, hg, by rw [hk.2 g hg (Array.getElem?_eq_some_iff.1 hh).1]; exact hh, r⟩
def rowI (l : List Int) : List Value := l.flatMap fun x => [Value.int .i64 x]
theorem rowI_len (l : List Int) : (rowI l).length = l.length := by
  induction l with
  | nil => rfl
  | cons a r ih => simp only [rowI, List.flatMap_cons, List.length_append, List.length_cons] at ih ⊢; simp only [List.length_nil]; omega
theorem rowI_eq (l : List Int) : rowI l = l.map fun x => Value.int .i64 x := by
  induction l with
  | nil => rfl
  | cons a r ih => simp only [rowI, List.flatMap_cons, List.map_cons] at ih ⊢; rw [ih]; rfl
theorem rowI_app (a b : List Int) : rowI (a ++ b) = rowI a ++ rowI b := by simp [rowI]
abbrev OwnI (w : World) (B : Nat) (v : Value) (l : List Int) : Prop := w.ownsRow B 3 1 v l.length (rowI l)
abbrev OwnE (w : World) (B : Nat) (v : Value) (l : List Ent) : Prop := w.ownsRow B 70 2 v l.length (rowE l)
structure OwnR (w : World) (B : Nat) (v : Value) (l : List (List Int × Value)) : Prop where
  h : w.ownsRow B 22 1 v l.length (l.map (·.2))
  r : ∀ x ∈ l, OwnI w B x.2 x.1
structure OwnB (w : World) (B : Nat) (v : Value) (l : List (List Ent × Value)) : Prop where
  h : w.ownsRow B 51 1 v l.length (l.map (·.2))
  r : ∀ x ∈ l, OwnE w B x.2 x.1
structure OwnC (w : World) (B : Nat) (vp vr vm vb : Value) (c : Cf) : Prop where
  p : OwnI w B vp c.pc
  r : OwnR w B vr c.regs
  m : OwnI w B vm c.mem
  b : OwnB w B vb c.buf
section
variable {w w' : World} {B : Nat} {v vp vr vm vb : Value}
theorem OwnR.kp {l : List (List Int × Value)} (h : OwnR w B v l) (hk : Kp B w w') : OwnR w' B v l := ⟨own_kp h.h hk, fun x hx => own_kp (h.r x hx) hk⟩
theorem OwnB.kp {l : List (List Ent × Value)} (h : OwnB w B v l) (hk : Kp B w w') : OwnB w' B v l := ⟨own_kp h.h hk, fun x hx => own_kp (h.r x hx) hk⟩
theorem OwnC.kp {c : Cf} (h : OwnC w B vp vr vm vb c) (hk : Kp B w w') : OwnC w' B vp vr vm vb c := ⟨own_kp h.p hk, h.r.kp hk, own_kp h.m hk, h.b.kp hk⟩
theorem OwnR.below {l : List (List Int × Value)} (h : OwnR w B v l) (hk : Below w.heap.size w w') : OwnR w' B v l := h.kp (Kp.below hk (Nat.le_refl _))
theorem OwnB.below {l : List (List Ent × Value)} (h : OwnB w B v l) (hk : Below w.heap.size w w') : OwnB w' B v l := h.kp (Kp.below hk (Nat.le_refl _))
theorem OwnC.below {c : Cf} (h : OwnC w B vp vr vm vb c) (hk : Below w.heap.size w w') : OwnC w' B vp vr vm vb c := h.kp (Kp.below hk (Nat.le_refl _))
theorem OwnC.base {B' : Nat} {c : Cf} (h : OwnC w B vp vr vm vb c) (hb : B' ≤ B) : OwnC w B' vp vr vm vb c :=
  ⟨own_base h.p hb, ⟨own_base h.r.h hb, fun x hx => own_base (h.r.r x hx) hb⟩, own_base h.m hb, ⟨own_base h.b.h hb, fun x hx => own_base (h.b.r x hx) hb⟩⟩
theorem intsD_own {l : List Int} (h : OwnI w B v l) : IntsD w v l := intsD_of_own (T := 3) h
theorem entsD_own {l : List Ent} (h : OwnE w B v l) : EntsD w v l := entsD_of_own (T := 70) h
theorem map_flat {α : Type} (l : List (α × Value)) : l.map (·.2) = l.flatMap fun x => [x.2] := by
  induction l with
  | nil => rfl
  | cons a r ih => simp only [List.map_cons, List.flatMap_cons]; rw [ih]; rfl
theorem OwnR.data {l : List (List Int × Value)} (h : OwnR w B v l) : AllD w v l := by
  have hh := h.h
  rw [map_flat] at hh
  exact slD_of_own (T := 22) (B := B) (fun x : List Int × Value => [x.2]) 1 (fun _ => rfl) hh fun g i hi hk => ⟨hk 0 (by decide), intsD_own (h.r _ (List.getElem_mem hi))⟩
theorem OwnB.data {l : List (List Ent × Value)} (h : OwnB w B v l) : BufsD w v l := by
  have hh := h.h
  rw [map_flat] at hh
  exact slD_of_own (T := 51) (B := B) (fun x : List Ent × Value => [x.2]) 1 (fun _ => rfl) hh fun g i hi hk => ⟨hk 0 (by decide), entsD_own (h.r _ (List.getElem_mem hi))⟩
theorem OwnC.data {c : Cf} (h : OwnC w B vp vr vm vb c) : CfD w vp vr vm vb c := ⟨intsD_own h.p, h.r.data, intsD_own h.m, h.b.data⟩
end
structure Pf where
  pc : List Int
  regs : List (List Int)
  mem : List Int
  buf : List (List Ent)
deriving DecidableEq
def Cf.pf (c : Cf) : Pf := ⟨c.pc, c.regs.map (·.1), c.mem, c.buf.map (·.1)⟩
theorem eqL_map {α : Type} [DecidableEq α] : ∀ a b : List (List α × Value), a.length = b.length → eqL a b = decide (a.map (·.1) = b.map (·.1))
  | [], [], _ => by simp [eqL]
  | x :: r, y :: s, h => by
    have ih := eqL_map r s (by simpa using h)
    simp only [eqL, ih, List.map_cons]
    rw [Bool.eq_iff_iff]
    simp
theorem sameC_pf (a b : Cf) : sameC a b = decide (a.pf = b.pf) := by
  unfold sameC
  by_cases h : a.regs.length = b.regs.length ∧ a.buf.length = b.buf.length
  · rw [eqL_map _ _ h.1, eqL_map _ _ h.2, decide_eq_true h, Bool.eq_iff_iff]
    simp only [Bool.and_eq_true, decide_eq_true_eq, Cf.pf, Pf.mk.injEq]
    exact ⟨fun ⟨h1, h2, _, h3, h4⟩ => ⟨h1, h3, h2, h4⟩, fun ⟨h1, h3, h2, h4⟩ => ⟨h1, h2, trivial, h3, h4⟩⟩
  · rw [decide_eq_false h, Bool.false_and, Bool.and_false, Bool.and_false]
    refine (decide_eq_false fun he => h ?_).symm
    have h1 := congrArg (fun p : Pf => p.regs.length) he
    have h2 := congrArg (fun p : Pf => p.buf.length) he
    simp [Cf.pf] at h1 h2
    exact ⟨h1, h2⟩
def Apart (a b : Value) : Prop := ∀ g, a.ownBlock = some g → b.ownBlock ≠ some g
theorem Apart.symm {a b : Value} (h : Apart a b) : Apart b a := fun g h1 h2 => h g h2 h1
theorem apart_own {w w2 : World} {B e s n B2 e2 s2 n2 : Nat} {v v2 : Value} {xs xs2 : List Value} (h : w.ownsRow B e s v n xs) (h2 : w2.ownsRow B2 e2 s2 v2 n2 xs2) (hb : w.heap.size ≤ B2) : Apart v v2 := fun g h3 h4 => by
  have h5 := (h.lt g h3).2
  have h6 := (h2.lt g h4).1
  omega
structure DjC (vp vm : Value) (l : List (List Int × Value)) : Prop where
  pm : Apart vp vm
  pr : ∀ x ∈ l, Apart vp x.2
  mr : ∀ x ∈ l, Apart vm x.2
  rr : l.Pairwise fun x y => Apart x.2 y.2
end Go.Proofs.YtacbanfnakgecaaGreat

namespace Go.Proofs.YtacbanfnakgecaaGreat
set_option linter.unusedSimpArgs false
set_option linter.unusedVariables false
open Go.RowKit
set_option maxRecDepth 100000 in
theorem make_one {w : World} {ops : Array Oper} {rest : List Oper} {o : Oper} {a : Act} {Q : Exit → Act → World → Prop} (hgd : o.guard = none) (l c : Operand) (T E : TypeId) (z : Value) (by' : Nat)
    (hu : Tryz.prog.underlying T = some (.slice E)) (hin : (Tryz.prog.info? E).map (fun i => (i.zero, i.size, i.bytes)) = some (some z, 1, by')) (hz : z.cells = #[z]) (hby : by' ≤ 64)
    (hop : o.op = Op.makeSlice T l c) (n : Nat) (hl : a.eval l = .int .i64 n) (hc : a.eval c = .int .i64 n) (hn : n ≤ 1000000)
    (h : ∀ w' Z, Hid (Z = List.replicate n z) → Hid (w'.heap[w.heap.size]? = some (.cells Z.toArray E (0, 0))) → Below w.heap.size w w' → wpList Tryz.prog ops Q rest (a.put o.dst (.slice (some ⟨w.heap.size, 0, none⟩) n n)) w') : wpList Tryz.prog ops Q (o :: rest) a w := by
  obtain ⟨i0, hi, hz0, hz1, hz2⟩ := info_parts hin
  refine wpList_make_full w hgd l c T hop w.heap.size E i0 z 1 hu hi hz0 hz1 .i64 .i64 n n n hl hc rfl rfl (by rw [hz2]; exact Nat.le_trans (Nat.mul_le_mul hby hn) (by decide)) (by unfold maxLen; omega) (Nat.le_refl _) ?_
  intro w' h1 h2
  refine h w' _ (Lib.hid rfl) ?_ ((Below.refl _ _).grown h2 (Nat.le_refl _) (fun k h => by cases h))
  rw [hz, toList_madeCells_one, Nat.mul_one] at h1
  rcases h1.2 with ⟨hv, _⟩ | ⟨g, cap, cur, hv, _, hg, _, _, hcs, ht⟩
  · injection hv with e1; cases e1
  · injection hv with e1 e2 e3
    injection e1 with e1
    injection e1 with e1
    subst e1; subst e3
    rw [List.take_of_length_le (by rw [Array.length_toList, hcs]; exact Nat.le_refl _)] at ht
    show _ = _
    rw [hg, ← ht]
theorem info_int : (Tryz.prog.info? 3).map (fun i => (i.zero, i.size, i.bytes)) = some (some (.int .i64 0), 1, 8) := by kernel_rfl
theorem info_ints : (Tryz.prog.info? 22).map (fun i => (i.zero, i.size, i.bytes)) = some (some (.slice none 0 0), 1, 24) := by kernel_rfl
theorem info_ents : (Tryz.prog.info? 51).map (fun i => (i.zero, i.size, i.bytes)) = some (some (.slice none 0 0), 1, 24) := by kernel_rfl
theorem own_of_bk {w : World} {B g T S n : Nat} {cs : Array Value} {xs : List Value} (h : w.heap[g]? = some (.cells cs T (0, 0))) (hcs : cs.toList = xs) (hB : B ≤ g) (hl : xs.length = n * S) (hn : n ≤ 1000000) : w.ownsRow B T S (.slice (some ⟨g, 0, none⟩) n n) n xs :=
  ⟨hl, .inr ⟨g, n, cs, rfl, hB, h, Nat.le_refl _, by unfold maxLen; omega, by rw [← Array.length_toList, hcs, hl], by rw [hcs, ← hl, List.take_length]⟩⟩
theorem ints_flat {w : World} {a : Addr} {n cap : Nat} {l : List Int} (h : IntsD w (.slice (some a) n cap) l) : ∀ j u, (rowI l)[j]? = some u → w.cell? (a.add j) = some u := by
  intro j u hu
  have hj : j < l.length := by rw [← rowI_len]; exact (List.getElem?_eq_some_iff.1 hu).1
  obtain ⟨b, off, he, hb, hc⟩ := IntsD.at2 h j hj
  injection he with he
  subst he
  rw [rowI_eq, List.getElem?_map, List.getElem?_eq_getElem hj] at hu
  injection hu with hu
  rw [addr_add', hc, ← hu]
theorem rowI_one (l : List Int) : ∀ u ∈ rowI l, u.oneCell' = true := by
  intro u hu
  obtain ⟨o, _, ho⟩ := List.mem_flatMap.1 hu
  simp at ho
  rw [ho]; rfl
theorem splice_all {α : Type} (Z X : List α) (h : Z.length = X.length) : splice Z 0 X = X := by
  unfold splice
  rw [List.take_zero, List.nil_append, List.drop_eq_nil_of_le (by omega), List.append_nil]
theorem IntsD.nn {w : World} {n cap : Nat} {l : List Int} (h : IntsD w (.slice none n cap) l) : l.length = 0 := by
  rcases Nat.eq_zero_or_pos l.length with h0 | h0
  · exact h0
  · obtain ⟨b, off, he, _⟩ := IntsD.at2 h 0 h0
    cases he
theorem copy_ints {w : World} {ops : Array Oper} {rest : List Oper} {o : Oper} {a : Act} {Q : Exit → Act → World → Prop} (hgd : o.guard = none) (d s : Operand)
    (ho : o.op = .call { callee := .builtin .copy, args := #[d, s], argTypes := #[22, 22] })
    (dp sp : Option Addr) (dLen dCap sLen sCap : Nat) (hd : a.eval d = .slice dp dLen dCap) (hs : a.eval s = .slice sp sLen sCap)
    (g off : Nat) (cur : List Value) (t : TypeId) (hg : w.heap[g]? = some (.cells cur.toArray t (0, 0))) (xs : List Int) (hle : sLen ≤ dLen) (hxs : IntsD w (.slice sp sLen sCap) xs)
    (hpos : 0 < xs.length → dp = some ⟨g, off, none⟩) (hfit : off + xs.length ≤ cur.length) (B : Nat) (w0 : World) (hb : Below B w0 w) (hBg : B ≤ g)
    (h : ∀ w', Hid (w'.heap[g]? = some (.cells (splice cur off (rowI xs)).toArray t (0, 0))) → Below B w0 w' → wpList Tryz.prog ops Q rest (a.put o.dst (goInt xs.length)) w') :
    wpList Tryz.prog ops Q (o :: rest) a w := by
  have hm : xs.length = sLen := (SlD.len hxs).symm
  refine wpList_copy_splice hgd d s 22 22 ho 3 Tryz.underlying22 (by kernel_rfl) dp sp dLen dCap sLen sCap hd hs g off cur t hg (rowI xs) (by rw [rowI_len, hm]; exact (Nat.min_eq_left hle).symm) ?_ (by rw [rowI_len]; exact hfit) (rowI_one xs) B w0 hb hBg ?_
  · intro h0
    rw [rowI_len] at h0
    refine ⟨hpos h0, ?_⟩
    cases sp with
    | none =>
      have h1 := IntsD.nn hxs
      omega
    | some ad => exact ⟨ad, rfl, ints_flat hxs⟩
  · intro w' h1 h2
    have h3 := h w' h1 h2
    rw [rowI_len]
    exact h3
set_option maxRecDepth 100000 in
set_option maxHeartbeats 2000000 in
theorem copiedI_any (l : List Int) (v : Value) (w : World) (hv : IntsD w v l) (hn : l.length ≤ 100000) :
    Calls Tryz.prog 56 #[v] w fun e w' => ∃ v', e = .returned v' ∧ OwnI w' w.heap.size v' l ∧ Below w.heap.size w w' := by
  have H1 := Lib.hid hv
  obtain ⟨a1, p1, rfl⟩ := hv.shape0
  obtain ⟨n, hN⟩ : ∃ n, n = l.length := ⟨_, rfl⟩
  rw [← hN] at hn H1 ⊢
  have N1 := Lib.hid hN
  have hn6 : n ≤ 1000000 := by omega
  clear hv hN
  go_enter Tryz.func56, Tryz.ntmps56
  go_wp2_with (refine make_one rfl (.tmp 5) (.tmp 5) 22 3 (.int .i64 0) 8 Tryz.underlying22 info_int rfl (by decide) rfl n rfl rfl hn6 ?_)
  intro w1 Z HZ G1 b1
  have B1 := Lib.hid b1
  clear b1
  obtain ⟨g, hg⟩ : ∃ g, g = w.heap.size := ⟨_, rfl⟩
  rw [← hg] at G1 ⊢
  have HG := Lib.hid hg
  clear hg
  have HZL : Hid (Z.length = n) := Lib.hid (by rw [HZ.out, List.length_replicate])
  go_wp2_with (refine copy_ints rfl (.tmp 7) (.tmp 8) rfl (some ⟨g, 0, none⟩) a1 n n n p1 rfl rfl g 0 Z 3 G1.out l (Nat.le_refl _) (IntsD.below H1.out B1.out) (fun _ => rfl) (by rw [← N1.out, HZL.out]; omega) w.heap.size w B1.out (Nat.le_of_eq HG.out.symm) ?_)
  intro w2 G2 b2
  have B2 := Lib.hid b2
  clear b2
  go_wp2
  go_ret
  refine ⟨_, rfl, ?_, B2.out⟩
  have h2 := G2.out
  rw [splice_all Z _ (by rw [HZL.out, rowI_len, N1.out])] at h2
  show World.ownsRow _ _ _ _ _ _ _
  rw [← N1.out]
  exact own_of_bk h2 rfl (Nat.le_of_eq HG.out.symm) (by rw [rowI_len, N1.out, Nat.mul_one]) hn6
set_option maxRecDepth 100000 in
set_option maxHeartbeats 2000000 in
theorem copiedE_any (l : List Ent) (v : Value) (w : World) (hv : EntsD w v l) (hn : l.length ≤ 100000) :
    Calls Tryz.prog 75 #[v] w fun e w' => ∃ v', e = .returned v' ∧ OwnE w' w.heap.size v' l ∧ Below w.heap.size w w' := by
  have H1 := Lib.hid hv
  obtain ⟨a1, p1, rfl⟩ := hv.shape0
  obtain ⟨n, hN⟩ : ∃ n, n = l.length := ⟨_, rfl⟩
  rw [← hN] at hn H1 ⊢
  have N1 := Lib.hid hN
  have hn6 : n ≤ 1000000 := by omega
  clear hv hN
  go_enter Tryz.func75, Tryz.ntmps75
  go_wp2_with (refine make_ents rfl (.tmp 5) (.tmp 5) rfl n rfl rfl hn6 ?_)
  intro w1 G1 b1
  have B1 := Lib.hid b1
  clear b1
  obtain ⟨g, hg⟩ : ∃ g, g = w.heap.size := ⟨_, rfl⟩
  rw [← hg] at G1 ⊢
  have HG := Lib.hid hg
  clear hg
  go_wp2_with (refine copy_ents rfl (.tmp 7) (.tmp 8) rfl (some ⟨g, 0, none⟩) a1 n n n p1 rfl rfl g 0 _ _ G1.out l (Nat.le_refl _) (EntsD.below H1.out B1.out) (fun _ => rfl) (by rw [rowE_len, List.length_replicate, ← N1.out]; omega) w.heap.size w B1.out (Nat.le_of_eq HG.out.symm) ?_)
  intro w2 G2 b2
  have B2 := Lib.hid b2
  clear b2
  go_wp2
  go_ret
  refine ⟨_, rfl, ?_, B2.out⟩
  have h2 := G2.out
  rw [splice_all _ _ (by rw [rowE_len, List.length_replicate, rowE_len, N1.out])] at h2
  show World.ownsRow _ _ _ _ _ _ _
  rw [← N1.out]
  exact own_of_bk h2 rfl (Nat.le_of_eq HG.out.symm) (by rw [rowE_len, N1.out]) hn6
structure Part (w0 w : World) (g T E S : Nat) {β : Type} (f : List β → List Value) (n k : Nat) (l : List (List β × Value)) (rs : List (List β × Value)) : Prop where
  h : w.heap[g]? = some (.cells (rs.map (·.2) ++ List.replicate (n - k) (Value.slice none 0 0)).toArray T (0, 0))
  n : rs.length = k
  e : rs.map (·.1) = (l.take k).map (·.1)
  o : ∀ x ∈ rs, w.ownsRow (g + 1) E S x.2 x.1.length (f x.1)
  b : Below w0.heap.size w0 w
  a : rs.Pairwise fun x y => Apart x.2 y.2
theorem set_next {α : Type} (l : List α) (k n : Nat) (z v : α) (h : l.length = k) (hk : k < n) : (l ++ List.replicate (n - k) z).set k v = (l ++ [v]) ++ List.replicate (n - (k + 1)) z := by
  subst h
  rw [show n - l.length = (n - (l.length + 1)) + 1 by omega, List.replicate_succ, List.set_append_right _ _ (Nat.le_refl _), Nat.sub_self, List.set_cons_zero]
  simp
theorem Part.cell {w0 w : World} {g T E S : Nat} {β : Type} {f : List β → List Value} {n k : Nat} {l rs : List (List β × Value)} (h : Part w0 w g T E S f n k l rs) (hk : k < n) {w2 : World} (hb : Below w.heap.size w w2) :
    w2.cell? ⟨g, k, none⟩ = some (.slice none 0 0) ∧ w2.frozen? ⟨g, k, none⟩ = false ∧ g < w2.heap.size := by
  have hl := (Array.getElem?_eq_some_iff.1 h.h).1
  have hw : Bk w2 g T _ := (hb.block g hl).trans h.h
  refine ⟨?_, hw.fz k, hw.lt⟩
  rw [hw.cell k, List.getElem?_toArray, List.getElem?_append_right (by rw [List.length_map, h.n]; exact Nat.le_refl _), List.length_map, h.n, Nat.sub_self, List.getElem?_replicate, if_pos (by omega)]
theorem Part.step {w0 w : World} {g T E S : Nat} {β : Type} {f : List β → List Value} {n k : Nat} {l rs : List (List β × Value)} (h : Part w0 w g T E S f n k l rs) (hk : k < n) (hl : n = l.length) {w2 : World} (hb : Below w.heap.size w w2) (xs : List β) (hx : xs = (l[k]'(by omega)).1) (v : Value) (o : w2.ownsRow w.heap.size E S v xs.length (f xs)) (hg : w0.heap.size ≤ g) :
    Part w0 (w2.setCell ⟨g, k, none⟩ v) g T E S f n (k + 1) l (rs ++ [(xs, v)]) := by
  have hlt := (Array.getElem?_eq_some_iff.1 h.h).1
  have hw : w2.heap[g]? = some _ := (hb.block g hlt).trans h.h
  have kp : Kp (g + 1) w2 (w2.setCell ⟨g, k, none⟩ v) := ⟨by simp, fun j hj _ => heap_setCell_other w2 ⟨g, k, none⟩ j v (by simp; omega)⟩
  refine ⟨?_, by rw [List.length_append, h.n]; rfl, ?_, ?_, ?_, List.pairwise_append.2 ⟨h.a, List.pairwise_singleton _ _, fun x hx y hy => ?_⟩⟩
  · rw [heap_setCell_same w2 g k _ T v hw]
    congr 2
    rw [List.setIfInBounds_toArray, set_next _ k n _ _ (by rw [List.length_map, h.n]) hk]
    simp
  · rw [List.map_append, h.e, hx, List.take_add_one, List.getElem?_eq_getElem (by omega), List.map_append]
    rfl
  · intro x hx
    rcases List.mem_append.1 hx with hx | hx
    · exact own_kp (own_kp (h.o x hx) (Kp.below hb (Nat.le_refl _))) kp
    · rw [List.mem_singleton.1 hx]
      exact own_kp (own_base o hlt) kp
  · have := h.b.trans (hb.mono h.b.size)
    exact Below.setCell this (p := ⟨g, k, none⟩) hg _
  · rw [List.mem_singleton.1 hy]
    exact apart_own (h.o x hx) o (Nat.le_refl _)
set_option maxRecDepth 100000 in
set_option maxHeartbeats 2000000 in
theorem copiedLI_any (l : List (List Int × Value)) (v : Value) (w : World) (hv : AllD w v l) (hn : l.length ≤ 100000) (hs : ∀ x ∈ l, x.1.length ≤ 100000) :
    Calls Tryz.prog 57 #[v] w fun e w' => ∃ v' l', e = .returned v' ∧ OwnR w' w.heap.size v' l' ∧ l'.map (·.1) = l.map (·.1) ∧ Below w.heap.size w w' ∧ l'.Pairwise fun x y => Apart x.2 y.2 := by
  have H1 := Lib.hid hv
  have HS := Lib.hid hs
  obtain ⟨a1, p1, rfl⟩ := hv.shape0
  obtain ⟨n, hN⟩ : ∃ n, n = l.length := ⟨_, rfl⟩
  rw [← hN] at hn H1 ⊢
  have N1 := Lib.hid hN
  have hn6 : n ≤ 1000000 := by omega
  clear hv hN hs
  go_enter Tryz.func57, Tryz.ntmps57
  go_wp2_with (refine make_one rfl (.tmp 6) (.tmp 6) 26 22 (.slice none 0 0) 24 Tryz.underlying26 info_ints rfl (by decide) rfl n rfl rfl hn6 ?_)
  intro w1 Z HZ G1 b1
  have B1 := Lib.hid b1
  clear b1
  obtain ⟨g, hg⟩ : ∃ g, g = w.heap.size := ⟨_, rfl⟩
  rw [← hg] at G1 ⊢
  have HG := Lib.hid hg
  have P0 : Hid (Part w w1 g 22 3 1 rowI n 0 l []) := Lib.hid ⟨by rw [G1.out, HZ.out]; simp, rfl, by simp, by simp, B1.out, List.Pairwise.nil⟩
  clear hg HZ G1 B1
  go_wp2_with fail
  go_loopg [10] n (fun fuel i' wr => ∃ (k : Nat) (rs : List (List Int × Value)), i' = .int .i64 k ∧ k ≤ n ∧ n - k ≤ fuel ∧ Part w wr g 22 3 1 rowI n k l rs)
  case atStart => exact ⟨0, [], rfl, Nat.zero_le _, Nat.le_refl _, P0.out⟩
  case round =>
    obtain ⟨k, rs, rfl, hk, hf, hp⟩ := hrel
    have HP := Lib.hid hp
    clear hp P0
    by_cases hlt : k < n
    · have hk' : k < l.length := by have := N1.out; omega
      obtain ⟨b, off, al, ml, rfl, hbl, x0, y0⟩ := AllD.at2 (H1.out.below HP.out.b) k hk'
      have hs1 := HS.out _ (List.getElem_mem hk')
      have HC := Lib.hid (copiedI_any l[k].1 _ wr y0 hs1)
      obtain ⟨xs, hxs⟩ : ∃ xs, xs = l[k].1 := ⟨_, rfl⟩
      rw [← hxs] at x0 HC
      have HXS := Lib.hid hxs
      have e1 : (0 : Int) ≤ (k : Int) := Int.natCast_nonneg _
      have e2 : (k : Int) < (n : Int) := by omega
      obtain ⟨nl, hnl⟩ : ∃ nl, nl = xs.length := ⟨_, rfl⟩
      rw [← hnl] at x0 HC
      have HNL := Lib.hid hnl
      clear y0 hs1 hxs hnl
      go_wp2_with fail
      refine HC.out.mono ?_
      rintro e w2 ⟨v2, rfl, o2, b2⟩
      have HST := Lib.hid (HP.out.step hlt N1.out b2 xs HXS.out v2 o2 (Nat.le_of_eq HG.out.symm))
      obtain ⟨a2, m2, rfl, _⟩ := own_shape' o2
      obtain ⟨c2, f2, g2⟩ := HP.out.cell hlt b2
      have e3 : (0 : Int) ≤ (k : Int) := Int.natCast_nonneg _
      clear o2 b2 x0
      go_wp2
      go_roundg (gk - 1)
      case measure => omega
      case rel => exact ⟨k + 1, _, by go_num, by omega, by omega, HST.out⟩
    · have hkn : k = n := by omega
      subst hkn
      go_wp2
      go_ret
      have hp := HP.out
      have hh := hp.h
      rw [Nat.sub_self, List.replicate_zero, List.append_nil] at hh
      refine ⟨_, rs, rfl, ⟨?_, fun x hx => own_base (hp.o x hx) (by have := HG.out; omega)⟩, ?_, hp.b, hp.a⟩
      · rw [hp.n]
        exact own_of_bk hh rfl (Nat.le_of_eq HG.out.symm) (by rw [List.length_map, hp.n, Nat.mul_one]) hn6
      · rw [hp.e, N1.out, List.take_length]
set_option maxRecDepth 100000 in
set_option maxHeartbeats 2000000 in
theorem copiedLE_any (l : List (List Ent × Value)) (v : Value) (w : World) (hv : BufsD w v l) (hn : l.length ≤ 100000) (hs : ∀ x ∈ l, x.1.length ≤ 100000) :
    Calls Tryz.prog 58 #[v] w fun e w' => ∃ v' l', e = .returned v' ∧ OwnB w' w.heap.size v' l' ∧ l'.map (·.1) = l.map (·.1) ∧ Below w.heap.size w w' := by
  have H1 := Lib.hid hv
  have HS := Lib.hid hs
  obtain ⟨a1, p1, rfl⟩ := hv.shape0
  obtain ⟨n, hN⟩ : ∃ n, n = l.length := ⟨_, rfl⟩
  rw [← hN] at hn H1 ⊢
  have N1 := Lib.hid hN
  have hn6 : n ≤ 1000000 := by omega
  clear hv hN hs
  go_enter Tryz.func58, Tryz.ntmps58
  go_wp2_with (refine make_one rfl (.tmp 6) (.tmp 6) 27 51 (.slice none 0 0) 24 Tryz.underlying27 info_ents rfl (by decide) rfl n rfl rfl hn6 ?_)
  intro w1 Z HZ G1 b1
  have B1 := Lib.hid b1
  clear b1
  obtain ⟨g, hg⟩ : ∃ g, g = w.heap.size := ⟨_, rfl⟩
  rw [← hg] at G1 ⊢
  have HG := Lib.hid hg
  have P0 : Hid (Part w w1 g 51 70 2 rowE n 0 l []) := Lib.hid ⟨by rw [G1.out, HZ.out]; simp, rfl, by simp, by simp, B1.out, List.Pairwise.nil⟩
  clear hg HZ G1 B1
  go_wp2_with fail
  go_loopg [10] n (fun fuel i' wr => ∃ (k : Nat) (rs : List (List Ent × Value)), i' = .int .i64 k ∧ k ≤ n ∧ n - k ≤ fuel ∧ Part w wr g 51 70 2 rowE n k l rs)
  case atStart => exact ⟨0, [], rfl, Nat.zero_le _, Nat.le_refl _, P0.out⟩
  case round =>
    obtain ⟨k, rs, rfl, hk, hf, hp⟩ := hrel
    have HP := Lib.hid hp
    clear hp P0
    by_cases hlt : k < n
    · have hk' : k < l.length := by have := N1.out; omega
      obtain ⟨b, off, al, ml, rfl, hbl, x0, y0⟩ := BufsD.at2 (H1.out.below HP.out.b) k hk'
      have hs1 := HS.out _ (List.getElem_mem hk')
      have HC := Lib.hid (copiedE_any l[k].1 _ wr y0 hs1)
      obtain ⟨xs, hxs⟩ : ∃ xs, xs = l[k].1 := ⟨_, rfl⟩
      rw [← hxs] at x0 HC
      have HXS := Lib.hid hxs
      have e1 : (0 : Int) ≤ (k : Int) := Int.natCast_nonneg _
      have e2 : (k : Int) < (n : Int) := by omega
      obtain ⟨nl, hnl⟩ : ∃ nl, nl = xs.length := ⟨_, rfl⟩
      rw [← hnl] at x0 HC
      have HNL := Lib.hid hnl
      clear y0 hs1 hxs hnl
      go_wp2_with fail
      refine HC.out.mono ?_
      rintro e w2 ⟨v2, rfl, o2, b2⟩
      have HST := Lib.hid (HP.out.step hlt N1.out b2 xs HXS.out v2 o2 (Nat.le_of_eq HG.out.symm))
      obtain ⟨a2, m2, rfl, _⟩ := own_shape' o2
      obtain ⟨c2, f2, g2⟩ := HP.out.cell hlt b2
      have e3 : (0 : Int) ≤ (k : Int) := Int.natCast_nonneg _
      clear o2 b2 x0
      go_wp2
      go_roundg (gk - 1)
      case measure => omega
      case rel => exact ⟨k + 1, _, by go_num, by omega, by omega, HST.out⟩
    · have hkn : k = n := by omega
      subst hkn
      go_wp2
      go_ret
      have hp := HP.out
      have hh := hp.h
      rw [Nat.sub_self, List.replicate_zero, List.append_nil] at hh
      refine ⟨_, rs, rfl, ⟨?_, fun x hx => own_base (hp.o x hx) (by have := HG.out; omega)⟩, ?_, hp.b⟩
      · rw [hp.n]
        exact own_of_bk hh rfl (Nat.le_of_eq HG.out.symm) (by rw [List.length_map, hp.n, Nat.mul_one]) hn6
      · rw [hp.e, N1.out, List.take_length]
theorem OwnC.shapes {w : World} {B : Nat} {vp vr vm vb : Value} {c : Cf} (h : OwnC w B vp vr vm vb c) : ∃ a0 k0 a1 k1 a2 k2 a3 k3, vp = .slice a0 c.pc.length k0 ∧ vr = .slice a1 c.regs.length k1 ∧ vm = .slice a2 c.mem.length k2 ∧ vb = .slice a3 c.buf.length k3 := by
  obtain ⟨a0, k0, h0, _⟩ := own_shape' h.p
  obtain ⟨a1, k1, h1, _⟩ := own_shape' h.r.h
  obtain ⟨a2, k2, h2, _⟩ := own_shape' h.m
  obtain ⟨a3, k3, h3, _⟩ := own_shape' h.b.h
  exact ⟨a0, k0, a1, k1, a2, k2, a3, k3, h0, h1, h2, h3⟩
theorem Kp.up {B C : Nat} {w w' : World} (h : Kp B w w') (hC : B ≤ C) : Kp C w w' := ⟨h.1, fun g h3 h4 => h.2 g (Nat.le_trans hC h3) h4⟩
theorem set4_keep {w : World} {g : Nat} (x0 x1 x2 x3 : Value) :
    (∀ b, b ≠ g → ((((w.setCell ⟨g, 0, none⟩ x0).setCell ⟨g, 1, none⟩ x1).setCell ⟨g, 2, none⟩ x2).setCell ⟨g, 3, none⟩ x3).heap[b]? = w.heap[b]?) ∧ ((((w.setCell ⟨g, 0, none⟩ x0).setCell ⟨g, 1, none⟩ x1).setCell ⟨g, 2, none⟩ x2).setCell ⟨g, 3, none⟩ x3).heap.size = w.heap.size := by
  refine ⟨fun b hb => ?_, by simp⟩
  rw [heap_setCell_other _ _ _ _ hb, heap_setCell_other _ _ _ _ hb, heap_setCell_other _ _ _ _ hb, heap_setCell_other _ _ _ _ hb]
theorem set4_cell {w : World} {g b j : Nat} {v : Value} (x0 x1 x2 x3 : Value) (hb : b ≠ g) (h : w.cell? ⟨b, j, none⟩ = some v) :
    ((((w.setCell ⟨g, 0, none⟩ x0).setCell ⟨g, 1, none⟩ x1).setCell ⟨g, 2, none⟩ x2).setCell ⟨g, 3, none⟩ x3).cell? ⟨b, j, none⟩ = some v :=
  (World.cell?_of_block (a := ⟨b, j, none⟩) ((set4_keep x0 x1 x2 x3).1 b hb)).trans h
theorem set4_below {a w : World} {B g : Nat} (x0 x1 x2 x3 : Value) (hb : Below B a w) (hg : B ≤ g) : Below B a ((((w.setCell ⟨g, 0, none⟩ x0).setCell ⟨g, 1, none⟩ x1).setCell ⟨g, 2, none⟩ x2).setCell ⟨g, 3, none⟩ x3) :=
  Below.setCell (p := ⟨g, 3, none⟩) (Below.setCell (p := ⟨g, 2, none⟩) (Below.setCell (p := ⟨g, 1, none⟩) (Below.setCell (p := ⟨g, 0, none⟩) hb hg _) hg _) hg _) hg _
theorem set4_kp {w : World} {B g : Nat} (x0 x1 x2 x3 : Value) (hg : g < B) : Kp B w ((((w.setCell ⟨g, 0, none⟩ x0).setCell ⟨g, 1, none⟩ x1).setCell ⟨g, 2, none⟩ x2).setCell ⟨g, 3, none⟩ x3) :=
  ⟨Nat.le_of_eq (set4_keep x0 x1 x2 x3).2.symm, fun b hb _ => (set4_keep x0 x1 x2 x3).1 b (by omega)⟩
theorem set4_bk {w : World} {g T : Nat} {a0 a1 a2 a3 : Value} (x0 x1 x2 x3 : Value) (h : Bk w g T #[a0, a1, a2, a3]) : Bk ((((w.setCell ⟨g, 0, none⟩ x0).setCell ⟨g, 1, none⟩ x1).setCell ⟨g, 2, none⟩ x2).setCell ⟨g, 3, none⟩ x3) g T #[x0, x1, x2, x3] := by
  have h0 := heap_setCell_same w g 0 _ T x0 h
  have h1 := heap_setCell_same _ g 1 _ T x1 h0
  have h2 := heap_setCell_same _ g 2 _ T x2 h1
  have h3 := heap_setCell_same _ g 3 _ T x3 h2
  exact h3
set_option maxRecDepth 100000 in
set_option maxHeartbeats 4000000 in
theorem ncopy_ap (c : Cf) (vp vr vm vb : Value) (w : World) (hd : CfD w vp vr vm vb c) (hs : ShortC c) :
    Calls Tryz.prog 31 #[.agg #[vp, vr, vm, vb]] w fun e w' => ∃ (c' : Cf) (xp xr xm xb : Value), e = .returned (.agg #[xp, xr, xm, xb]) ∧ OwnC w' w.heap.size xp xr xm xb c' ∧ c'.pf = c.pf ∧ Below w.heap.size w w' ∧ DjC xp xm c'.regs := by
  have HIP := Lib.hid (fun (W : World) (h : Below w.heap.size w W) => copiedI_any c.pc vp W (IntsD.below hd.p h) hs.p)
  have HIM := Lib.hid (fun (W : World) (h : Below w.heap.size w W) => copiedI_any c.mem vm W (IntsD.below hd.m h) hs.m)
  have HIR := Lib.hid (fun (W : World) (h : Below w.heap.size w W) => copiedLI_any c.regs vr W (AllD.below hd.r h) hs.r hs.rr)
  have HIB := Lib.hid (fun (W : World) (h : Below w.heap.size w W) => copiedLE_any c.buf vb W (BufsD.below hd.b h) hs.b hs.bb)
  obtain ⟨xp, cp, rfl⟩ := hd.p.shape0
  obtain ⟨xr, cr, rfl⟩ := hd.r.shape0
  obtain ⟨xm, cm, rfl⟩ := hd.m.shape0
  obtain ⟨xb, cb, rfl⟩ := hd.b.shape0
  obtain ⟨np, hnp⟩ : ∃ n, n = c.pc.length := ⟨_, rfl⟩
  obtain ⟨nr, hnr⟩ : ∃ n, n = c.regs.length := ⟨_, rfl⟩
  obtain ⟨nm, hnm⟩ : ∃ n, n = c.mem.length := ⟨_, rfl⟩
  obtain ⟨nb, hnb⟩ : ∃ n, n = c.buf.length := ⟨_, rfl⟩
  rw [← hnp] at HIP ⊢
  rw [← hnr] at HIR ⊢
  rw [← hnm] at HIM ⊢
  rw [← hnb] at HIB ⊢
  clear hd hs hnp hnr hnm hnb
  have T2 := Lib.hid (two_new w 29 29 #[.slice xp np cp, .slice xr nr cr, .slice xm nm cm, .slice xb nb cb] #[.slice none 0 0, .slice none 0 0, .slice none 0 0, .slice none 0 0])
  go_enter Tryz.func31, Tryz.ntmps31
  go_wp2_with fail
  obtain ⟨L0, KA0, KB0⟩ := T2.out
  have LL := Lib.hid L0
  have KA := Lib.hid KA0
  have KB := Lib.hid KB0
  clear L0 KA0 KB0 T2
  generalize (w.alloc _).alloc _ = w0 at LL KA KB ⊢
  have KK := Lib.hid (fun W (hb : Below w0.heap.size w0 W) => (⟨(KA.out.below hb).cell 0, (KA.out.below hb).cell 1, (KA.out.below hb).cell 2, (KA.out.below hb).cell 3, LL.out.trans (hb.mono LL.out.size)⟩ : W.cell? ⟨w.heap.size, 0, none⟩ = some (.slice xp np cp) ∧ W.cell? ⟨w.heap.size, 1, none⟩ = some (.slice xr nr cr) ∧ W.cell? ⟨w.heap.size, 2, none⟩ = some (.slice xm nm cm) ∧ W.cell? ⟨w.heap.size, 3, none⟩ = some (.slice xb nb cb) ∧ Below w.heap.size w W))
  have GG := Lib.hid (fun W (hb : Below w0.heap.size w0 W) => LL.out.trans (hb.mono LL.out.size))
  have NE : w.heap.size ≠ w.heap.size + 1 := by omega
  have bb : Below w0.heap.size w0 w0.drew := below_draws' w0
  have bc : Below w.heap.size w w0 := LL.out
  have bd : Below w.heap.size w w0.drew := LL.out.drew
  obtain ⟨j0, j1, j2, j3, _⟩ := KK.out w0 (Below.refl _ _)
  go_wp2_with fail
  go_region_held3 (fun W => W.cell? ⟨w.heap.size, 0, none⟩ = some (.slice xp np cp) ∧ W.cell? ⟨w.heap.size, 1, none⟩ = some (.slice xr nr cr) ∧ W.cell? ⟨w.heap.size, 2, none⟩ = some (.slice xm nm cm) ∧ W.cell? ⟨w.heap.size, 3, none⟩ = some (.slice xb nb cb) ∧ Below w.heap.size w W)
    (first | with_reducible exact ⟨j0, j1, j2, j3, bc⟩ | with_reducible exact ⟨j0, j1, j2, j3, bd⟩ | with_reducible assumption | with_reducible exact KK.out _ bb | (go_split_ands; with_reducible exact ⟨set4_cell _ _ _ _ NE (by assumption), set4_cell _ _ _ _ NE (by assumption), set4_cell _ _ _ _ NE (by assumption), set4_cell _ _ _ _ NE (by assumption), set4_below _ _ _ _ (by assumption) (Nat.le_succ _)⟩))
    ((first
      | (go_at_call 56; go_split_ands; (with_reducible refine Calls.mono (HIP.out _ (GG.out _ (by assumption))) ?_); rintro e wn ⟨v1, rfl, o1, b1⟩; obtain ⟨z1, y1, rfl, _⟩ := own_shape' o1; have bb : Below w0.heap.size w0 wn := Below.trans (by assumption) (b1.mono (Below.size (by assumption))))
      | (go_at_call 57; go_split_ands; (with_reducible refine Calls.mono (HIR.out _ (GG.out _ (by assumption))) ?_); rintro e wn2 ⟨v2, l2, rfl, o2, e2, b2, a2⟩; obtain ⟨z2, y2, rfl, _⟩ := own_shape' o2.h; have bb : Below w0.heap.size w0 wn2 := Below.trans (by assumption) (b2.mono (Below.size (by assumption))))
      | (go_at_call 56; go_split_ands; (with_reducible refine Calls.mono (HIM.out _ (GG.out _ (by assumption))) ?_); rintro e wn3 ⟨v3, rfl, o3, b3⟩; obtain ⟨z3, y3, rfl, _⟩ := own_shape' o3; have bb : Below w0.heap.size w0 wn3 := Below.trans (by assumption) (b3.mono (Below.size (by assumption))))
      | (go_at_call 58; go_split_ands; (with_reducible refine Calls.mono (HIB.out _ (GG.out _ (by assumption))) ?_); rintro e wn4 ⟨v4, l4, rfl, o4, e4, b4⟩; obtain ⟨z4, y4, rfl, _⟩ := own_shape' o4.h; have bb : Below w0.heap.size w0 wn4 := Below.trans (by assumption) (b4.mono (Below.size (by assumption))); have q0 := (KB.out.below bb).cell 0; have q1 := (KB.out.below bb).cell 1; have q2 := (KB.out.below bb).cell 2; have q3 := (KB.out.below bb).cell 3; have r0 := (KB.out.below bb).fz 0; have r1 := (KB.out.below bb).fz 1; have r2 := (KB.out.below bb).fz 2; have r3 := (KB.out.below bb).fz 3; have r4 := (KB.out.below bb).lt)))
  go_split_ands
  have lt : w.heap.size + 1 < w0.heap.size := KB.out.lt
  have lw : w.heap.size ≤ w0.heap.size := LL.out.size
  have s1 : w0.heap.size ≤ wn.heap.size := b1.size
  have s2 : wn.heap.size ≤ wn2.heap.size := b2.size
  have s3 : wn2.heap.size ≤ wn3.heap.size := b3.size
  have KBF := set4_bk (.slice z1 c.pc.length y1) (.slice z2 l2.length y2) (.slice z3 c.mem.length y3) (.slice z4 l4.length y4) (KB.out.below bb)
  have kp := set4_kp (w := wn4) (B := w0.heap.size) (.slice z1 c.pc.length y1) (.slice z2 l2.length y2) (.slice z3 c.mem.length y3) (.slice z4 l4.length y4) lt
  have bf : Below w.heap.size w ((((wn4.setCell ⟨w.heap.size + 1, 0, none⟩ (.slice z1 c.pc.length y1)).setCell ⟨w.heap.size + 1, 1, none⟩ (.slice z2 l2.length y2)).setCell ⟨w.heap.size + 1, 2, none⟩ (.slice z3 c.mem.length y3)).setCell ⟨w.heap.size + 1, 3, none⟩ (.slice z4 l4.length y4)) := by assumption
  generalize (((wn4.setCell ⟨w.heap.size + 1, 0, none⟩ (.slice z1 c.pc.length y1)).setCell ⟨w.heap.size + 1, 1, none⟩ (.slice z2 l2.length y2)).setCell ⟨w.heap.size + 1, 2, none⟩ (.slice z3 c.mem.length y3)).setCell ⟨w.heap.size + 1, 3, none⟩ (.slice z4 l4.length y4) = w5 at *
  have k4 : Kp w0.heap.size wn4 w5 := kp
  have k3 : Kp w0.heap.size wn3 w5 := (Kp.below b4 (Nat.le_refl _)).trans k4
  have k2 : Kp w0.heap.size wn2 w5 := (Kp.below b3 (Nat.le_refl _)).trans k3
  have k1 : Kp w0.heap.size wn w5 := (Kp.below b2 (Nat.le_refl _)).trans k2
  have HF : Hid (OwnC w5 w.heap.size (.slice z1 c.pc.length y1) (.slice z2 l2.length y2) (.slice z3 c.mem.length y3) (.slice z4 l4.length y4) ⟨c.pc, l2, c.mem, l4⟩) := Lib.hid (OwnC.base (B := w0.heap.size)
    ⟨own_kp o1 k1, (OwnR.kp ⟨own_base o2.h s1, fun x hx => own_base (o2.r x hx) s1⟩ k2), own_kp (own_base o3 (Nat.le_trans s1 s2)) k3, (OwnB.kp ⟨own_base o4.h (Nat.le_trans s1 (Nat.le_trans s2 s3)), fun x hx => own_base (o4.r x hx) (Nat.le_trans s1 (Nat.le_trans s2 s3))⟩ k4)⟩ lw)
  have HAP : Hid (DjC (.slice z1 c.pc.length y1) (.slice z3 c.mem.length y3) l2) := Lib.hid
    ⟨apart_own o1 o3 s2, fun x hx => apart_own o1 (o2.r x hx) (Nat.le_refl _), fun x hx => (apart_own (o2.r x hx) o3 (Nat.le_refl _)).symm, a2⟩
  have d0 : w5.cell? ⟨w.heap.size + 1, 0, none⟩ = some _ := KBF.cell 0
  have d1 : w5.cell? ⟨w.heap.size + 1, 1, none⟩ = some _ := KBF.cell 1
  have d2 : w5.cell? ⟨w.heap.size + 1, 2, none⟩ = some _ := KBF.cell 2
  have d3 : w5.cell? ⟨w.heap.size + 1, 3, none⟩ = some _ := KBF.cell 3
  have lt5 : w.heap.size + 1 < w5.heap.size := KBF.lt
  have HPF : Hid ((⟨c.pc, l2, c.mem, l4⟩ : Cf).pf = c.pf) := Lib.hid (by unfold Cf.pf; simp only []; rw [e2, e4])
  clear o1 o2 o3 o4 k1 k2 k3 k4 kp b1 b2 b3 b4 KBF
  go_wp2
  refine bodyPost_ret (v := .agg #[.slice z1 c.pc.length y1, .slice z2 l2.length y2, .slice z3 c.mem.length y3, .slice z4 l4.length y4]) (by simp [results, Tryz.results31, go_sem, d0, d1, d2, d3]) rfl ?_
  exact ⟨_, _, _, _, _, rfl, HF.out, HPF.out, bf, HAP.out⟩
theorem ncopy_any (c : Cf) (vp vr vm vb : Value) (w : World) (hd : CfD w vp vr vm vb c) (hs : ShortC c) :
    Calls Tryz.prog 31 #[.agg #[vp, vr, vm, vb]] w fun e w' => ∃ (c' : Cf) (xp xr xm xb : Value), e = .returned (.agg #[xp, xr, xm, xb]) ∧ OwnC w' w.heap.size xp xr xm xb c' ∧ c'.pf = c.pf ∧ Below w.heap.size w w' :=
  (ncopy_ap c vp vr vm vb w hd hs).mono fun _ _ ⟨c', a, b, d, e, h1, h2, h3, h4, _⟩ => ⟨c', a, b, d, e, h1, h2, h3, h4⟩
end Go.Proofs.YtacbanfnakgecaaGreat
