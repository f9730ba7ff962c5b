/- Layer 8: plain facts of Push, Last, Pop. Layer 8: the reference's Last. Layer 10: the reference's Reads. -/
import Derived.Test.YtacbanfnakgecaaGreatXc
import Derived.Test.YtacbanfnakgecaaGreatUe
namespace Go.Proofs.YtacbanfnakgecaaGreat
set_option linter.unusedSimpArgs false
set_option linter.unusedVariables false
open Go.RowKit
def insL (e : Ent) : List Ent → List Ent
  | [] => [e]
  | a :: r => if e.1 < a.1 then e :: a :: r else a :: insL e r
theorem fstL_shift (p : Ent → Bool) (l : List Ent) : ∀ k, fstL p l (k + 1) = if fstL p l k = -1 then -1 else fstL p l k + 1 := by
  induction l with
  | nil => intro k; rfl
  | cons a r ih =>
    intro k
    unfold fstL
    by_cases h : p a = true
    · rw [if_pos h, if_pos h, if_neg (by omega)]; rfl
    · rw [if_neg h, if_neg h]; exact ih (k + 1)
theorem endL_cons (a : Ent) (r : List Ent) (k : Int) : endL (a :: r) k = if k < a.1 then 0 else endL r k + 1 := by
  have hr := fstL_range (fun e => decide (k < e.1)) r 0
  have e1 : fstL (fun e => decide (k < e.1)) (a :: r) 0 = if k < a.1 then 0 else fstL (fun e => decide (k < e.1)) r 1 := by
    show (if decide (k < a.1) = true then ((0 : Nat) : Int) else _) = _
    by_cases h : k < a.1
    · rw [if_pos (decide_eq_true h), if_pos h]; rfl
    · rw [if_neg (by simpa using h), if_neg h]
  have e2 := fstL_shift (fun e => decide (k < e.1)) r 0
  rw [Nat.zero_add] at e2
  unfold endL
  rw [e1, e2]
  by_cases h : k < a.1
  · rw [if_pos h, if_pos h, if_neg (by decide)]
  · rw [if_neg h, if_neg h]
    rcases hr with hr | hr
    · rw [hr, if_pos rfl, if_pos (by decide)]; simp
    · rw [if_neg (by omega), if_neg (by omega), if_neg (by omega)]
theorem pushL_ins (l : List Ent) (e : Ent) : pushL l 3 e = insL e l := by
  unfold pushL
  rw [if_neg (by decide), if_pos rfl]
  induction l with
  | nil => rfl
  | cons a r ih =>
    rw [endL_cons]
    unfold insL
    by_cases h : e.1 < a.1
    · rw [if_pos h, if_pos h]; rfl
    · have hr := (endL_range r e.1).1
      rw [if_neg h, if_neg h, show (endL r e.1 + 1).toNat = (endL r e.1).toNat + 1 by omega, List.take_succ_cons, List.drop_succ_cons, List.cons_append, ih]
theorem pushL_two (l : List Ent) (e : Ent) : pushL l 2 e = l ++ [e] := by unfold pushL; rw [if_pos rfl]
theorem insL_at (e : Ent) (l : List Ent) (k : Nat) (h : k < l.length) : insL e (l.drop k) = if e.1 < l[k].1 then e :: l[k] :: l.drop (k + 1) else l[k] :: insL e (l.drop (k + 1)) := by
  rw [List.drop_eq_getElem_cons h]; rfl
theorem insL_over (e : Ent) (l : List Ent) (k : Nat) (h : ¬ k < l.length) : insL e (l.drop k) = [e] := by
  rw [List.drop_eq_nil_of_le (by omega)]; rfl
theorem lastL_take (l : List Ent) (loc : Int) (i : Nat) (h : i < l.length) : lastL (l.take (i + 1)) loc = if l[i].1 = loc then (l[i].2, true) else lastL (l.take i) loc := by
  unfold lastL
  rw [List.take_succ_eq_append_getElem h, List.reverse_append, List.reverse_singleton, List.singleton_append, List.find?_cons]
  by_cases q : l[i].1 = loc
  · rw [if_pos q, show decide (l[i].1 = loc) = true from decide_eq_true q]
  · rw [if_neg q, show decide (l[i].1 = loc) = false from decide_eq_false q]
theorem lastL_nil (l : List Ent) (loc : Int) : lastL (l.take 0) loc = (0, false) := rfl
theorem lastL_all (l : List Ent) (loc : Int) : lastL (l.take l.length) loc = lastL l loc := by rw [List.take_length]
def dlF (at' : Int) : List Ent → Nat → List Ent
  | [], _ => []
  | e :: r, k => if (k : Int) = at' then dlF at' r (k + 1) else e :: dlF at' r (k + 1)
theorem dlF_at (l : List Ent) (a : Int) (k : Nat) (h : k < l.length) : dlF a (l.drop k) k = if (k : Int) = a then dlF a (l.drop (k + 1)) (k + 1) else l[k] :: dlF a (l.drop (k + 1)) (k + 1) := by
  rw [List.drop_eq_getElem_cons h]; rfl
theorem dlF_over (l : List Ent) (a : Int) (k : Nat) (h : ¬ k < l.length) : dlF a (l.drop k) k = [] := by
  rw [List.drop_eq_nil_of_le (by omega)]; rfl
theorem dlF_before (a : Int) (l : List Ent) : ∀ k : Nat, a < k → dlF a l k = l := by
  induction l with
  | nil => intro k _; rfl
  | cons e r ih => intro k hk; unfold dlF; rw [if_neg (by omega), ih (k + 1) (by omega)]
theorem dlF_is (l : List Ent) : ∀ (k j : Nat), dlF ((k + j : Nat) : Int) l k = l.take j ++ l.drop (j + 1) := by
  induction l with
  | nil => intro k j; simp [dlF]
  | cons e r ih =>
    intro k j
    unfold dlF
    cases j with
    | zero => rw [if_pos (by omega), dlF_before _ _ _ (by omega)]; rfl
    | succ j => rw [if_neg (by omega), show k + (j + 1) = (k + 1) + j by omega, ih (k + 1) j]; rfl
def atP (model loc : Int) (e : Ent) : Bool := decide (e.1 = loc) || (decide (model = 2) && decide (loc < 0))
def atL (l : List Ent) (model loc : Int) : Int := if (model = 2 ∧ 0 < fstL (atP model loc) l 0) ∨ (model ≠ 2 ∧ model ≠ 3) then -1 else fstL (atP model loc) l 0
theorem atL_old (l : List Ent) (model loc : Int) : atL l model loc = oldL l model loc := by
  unfold atL oldL
  by_cases h2 : model = 2
  · rw [if_pos h2]
    cases l with
    | nil => rw [if_neg (fun h => h.elim (fun h => absurd h.2 (show ¬ 0 < fstL (atP model loc) [] 0 from fun h => absurd h (show ¬ (0 : Int) < -1 by decide))) (fun h => h.1 h2))]; rfl
    | cons e r =>
      show (if (model = 2 ∧ 0 < fstL (atP model loc) (e :: r) 0) ∨ (model ≠ 2 ∧ model ≠ 3) then -1 else fstL (atP model loc) (e :: r) 0) = (if loc < 0 ∨ e.1 = loc then (0 : Int) else -1)
      have hu : fstL (atP model loc) (e :: r) 0 = if atP model loc e = true then ((0 : Nat) : Int) else fstL (atP model loc) r (0 + 1) := rfl
      by_cases hp : atP model loc e = true
      · rw [hu, if_pos hp, if_neg (fun h => h.elim (fun h => absurd h.2 (by decide)) (fun h => h.1 h2)), if_pos (by unfold atP at hp; simp only [Bool.or_eq_true, Bool.and_eq_true, decide_eq_true_eq] at hp; exact hp.elim .inr (fun h => .inl h.2))]; rfl
      · rw [hu, if_neg hp, if_neg (show ¬ (loc < 0 ∨ e.1 = loc) by
          intro h; apply hp; unfold atP; simp only [Bool.or_eq_true, Bool.and_eq_true, decide_eq_true_eq]; exact h.elim (fun h => .inr ⟨h2, h⟩) .inl)]
        rcases fstL_range (atP model loc) r (0 + 1) with h | h
        · rw [h]; simp
        · rw [if_pos (.inl ⟨h2, by omega⟩)]
  · rw [if_neg h2]
    have hpp : atP model loc = fun e => decide (e.1 = loc) := by
      funext e; unfold atP; rw [show decide (model = 2) = false from decide_eq_false h2]; simp
    by_cases h3 : model = 3
    · rw [if_pos h3, if_neg (fun h => h.elim (fun h => h2 h.1) (fun h => h.2 h3)), hpp]
    · rw [if_neg h3, if_pos (.inr ⟨h2, h3⟩)]
theorem popL_dl (l : List Ent) (model loc : Int) : popL l model loc = (dlF (atL l model loc) l 0, if atL l model loc < 0 then (0, 0) else l.getD (atL l model loc).toNat (0, 0), decide (¬ atL l model loc < 0)) := by
  rw [atL_old]
  unfold popL
  rcases oldL_range l model loc with h | ⟨h1, h2⟩
  · rw [h, if_pos (by decide), dlF_before _ _ _ (by decide)]; rfl
  · rw [if_neg (by omega)]
    have hj := dlF_is l 0 (oldL l model loc).toNat
    rw [show ((0 + (oldL l model loc).toNat : Nat) : Int) = oldL l model loc by omega] at hj
    rw [hj, if_neg (by omega), show decide (¬ oldL l model loc < 0) = true from decide_eq_true (by omega)]
end Go.Proofs.YtacbanfnakgecaaGreat

namespace Go.Proofs.YtacbanfnakgecaaGreat
set_option linter.unusedSimpArgs false
set_option linter.unusedVariables false
open Go.RowKit
set_option maxRecDepth 100000 in
set_option maxHeartbeats 2000000 in
theorem rlast_any (l : List Ent) (v : Value) (loc : Int) (w : World) (hv : EntsD w v l) (hn : l.length ≤ 100000) (x : Int) (q : Bool) (hz : lastL l loc = (x, q)) :
    Calls Tryz.prog 61 #[v, .int .i64 loc] w fun e w' => e = .returned (.tuple #[.int .i64 x, .bool q]) ∧ w = w' := by
  have HV := Lib.hid hv
  have HZ0 : Hid (lastL (l.take l.length) loc = (x, q)) := Lib.hid (by rw [lastL_all]; exact hz)
  obtain ⟨ad, cap, rfl⟩ := hv.shape0
  obtain ⟨n, hN⟩ : ∃ n, n = l.length := ⟨_, rfl⟩
  rw [← hN] at HV HZ0 hn ⊢
  have HN := Lib.hid hN
  clear hv hz hN
  have hw : IntKind.i64.wrap ((n : Int) - 1) = (n : Int) - 1 := by
    rw [IntKind.wrap_i64]; omega
  go_enter Tryz.func61, Tryz.ntmps61
  go_wp2_with fail
  go_loopg [6] n (fun fuel i' wr => ∃ (m : Nat) (i : Int), i' = .int .i64 i ∧ i + 1 = m ∧ m ≤ n ∧ m ≤ fuel ∧ lastL (l.take m) loc = (x, q) ∧ w = wr)
  case atStart => exact ⟨n, _, rfl, by omega, Nat.le_refl _, Nat.le_refl _, HZ0.out, rfl⟩
  case round =>
    obtain ⟨m, i, rfl, hi, hk, hf, ha, rfl⟩ := hrel
    have HA := Lib.hid ha
    clear ha
    cases m with
    | zero =>
      obtain rfl : i = -1 := by omega
      have HE : Hid ((x, q) = (0, false)) := Lib.hid (by rw [← HA.out]; exact lastL_nil l loc)
      go_wp2
      go_ret2
      have := HE.out
      injection this with h1 h2
      subst h1 h2
      exact ⟨rfl, rfl⟩
    | succ j =>
      obtain rfl : i = (j : Int) := by omega
      have hk' : j < l.length := by rw [← HN.out]; omega
      have HE := Lib.hid (lastL_take l loc j hk')
      obtain ⟨b, off, rfl, hbl, x0, y0⟩ := EntsD.at2 HV.out j hk'
      obtain ⟨k1, hx⟩ : ∃ x, x = l[j].1 := ⟨_, rfl⟩
      obtain ⟨n1, hy⟩ : ∃ x, x = l[j].2 := ⟨_, rfl⟩
      rw [← hx] at x0 HE
      rw [← hy] at y0 HE
      have hlt : j < n := by omega
      by_cases hq : k1 = loc
      · have q1 : (k1 == loc) = true := by simpa using hq
        have HE2 : Hid ((x, q) = (n1, true)) := Lib.hid (by rw [← HA.out, HE.out, if_pos hq])
        clear hx hy hq HE hi hf
        go_wp2
        go_ret2
        have := HE2.out
        injection this with h1 h2
        subst h1 h2
        exact ⟨rfl, rfl⟩
      · have q1 : (k1 == loc) = false := by simpa using hq
        have HE2 : Hid (lastL (l.take j) loc = (x, q)) := Lib.hid (by rw [← HA.out, HE.out, if_neg hq])
        clear hx hy hq HE hi
        have ew : IntKind.i64.wrap ((j : Int) - 1) = (j : Int) - 1 := by rw [IntKind.wrap_i64]; omega
        go_wp2
        go_roundg (gk - 1)
        case measure => omega
        case rel => exact ⟨j, (j : Int) - 1, by first | rfl | (rw [ew]) | go_num, by omega, by omega, by omega, HE2.out, rfl⟩
end Go.Proofs.YtacbanfnakgecaaGreat

namespace Go.Proofs.YtacbanfnakgecaaGreat
set_option linter.unusedSimpArgs false
set_option linter.unusedVariables false
open Go.RowKit
def readsC (c : Cf) (t loc : Int) : Int :=
  if 0 ≤ t ∧ t < c.buf.length ∧ 0 ≤ loc ∧ loc < c.mem.length then
    (if (lastL (c.buf.getD t.toNat ([], undef)).1 loc).2 then (lastL (c.buf.getD t.toNat ([], undef)).1 loc).1 else c.mem.getD loc.toNat 0)
  else 0
set_option maxRecDepth 100000 in
set_option maxHeartbeats 4000000 in
theorem rreads_any (c : Cf) (t loc : Int) (ap ar am ab : Value) (w : World) (hc : CfD w ap ar am ab c) (hb : ∀ r ∈ c.buf, r.1.length ≤ 100000) (q : Int) (hq : readsC c t loc = q) :
    Calls Tryz.prog 34 #[.agg #[ap, ar, am, ab], .int .i64 t, .int .i64 loc] w fun e w' => e = .returned (.int .i64 q) ∧ Below w.heap.size w w' := by
  have HC := Lib.hid hc
  have HB := Lib.hid hb
  obtain ⟨yp, dp, rfl⟩ := hc.p.shape0
  obtain ⟨yr, dr, rfl⟩ := hc.r.shape0
  obtain ⟨ym, dm, rfl⟩ := hc.m.shape0
  obtain ⟨yb, db, rfl⟩ := hc.b.shape0
  obtain ⟨mb, hmb⟩ : ∃ n, n = c.buf.length := ⟨_, rfl⟩
  obtain ⟨mm, hmm⟩ : ∃ n, n = c.mem.length := ⟨_, rfl⟩
  have HMB := Lib.hid hmb
  have HMM := Lib.hid hmm
  rw [← hmb, ← hmm] at HC ⊢
  generalize c.regs.length = mr at HC ⊢
  generalize c.pc.length = mp at HC ⊢
  have HQ := Lib.hid hq
  have KA := Lib.hid (Bk.new w 29 #[.slice yp mp dp, .slice yr mr dr, .slice ym mm dm, .slice yb mb db])
  have LL : Hid (Below w.heap.size w (w.alloc (.cells #[.slice yp mp dp, .slice yr mr dr, .slice ym mm dm, .slice yb mb db] 29))) := (Below.refl _ _).alloc (Nat.le_refl _) _
  clear hc hq hb hmb hmm
  by_cases h1 : 0 ≤ t ∧ t < mb ∧ 0 ≤ loc ∧ loc < mm
  · obtain ⟨k, rfl⟩ : ∃ k : Nat, t = (k : Int) := ⟨t.toNat, by omega⟩
    obtain ⟨j, rfl⟩ : ∃ j : Nat, loc = (j : Int) := ⟨loc.toNat, by omega⟩
    have hk1 : k < c.buf.length := by rw [← HMB.out]; omega
    have hk2 : j < c.mem.length := by rw [← HMM.out]; omega
    obtain ⟨b1, o1, rfl, hb1, y1⟩ := IntsD.at2 HC.out.m j hk2
    obtain ⟨b2, o2, rfl, hb2, hx⟩ := SlD.at HC.out.b k hk1
    obtain ⟨hx1, hx2⟩ := hx
    have hE : Hid (readsC c k j = (if (lastL (c.buf[k]).1 j).2 then (lastL (c.buf[k]).1 j).1 else c.mem[j])) := Lib.hid (by
      unfold readsC
      rw [if_pos (by rw [← HMB.out, ← HMM.out]; exact h1), Int.toNat_natCast, Int.toNat_natCast]
      have g1 : c.mem.getD j 0 = c.mem[j] := by rw [List.getD_eq_getElem?_getD, List.getElem?_eq_getElem hk2]; rfl
      have g2 : c.buf.getD k ([], undef) = c.buf[k] := by rw [List.getD_eq_getElem?_getD, List.getElem?_eq_getElem hk1]; rfl
      rw [g1, g2])
    have hlen : (c.buf[k]).1.length ≤ 100000 := HB.out _ (List.getElem_mem hk1)
    rw [HQ.out] at hE
    obtain ⟨x2, m2, hxv⟩ := hx2.shape0
    rw [hxv] at hx1 hx2
    obtain ⟨pl, ql, hl⟩ : ∃ p q, lastL (c.buf[k]).1 j = (p, q) := ⟨_, _, rfl⟩
    have HLA := Lib.hid (fun (W : World) (h : Below w.heap.size w W) => rlast_any (c.buf[k]).1 _ j W (EntsD.below hx2 h) hlen pl ql hl)
    rw [hl] at hE
    generalize (c.buf[k]).1.length = nb at hx1 HLA
    generalize c.mem[j] = p at y1 hE
    rw [Nat.mul_one] at hx1
    have HX1 := Lib.hid hx1
    clear hx2 hxv hlen hl hk1 hk2
    obtain ⟨h2, h3, h4, h5⟩ := h1
    have e1 : (0 : Int) ≤ (k : Int) := h2
    have e2 : (0 : Int) ≤ (j : Int) := h4
    have e3 : ¬ (mb : Int) ≤ (k : Int) := by omega
    have e4 : ¬ (mm : Int) ≤ (j : Int) := by omega
    have e5 : k < mb := by omega
    have e6 : j < mm := by omega
    go_enter Tryz.func34, Tryz.ntmps34
    go_wp2_with fail
    refine (HLA.out _ LL.out).mono ?_
    rintro e w2 ⟨rfl, rfl⟩
    generalize w.alloc _ = w1 at KA LL ⊢
    have c2 : w1.cell? ⟨w.heap.size, 2, none⟩ = some (.slice (some ⟨b1, o1, none⟩) mm dm) := KA.out.cell 2
    have hlt := KA.out.lt
    have y2 : w1.cell? ⟨b1, o1 + j, none⟩ = some (.int .i64 p) := (LL.out.cell (p := ⟨b1, _, none⟩) hb1).trans y1
    have hb3 : b1 < w1.heap.size := Nat.lt_of_lt_of_le hb1 LL.out.size
    clear y1 HLA
    cases ql with
    | true =>
      have hE2 : Hid (q = pl) := Lib.hid (by have := hE.out; simpa using this)
      go_wp2
      go_ret
      exact ⟨ret_int hE2.out.symm, LL.out⟩
    | false =>
      have hE2 : Hid (q = p) := Lib.hid (by have := hE.out; simpa using this)
      go_wp2
      go_ret
      exact ⟨ret_int hE2.out.symm, LL.out⟩
  · have HZ : Hid (q = 0) := Lib.hid (by rw [← HQ.out]; unfold readsC; rw [if_neg (by rw [← HMB.out, ← HMM.out]; exact h1)])
    clear HQ
    by_cases a1 : t < 0
    · go_enter Tryz.func34, Tryz.ntmps34
      go_wp2
      go_ret
      exact ⟨ret_int HZ.out.symm, LL.out⟩
    · by_cases a2 : (mb : Int) ≤ t
      · go_enter Tryz.func34, Tryz.ntmps34
        go_wp2
        go_ret
        exact ⟨ret_int HZ.out.symm, LL.out⟩
      · by_cases a3 : loc < 0
        · go_enter Tryz.func34, Tryz.ntmps34
          go_wp2
          go_ret
          exact ⟨ret_int HZ.out.symm, LL.out⟩
        · have a4 : (mm : Int) ≤ loc := by omega
          go_enter Tryz.func34, Tryz.ntmps34
          go_wp2
          go_ret
          exact ⟨ret_int HZ.out.symm, LL.out⟩
end Go.Proofs.YtacbanfnakgecaaGreat
