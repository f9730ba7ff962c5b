/- Layer 6: what code reads, plainly; lengths, right, read. Layer 6: the operators. Layer 6: the stack. -/
import Derived.Test.YtacbanfnakgecaaGreatUe
import Derived.OwnWalk
import Derived.Laws.OwnMore
import Derived.BigQuiet
import Derived.Deep.RegionLaw
import Derived.Deep.AppendLies
namespace Go.Proofs.YtacbanfnakgecaaGreat
set_option linter.unusedSimpArgs false
set_option linter.unusedVariables false
open Go.RowKit
theorem own_pop {w : World} {B e n cap : Nat} {ad : Option Addr} {xs : List Value} {x : Value} (h : w.ownsRow B e 1 (.slice ad (n + 1) cap) (n + 1) (xs ++ [x])) : w.ownsRow B e 1 (.slice ad n cap) n xs := by
  obtain ⟨h1, h2⟩ := h
  have hl : xs.length = n := by simpa using h1
  refine ⟨by omega, ?_⟩
  rcases h2 with ⟨_, h2⟩ | ⟨g, cap', cur, hv, hg, hh, hc1, hc2, hc3, hc4⟩
  · omega
  · simp only [Value.slice.injEq] at hv
    obtain ⟨rfl, _, rfl⟩ := hv
    refine .inr ⟨g, cap, cur, rfl, hg, hh, by omega, hc2, hc3, ?_⟩
    have := congrArg (List.take n) hc4
    rw [List.take_take] at this
    rw [Nat.mul_one]
    rw [show min n ((n + 1) * 1) = n by omega] at this
    rw [this, List.take_append_of_le_length (by omega), List.take_of_length_le (by omega)]
theorem info3 : (Tryz.prog.info? 3).map (fun i => (i.zero, i.size, i.bytes)) = some (some (.int .i64 0), 1, 8) := by kernel_rfl
def tru (b : Bool) : Int := if b then 1 else 0
def twoO (op a b m : Int) : Int :=
  if op = 6 then (a + b) % m else if op = 7 then (a - b + m) % m else if op = 8 then a * b % m else if op = 9 then tru (decide (a = b)) else if op = 10 then tru (decide (a ≠ b))
  else if op = 11 then tru (decide (a < b)) else if op = 12 then tru (decide (a ≤ b)) else if op = 13 then tru (decide (a ≠ 0 ∧ b ≠ 0)) else tru (decide (a ≠ 0 ∨ b ≠ 0))
structure Nbs where
  mod : Int
  own : List Int
  all : List (List Int)
  mem : List Int
def rdO (s : Nbs) (o : Opn) : Int := if o.op = 2 then s.own.getD o.n.toNat 0 else if o.op = 3 then s.mem.getD o.n.toNat 0 else if o.op = 4 then (s.all.getD o.t.toNat []).getD o.n.toNat 0 else o.n
def stO (s : Nbs) (o : Opn) (st : List Int) : List Int :=
  match st with
  | b :: a :: r => if ar o.op = 0 then rdO s o % s.mod :: st else if ar o.op = 1 then tru (decide (b = 0)) :: a :: r else twoO o.op a b s.mod :: r
  | [b] => if ar o.op = 0 then rdO s o % s.mod :: st else [tru (decide (b = 0))]
  | [] => [rdO s o % s.mod]
def runO (s : Nbs) : List Opn → List Int → List Int
  | [], st => st
  | o :: r, st => runO s r (stO s o st)
def rightN (s : Nbs) : Bool := decide (2 ≤ s.mod ∧ s.mod ≤ 16) && (allB s.mod s.own && (allB s.mod s.mem && s.all.all (allB s.mod)))
def valO (l : List Opn) (s : Nbs) : Int × Bool :=
  if rightN s && rightO l (s.all.map fun x => (x.length : Int)) s.own.length s.mem.length then ((runO s l []).getD 0 0, true) else (0, false)
theorem truth_any (b : Bool) (w : World) : Calls Tryz.prog 142 #[.bool b] w fun e w' => e = .returned (.int .i64 (tru b)) ∧ w = w' := by
  cases b
  all_goals
    go_enter Tryz.func142, Tryz.ntmps142
    go_wp2
    go_ret
    exact ⟨rfl, rfl⟩
theorem rtruth_any (b : Bool) (w : World) : Calls Tryz.prog 90 #[.bool b] w fun e w' => e = .returned (.int .i64 (tru b)) ∧ w = w' := by
  cases b
  all_goals
    go_enter Tryz.func90, Tryz.ntmps90
    go_wp2
    go_ret
    exact ⟨rfl, rfl⟩
set_option maxRecDepth 100000 in
set_option maxHeartbeats 2000000 in
theorem cinidx_any (xs : List Int) (v : Value) (w : World) (hv : IntsD w v xs) (hn : xs.length ≤ 100000) (FL : Int → Bool) (p1 : Nat)
    (hF : ∀ w' i, (hi : i < xs.length) → Below w.heap.size w w' → Calls Tryz.prog 130 #[.int .i64 xs[i], .pointer (some ⟨p1, 0, none⟩)] w' fun e w'' => e = .returned (.bool (FL xs[i])) ∧ Below w'.heap.size w' w'') :
    Calls Tryz.prog 113 #[v, .func (.func 130) #[] #[.pointer (some ⟨p1, 0, none⟩)]] w (IdxAns (!(xs.all fun x => !FL x)) w) := by
  obtain ⟨B, hB⟩ : ∃ B, ((xs.drop 0).all fun x => !FL x) = B := ⟨_, rfl⟩
  rw [show (xs.all fun x => !FL x) = B from hB]
  have HB0 := Lib.hid hB
  obtain ⟨ad, cap, rfl, hcap1, hcap2, hc⟩ := hv
  have HC := Lib.hid hc
  have HF := Lib.hid hF
  obtain ⟨n, hN⟩ : ∃ n, n = xs.length := ⟨_, rfl⟩
  rw [← hN] at hn ⊢
  have HN := Lib.hid hN
  clear hN hB hc hF hcap1 hcap2
  go_enter Tryz.func113, Tryz.ntmps113
  go_wp2_with fail
  go_loopg [8] n (fun fuel i' wr => ∃ k : Nat, i' = .int .i64 k ∧ k ≤ n ∧ n - k ≤ fuel ∧ ((xs.drop k).all fun x => !FL x) = B ∧ Below w.heap.size w wr)
  case atStart => exact ⟨0, rfl, Nat.zero_le _, Nat.le_refl _, HB0.out, Below.refl _ _⟩
  case round =>
    obtain ⟨k, rfl, hk, hf, ha, hb⟩ := hrel
    have HA := Lib.hid ha
    have HB := Lib.hid hb
    have hww := hb.size
    clear ha hb
    by_cases hlt : k < n
    · have hk' : k < xs.length := by have := HN.out; omega
      have HD := Lib.hid (List.drop_eq_getElem_cons hk')
      obtain ⟨b, off, rfl, hbl, x0⟩ := HC.out k hk'
      have HFL := Lib.hid (HF.out wr k hk' HB.out)
      obtain ⟨q, hq⟩ : ∃ q, FL xs[k] = q := ⟨_, rfl⟩
      rw [hq] at HFL
      have HQ := Lib.hid hq
      obtain ⟨xn, hx⟩ : ∃ x, x = xs[k] := ⟨_, rfl⟩
      rw [← hx] at x0 HFL
      simp only [IntAt, Nat.mul_one] at x0 HFL
      have c0 : wr.cell? ⟨b, off + k, none⟩ = some (.int .i64 xn) := (HB.out.cell (p := ⟨b, _, none⟩) hbl).trans x0
      clear x0 hx hq
      go_wp2_with fail
      refine HFL.out.mono ?_
      rintro e w2 ⟨rfl, hb2⟩
      have HB2 := Lib.hid (HB.out.trans (hb2.mono hww))
      clear hb2 c0
      cases q with
      | false =>
        go_wp2
        go_roundg (gk - 1)
        case measure => omega
        case rel =>
          refine ⟨k + 1, by go_num, by omega, by omega, ?_, HB2.out⟩
          have h2 := HA.out
          rw [HD.out, List.all_cons, HQ.out] at h2
          simpa using h2
      | true =>
        go_wp2
        go_ret
        refine ⟨k, rfl, ?_, HB2.out⟩
        have h2 := HA.out
        rw [HD.out, List.all_cons, HQ.out] at h2
        rw [← h2]; simp
    · have HE := Lib.hid (drop_over xs k (by have := HN.out; omega))
      go_wp2
      go_ret
      refine ⟨-1, rfl, ?_, HB.out⟩
      have := HA.out
      rw [HE.out] at this
      rw [← this]; rfl
set_option maxRecDepth 100000 in
set_option maxHeartbeats 400000 in
theorem cincont_any (xs : List Int) (v : Value) (w : World) (hv : IntsD w v xs) (hn : xs.length ≤ 100000) (FL : Int → Bool) (p1 : Nat)
    (hF : ∀ w' i, (hi : i < xs.length) → Below w.heap.size w w' → Calls Tryz.prog 130 #[.int .i64 xs[i], .pointer (some ⟨p1, 0, none⟩)] w' fun e w'' => e = .returned (.bool (FL xs[i])) ∧ Below w'.heap.size w' w'') (b : Bool) (hb : (xs.all fun x => !FL x) = b) :
    Calls Tryz.prog 92 #[v, .func (.func 130) #[] #[.pointer (some ⟨p1, 0, none⟩)]] w fun e w' => e = .returned (.bool (!b)) ∧ Below w.heap.size w w' := by
  have H := cinidx_any xs v w hv hn FL p1 hF
  rw [hb] at H
  clear hv hn hb hF
  go_enter Tryz.func92, Tryz.ntmps92
  go_wp2_with fail
  refine H.mono ?_
  rintro e w2 ⟨z, rfl, hz, hb2⟩
  have HZ := Lib.hid hz
  clear hz
  go_wp2
  go_ret
  exact ⟨ret_bool HZ.out, hb2⟩
set_option maxRecDepth 100000 in
set_option maxHeartbeats 2000000 in
theorem alidx_any (xs : List (List Int × Value)) (v : Value) (w : World) (hv : AllD w v xs) (hn : xs.length ≤ 100000) (FL : (List Int × Value) → Bool) (p1 : Nat)
    (hF : ∀ w' i, (hi : i < xs.length) → Below w.heap.size w w' → Calls Tryz.prog 132 #[xs[i].2, .pointer (some ⟨p1, 0, none⟩)] w' fun e w'' => e = .returned (.bool (FL xs[i])) ∧ Below w'.heap.size w' w'') :
    Calls Tryz.prog 139 #[v, .func (.func 132) #[] #[.pointer (some ⟨p1, 0, none⟩)]] w (IdxAns (!(xs.all fun x => !FL x)) w) := by
  obtain ⟨B, hB⟩ : ∃ B, ((xs.drop 0).all fun x => !FL x) = B := ⟨_, rfl⟩
  rw [show (xs.all fun x => !FL x) = B from hB]
  have HB0 := Lib.hid hB
  obtain ⟨ad, cap, rfl, hcap1, hcap2, hc⟩ := hv
  have HC := Lib.hid hc
  have HF := Lib.hid hF
  obtain ⟨n, hN⟩ : ∃ n, n = xs.length := ⟨_, rfl⟩
  rw [← hN] at hn ⊢
  have HN := Lib.hid hN
  clear hN hB hc hF hcap1 hcap2
  go_enter Tryz.func139, Tryz.ntmps139
  go_wp2_with fail
  go_loopg [8] n (fun fuel i' wr => ∃ k : Nat, i' = .int .i64 k ∧ k ≤ n ∧ n - k ≤ fuel ∧ ((xs.drop k).all fun x => !FL x) = B ∧ Below w.heap.size w wr)
  case atStart => exact ⟨0, rfl, Nat.zero_le _, Nat.le_refl _, HB0.out, Below.refl _ _⟩
  case round =>
    obtain ⟨k, rfl, hk, hf, ha, hb⟩ := hrel
    have HA := Lib.hid ha
    have HB := Lib.hid hb
    have hww := hb.size
    clear ha hb
    by_cases hlt : k < n
    · have hk' : k < xs.length := by have := HN.out; omega
      have HD := Lib.hid (List.drop_eq_getElem_cons hk')
      obtain ⟨b, off, rfl, hbl, x0⟩ := HC.out k hk'
      have HFL := Lib.hid (HF.out wr k hk' HB.out)
      obtain ⟨q, hq⟩ : ∃ q, FL xs[k] = q := ⟨_, rfl⟩
      rw [hq] at HFL
      have HQ := Lib.hid hq
      obtain ⟨⟨xl, xv⟩, hx⟩ : ∃ x, x = xs[k] := ⟨_, rfl⟩
      rw [← hx] at x0 HFL
      simp only [RowAt, Nat.mul_one] at x0 HFL
      have c0 : wr.cell? ⟨b, off + k, none⟩ = some (xv) := (HB.out.cell (p := ⟨b, _, none⟩) hbl).trans x0.1
      clear x0 hx hq
      go_wp2_with fail
      refine HFL.out.mono ?_
      rintro e w2 ⟨rfl, hb2⟩
      have HB2 := Lib.hid (HB.out.trans (hb2.mono hww))
      clear hb2 c0
      cases q with
      | false =>
        go_wp2
        go_roundg (gk - 1)
        case measure => omega
        case rel =>
          refine ⟨k + 1, by go_num, by omega, by omega, ?_, HB2.out⟩
          have h2 := HA.out
          rw [HD.out, List.all_cons, HQ.out] at h2
          simpa using h2
      | true =>
        go_wp2
        go_ret
        refine ⟨k, rfl, ?_, HB2.out⟩
        have h2 := HA.out
        rw [HD.out, List.all_cons, HQ.out] at h2
        rw [← h2]; simp
    · have HE := Lib.hid (drop_over xs k (by have := HN.out; omega))
      go_wp2
      go_ret
      refine ⟨-1, rfl, ?_, HB.out⟩
      have := HA.out
      rw [HE.out] at this
      rw [← this]; rfl
set_option maxRecDepth 100000 in
set_option maxHeartbeats 400000 in
theorem alcont_any (xs : List (List Int × Value)) (v : Value) (w : World) (hv : AllD w v xs) (hn : xs.length ≤ 100000) (FL : (List Int × Value) → Bool) (p1 : Nat)
    (hF : ∀ w' i, (hi : i < xs.length) → Below w.heap.size w w' → Calls Tryz.prog 132 #[xs[i].2, .pointer (some ⟨p1, 0, none⟩)] w' fun e w'' => e = .returned (.bool (FL xs[i])) ∧ Below w'.heap.size w' w'') (b : Bool) (hb : (xs.all fun x => !FL x) = b) :
    Calls Tryz.prog 133 #[v, .func (.func 132) #[] #[.pointer (some ⟨p1, 0, none⟩)]] w fun e w' => e = .returned (.bool (!b)) ∧ Below w.heap.size w w' := by
  have H := alidx_any xs v w hv hn FL p1 hF
  rw [hb] at H
  clear hv hn hb hF
  go_enter Tryz.func133, Tryz.ntmps133
  go_wp2_with fail
  refine H.mono ?_
  rintro e w2 ⟨z, rfl, hz, hb2⟩
  have HZ := Lib.hid hz
  clear hz
  go_wp2
  go_ret
  exact ⟨ret_bool HZ.out, hb2⟩
theorem Bk.set {w : World} {b T : Nat} {cs : Array Value} (h : Bk w b T cs) (j : Nat) (u : Value) : Bk (w.setCell ⟨b, j, none⟩ u) b T (cs.setIfInBounds j u) := by
  unfold Bk at h
  have hlt := (Array.getElem?_eq_some_iff.1 h).1
  have hg := (Array.getElem?_eq_some_iff.1 h).2
  simp [Bk, World.setCell, Array.getElem?_modify, h]
theorem nr1_any (x m : Int) (p : Nat) (w : World) (h : w.cell? ⟨p, 0, none⟩ = some (.int .i64 m)) (b : Bool) (hb : okI m x = b) :
    Calls Tryz.prog 130 #[.int .i64 x, .pointer (some ⟨p, 0, none⟩)] w fun e w' => e = .returned (.bool (!b)) ∧ Below w.heap.size w w' := by
  have H := Lib.hid (below_is x m b hb)
  clear hb
  go_enter Tryz.func130, Tryz.ntmps130
  go_wp2_with (go_at_call 131; refine (H.out _).mono ?_; rintro e w2 ⟨rfl, rfl⟩)
  go_ret
  exact ⟨rfl, Below.refl _ _⟩
theorem nr2_any (l : List Int) (v : Value) (m : Int) (p q : Nat) (w : World) (hv : IntsD w v l) (hn : l.length ≤ 100000)
    (h : w.cell? ⟨p, 0, none⟩ = some (.func (.func 130) #[] #[.pointer (some ⟨q, 0, none⟩)])) (h2 : w.cell? ⟨q, 0, none⟩ = some (.int .i64 m)) (b : Bool) (hb : allB m l = b) :
    Calls Tryz.prog 132 #[v, .pointer (some ⟨p, 0, none⟩)] w fun e w' => e = .returned (.bool (!b)) ∧ Below w.heap.size w w' := by
  have H := Lib.hid (cincont_any l v w hv hn (fun x => !okI m x) q (fun w' i hi hbw => nr1_any l[i] m q w' ((hbw.cell (p := ⟨q, _, none⟩) (World.block_lt_of_cell? w ⟨q, 0, none⟩ h2)).trans h2) _ rfl) _ (all_notI l _))
  rw [show l.all (okI m) = b from hb] at H
  obtain ⟨ad, cap, rfl⟩ := hv.shape0
  generalize l.length = n at H
  clear hv hn hb h2
  go_enter Tryz.func132, Tryz.ntmps132
  go_wp2_with fail
  refine H.out.mono ?_
  rintro e w2 ⟨rfl, b2⟩
  go_wp2
  go_ret
  exact ⟨rfl, b2⟩
theorem all_notR (l : List (List Int × Value)) (p : List Int → Bool) : (l.all fun x => !(!p x.1)) = (l.map (·.1)).all p := by
  rw [List.all_map]; congr 1; funext x; exact Bool.not_not _
structure NbD (w : World) (ov av mv : Value) (rs : List (List Int × Value)) (s : Nbs) : Prop where
  o : IntsD w ov s.own
  a : AllD w av rs
  e : rs.map (·.1) = s.all
  m : IntsD w mv s.mem
  lo : s.own.length ≤ 100000
  la : rs.length ≤ 100000
  lr : ∀ x ∈ rs, x.1.length ≤ 100000
  lm : s.mem.length ≤ 100000
theorem NbD.below {w w' : World} {ov av mv : Value} {rs : List (List Int × Value)} {s : Nbs} (h : NbD w ov av mv rs s) (hb : Below w.heap.size w w') : NbD w' ov av mv rs s :=
  ⟨IntsD.below h.o hb, AllD.below h.a hb, h.e, IntsD.below h.m hb, h.lo, h.la, h.lr, h.lm⟩
set_option maxRecDepth 100000 in
set_option maxHeartbeats 2000000 in
theorem vright_any (s : Nbs) (rs : List (List Int × Value)) (ov av mv : Value) (w : World) (hd : NbD w ov av mv rs s) (b : Bool) (hb : rightN s = b) :
    Calls Tryz.prog 125 #[.agg #[.int .i64 s.mod, ov, av, mv]] w fun e w' => e = .returned (.bool b) ∧ Below w.heap.size w w' := by
  have HD := Lib.hid hd
  have HBB := Lib.hid hb
  obtain ⟨mod, own, all, mem⟩ := s
  simp only []
  have H2 := Lib.hid (two_new w 147 118 #[.int .i64 mod, ov, av, mv] #[.func (.func 130) #[] #[.pointer (some ⟨w.heap.size, 0, none⟩)]])
  have HS := Lib.hid (fun (W : World) (h : Below w.heap.size w W) (k1 : Bk W w.heap.size 147 #[.int .i64 mod, ov, av, mv]) (k2 : Bk W (w.heap.size + 1) 118 #[.func (.func 130) #[] #[.pointer (some ⟨w.heap.size, 0, none⟩)]]) (l : List Int) (v : Value) (hl : IntsD W v l) (hn : l.length ≤ 100000) (b : Bool) (hb : allB mod l = b) =>
    nr2_any l v mod (w.heap.size + 1) w.heap.size W hl hn (k2.cell 0) (k1.cell 0) b hb)
  have HA := Lib.hid (fun (W : World) (h : Below w.heap.size w W) (k1 : Bk W w.heap.size 147 #[.int .i64 mod, ov, av, mv]) (k2 : Bk W (w.heap.size + 1) 118 #[.func (.func 130) #[] #[.pointer (some ⟨w.heap.size, 0, none⟩)]]) =>
    alcont_any rs av W (AllD.below hd.a h) hd.la (fun x => !allB mod x.1) (w.heap.size + 1) (fun w' i hi hbw => by
      have hx := hd.lr _ (List.getElem_mem hi)
      obtain ⟨ad, cap, _, _, _, hc⟩ := AllD.below (hd.a) (h.trans (hbw.mono h.size))
      obtain ⟨b', off', _, _, hr⟩ := hc i hi
      exact nr2_any rs[i].1 rs[i].2 mod (w.heap.size + 1) w.heap.size w' hr.2 hx ((k2.below hbw).cell 0) ((k1.below hbw).cell 0) _ rfl) _ (all_notR rs (allB mod)))
  have hal : rs.map (·.1) = all := hd.e
  rw [hal] at HA
  obtain ⟨ado, capo, rfl⟩ := hd.o.shape0
  obtain ⟨ada, capa, rfl⟩ := hd.a.shape0
  obtain ⟨adm, capm, rfl⟩ := hd.m.shape0
  simp only [] at HD HS HA H2 ⊢
  clear hd hb hal
  have hB : (decide (2 ≤ mod ∧ mod ≤ 16) && (allB mod own && (allB mod mem && all.all (allB mod)))) = b := HBB.out
  have HB := Lib.hid hB
  clear hB HBB
  by_cases h1 : mod < 2
  · have HN := Lib.hid (show ¬ (2 ≤ mod ∧ mod ≤ 16) by omega)
    go_enter Tryz.func125, Tryz.ntmps125
    go_wp2
    go_ret
    refine ⟨ret_bool ?_, H2.out.1⟩
    rw [← HB.out, decide_eq_false HN.out]; rfl
  · by_cases h2 : 16 < mod
    · have HN := Lib.hid (show ¬ (2 ≤ mod ∧ mod ≤ 16) by omega)
      go_enter Tryz.func125, Tryz.ntmps125
      go_wp2
      go_ret
      refine ⟨ret_bool ?_, H2.out.1⟩
      rw [← HB.out, decide_eq_false HN.out]; rfl
    · have HN := Lib.hid (show (2 ≤ mod ∧ mod ≤ 16) by omega)
      obtain ⟨q1, hq1⟩ : ∃ q, allB mod own = q := ⟨_, rfl⟩
      obtain ⟨q2, hq2⟩ : ∃ q, allB mod mem = q := ⟨_, rfl⟩
      obtain ⟨q3, hq3⟩ : ∃ q, all.all (allB mod) = q := ⟨_, rfl⟩
      have hB := HB.out
      rw [hq1, hq2, hq3, decide_eq_true HN.out, Bool.true_and] at hB
      rw [hq3] at HA
      have Hq1 := Lib.hid hq1
      have Hq2 := Lib.hid hq2
      clear hq1 hq2 hq3 HB
      have HB := Lib.hid hB
      clear hB
      go_enter Tryz.func125, Tryz.ntmps125
      go_wp2_with fail
      generalize (w.alloc _).alloc _ = w2 at H2 ⊢
      refine (HS.out _ H2.out.1 H2.out.2.1 H2.out.2.2 own _ (IntsD.below HD.out.o H2.out.1) HD.out.lo q1 Hq1.out).mono ?_
      rintro e w3 ⟨rfl, b3⟩
      have B3 := Lib.hid (H2.out.1.trans (b3.mono H2.out.1.size))
      have K3 := Lib.hid (And.intro (H2.out.2.1.below b3) (H2.out.2.2.below b3))
      clear b3
      have c1 := K3.out.1.cell 2
      have c2 := K3.out.1.cell 3
      have hl := K3.out.1.lt
      cases q1 with
      | false =>
        go_wp2
        go_ret
        refine ⟨ret_bool ?_, B3.out⟩
        rw [← HB.out]; rfl
      | true =>
        go_wp2_with fail
        refine (HS.out _ B3.out K3.out.1 K3.out.2 mem _ (IntsD.below HD.out.m B3.out) HD.out.lm q2 Hq2.out).mono ?_
        rintro e w4 ⟨rfl, b4⟩
        have B4 := Lib.hid (B3.out.trans (b4.mono B3.out.size))
        have K4 := Lib.hid (And.intro (K3.out.1.below b4) (K3.out.2.below b4))
        clear b4 c1 c2 hl
        have c1 := K4.out.1.cell 2
        have hl := K4.out.1.lt
        cases q2 with
        | false =>
          go_wp2
          go_ret
          refine ⟨ret_bool ?_, B4.out⟩
          rw [← HB.out]; rfl
        | true =>
          go_wp2_with fail
          refine (HA.out _ B4.out K4.out.1 K4.out.2).mono ?_
          rintro e w5 ⟨rfl, b5⟩
          go_wp2
          go_ret
          refine ⟨ret_bool ?_, B4.out.trans (b5.mono B4.out.size)⟩
          rw [← HB.out]; simp
theorem make_intX {w : World} {ops : Array Oper} {rest : List Oper} {o : Oper} {a : Act} {Q : Exit → Act → World → Prop} (hgd : o.guard = none) (l c : Operand)
    (hop : o.op = Op.makeSlice 22 l c) (n : Nat) (hl : a.eval l = .int .i64 n) (hc : a.eval c = .int .i64 n) (hn : n ≤ 1000000)
    (hK : ∀ w', w'.ownsRow w.heap.size 3 1 (.slice (some ⟨w.heap.size, 0, none⟩) n n) n (List.replicate n (.int .i64 0)) → Below w.heap.size w w' → wpList Tryz.prog ops Q rest (a.put o.dst (.slice (some ⟨w.heap.size, 0, none⟩) n n)) w') :
    wpList Tryz.prog ops Q (o :: rest) a w := by
  obtain ⟨i0, hi, hz0, hz1, hz2⟩ := info_parts info3
  refine wpList_make_full w hgd l c 22 hop w.heap.size 3 i0 (.int .i64 0) 1 Tryz.underlying22 hi hz0 hz1 .i64 .i64 n n n hl hc rfl rfl (by rw [hz2]; omega) (by unfold maxLen; omega) (Nat.le_refl _) ?_
  intro w' h1 h2
  refine hK w' ?_ ((Below.refl _ _).grown h2 (Nat.le_refl _) (fun k h => by cases h))
  rw [Nat.mul_one, show (Value.int .i64 0).cells = #[Value.int .i64 0] from rfl, toList_madeCells_one] at h1
  exact h1
def intV (l : List Int) : List Value := l.map fun n => Value.int .i64 n
def lenI (l : List (List Int × Value)) : List Int := l.map fun x => (x.1.length : Int)
def lensV (l : List (List Int × Value)) (k : Nat) : List Value := intV (lenI (l.take k)) ++ List.replicate (l.length - k) (.int .i64 0)
theorem lensV_zero (l : List (List Int × Value)) : lensV l 0 = List.replicate l.length (.int .i64 0) := by simp [lensV, lenI, intV]
theorem lensV_full (l : List (List Int × Value)) : lensV l l.length = intV (lenI l) := by simp [lensV]
theorem lensV_set (l : List (List Int × Value)) (k : Nat) (h : k < l.length) : (lensV l k).set k (.int .i64 (l[k].1.length : Int)) = lensV l (k + 1) := by
  unfold lensV
  have hl : (intV (lenI (l.take k))).length = k := by simp [intV, lenI]; omega
  rw [List.set_append_right _ _ (by omega), hl, Nat.sub_self, show l.length - k = (l.length - (k + 1)) + 1 by omega, List.replicate_succ, List.set_cons_zero, List.take_succ_eq_append_getElem h]
  simp only [intV, lenI, List.map_append, List.map_cons, List.map_nil, List.append_assoc, List.cons_append, List.nil_append]
set_option maxRecDepth 100000 in
set_option maxHeartbeats 2000000 in
theorem lengths_any (rs : List (List Int × Value)) (v : Value) (w : World) (hv : AllD w v rs) (hn : rs.length ≤ 100000) (hn2 : ∀ x ∈ rs, x.1.length ≤ 100000) :
    Calls Tryz.prog 127 #[v] w fun e w' => ∃ z, e = .returned z ∧ w'.ownsRow w.heap.size 3 1 z rs.length (intV (lenI rs)) ∧ Below w.heap.size w w' := by
  obtain ⟨ad, cap, rfl, hcap1, hcap2, hc⟩ := hv
  have HC := Lib.hid hc
  obtain ⟨n, hN⟩ : ∃ n, n = rs.length := ⟨_, rfl⟩
  rw [← hN] at hn ⊢
  have HN := Lib.hid hN
  have HN2 := Lib.hid hn2
  clear hN hc hn2 hcap1 hcap2
  go_enter Tryz.func127, Tryz.ntmps127
  go_wp2_with (refine make_intX rfl (.tmp 6) (.tmp 6) rfl n rfl rfl (by omega) ?_)
  intro w1 ho hb
  have HO1 := Lib.hid ho
  have HB1 := Lib.hid hb
  clear ho hb
  go_wp2_with fail
  go_loopg [10] n (fun fuel i' wr => ∃ k : Nat, i' = .int .i64 k ∧ k ≤ n ∧ n - k ≤ fuel ∧ wr.ownsRow w.heap.size 3 1 (.slice (some ⟨w.heap.size, 0, none⟩) n n) n (lensV rs k) ∧ Below w.heap.size w wr)
  case atStart => exact ⟨0, rfl, Nat.zero_le _, Nat.le_refl _, by rw [lensV_zero, ← HN.out]; exact HO1.out, HB1.out⟩
  case round =>
    obtain ⟨k, rfl, hk, hf, ho, hb⟩ := hrel
    have HO := Lib.hid ho
    have HB := Lib.hid hb
    have hgw : w.heap.size < wr.heap.size := (ho.lt _ rfl).2
    have hww := hb.size
    clear hb
    by_cases hlt : k < n
    · have hk' : k < rs.length := by have := HN.out; omega
      obtain ⟨b, off, rfl, hbl, x0, x1⟩ := HC.out k hk'
      have hx2 := HN2.out _ (List.getElem_mem hk')
      have hset := (ho.stored k (.int .i64 (rs[k].1.length : Int))).1
      rw [lensV_set _ _ hk'] at hset
      have HSET := Lib.hid hset
      obtain ⟨⟨xl, xv⟩, hx⟩ : ∃ x, x = rs[k] := ⟨_, rfl⟩
      rw [← hx] at x0 x1 hx2 HSET
      simp only [] at x0 x1 hx2 HSET
      obtain ⟨ad3, cap3, rfl⟩ := x1.shape0
      have c0 : wr.cell? ⟨b, off + k, none⟩ = some (.slice ad3 xl.length cap3) := (HB.out.cell (p := ⟨b, _, none⟩) hbl).trans (by rw [Nat.mul_one] at x0; exact x0)
      have hfz : wr.frozen? ⟨w.heap.size, k, none⟩ = false := ho.frozenAt _
      have hcl : ∃ u, wr.cell? ⟨w.heap.size, k, none⟩ = some u := by
        rw [ho.cellAt k (by omega)]
        exact ⟨_, List.getElem?_eq_getElem (by rw [ho.1]; omega)⟩
      obtain ⟨u, hcu⟩ := hcl
      obtain ⟨m, hm⟩ : ∃ m, xl.length = m := ⟨_, rfl⟩
      rw [hm] at c0 HSET hx2
      clear x0 x1 hx ho hset hm
      go_wp2
      go_roundg (gk - 1)
      case measure => omega
      case rel =>
        refine ⟨k + 1, by go_num, by omega, by omega, HSET.out, HB.out.setCell ?_ _⟩
        simp
    · obtain rfl : k = n := by omega
      go_wp2
      go_ret
      refine ⟨_, rfl, ?_, HB.out⟩
      have h := HO.out
      rw [HN.out, lensV_full, ← HN.out] at h
      exact h
theorem AllD.at {w : World} {v : Value} {rs : List (List Int × Value)} (h : AllD w v rs) (t : Int) (ht : inB t rs.length = true) : ∃ b off cap, v = .slice (some ⟨b, off, none⟩) rs.length cap ∧ b < w.heap.size ∧ ∃ rv, w.cell? ⟨b, off + t.toNat, none⟩ = some rv ∧ IntsD w rv ((rs.map (·.1)).getD t.toNat []) := by
  obtain ⟨ad, cap, hv, _, _, hc⟩ := h
  have h1 := of_decide_eq_true ht
  have h2 : t.toNat < rs.length := by omega
  obtain ⟨b, off, rfl, hl, h3⟩ := hc _ h2
  refine ⟨b, off, cap, hv, hl, rs[t.toNat].2, ?_, ?_⟩
  · simpa using h3.1
  · rw [List.getD_eq_getElem?_getD, List.getElem?_map, List.getElem?_eq_getElem h2, Option.map_some, Option.getD_some]
    exact h3.2
set_option maxRecDepth 100000 in
set_option maxHeartbeats 4000000 in
theorem read_any (s : Nbs) (rs : List (List Int × Value)) (ov av mv : Value) (w : World) (hd : NbD w ov av mv rs s) (xo xn xt : Int) (hok : okO (lenI rs) s.own.length s.mem.length ⟨xo, xn, xt⟩ = true) (z : Int) (hz : rdO s ⟨xo, xn, xt⟩ = z) :
    Calls Tryz.prog 138 #[.agg #[.int .i64 s.mod, ov, av, mv], .agg #[.int .i64 xo, .int .i64 xn, .int .i64 xt]] w fun e w' => e = .returned (.int .i64 z) ∧ Below w.heap.size w w' := by
  have hB : Below w.heap.size w ((w.alloc (.cells #[.int .i64 s.mod, ov, av, mv] 147)).alloc (.cells #[.int .i64 xo, .int .i64 xn, .int .i64 xt] 86)) := (two_new _ _ _ _ _).1
  obtain ⟨ado, capo, hov⟩ := hd.o.shape0
  obtain ⟨ada, capa, hav⟩ := hd.a.shape0
  obtain ⟨adm, capm, hmv⟩ := hd.m.shape0
  by_cases g2 : xo = 2
  · subst g2
    have ht : inB xn s.own.length = true := hok
    obtain ⟨b, off, cap, rfl, hl, hc⟩ := IntsD.at hd.o xn ht
    have h1 := (of_decide_eq_true ht).1
    have h2 := (of_decide_eq_true ht).2
    have hzz : s.own.getD xn.toNat 0 = z := hz
    rw [hzz] at hc
    obtain ⟨t, rfl⟩ : ∃ t : Nat, xn = t := ⟨xn.toNat, by omega⟩
    rw [Int.toNat_natCast] at hc
    subst hav hmv
    generalize hL : s.own.length = n at h2 hc hB
    have h3 : t < n := by omega
    have HB := Lib.hid hB
    clear hd hok ht hz hov hL h1 h2 hzz hB
    go_enter Tryz.func138, Tryz.ntmps138
    go_wp2
    go_ret
    exact ⟨rfl, HB.out⟩
  · by_cases g3 : xo = 3
    · subst g3
      have ht : inB xn s.mem.length = true := hok
      obtain ⟨b, off, cap, rfl, hl, hc⟩ := IntsD.at hd.m xn ht
      have h1 := (of_decide_eq_true ht).1
      have h2 := (of_decide_eq_true ht).2
      have hzz : s.mem.getD xn.toNat 0 = z := hz
      rw [hzz] at hc
      obtain ⟨t, rfl⟩ : ∃ t : Nat, xn = t := ⟨xn.toNat, by omega⟩
      rw [Int.toNat_natCast] at hc
      subst hav hov
      generalize hL : s.mem.length = n at h2 hc hB
      have h3 : t < n := by omega
      have HB := Lib.hid hB
      clear hd hok ht hz hmv hL h1 h2 hzz hB g2
      go_enter Tryz.func138, Tryz.ntmps138
      go_wp2
      go_ret
      exact ⟨rfl, HB.out⟩
    · by_cases g4 : xo = 4
      · subst g4
        have ht0 : (inB xt (lenI rs).length && inB xn ((lenI rs).getD xt.toNat 0)) = true := hok
        rw [Bool.and_eq_true] at ht0
        obtain ⟨ht, ht2⟩ := ht0
        have ht' : inB xt rs.length = true := by rw [← ht]; simp [lenI]
        have h1 := (of_decide_eq_true ht').1
        have h2 := (of_decide_eq_true ht').2
        obtain ⟨b, off, cap, rfl, hl, rv, hc, hr⟩ := AllD.at hd.a xt ht'
        rw [hd.e] at hr
        have hlen : (lenI rs).getD xt.toNat 0 = ((s.all.getD xt.toNat []).length : Int) := by
          have hx : xt.toNat < rs.length := by omega
          rw [← hd.e, List.getD_eq_getElem?_getD, List.getD_eq_getElem?_getD, lenI, List.getElem?_map, List.getElem?_map, List.getElem?_eq_getElem hx]; rfl
        rw [hlen] at ht2
        obtain ⟨b2, off2, cap2, rfl, hl2, hc2⟩ := IntsD.at hr xn ht2
        have h3 := (of_decide_eq_true ht2).1
        have h4 := (of_decide_eq_true ht2).2
        have hzz : (s.all.getD xt.toNat []).getD xn.toNat 0 = z := hz
        rw [hzz] at hc2
        obtain ⟨t, rfl⟩ : ∃ t : Nat, xn = t := ⟨xn.toNat, by omega⟩
        obtain ⟨u, rfl⟩ : ∃ u : Nat, xt = u := ⟨xt.toNat, by omega⟩
        rw [Int.toNat_natCast] at hc2
        rw [Int.toNat_natCast] at hc h4
        generalize hL1 : rs.length = n1 at h2 hB
        generalize hL2 : (s.all.getD u []).length = n2 at h4
        rw [hL2] at hc
        have h5 : u < n1 := by omega
        have h6 : t < n2 := by omega
        subst hmv hov
        have HB := Lib.hid hB
        clear hd hok ht ht' ht2 hz hav hL1 hL2 h1 h2 h3 h4 hzz hB g2 g3 hlen hr
        go_enter Tryz.func138, Tryz.ntmps138
        go_wp2
        go_quiet (fail)
        go_wp2
        go_ret
        exact ⟨rfl, HB.out.trans (below_end _)⟩
      · have hzz : xn = z := by rw [← hz]; unfold rdO; simp only []; rw [if_neg g2, if_neg g3, if_neg g4]
        subst hav hmv hov
        have HB := Lib.hid hB
        clear hd hok hz hB
        subst hzz
        go_enter Tryz.func138, Tryz.ntmps138
        go_wp2
        go_ret
        exact ⟨rfl, HB.out⟩
end Go.Proofs.YtacbanfnakgecaaGreat

namespace Go.Proofs.YtacbanfnakgecaaGreat
set_option linter.unusedSimpArgs false
set_option linter.unusedVariables false
open Go.RowKit
def rawO (op a b : Int) : Int :=
  if op = 6 then a + b else if op = 7 then a - b else if op = 8 then a * b else if op = 9 then tru (decide (a = b)) else if op = 10 then tru (decide (a ≠ b))
  else if op = 11 then tru (decide (a < b)) else if op = 12 then tru (decide (a ≤ b)) else if op = 13 then tru (decide (a ≠ 0 ∧ b ≠ 0)) else tru (decide (a ≠ 0 ∨ b ≠ 0))
def fnF (op : Int) : Nat :=
  if op = 5 then 141 else if op = 6 then 143 else if op = 7 then 144 else if op = 8 then 145
  else if op = 9 then 146 else if op = 10 then 147 else if op = 11 then 148 else if op = 12 then 149
  else if op = 13 then 150 else 151
theorem op_cases (op : Int) (h1 : 6 ≤ op) (h2 : op ≤ 14) : op = 6 ∨ op = 7 ∨ op = 8 ∨ op = 9 ∨ op = 10 ∨ op = 11 ∨ op = 12 ∨ op = 13 ∨ op = 14 := by omega
theorem fnO_of (op : Int) (h1 : 5 ≤ op) (h2 : op ≤ 14) : fnO op = .func (.func (fnF op)) #[] #[] := by
  by_cases h : op = 5
  · subst h; rfl
  · rcases op_cases op (by omega) h2 with rfl | rfl | rfl | rfl | rfl | rfl | rfl | rfl | rfl <;> rfl
theorem truth_q (b : Bool) (w : World) (k : Nat) : Calls Tryz.prog 142 #[.bool b] (w.drewN k) fun e w' => e = .returned (.int .i64 (tru b)) ∧ ∃ m, w' = w.drewN m :=
  (truth_any b _).mono fun _ _ ⟨e, k⟩ => ⟨e, _, k.symm⟩
def QAns (z : Int) (w : World) (e : Ending) (w' : World) : Prop := e = .returned (.int .i64 z) ∧ ∃ m, w' = w.drewN m
theorem op1_any (g o c : Nat) (a : Int) (w : World) (h : w.cell? ⟨g, o, none⟩ = some (.int .i64 a)) :
    Calls Tryz.prog 141 #[.slice (some ⟨g, o, none⟩) 1 c] w (QAns (tru (decide (a = 0))) w) := by
  go_enter Tryz.func141, Tryz.ntmps141
  go_wp2_with (go_at_call 142; refine (truth_any _ _).mono ?_; rintro e w2 ⟨rfl, rfl⟩)
  go_ret
  exact ⟨rfl, 0, rfl⟩
set_option maxRecDepth 100000 in
set_option maxHeartbeats 1000000 in
theorem op6_any (g o c : Nat) (a b : Int) (w : World) (ha : 0 ≤ a ∧ a ≤ 15) (hb : 0 ≤ b ∧ b ≤ 15) (h : w.cell? ⟨g, o, none⟩ = some (.int .i64 a)) (h2 : w.cell? ⟨g, o + 1, none⟩ = some (.int .i64 b)) :
    Calls Tryz.prog 143 #[.slice (some ⟨g, o, none⟩) 2 c] w (QAns (rawO 6 a b) w) := by
  obtain ⟨ha1, ha2⟩ := ha
  obtain ⟨hb1, hb2⟩ := hb
  have hw : IntKind.i64.wrap (a + b) = a + b := IntWalk.i64_in _ (by omega)
  have HW := Lib.hid hw
  go_enter Tryz.func143, Tryz.ntmps143
  go_wp2
  go_quiet (fail)
  go_wp2
  go_ret
  exact ⟨ret_int (by first | rfl | exact HW.out), _, rfl⟩
set_option maxRecDepth 100000 in
set_option maxHeartbeats 1000000 in
theorem op7_any (g o c : Nat) (a b : Int) (w : World) (ha : 0 ≤ a ∧ a ≤ 15) (hb : 0 ≤ b ∧ b ≤ 15) (h : w.cell? ⟨g, o, none⟩ = some (.int .i64 a)) (h2 : w.cell? ⟨g, o + 1, none⟩ = some (.int .i64 b)) :
    Calls Tryz.prog 144 #[.slice (some ⟨g, o, none⟩) 2 c] w (QAns (rawO 7 a b) w) := by
  obtain ⟨ha1, ha2⟩ := ha
  obtain ⟨hb1, hb2⟩ := hb
  have hw : IntKind.i64.wrap (a - b) = a - b := IntWalk.i64_in _ (by omega)
  have HW := Lib.hid hw
  go_enter Tryz.func144, Tryz.ntmps144
  go_wp2
  go_quiet (fail)
  go_wp2
  go_ret
  exact ⟨ret_int (by first | rfl | exact HW.out), _, rfl⟩
set_option maxRecDepth 100000 in
set_option maxHeartbeats 1000000 in
theorem op8_any (g o c : Nat) (a b : Int) (w : World) (ha : 0 ≤ a ∧ a ≤ 15) (hb : 0 ≤ b ∧ b ≤ 15) (h : w.cell? ⟨g, o, none⟩ = some (.int .i64 a)) (h2 : w.cell? ⟨g, o + 1, none⟩ = some (.int .i64 b)) :
    Calls Tryz.prog 145 #[.slice (some ⟨g, o, none⟩) 2 c] w (QAns (rawO 8 a b) w) := by
  obtain ⟨ha1, ha2⟩ := ha
  obtain ⟨hb1, hb2⟩ := hb
  have hm1 : 0 ≤ a * b := Int.mul_nonneg ha1 hb1
  have hm2 : a * b ≤ 15 * 15 := Int.mul_le_mul ha2 hb2 hb1 (by omega)
  have hw : IntKind.i64.wrap (a * b) = a * b := IntWalk.i64_in _ (by omega)
  have HW := Lib.hid hw
  go_enter Tryz.func145, Tryz.ntmps145
  go_wp2
  go_quiet (fail)
  go_wp2
  go_ret
  exact ⟨ret_int (by first | rfl | exact HW.out), _, rfl⟩
set_option maxRecDepth 100000 in
set_option maxHeartbeats 1000000 in
theorem op9_any (g o c : Nat) (a b : Int) (w : World) (ha : 0 ≤ a ∧ a ≤ 15) (hb : 0 ≤ b ∧ b ≤ 15) (h : w.cell? ⟨g, o, none⟩ = some (.int .i64 a)) (h2 : w.cell? ⟨g, o + 1, none⟩ = some (.int .i64 b)) :
    Calls Tryz.prog 146 #[.slice (some ⟨g, o, none⟩) 2 c] w (QAns (rawO 9 a b) w) := by
  obtain ⟨ha1, ha2⟩ := ha
  obtain ⟨hb1, hb2⟩ := hb
  have HT := Lib.hid truth_q
  go_enter Tryz.func146, Tryz.ntmps146
  go_wp2
  go_quiet ((go_at_call 142; with_reducible exact HT.out _ _ _))
  go_wp2
  go_ret
  exact ⟨ret_int (by unfold rawO; simp <;> rfl), _, rfl⟩
set_option maxRecDepth 100000 in
set_option maxHeartbeats 1000000 in
theorem op10_any (g o c : Nat) (a b : Int) (w : World) (ha : 0 ≤ a ∧ a ≤ 15) (hb : 0 ≤ b ∧ b ≤ 15) (h : w.cell? ⟨g, o, none⟩ = some (.int .i64 a)) (h2 : w.cell? ⟨g, o + 1, none⟩ = some (.int .i64 b)) :
    Calls Tryz.prog 147 #[.slice (some ⟨g, o, none⟩) 2 c] w (QAns (rawO 10 a b) w) := by
  obtain ⟨ha1, ha2⟩ := ha
  obtain ⟨hb1, hb2⟩ := hb
  have HT := Lib.hid truth_q
  go_enter Tryz.func147, Tryz.ntmps147
  go_wp2
  go_quiet ((go_at_call 142; with_reducible exact HT.out _ _ _))
  go_wp2
  go_ret
  exact ⟨ret_int (by unfold rawO; simp <;> rfl), _, rfl⟩
set_option maxRecDepth 100000 in
set_option maxHeartbeats 1000000 in
theorem op11_any (g o c : Nat) (a b : Int) (w : World) (ha : 0 ≤ a ∧ a ≤ 15) (hb : 0 ≤ b ∧ b ≤ 15) (h : w.cell? ⟨g, o, none⟩ = some (.int .i64 a)) (h2 : w.cell? ⟨g, o + 1, none⟩ = some (.int .i64 b)) :
    Calls Tryz.prog 148 #[.slice (some ⟨g, o, none⟩) 2 c] w (QAns (rawO 11 a b) w) := by
  obtain ⟨ha1, ha2⟩ := ha
  obtain ⟨hb1, hb2⟩ := hb
  have HT := Lib.hid truth_q
  go_enter Tryz.func148, Tryz.ntmps148
  go_wp2
  go_quiet ((go_at_call 142; with_reducible exact HT.out _ _ _))
  go_wp2
  go_ret
  exact ⟨ret_int (by unfold rawO; simp <;> rfl), _, rfl⟩
set_option maxRecDepth 100000 in
set_option maxHeartbeats 1000000 in
theorem op12_any (g o c : Nat) (a b : Int) (w : World) (ha : 0 ≤ a ∧ a ≤ 15) (hb : 0 ≤ b ∧ b ≤ 15) (h : w.cell? ⟨g, o, none⟩ = some (.int .i64 a)) (h2 : w.cell? ⟨g, o + 1, none⟩ = some (.int .i64 b)) :
    Calls Tryz.prog 149 #[.slice (some ⟨g, o, none⟩) 2 c] w (QAns (rawO 12 a b) w) := by
  obtain ⟨ha1, ha2⟩ := ha
  obtain ⟨hb1, hb2⟩ := hb
  have HT := Lib.hid truth_q
  go_enter Tryz.func149, Tryz.ntmps149
  go_wp2
  go_quiet ((go_at_call 142; with_reducible exact HT.out _ _ _))
  go_wp2
  go_ret
  exact ⟨ret_int (by unfold rawO; simp <;> rfl), _, rfl⟩
set_option maxRecDepth 100000 in
set_option maxHeartbeats 1000000 in
theorem op13_any (g o c : Nat) (a b : Int) (w : World) (ha : 0 ≤ a ∧ a ≤ 15) (hb : 0 ≤ b ∧ b ≤ 15) (h : w.cell? ⟨g, o, none⟩ = some (.int .i64 a)) (h2 : w.cell? ⟨g, o + 1, none⟩ = some (.int .i64 b)) :
    Calls Tryz.prog 150 #[.slice (some ⟨g, o, none⟩) 2 c] w (QAns (rawO 13 a b) w) := by
  obtain ⟨ha1, ha2⟩ := ha
  obtain ⟨hb1, hb2⟩ := hb
  have HT := Lib.hid truth_any
  by_cases h3 : a = 0
  · subst h3
    go_enter Tryz.func150, Tryz.ntmps150
    go_wp2_with (go_at_call 142; refine (HT.out _ _).mono ?_; rintro e w2 ⟨rfl, rfl⟩)
    all_goals
      go_ret
      exact ⟨ret_int (by unfold rawO; simp <;> rfl), 0, rfl⟩
  · have h4 : (a == 0) = false := by simpa using h3
    have h5 : (a != 0) = true := by simpa using h3
    have H3 := Lib.hid h3
    clear h3
    go_enter Tryz.func150, Tryz.ntmps150
    go_wp2_with (go_at_call 142; refine (HT.out _ _).mono ?_; rintro e w2 ⟨rfl, rfl⟩)
    all_goals
      go_ret
      exact ⟨ret_int (by have := H3.out; unfold rawO; simp [this] <;> rfl), 0, rfl⟩
set_option maxRecDepth 100000 in
set_option maxHeartbeats 1000000 in
theorem op14_any (g o c : Nat) (a b : Int) (w : World) (ha : 0 ≤ a ∧ a ≤ 15) (hb : 0 ≤ b ∧ b ≤ 15) (h : w.cell? ⟨g, o, none⟩ = some (.int .i64 a)) (h2 : w.cell? ⟨g, o + 1, none⟩ = some (.int .i64 b)) :
    Calls Tryz.prog 151 #[.slice (some ⟨g, o, none⟩) 2 c] w (QAns (rawO 14 a b) w) := by
  obtain ⟨ha1, ha2⟩ := ha
  obtain ⟨hb1, hb2⟩ := hb
  have HT := Lib.hid truth_any
  by_cases h3 : a = 0
  · subst h3
    go_enter Tryz.func151, Tryz.ntmps151
    go_wp2_with (go_at_call 142; refine (HT.out _ _).mono ?_; rintro e w2 ⟨rfl, rfl⟩)
    all_goals
      go_ret
      exact ⟨ret_int (by unfold rawO; simp <;> rfl), 0, rfl⟩
  · have h4 : (a == 0) = false := by simpa using h3
    have h5 : (a != 0) = true := by simpa using h3
    have H3 := Lib.hid h3
    clear h3
    go_enter Tryz.func151, Tryz.ntmps151
    go_wp2_with (go_at_call 142; refine (HT.out _ _).mono ?_; rintro e w2 ⟨rfl, rfl⟩)
    all_goals
      go_ret
      exact ⟨ret_int (by have := H3.out; unfold rawO; simp [this] <;> rfl), 0, rfl⟩
theorem opF_any (op : Int) (h1 : 6 ≤ op) (h2 : op ≤ 14) (g o c : Nat) (a b : Int) (w : World) (ha : 0 ≤ a ∧ a ≤ 15) (hb : 0 ≤ b ∧ b ≤ 15) (h : w.cell? ⟨g, o, none⟩ = some (.int .i64 a)) (h3 : w.cell? ⟨g, o + 1, none⟩ = some (.int .i64 b)) :
    Calls Tryz.prog (fnF op) #[.slice (some ⟨g, o, none⟩) 2 c] w (QAns (rawO op a b) w) := by
  rcases op_cases op h1 h2 with rfl | rfl | rfl | rfl | rfl | rfl | rfl | rfl | rfl
  · exact op6_any g o c a b w ha hb h h3
  · exact op7_any g o c a b w ha hb h h3
  · exact op8_any g o c a b w ha hb h h3
  · exact op9_any g o c a b w ha hb h h3
  · exact op10_any g o c a b w ha hb h h3
  · exact op11_any g o c a b w ha hb h h3
  · exact op12_any g o c a b w ha hb h h3
  · exact op13_any g o c a b w ha hb h h3
  · exact op14_any g o c a b w ha hb h h3
theorem callF (op : Int) (h1 : 6 ≤ op) (h2 : op ≤ 14) (a : Value) (W : World) : Sem.run Tryz.prog (callFunc (fnF op) #[a]) W = .ok (.enter (fnF op) #[a]) W := by
  rcases op_cases op h1 h2 with rfl | rfl | rfl | rfl | rfl | rfl | rfl | rfl | rfl <;> kernel_rfl
end Go.Proofs.YtacbanfnakgecaaGreat

namespace Go.Proofs.YtacbanfnakgecaaGreat
set_option linter.unusedSimpArgs false
set_option linter.unusedVariables false
open Go.RowKit
theorem stO_zero (s : Nbs) (o : Opn) (st : List Int) (h : ar o.op = 0) : stO s o st = rdO s o % s.mod :: st := by
  unfold stO
  split
  · rw [if_pos h]
  · rw [if_pos h]
  · rfl
theorem stO_one (s : Nbs) (o : Opn) (b : Int) (r : List Int) (h : ar o.op = 1) : stO s o (b :: r) = tru (decide (b = 0)) :: r := by
  unfold stO
  split
  · rename_i h2
    injection h2 with h3 h4; subst h3 h4
    rw [if_neg (by omega), if_pos h]
  · rename_i h2
    injection h2 with h3 h4; subst h3 h4
    rw [if_neg (by omega)]
  · rename_i h2; cases h2
theorem stO_two (s : Nbs) (o : Opn) (a b : Int) (r : List Int) (h : ar o.op = 2) : stO s o (b :: a :: r) = twoO o.op a b s.mod :: r := by
  show (if ar o.op = 0 then _ else if ar o.op = 1 then _ else _) = _
  rw [if_neg (by omega), if_neg (by omega)]
theorem tru_b (b : Bool) : 0 ≤ tru b ∧ tru b ≤ 1 := by cases b <;> decide
theorem raw_two (op a b m : Int) (h1 : 6 ≤ op) (h2 : op ≤ 14) (hm : 2 ≤ m ∧ m ≤ 16) (ha : 0 ≤ a ∧ a < m) (hb : 0 ≤ b ∧ b < m) :
    (rawO op a b + m) % m = twoO op a b m ∧ 0 ≤ twoO op a b m ∧ twoO op a b m < m ∧ -15 ≤ rawO op a b ∧ rawO op a b ≤ 225 ∧ 0 ≤ rawO op a b + m := by
  have key : ∀ z t : Int, rawO op a b = z → twoO op a b m = t → ((z + m) % m = t ∧ 0 ≤ t ∧ t < m ∧ -15 ≤ z ∧ z ≤ 225 ∧ 0 ≤ z + m) → (rawO op a b + m) % m = twoO op a b m ∧ 0 ≤ twoO op a b m ∧ twoO op a b m < m ∧ -15 ≤ rawO op a b ∧ rawO op a b ≤ 225 ∧ 0 ≤ rawO op a b + m := by
    intro z t h1 h2 h; rw [h1, h2]; exact h
  have hmod : ∀ z : Int, 0 ≤ z % m ∧ z % m < m := fun z => ⟨Int.emod_nonneg _ (by omega), Int.emod_lt_of_pos _ (by omega)⟩
  have htr : ∀ b : Bool, (tru b + m) % m = tru b ∧ 0 ≤ tru b ∧ tru b < m ∧ -15 ≤ tru b ∧ tru b ≤ 225 ∧ 0 ≤ tru b + m := by
    intro b
    have := tru_b b
    refine ⟨?_, by omega, by omega, by omega, by omega, by omega⟩
    rw [Int.add_emod_right]
    exact Int.emod_eq_of_lt (by omega) (by omega)
  rcases op_cases op h1 h2 with rfl | rfl | rfl | rfl | rfl | rfl | rfl | rfl | rfl
  · exact key (a + b) ((a + b) % m) rfl rfl ⟨by rw [Int.add_emod_right], (hmod _).1, (hmod _).2, by omega, by omega, by omega⟩
  · exact key (a - b) ((a - b + m) % m) rfl rfl ⟨rfl, (hmod _).1, (hmod _).2, by omega, by omega, by omega⟩
  · have hm1 : 0 ≤ a * b := Int.mul_nonneg ha.1 hb.1
    have hm2 : a * b ≤ 15 * 15 := Int.mul_le_mul (by omega) (by omega) hb.1 (by omega)
    exact key (a * b) (a * b % m) rfl rfl ⟨by rw [Int.add_emod_right], (hmod _).1, (hmod _).2, by omega, by omega, by omega⟩
  · exact key _ _ rfl rfl (htr _)
  · exact key _ _ rfl rfl (htr _)
  · exact key _ _ rfl rfl (htr _)
  · exact key _ _ rfl rfl (htr _)
  · exact key _ _ rfl rfl (htr _)
  · exact key _ _ rfl rfl (htr _)
theorem getD_all (l : List Int) (m : Int) (h : allB m l = true) (t : Nat) (ht : t < l.length) : 0 ≤ l.getD t 0 ∧ l.getD t 0 < m := by
  rw [List.getD_eq_getElem?_getD, List.getElem?_eq_getElem ht, Option.getD_some]
  exact of_decide_eq_true (List.all_eq_true.1 h _ (List.getElem_mem ht))
theorem rdO_bound (s : Nbs) (o : Opn) (hN : rightN s = true) (hok : okO (s.all.map fun x => (x.length : Int)) s.own.length s.mem.length o = true) (h : ar o.op = 0) : 0 ≤ rdO s o ∧ rdO s o ≤ 9999 := by
  unfold rightN at hN
  rw [Bool.and_eq_true, Bool.and_eq_true, Bool.and_eq_true] at hN
  obtain ⟨h1, h2, h3, h4⟩ := hN
  have h1 := of_decide_eq_true h1
  unfold rdO
  unfold okO at hok
  by_cases g1 : o.op = 1
  · rw [if_pos g1] at hok
    rw [if_neg (by omega), if_neg (by omega), if_neg (by omega)]
    have := of_decide_eq_true hok
    omega
  · rw [if_neg g1] at hok
    by_cases g2 : o.op = 2
    · rw [if_pos g2] at hok ⊢
      have := of_decide_eq_true hok
      have := getD_all _ _ h2 o.n.toNat (by omega)
      omega
    · rw [if_neg g2] at hok ⊢
      by_cases g3 : o.op = 3
      · rw [if_pos g3] at hok ⊢
        have := of_decide_eq_true hok
        have := getD_all _ _ h3 o.n.toNat (by omega)
        omega
      · rw [if_neg g3] at hok ⊢
        by_cases g4 : o.op = 4
        · rw [if_pos g4] at hok ⊢
          rw [Bool.and_eq_true] at hok
          obtain ⟨k1, k2⟩ := hok
          have k1 := of_decide_eq_true k1
          rw [List.length_map] at k1
          have hx : o.t.toNat < s.all.length := by omega
          have k2 := of_decide_eq_true k2
          rw [List.getD_eq_getElem?_getD, List.getElem?_map, List.getElem?_eq_getElem hx, Option.map_some, Option.getD_some] at k2
          have hd : s.all.getD o.t.toNat [] = s.all[o.t.toNat] := by rw [List.getD_eq_getElem?_getD, List.getElem?_eq_getElem hx, Option.getD_some]
          rw [hd]
          have := getD_all _ _ (List.all_eq_true.1 h4 _ (List.getElem_mem hx)) o.n.toNat (by omega)
          omega
        · have := ar_kind o.op
          omega
theorem runO_at (s : Nbs) (l : List Opn) (k : Nat) (h : k < l.length) (st : List Int) : runO s (l.drop k) st = runO s (l.drop (k + 1)) (stO s l[k] st) := by
  rw [List.drop_eq_getElem_cons h]; rfl
theorem runO_over (s : Nbs) (l : List Opn) (k : Nat) (h : ¬ k < l.length) (st : List Int) : runO s (l.drop k) st = st := by
  rw [List.drop_eq_nil_of_le (by omega)]; rfl
def Go1 (l : List Opn) (k n : Nat) : Prop := ∃ m, (htsL (l.drop k) m n).2 = 1
theorem Go1.step {l : List Opn} {k n : Nat} (h : Go1 l k n) (hk : k < l.length) : (0 ≤ ar l[k].op ∧ ar l[k].op ≤ n) ∧ ∀ q : Nat, (q : Int) = n + 1 - ar l[k].op → Go1 l (k + 1) q := by
  obtain ⟨m, h⟩ := h
  rw [htsL_at l k hk] at h
  split at h
  · cases h
  · rename_i h2
    refine ⟨by omega, fun q hq => ?_⟩
    rw [← hq] at h
    exact ⟨_, h⟩
theorem Go1.over {l : List Opn} {k n : Nat} (h : Go1 l k n) (hk : ¬ k < l.length) : n = 1 := by
  obtain ⟨m, h⟩ := h
  rw [htsL_over l k hk] at h
  have : (n : Int) = 1 := h
  omega
theorem opOf_leaf (op : Int) (h : ar op = 0) (w : World) : Calls Tryz.prog 137 #[.int .i64 op] w fun e w' => e = .returned (.agg #[.int .i64 0, .nilFunc]) ∧ Below w.heap.size w w' := by
  have hk := ar_kind op
  have h1 : fnO op = .nilFunc := by
    unfold fnO
    rw [if_neg (by omega), if_neg (by omega), if_neg (by omega), if_neg (by omega), if_neg (by omega), if_neg (by omega), if_neg (by omega), if_neg (by omega), if_neg (by omega), if_neg (by omega)]
  have := opOf_any op w
  rw [h, h1] at this
  exact this
theorem opOf_fn (op a : Int) (h : ar op = a) (h1 : 1 ≤ a) (F : Nat) (hF : fnF op = F) (w : World) : Calls Tryz.prog 137 #[.int .i64 op] w fun e w' => e = .returned (.agg #[.int .i64 a, .func (.func F) #[] #[]]) ∧ Below w.heap.size w w' := by
  have hk := ar_kind op
  have := opOf_any op w
  rw [h, fnO_of op (by omega) (by omega), hF] at this
  exact this
theorem intV_rev (x : Int) (st : List Int) : intV (x :: st).reverse = intV st.reverse ++ [.int .i64 x] := by simp [intV]
theorem step_append_int {w : World} {ops : Array Oper} {o : Oper} {a : Act} {K : Act → World → Prop} {Q : Exit → Act → World → Prop} {E : Prop} (hgd : o.guard = none) (s x : Operand)
    (ho : o.op = .call { callee := .builtin .append, args := #[s, x], argTypes := #[22, 22] }) (base n : Nat) (v : Value) (xs : List Value) (z : Int) (hs : a.eval s = v) (g : Nat) (hx : a.eval x = .slice (some ⟨g, 0, none⟩) 1 1)
    (hown : w.ownsRow base 3 1 v n xs) (hc : w.heap[g]? = some (.cells #[.int .i64 z] 3 (0, 0))) (hn : n ≤ 1000000) (hbase : base ≤ w.heap.size)
    (h : ∀ g' cap w', w'.ownsRow base 3 1 (.slice (some ⟨g', 0, none⟩) (n + 1) cap) (n + 1) (xs ++ [.int .i64 z]) → Below base w w' → K (a.put o.dst (.slice (some ⟨g', 0, none⟩) (n + 1) cap)) w') :
    if Region.wanted o (yielded ops a.tmps) = true then Oper.wp Tryz.prog o a w K Q else E := by
  obtain ⟨i0, hi, hz0, hz1, hz2⟩ := info_parts info3
  refine step_append_lies w hgd s x 22 ho base 3 i0 (.int .i64 0) 1 8 Tryz.underlying22 hi hz0 hz1 hz2 rfl (by decide) v n xs hs hown ⟨g, 0, none⟩ 1 1 [.int .i64 z] hx rfl (World.news_of_block hc) (fun u hu => by simp at hu; subst hu; rfl) (by decide) (by unfold maxLen; omega) (by omega) hbase _ rfl ?_
  intro g' cap w' h1 h2 _ _
  exact h g' cap w' h1 ((Below.refl base w).grown h2 hbase (fun k hk => (hown.lt k hk).1))
theorem own_cap {w : World} {B e size n cap : Nat} {ad : Option Addr} {xs : List Value} (h : w.ownsRow B e size (.slice ad n cap) n xs) : n ≤ cap := by
  rcases h.2 with ⟨h1, _⟩ | ⟨g, cap', cur, hv, _, _, h1, _⟩
  · injection h1 with _ h2 h3; omega
  · injection hv with _ _ h3; omega
theorem own_top {w : World} {B n cap : Nat} {ad : Option Addr} {xs : List Value} {x : Value} (h : w.ownsRow B 3 1 (.slice ad n cap) n (xs ++ [x])) (q : Nat) (hq : n = q + 1) :
    ∃ g, ad = some ⟨g, 0, none⟩ ∧ B ≤ g ∧ g < w.heap.size ∧ w.cell? ⟨g, q, none⟩ = some x ∧ w.ownsRow B 3 1 (.slice (some ⟨g, 0, none⟩) q cap) q xs ∧ xs.length = q := by
  subst hq
  have hl : xs.length = q := by have := h.1; simp at this; omega
  rcases h.2 with ⟨h1, h2⟩ | ⟨g, cap', cur, hv, hg, hh, _⟩
  · omega
  · injection hv with h1 h2 h3
    subst h1 h3
    refine ⟨g, rfl, hg, (Array.getElem?_eq_some_iff.1 hh).1, ?_, own_pop h, hl⟩
    have := h.cells (g := g) rfl q x (by rw [← hl]; simp)
    rwa [addr_add', Nat.zero_add] at this
end Go.Proofs.YtacbanfnakgecaaGreat
