/- Layer 6: whether numbers are right; how many there are. -/
import Derived.Test.YtibkegalbcjmpaaOf
import Derived.OwnWalk
import Derived.Laws.OwnMore
namespace Go.Proofs.Ytibkegalbcjmpaa
open Go.RowKit

theorem okI_inB (m x : Int) : okI m x = inB x m := rfl

theorem nr1_any (x m : Int) (p : Nat) (w : World) (h : w.cell? ⟨p, 0, none⟩ = some (.int .i64 m)) (b : Bool) (hb : okI m x = b) :
    Calls Try.prog 55 #[.int .i64 x, .pointer (some ⟨p, 0, none⟩)] w fun e w' => e = .returned (.bool (!b)) ∧ Below w.heap.size w w' := by
  have H := Lib.hid (below_is x m b hb)
  clear hb
  go_enter Try.func55, Try.ntmps55
  go_wp2_with (go_at_call 46; refine (H.out _).mono ?_; rintro e w2 ⟨rfl, rfl⟩)
  go_ret
  exact ⟨rfl, Below.refl _ _⟩

theorem all_notI (l : List Int) (p : Int → Bool) : (l.all fun x => !(!p x)) = l.all p := by
  congr 1; funext x; exact Bool.not_not _

theorem nr2_any (l : List Int) (v : Value) (m : Int) (p q : Nat) (w : World) (hv : IntsD w v l) (hn : l.length ≤ 100000)
    (h : w.cell? ⟨p, 0, none⟩ = some (.func (.func 55) #[] #[.pointer (some ⟨q, 0, none⟩)])) (h2 : w.cell? ⟨q, 0, none⟩ = some (.int .i64 m)) (b : Bool) (hb : allB m l = b) :
    Calls Try.prog 56 #[v, .pointer (some ⟨p, 0, none⟩)] w fun e w' => e = .returned (.bool (!b)) ∧ Below w.heap.size w w' := by
  have H := Lib.hid (incont_any l v w hv hn (fun x => !okI m x) q (fun w' i hi hbw => nr1_any l[i] m q w' ((hbw.cell (p := ⟨q, _, none⟩) (World.block_lt_of_cell? w ⟨q, 0, none⟩ h2)).trans h2) _ rfl) _ (all_notI l _))
  rw [show l.all (okI m) = b from hb] at H
  obtain ⟨ad, cap, rfl⟩ := hv.shape
  generalize l.length = n at H
  clear hv hn hb h2
  go_enter Try.func56, Try.ntmps56
  go_wp2_with fail
  refine H.out.mono ?_
  rintro e w2 ⟨rfl, b2⟩
  go_wp2
  go_ret
  exact ⟨rfl, b2⟩

/-- Two blocks in a row. -/
theorem two_new (w : World) (t1 t2 : Nat) (c1 c2 : Array Value) : Below w.heap.size w ((w.alloc (.cells c1 t1)).alloc (.cells c2 t2)) ∧
    Bk ((w.alloc (.cells c1 t1)).alloc (.cells c2 t2)) w.heap.size t1 c1 ∧ Bk ((w.alloc (.cells c1 t1)).alloc (.cells c2 t2)) (w.heap.size + 1) t2 c2 := by
  have B1 : Below w.heap.size w (w.alloc (.cells c1 t1)) := (Below.refl _ _).alloc (Nat.le_refl _) _
  have K1 := Bk.new w t1 c1
  have s1 := alloc_size w (.cells c1 t1)
  generalize w.alloc (.cells c1 t1) = w1 at B1 K1 s1 ⊢
  have B2 : Below w1.heap.size w1 (w1.alloc (.cells c2 t2)) := (Below.refl _ _).alloc (Nat.le_refl _) _
  have K2 := Bk.new w1 t2 c2
  generalize w1.alloc (.cells c2 t2) = w2 at B2 K2 ⊢
  rw [s1] at K2
  exact ⟨B1.trans (B2.mono B1.size), K1.below B2, K2⟩

theorem all_notR (l : List (List Int × Value)) (p : List Int → Bool) : (l.all fun x => !(!p x.1)) = (l.map (·.1)).all p := by
  rw [List.all_map]; congr 1; funext x; exact Bool.not_not _

/-- All numbers rs they are read. -/
structure NbD (w : World) (ov av mv : Value) (rs : List (List Int × Value)) (s : Nbs) : Prop where
  o : IntsD w ov s.own
  a : AllD w av rs
  e : rs.map (·.1) = s.all
  m : IntsD w mv s.mem
  lo : s.own.length ≤ 100000
  la : rs.length ≤ 100000
  lr : ∀ x ∈ rs, x.1.length ≤ 100000
  lm : s.mem.length ≤ 100000
theorem NbD.below {w w' : World} {ov av mv : Value} {rs : List (List Int × Value)} {s : Nbs} (h : NbD w ov av mv rs s) (hb : Below w.heap.size w w') : NbD w' ov av mv rs s :=
  ⟨IntsD.below h.o hb, AllD.below h.a hb, h.e, IntsD.below h.m hb, h.lo, h.la, h.lr, h.lm⟩

set_option maxRecDepth 100000 in
set_option maxHeartbeats 2000000 in
theorem nright_any (s : Nbs) (rs : List (List Int × Value)) (ov av mv : Value) (w : World) (hd : NbD w ov av mv rs s) (b : Bool) (hb : rightN s = b) :
    Calls Try.prog 37 #[.agg #[.int .i64 s.mod, ov, av, mv]] w fun e w' => e = .returned (.bool b) ∧ Below w.heap.size w w' := by
  have HD := Lib.hid hd
  have HBB := Lib.hid hb
  obtain ⟨mod, own, all, mem⟩ := s
  simp only []
  have H2 := Lib.hid (two_new w 72 89 #[.int .i64 mod, ov, av, mv] #[.func (.func 55) #[] #[.pointer (some ⟨w.heap.size, 0, none⟩)]])
  have HS := Lib.hid (fun (W : World) (h : Below w.heap.size w W) (k1 : Bk W w.heap.size 72 #[.int .i64 mod, ov, av, mv]) (k2 : Bk W (w.heap.size + 1) 89 #[.func (.func 55) #[] #[.pointer (some ⟨w.heap.size, 0, none⟩)]]) (l : List Int) (v : Value) (hl : IntsD W v l) (hn : l.length ≤ 100000) (b : Bool) (hb : allB mod l = b) =>
    nr2_any l v mod (w.heap.size + 1) w.heap.size W hl hn (k2.cell 0) (k1.cell 0) b hb)
  have HA := Lib.hid (fun (W : World) (h : Below w.heap.size w W) (k1 : Bk W w.heap.size 72 #[.int .i64 mod, ov, av, mv]) (k2 : Bk W (w.heap.size + 1) 89 #[.func (.func 55) #[] #[.pointer (some ⟨w.heap.size, 0, none⟩)]]) =>
    alcont_any rs av W (AllD.below hd.a h) hd.la (fun x => !allB mod x.1) (w.heap.size + 1) (fun w' i hi hbw => by
      have hx := hd.lr _ (List.getElem_mem hi)
      obtain ⟨ad, cap, _, _, _, hc⟩ := AllD.below (hd.a) (h.trans (hbw.mono h.size))
      obtain ⟨b', off', _, _, hr⟩ := hc i hi
      exact nr2_any rs[i].1 rs[i].2 mod (w.heap.size + 1) w.heap.size w' hr.2 hx ((k2.below hbw).cell 0) ((k1.below hbw).cell 0) _ rfl) _ (all_notR rs (allB mod)))
  have hal : rs.map (·.1) = all := hd.e
  rw [hal] at HA
  obtain ⟨ado, capo, rfl⟩ := hd.o.shape
  obtain ⟨ada, capa, rfl⟩ := hd.a.shape
  obtain ⟨adm, capm, rfl⟩ := hd.m.shape
  simp only [] at HD HS HA H2 ⊢
  clear hd hb hal
  have hB : (decide (2 ≤ mod ∧ mod ≤ 16) && (allB mod own && (allB mod mem && all.all (allB mod)))) = b := HBB.out
  have HB := Lib.hid hB
  clear hB HBB
  by_cases h1 : mod < 2
  · have HN := Lib.hid (show ¬ (2 ≤ mod ∧ mod ≤ 16) by omega)
    go_enter Try.func37, Try.ntmps37
    go_wp2
    go_ret
    refine ⟨ret_bool ?_, H2.out.1⟩
    rw [← HB.out, decide_eq_false HN.out]; rfl
  · by_cases h2 : 16 < mod
    · have HN := Lib.hid (show ¬ (2 ≤ mod ∧ mod ≤ 16) by omega)
      go_enter Try.func37, Try.ntmps37
      go_wp2
      go_ret
      refine ⟨ret_bool ?_, H2.out.1⟩
      rw [← HB.out, decide_eq_false HN.out]; rfl
    · have HN := Lib.hid (show (2 ≤ mod ∧ mod ≤ 16) by omega)
      obtain ⟨q1, hq1⟩ : ∃ q, allB mod own = q := ⟨_, rfl⟩
      obtain ⟨q2, hq2⟩ : ∃ q, allB mod mem = q := ⟨_, rfl⟩
      obtain ⟨q3, hq3⟩ : ∃ q, all.all (allB mod) = q := ⟨_, rfl⟩
      have hB := HB.out
      rw [hq1, hq2, hq3, decide_eq_true HN.out, Bool.true_and] at hB
      rw [hq3] at HA
      have Hq1 := Lib.hid hq1
      have Hq2 := Lib.hid hq2
      clear hq1 hq2 hq3 HB
      have HB := Lib.hid hB
      clear hB
      go_enter Try.func37, Try.ntmps37
      go_wp2_with fail
      generalize (w.alloc _).alloc _ = w2 at H2 ⊢
      refine (HS.out _ H2.out.1 H2.out.2.1 H2.out.2.2 own _ (IntsD.below HD.out.o H2.out.1) HD.out.lo q1 Hq1.out).mono ?_
      rintro e w3 ⟨rfl, b3⟩
      have B3 := Lib.hid (H2.out.1.trans (b3.mono H2.out.1.size))
      have K3 := Lib.hid (And.intro (H2.out.2.1.below b3) (H2.out.2.2.below b3))
      clear b3
      have c1 := K3.out.1.cell 2
      have c2 := K3.out.1.cell 3
      have hl := K3.out.1.lt
      cases q1 with
      | false =>
        go_wp2
        go_ret
        refine ⟨ret_bool ?_, B3.out⟩
        rw [← HB.out]; rfl
      | true =>
        go_wp2_with fail
        refine (HS.out _ B3.out K3.out.1 K3.out.2 mem _ (IntsD.below HD.out.m B3.out) HD.out.lm q2 Hq2.out).mono ?_
        rintro e w4 ⟨rfl, b4⟩
        have B4 := Lib.hid (B3.out.trans (b4.mono B3.out.size))
        have K4 := Lib.hid (And.intro (K3.out.1.below b4) (K3.out.2.below b4))
        clear b4 c1 c2 hl
        have c1 := K4.out.1.cell 2
        have hl := K4.out.1.lt
        cases q2 with
        | false =>
          go_wp2
          go_ret
          refine ⟨ret_bool ?_, B4.out⟩
          rw [← HB.out]; rfl
        | true =>
          go_wp2_with fail
          refine (HA.out _ B4.out K4.out.1 K4.out.2).mono ?_
          rintro e w5 ⟨rfl, b5⟩
          go_wp2
          go_ret
          refine ⟨ret_bool ?_, B4.out.trans (b5.mono B4.out.size)⟩
          rw [← HB.out]; simp

theorem make_int {w : World} {ops : Array Oper} {rest : List Oper} {o : Oper} {a : Act} {Q : Exit → Act → World → Prop} (hgd : o.guard = none) (l c : Operand)
    (hop : o.op = Op.makeSlice 38 l c) (n : Nat) (hl : a.eval l = .int .i64 n) (hc : a.eval c = .int .i64 n) (hn : n ≤ 1000000)
    (hK : ∀ w', w'.ownsRow w.heap.size 3 1 (.slice (some ⟨w.heap.size, 0, none⟩) n n) n (List.replicate n (.int .i64 0)) → Below w.heap.size w w' → wpList Try.prog ops Q rest (a.put o.dst (.slice (some ⟨w.heap.size, 0, none⟩) n n)) w') :
    wpList Try.prog ops Q (o :: rest) a w := by
  obtain ⟨i0, hi, hz0, hz1, hz2⟩ := info_parts info3
  refine wpList_make_full w hgd l c 38 hop w.heap.size 3 i0 (.int .i64 0) 1 Try.underlying38 hi hz0 hz1 .i64 .i64 n n n hl hc rfl rfl (by rw [hz2]; omega) (by unfold maxLen; omega) (Nat.le_refl _) ?_
  intro w' h1 h2
  refine hK w' ?_ ((Below.refl _ _).grown h2 (Nat.le_refl _) (fun k h => by cases h))
  rw [Nat.mul_one, show (Value.int .i64 0).cells = #[Value.int .i64 0] from rfl, toList_madeCells_one] at h1
  exact h1

def intV (l : List Int) : List Value := l.map fun n => Value.int .i64 n

def lenI (l : List (List Int × Value)) : List Int := l.map fun x => (x.1.length : Int)
/-- The lengths of the first k, then zeros. -/
def lensV (l : List (List Int × Value)) (k : Nat) : List Value := intV (lenI (l.take k)) ++ List.replicate (l.length - k) (.int .i64 0)
theorem lensV_zero (l : List (List Int × Value)) : lensV l 0 = List.replicate l.length (.int .i64 0) := by simp [lensV, lenI, intV]
theorem lensV_full (l : List (List Int × Value)) : lensV l l.length = intV (lenI l) := by simp [lensV]
theorem lensV_set (l : List (List Int × Value)) (k : Nat) (h : k < l.length) : (lensV l k).set k (.int .i64 (l[k].1.length : Int)) = lensV l (k + 1) := by
  unfold lensV
  have hl : (intV (lenI (l.take k))).length = k := by simp [intV, lenI]; omega
  rw [List.set_append_right _ _ (by omega), hl, Nat.sub_self, show l.length - k = (l.length - (k + 1)) + 1 by omega, List.replicate_succ, List.set_cons_zero, List.take_succ_eq_append_getElem h]
  simp only [intV, lenI, List.map_append, List.map_cons, List.map_nil, List.append_assoc, List.cons_append, List.nil_append]

set_option maxRecDepth 100000 in
set_option maxHeartbeats 2000000 in
theorem lengths_any (rs : List (List Int × Value)) (v : Value) (w : World) (hv : AllD w v rs) (hn : rs.length ≤ 100000) (hn2 : ∀ x ∈ rs, x.1.length ≤ 100000) :
    Calls Try.prog 38 #[v] w fun e w' => ∃ z, e = .returned z ∧ w'.ownsRow w.heap.size 3 1 z rs.length (intV (lenI rs)) ∧ Below w.heap.size w w' := by
  obtain ⟨ad, cap, rfl, hcap1, hcap2, hc⟩ := hv
  have HC := Lib.hid hc
  obtain ⟨n, hN⟩ : ∃ n, n = rs.length := ⟨_, rfl⟩
  rw [← hN] at hn ⊢
  have HN := Lib.hid hN
  have HN2 := Lib.hid hn2
  clear hN hc hn2 hcap1 hcap2
  go_enter Try.func38, Try.ntmps38
  go_wp2_with (refine make_int rfl (.tmp 6) (.tmp 6) rfl n rfl rfl (by omega) ?_)
  intro w1 ho hb
  have HO1 := Lib.hid ho
  have HB1 := Lib.hid hb
  clear ho hb
  go_wp2_with fail
  go_loopg [10] n (fun fuel i' wr => ∃ k : Nat, i' = .int .i64 k ∧ k ≤ n ∧ n - k ≤ fuel ∧ wr.ownsRow w.heap.size 3 1 (.slice (some ⟨w.heap.size, 0, none⟩) n n) n (lensV rs k) ∧ Below w.heap.size w wr)
  case atStart => exact ⟨0, rfl, Nat.zero_le _, Nat.le_refl _, by rw [lensV_zero, ← HN.out]; exact HO1.out, HB1.out⟩
  case round =>
    obtain ⟨k, rfl, hk, hf, ho, hb⟩ := hrel
    have HO := Lib.hid ho
    have HB := Lib.hid hb
    have hgw : w.heap.size < wr.heap.size := (ho.lt _ rfl).2
    have hww := hb.size
    clear hb
    by_cases hlt : k < n
    · have hk' : k < rs.length := by have := HN.out; omega
      obtain ⟨b, off, rfl, hbl, x0, x1⟩ := HC.out k hk'
      have hx2 := HN2.out _ (List.getElem_mem hk')
      have hset := (ho.stored k (.int .i64 (rs[k].1.length : Int))).1
      rw [lensV_set _ _ hk'] at hset
      have HSET := Lib.hid hset
      obtain ⟨⟨xl, xv⟩, hx⟩ : ∃ x, x = rs[k] := ⟨_, rfl⟩
      rw [← hx] at x0 x1 hx2 HSET
      simp only [] at x0 x1 hx2 HSET
      obtain ⟨ad3, cap3, rfl⟩ := x1.shape
      have c0 : wr.cell? ⟨b, off + k, none⟩ = some (.slice ad3 xl.length cap3) := (HB.out.cell (p := ⟨b, _, none⟩) hbl).trans (by rw [Nat.mul_one] at x0; exact x0)
      have hfz : wr.frozen? ⟨w.heap.size, k, none⟩ = false := ho.frozenAt _
      have hcl : ∃ u, wr.cell? ⟨w.heap.size, k, none⟩ = some u := by
        rw [ho.cellAt k (by omega)]
        exact ⟨_, List.getElem?_eq_getElem (by rw [ho.1]; omega)⟩
      obtain ⟨u, hcu⟩ := hcl
      obtain ⟨m, hm⟩ : ∃ m, xl.length = m := ⟨_, rfl⟩
      rw [hm] at c0 HSET hx2
      clear x0 x1 hx ho hset hm
      go_wp2
      go_roundg (gk - 1)
      case measure => omega
      case rel =>
        refine ⟨k + 1, by go_num, by omega, by omega, HSET.out, HB.out.setCell ?_ _⟩
        simp
    · obtain rfl : k = n := by omega
      go_wp2
      go_ret
      refine ⟨_, rfl, ?_, HB.out⟩
      have h := HO.out
      rw [HN.out, lensV_full, ← HN.out] at h
      exact h

theorem intsD_of_own {w : World} {B : Nat} {v : Value} {l : List Int} (h : w.ownsRow B 3 1 v l.length (intV l)) : IntsD w v l := by
  have hc := @World.ownsRow.cells _ _ _ _ _ _ _ h
  have hl := h.lt
  rcases h.2 with ⟨rfl, hn⟩ | ⟨g, cap, cur, rfl, _, hh, hle, hcm, _⟩
  · obtain rfl := List.eq_nil_of_length_eq_zero hn
    exact SlD.nil
  · refine ⟨_, cap, rfl, ⟨hle, fun h => by cases h⟩, by unfold maxLen at hcm; omega, fun i hi => ?_⟩
    refine ⟨g, 0, rfl, (hl g rfl).2, ?_⟩
    have r := hc (g := g) rfl i (.int .i64 l[i]) (by simp [intV, List.getElem?_eq_getElem hi])
    rw [addr_add'] at r
    unfold IntAt
    rw [Nat.zero_add, Nat.mul_one]
    exact r

end Go.Proofs.Ytibkegalbcjmpaa
