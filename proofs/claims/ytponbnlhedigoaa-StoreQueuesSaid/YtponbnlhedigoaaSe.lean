/- Layer 8: queues, Heads, Pop. -/
import Derived.Test.YtponbnlhedigoaaSd
namespace Go.Proofs.Ytponbnlhedigoaa
open Go.RowKit

/-- The locations that have an entry, behind one with location p. -/
def queF : Option Int → List Ent → List Int
  | _, [] => []
  | p, e :: r => if p = some e.1 then queF (some e.1) r else e.1 :: queF (some e.1) r
def prevL (l : List Ent) (k : Nat) : Option Int := if k = 0 then none else (l[k - 1]?).map (·.1)
theorem queF_at (l : List Ent) (k : Nat) (h : k < l.length) : queF (prevL l k) (l.drop k) = (if prevL l k = some l[k].1 then [] else [l[k].1]) ++ queF (prevL l (k + 1)) (l.drop (k + 1)) := by
  rw [List.drop_eq_getElem_cons h]
  have e : prevL l (k + 1) = some l[k].1 := by
    unfold prevL
    rw [if_neg (by omega), Nat.add_sub_cancel, List.getElem?_eq_getElem h]
    rfl
  rw [e, show queF (prevL l k) (l[k] :: l.drop (k + 1)) = if prevL l k = some l[k].1 then queF (some l[k].1) (l.drop (k + 1)) else l[k].1 :: queF (some l[k].1) (l.drop (k + 1)) from rfl]
  split <;> simp
theorem queF_over (l : List Ent) (k : Nat) (h : ¬ k < l.length) : queF (prevL l k) (l.drop k) = [] := by
  rw [drop_over l k h]; unfold queF; rfl

theorem info_int : (Try.prog.info? 3).map (fun i => (i.zero, i.size, i.bytes)) = some (some (.int .i64 0), 1, 8) := by kernel_rfl
def rowI (l : List Int) : List Value := l.flatMap fun x => [Value.int .i64 x]
theorem rowI_len (l : List Int) : (rowI l).length = l.length := by
  induction l with
  | nil => rfl
  | cons a r ih => simp only [rowI, List.flatMap_cons, List.length_append, List.length_cons] at ih ⊢; simp only [List.length_nil]; omega
theorem intsD_row {w : World} {B T : Nat} {v : Value} {l : List Int} (h : w.ownsRow B T 1 v l.length (rowI l)) : IntsD w v l := intsD_of_own h

/-- append of one number to a row of one's own. -/
theorem append_int {w : World} {ops : Array Oper} {rest : List Oper} {o : Oper} {a : Act} {Q : Exit → Act → World → Prop} (hgd : o.guard = none) (s x : Operand)
    (ho : o.op = .call { callee := .builtin .append, args := #[s, x], argTypes := #[31, 31] }) (base : Nat) (v : Value) (xs : List Int) (y : Int) (hs : a.eval s = v) (g : Nat) (hx : a.eval x = .slice (some ⟨g, 0, none⟩) 1 1)
    (hown : w.ownsRow base 3 1 v xs.length (rowI xs)) (hg : Bk w g 3 #[.int .i64 y]) (hn : xs.length ≤ 1000000) (hbase : base ≤ w.heap.size) (zs : List Int) (hz : xs ++ [y] = zs)
    (h : ∀ v' w', Hid (w'.ownsRow base 3 1 v' zs.length (rowI zs)) → Below base w w' → wpList Try.prog ops Q rest (a.put o.dst v') w') : wpList Try.prog ops Q (o :: rest) a w := by
  subst hz
  obtain ⟨i0, hi, hz0, hz1, hz2⟩ := info_parts info_int
  refine wpList_append_own _ hgd s x 31 ho base 3 i0 (.int .i64 0) 1 8 Try.underlying31 hi hz0 hz1 hz2 rfl (by decide) v xs.length (rowI xs) hs hown ⟨g, 0, none⟩ 1 1 [.int .i64 y] hx rfl (World.news_of_block hg) (fun u hu => by simp at hu; subst hu; rfl) (by unfold maxLen; omega) (by omega) hbase ?_
  intro v' w' h1 h2 _
  refine h v' w' ?_ ((Below.refl base w).grown h2 hbase (fun k hk => (hown.lt k hk).1))
  show World.ownsRow _ _ _ _ _ _ _
  rw [List.length_append, show rowI (xs ++ [y]) = rowI xs ++ [.int .i64 y] by simp [rowI]]
  exact h1

theorem own_shape' {w : World} {B n e size : Nat} {v : Value} {xs : List Value} (h : w.ownsRow B e size v n xs) : ∃ ad cap, v = .slice ad n cap ∧ True := by
  rcases h.2 with ⟨rfl, rfl⟩ | ⟨g, cap', cur, rfl, hb, hg, _⟩
  · exact ⟨none, 0, rfl, trivial⟩
  · exact ⟨_, cap', rfl, trivial⟩

set_option maxRecDepth 100000 in
set_option maxHeartbeats 2000000 in
theorem queues_any (l : List Ent) (v : Value) (w : World) (hv : EntsD w v l) (hn : l.length ≤ 100000) (z : List Int) (hz : queF none l = z) :
    Calls Try.prog 25 #[v] w fun e w' => ∃ v', e = .returned v' ∧ IntsD w' v' z ∧ Below w.heap.size w w' := by
  have HZ : Hid ([] ++ queF (prevL l 0) (l.drop 0) = z) := Lib.hid hz
  obtain ⟨ad, cap, rfl, hcap1, hcap2, hc⟩ := hv
  have HC := Lib.hid hc
  obtain ⟨n, hN⟩ : ∃ n, n = l.length := ⟨_, rfl⟩
  rw [← hN] at hn ⊢
  have HN := Lib.hid hN
  clear hN hc hcap1 hcap2 hz
  go_enter Try.func25, Try.ntmps25
  go_wp2_with fail
  go_loopg [3, 8] n (fun fuel lv' i' wr => ∃ (k : Nat) (acc : List Int), i' = .int .i64 k ∧ wr.ownsRow w.heap.size 3 1 lv' acc.length (rowI acc) ∧ k ≤ n ∧ n - k ≤ fuel ∧ acc.length ≤ k ∧ acc ++ queF (prevL l k) (l.drop k) = z ∧ Below w.heap.size w wr)
  case atStart => exact ⟨0, [], rfl, World.ownsRow_nil _ _ _ _, Nat.zero_le _, Nat.le_refl _, Nat.le_refl _, HZ.out, Below.refl _ _⟩
  case round =>
    obtain ⟨k, acc, rfl, how, hk, hf, hm, ha, hb⟩ := hrel
    have HA := Lib.hid ha
    have HB := Lib.hid hb
    have HO := Lib.hid how
    have hww := hb.size
    obtain ⟨ado, capo, rfl, _⟩ := own_shape' how
    clear ha hb how
    by_cases hlt : k < n
    · have hk' : k < l.length := by have := HN.out; omega
      have HE := Lib.hid (queF_at l k hk')
      obtain ⟨b, off, rfl, hbl, x0, x1⟩ := HC.out k hk'
      obtain ⟨⟨xl, xn⟩, hx⟩ : ∃ x, x = l[k] := ⟨_, rfl⟩
      rw [← hx] at x0 x1 HE
      simp only [] at x0 x1 HE
      have c0 : wr.cell? ⟨b, off + k * 2, none⟩ = some (.int .i64 xl) := (HB.out.cell (p := ⟨b, _, none⟩) hbl).trans x0
      have c1 : wr.cell? ⟨b, off + k * 2 + 1, none⟩ = some (.int .i64 xn) := (HB.out.cell (p := ⟨b, _, none⟩) hbl).trans x1
      have K1 := Lib.hid (Bk.new wr 25 #[.int .i64 xl, .int .i64 xn])
      have L1 : Hid (Below wr.heap.size wr (wr.alloc (.cells #[.int .i64 xl, .int .i64 xn] 25))) := (Below.refl _ _).alloc (Nat.le_refl _) _
      clear x0 x1 hx
      by_cases h0 : k = 0
      · have qk : ((k : Int) == 0) = true := by rw [h0]; rfl
        rw [show prevL l k = none by rw [h0]; rfl, if_neg (by simp)] at HE
        rw [show queF (prevL l k) (l.drop k) = queF none (l.drop k) by rw [h0]; rfl] at HA
        clear h0
        go_wp2_with fail
        generalize wr.alloc _ = w1 at K1 L1 ⊢
        have HQ := Lib.hid (fun q => (⟨(K1.out.below (below_drewN' (Below.refl _ _) q)), own_below HO.out (below_drewN' L1.out q), below_drewN' (HB.out.trans (L1.out.mono hww)) q⟩ : Bk (w1.drewN q) wr.heap.size 25 #[.int .i64 xl, .int .i64 xn] ∧ (w1.drewN q).ownsRow w.heap.size 3 1 (.slice ado acc.length capo) acc.length (rowI acc) ∧ Below w.heap.size w (w1.drewN q)))
        have c3 : w1.cell? ⟨wr.heap.size, 0, none⟩ = some (.int .i64 xl) := K1.out.cell 0
        have hlt3 := K1.out.lt
        clear c0 c1 K1 L1 HO
        go_quiet (fail)
        obtain ⟨K2, O2, B2⟩ := HQ.out nq
        generalize w1.drewN nq = w2 at K2 O2 B2 ⊢
        have HO2 := Lib.hid O2
        have HB2 := Lib.hid B2
        have c4 : w2.cell? ⟨wr.heap.size, 0, none⟩ = some (.int .i64 xl) := K2.cell 0
        have hlt4 := K2.lt
        clear HQ K2 O2 B2
        have K5 := Lib.hid (Bk.new w2 3 #[.int .i64 xl])
        have L5 : Hid (Below w2.heap.size w2 (w2.alloc (.cells #[.int .i64 xl] 3))) := (Below.refl _ _).alloc (Nat.le_refl _) _
        have B5 := Lib.hid (HB2.out.trans (L5.out.mono HB2.out.size))
        have O5 := Lib.hid (own_below HO2.out L5.out)
        obtain ⟨zs, hzs⟩ : ∃ zs, acc ++ [xl] = zs := ⟨_, rfl⟩
        have hzl : zs.length ≤ k + 1 := by rw [← hzs, List.length_append]; simp only [List.length_cons, List.length_nil]; omega
        have hal : acc.length ≤ 1000000 := by omega
        have HZS := Lib.hid hzs
        clear hzs
        go_wp2_with (at_builtin; refine append_int rfl (.tmp 26) (.tmp 29) rfl w.heap.size (.slice ado acc.length capo) acc xl rfl w2.heap.size rfl O5.out K5.out hal B5.out.size zs HZS.out ?_)
        intro v6 w6 O6 b6
        have B6 := Lib.hid (B5.out.trans b6)
        obtain ⟨ad6, cap6, rfl, _⟩ := own_shape' O6.out
        clear b6
        go_wp2
        go_roundg (gk - 1)
        case measure => omega
        case rel =>
          refine ⟨k + 1, zs, by go_num, O6.out, by omega, by omega, hzl, ?_, B6.out⟩
          have h2 := HA.out
          rw [HE.out, ← List.append_assoc, HZS.out] at h2
          exact h2
      · obtain ⟨j, hj⟩ : ∃ j, k = j + 1 := ⟨k - 1, by omega⟩
        have qk : ((k : Int) == 0) = false := by simpa using h0
        have hj' : j < l.length := by omega
        have hpv : prevL l k = some l[j].1 := by
          unfold prevL
          rw [if_neg h0, show k - 1 = j by omega, List.getElem?_eq_getElem hj']
          rfl
        obtain ⟨b2, off2, hb2, _, y0, y1⟩ := HC.out j hj'
        cases hb2
        obtain ⟨⟨pl, pn⟩, hp⟩ : ∃ x, x = l[j] := ⟨_, rfl⟩
        rw [← hp] at y0 hpv
        simp only [] at y0 hpv
        rw [hpv] at HE HA
        have c5 : wr.cell? ⟨b, off + j * 2, none⟩ = some (.int .i64 pl) := (HB.out.cell (p := ⟨b, _, none⟩) hbl).trans y0
        have ew : IntKind.i64.wrap ((k : Int) - 1) = (j : Int) := by rw [IntKind.wrap_i64]; omega
        have g0 : (0 : Int) ≤ (j : Int) := Int.natCast_nonneg _
        have g1 : (j : Int) < (n : Int) := by omega
        have g2 : j < n := by omega
        have hbr : b < wr.heap.size := Nat.lt_of_lt_of_le hbl hww
        clear h0 hj hj' y0 y1 hp
        by_cases h1 : pl = xl
        · subst h1
          rw [if_pos rfl] at HE
          have q1 : (pl == pl) = true := by simp
          go_wp2_with fail
          generalize wr.alloc _ = w1 at K1 L1 ⊢
          have HQ := Lib.hid (fun q => (⟨(K1.out.below (below_drewN' (Below.refl _ _) q)), own_below HO.out (below_drewN' L1.out q), below_drewN' (HB.out.trans (L1.out.mono hww)) q⟩ : Bk (w1.drewN q) wr.heap.size 25 #[.int .i64 pl, .int .i64 xn] ∧ (w1.drewN q).ownsRow w.heap.size 3 1 (.slice ado acc.length capo) acc.length (rowI acc) ∧ Below w.heap.size w (w1.drewN q)))
          have c3 : w1.cell? ⟨wr.heap.size, 0, none⟩ = some (.int .i64 pl) := K1.out.cell 0
          have c6 : w1.cell? ⟨b, off + j * 2, none⟩ = some (.int .i64 pl) := (L1.out.cell (p := ⟨b, _, none⟩) hbr).trans c5
          have hlt3 := K1.out.lt
          clear c0 c1 K1 L1 HO
          go_quiet (fail)
          obtain ⟨K2, O2, B2⟩ := HQ.out nq
          generalize w1.drewN nq = w2 at K2 O2 B2 ⊢
          have HO2 := Lib.hid O2
          have HB2 := Lib.hid B2
          have c4 : w2.cell? ⟨wr.heap.size, 0, none⟩ = some (.int .i64 pl) := K2.cell 0
          have hlt4 := K2.lt
          clear HQ K2 O2 B2
          go_wp2
          go_roundg (gk - 1)
          case measure => omega
          case rel =>
            refine ⟨k + 1, acc, by go_num, HO2.out, by omega, by omega, by omega, ?_, HB2.out⟩
            have h2 := HA.out
            rw [HE.out, List.nil_append] at h2
            exact h2
        · have q1 : (xl == pl) = false := by simpa using fun h => h1 h.symm
          have q2 : (xl != pl) = true := by simpa using fun h => h1 h.symm
          rw [if_neg (by simpa using h1)] at HE
          clear h1
          go_wp2_with fail
          generalize wr.alloc _ = w1 at K1 L1 ⊢
          have HQ := Lib.hid (fun q => (⟨(K1.out.below (below_drewN' (Below.refl _ _) q)), own_below HO.out (below_drewN' L1.out q), below_drewN' (HB.out.trans (L1.out.mono hww)) q⟩ : Bk (w1.drewN q) wr.heap.size 25 #[.int .i64 xl, .int .i64 xn] ∧ (w1.drewN q).ownsRow w.heap.size 3 1 (.slice ado acc.length capo) acc.length (rowI acc) ∧ Below w.heap.size w (w1.drewN q)))
          have c3 : w1.cell? ⟨wr.heap.size, 0, none⟩ = some (.int .i64 xl) := K1.out.cell 0
          have c6 : w1.cell? ⟨b, off + j * 2, none⟩ = some (.int .i64 pl) := (L1.out.cell (p := ⟨b, _, none⟩) hbr).trans c5
          have hlt3 := K1.out.lt
          clear c0 c1 K1 L1 HO
          go_quiet (fail)
          obtain ⟨K2, O2, B2⟩ := HQ.out nq
          generalize w1.drewN nq = w2 at K2 O2 B2 ⊢
          have HO2 := Lib.hid O2
          have HB2 := Lib.hid B2
          have c4 : w2.cell? ⟨wr.heap.size, 0, none⟩ = some (.int .i64 xl) := K2.cell 0
          have hlt4 := K2.lt
          clear HQ K2 O2 B2
          have K5 := Lib.hid (Bk.new w2 3 #[.int .i64 xl])
          have L5 : Hid (Below w2.heap.size w2 (w2.alloc (.cells #[.int .i64 xl] 3))) := (Below.refl _ _).alloc (Nat.le_refl _) _
          have B5 := Lib.hid (HB2.out.trans (L5.out.mono HB2.out.size))
          have O5 := Lib.hid (own_below HO2.out L5.out)
          obtain ⟨zs, hzs⟩ : ∃ zs, acc ++ [xl] = zs := ⟨_, rfl⟩
          have hzl : zs.length ≤ k + 1 := by rw [← hzs, List.length_append]; simp only [List.length_cons, List.length_nil]; omega
          have hal : acc.length ≤ 1000000 := by omega
          have HZS := Lib.hid hzs
          clear hzs
          go_wp2_with (at_builtin; refine append_int rfl (.tmp 26) (.tmp 29) rfl w.heap.size (.slice ado acc.length capo) acc xl rfl w2.heap.size rfl O5.out K5.out hal B5.out.size zs HZS.out ?_)
          intro v6 w6 O6 b6
          have B6 := Lib.hid (B5.out.trans b6)
          obtain ⟨ad6, cap6, rfl, _⟩ := own_shape' O6.out
          clear b6
          go_wp2
          go_roundg (gk - 1)
          case measure => omega
          case rel =>
            refine ⟨k + 1, zs, by go_num, O6.out, by omega, by omega, hzl, ?_, B6.out⟩
            have h2 := HA.out
            rw [HE.out, ← List.append_assoc, HZS.out] at h2
            exact h2
    · have HE := Lib.hid (queF_over l k (by have := HN.out; omega))
      go_wp2
      go_ret
      refine ⟨_, rfl, ?_, HB.out⟩
      have h2 := HA.out
      rw [HE.out, List.append_nil] at h2
      rw [← h2]
      exact intsD_row HO.out

/-- The locations whose stores are next. -/
def headsL (l : List Ent) (model : Int) : List Int := if model = 2 then (match l with | [] => [] | e :: _ => [e.1]) else if model = 3 then queF none l else []

set_option maxRecDepth 100000 in
set_option maxHeartbeats 2000000 in
theorem heads_any (l : List Ent) (v : Value) (model : Int) (w : World) (hv : EntsD w v l) (hn : l.length ≤ 100000) (z : List Int) (hz : headsL l model = z) :
    Calls Try.prog 11 #[v, .int .i64 model] w fun e w' => ∃ v', e = .returned v' ∧ IntsD w' v' z ∧ Below w.heap.size w w' := by
  by_cases h2 : model = 2
  · subst h2
    cases l with
    | nil =>
      obtain ⟨ad, cap, rfl, _⟩ := hv.shape
      have HZ : Hid ([] = z) := Lib.hid hz
      clear hv hz
      go_enter Try.func11, Try.ntmps11
      go_wp2
      go_ret
      exact ⟨_, rfl, by rw [← HZ.out]; exact SlD.nil, Below.refl _ _⟩
    | cons x0 r =>
      obtain ⟨ad, cap, rfl, hcap1, hcap2, hc⟩ := hv
      obtain ⟨b, off, rfl, hbl, x1, x2⟩ := hc 0 (by simp)
      obtain ⟨xl, xn⟩ := x0
      simp only [List.getElem_cons_zero, Nat.zero_mul, Nat.add_zero] at x1 x2
      have HZ : Hid ([xl] = z) := Lib.hid hz
      have hlen : (((xl, xn) :: r : List Ent).length : Nat) = r.length + 1 := rfl
      rw [hlen]
      generalize r.length = m
      clear hz hc hcap1 hcap2 hn hlen x2
      have g0 : (0 : Int) < ((m + 1 : Nat) : Int) := by omega
      have g0' : (0 : Int) < (m : Int) + 1 := by omega
      have g1 : 0 < m + 1 := Nat.succ_pos m
      have K5 := Lib.hid (Bk.new w 3 #[.int .i64 xl])
      have L5 : Hid (Below w.heap.size w (w.alloc (.cells #[.int .i64 xl] 3))) := (Below.refl _ _).alloc (Nat.le_refl _) _
      go_enter Try.func11, Try.ntmps11
      go_wp2
      go_ret
      exact ⟨_, rfl, by rw [← HZ.out]; exact intsD_of_bk (xs := [xl]) K5.out rfl (show 1 ≤ 1000000 by decide), L5.out⟩
  · by_cases h3 : model = 3
    · subst h3
      have H := Lib.hid (queues_any l v w hv hn z (by rw [← hz]; rfl))
      obtain ⟨ad, cap, rfl, _⟩ := hv.shape
      generalize l.length = n at H hn
      clear hv hz h2
      go_enter Try.func11, Try.ntmps11
      go_wp2_with fail
      refine H.out.mono ?_
      rintro e w2 ⟨v2, rfl, d2, b2⟩
      have D2 := Lib.hid d2
      have B2 := Lib.hid b2
      obtain ⟨ad2, cap2, rfl, _⟩ := d2.shape
      clear d2 b2
      go_wp2
      go_ret
      exact ⟨_, rfl, D2.out, B2.out⟩
    · have q2 : (model == 2) = false := by simpa using h2
      have q3 : (model == 3) = false := by simpa using h3
      have HZ : Hid ([] = z) := Lib.hid (by rw [← hz]; unfold headsL; rw [if_neg h2, if_neg h3])
      obtain ⟨ad, cap, rfl, _⟩ := hv.shape
      generalize l.length = n
      clear hv hz
      go_enter Try.func11, Try.ntmps11
      go_wp2
      go_ret
      exact ⟨_, rfl, by rw [← HZ.out]; exact SlD.nil, Below.refl _ _⟩

end Go.Proofs.Ytponbnlhedigoaa
