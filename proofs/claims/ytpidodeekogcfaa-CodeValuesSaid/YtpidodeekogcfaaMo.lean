/- Layer 6: the law's few numbers, its lengths, its copy. -/
import Derived.Test.YtpidodeekogcfaaMn
import Derived.Laws.AppendOwnNone
namespace Go.Proofs.Ytpidodeekogcfaa
open Go.RowKit

theorem ints_flat {w : World} {A : Addr} {n cap : Nat} {l : List Int} (h : IntsD w (.slice (some A) n cap) l) : ∀ j u, (intV l)[j]? = some u → w.cell? (A.add j) = some u := by
  intro j u hu
  obtain ⟨ad, cap', hv, _, _, hc⟩ := h
  injection hv with h1 h2 h3
  have hj : j < l.length := by
    have := (List.getElem?_eq_some_iff.1 hu).1
    simpa [intV] using this
  obtain ⟨b', off', hb', hlt, x0⟩ := hc j hj
  rw [← h1] at hb'
  injection hb' with hb'
  subst hb'
  have ha : (⟨b', off', none⟩ : Addr).add j = ⟨b', off' + j, none⟩ := by unfold Addr.add; split <;> simp_all
  rw [ha]
  unfold IntAt at x0
  rw [Nat.mul_one] at x0
  rw [x0]
  unfold intV at hu
  rw [List.getElem?_map, List.getElem?_eq_getElem hj] at hu
  exact hu

/-- append of a row of numbers to a row of one's own. -/
theorem append_ints {w : World} {ops : Array Oper} {rest : List Oper} {o : Oper} {a : Act} {Q : Exit → Act → World → Prop} (hgd : o.guard = none) (s x : Operand)
    (ho : o.op = .call { callee := .builtin .append, args := #[s, x], argTypes := #[38, 38] }) (base : Nat) (v xv : Value) (xs ys : List Int) (hs : a.eval s = v) (hx : a.eval x = xv)
    (hown : w.ownsRow base 3 1 v xs.length (intV xs)) (hys : IntsD w xv ys) (hn : xs.length + ys.length ≤ 1000000) (hbase : base ≤ w.heap.size)
    (h : ∀ v' w', w'.ownsRow base 3 1 v' (xs ++ ys).length (intV (xs ++ ys)) → Below base w w' → wpList Try.prog ops Q rest (a.put o.dst v') w') : wpList Try.prog ops Q (o :: rest) a w := by
  obtain ⟨i0, hi, hz0, hz1, hz2⟩ := info_parts info3
  obtain ⟨ad, cap, rfl, ⟨h1, h2⟩, _, _⟩ := id hys
  have hl : ∀ l : List Int, (intV l).length = l.length := fun l => by simp [intV]
  cases ad with
  | none =>
    have hc := h2 rfl
    subst hc
    obtain rfl : ys = [] := List.length_eq_zero_iff.1 (by omega)
    refine wpList_append_own_none hgd s x 38 ho base 3 i0 1 Try.underlying38 hi v xs.length (intV xs) hs hown hx ?_
    exact h v w (by rw [List.append_nil]; exact hown) (Below.refl _ _)
  | some A =>
    refine wpList_append_own _ hgd s x 38 ho base 3 i0 (.int .i64 0) 1 8 Try.underlying38 hi hz0 hz1 hz2 rfl (by decide) v xs.length (intV xs) hs hown A ys.length cap (intV ys) hx (by rw [hl, Nat.mul_one]) (ints_flat hys) ?_ (by unfold maxLen; omega) (by omega) hbase ?_
    · intro u hu
      obtain ⟨z, _, hz⟩ := List.mem_map.1 hu
      subst hz; rfl
    · intro v' w' h1 h2 _
      refine h v' w' ?_ ((Below.refl base w).grown h2 hbase (fun k hk => (hown.lt k hk).1))
      rw [List.length_append]
      have e : intV (xs ++ ys) = intV xs ++ intV ys := by simp [intV]
      rw [e]
      exact h1

def light6B (own : List Int) (rs : List (List Int × Value)) (mem : List Int) : Bool := decide (own.length ≤ 20) && (decide (rs.length ≤ 8) && (decide (mem.length ≤ 20) && rs.all fun x => decide (x.1.length ≤ 20)))

set_option maxRecDepth 100000 in
set_option maxHeartbeats 4000000 in
theorem light6_any (m : Int) (own : List Int) (rs : List (List Int × Value)) (mem : List Int) (ov av mv : Value) (w : World) (ho : IntsD w ov own) (ha : AllD w av rs) (hm : IntsD w mv mem) (h1 : own.length ≤ maxLen) (h2 : rs.length ≤ maxLen) (h3 : mem.length ≤ maxLen) (h4 : ∀ x ∈ rs, x.1.length ≤ maxLen) (b : Bool) (hb : light6B own rs mem = b) :
    Calls Try.prog 16 #[.agg #[.int .i64 m, ov, av, mv]] w fun e w' => e = .returned (.bool b) ∧ Below w.heap.size w w' := by
  have BB : Hid (Below w.heap.size w (w.alloc (.cells #[.int .i64 m, ov, av, mv] 41))) := Lib.hid ((Below.refl _ _).alloc (Nat.le_refl _) _)
  have KB := Lib.hid (Bk.new w 41 #[.int .i64 m, ov, av, mv])
  obtain ⟨ado, capo, rfl⟩ := ho.shape
  obtain ⟨ada, capa, rfl, _, _, hca⟩ := id ha
  obtain ⟨adm, capm, rfl⟩ := hm.shape
  have HCA := Lib.hid hca
  have H4 := Lib.hid h4
  unfold maxLen at h1 h2 h3
  obtain ⟨no, hno⟩ : ∃ n, n = own.length := ⟨_, rfl⟩
  obtain ⟨nm, hnm⟩ : ∃ n, n = mem.length := ⟨_, rfl⟩
  obtain ⟨na, hna⟩ : ∃ n, n = rs.length := ⟨_, rfl⟩
  unfold light6B at hb
  rw [← hno] at hb BB KB h1 ⊢
  rw [← hnm] at hb BB KB h3 ⊢
  rw [← hna] at hb BB KB h2 ⊢
  have HNA := Lib.hid hna
  clear ho ha hm hca h4 hno hnm hna
  by_cases g1 : 20 < no
  · have q1 : decide ((20 : Int) < (no : Int)) = true := decide_eq_true (by omega)
    have q2 : decide (20 < no) = true := decide_eq_true (by omega)
    rw [decide_eq_false (by omega : ¬ no ≤ 20)] at hb
    obtain rfl : b = false := hb.symm
    go_enter Try.func16, Try.ntmps16
    go_wp2
    go_ret
    exact ⟨rfl, BB.out⟩
  · have q1 : decide ((20 : Int) < (no : Int)) = false := decide_eq_false (by omega)
    have q2 : decide (20 < no) = false := decide_eq_false (by omega)
    rw [decide_eq_true (by omega : no ≤ 20), Bool.true_and] at hb
    by_cases g2 : 8 < na
    · have q3 : decide ((8 : Int) < (na : Int)) = true := decide_eq_true (by omega)
      have q4 : decide (8 < na) = true := decide_eq_true (by omega)
      rw [decide_eq_false (by omega : ¬ na ≤ 8)] at hb
      obtain rfl : b = false := hb.symm
      go_enter Try.func16, Try.ntmps16
      go_wp2
      go_ret
      exact ⟨rfl, BB.out⟩
    · have q3 : decide ((8 : Int) < (na : Int)) = false := decide_eq_false (by omega)
      have q4 : decide (8 < na) = false := decide_eq_false (by omega)
      rw [decide_eq_true (by omega : na ≤ 8), Bool.true_and] at hb
      by_cases g3 : 20 < nm
      · have q5 : decide ((20 : Int) < (nm : Int)) = true := decide_eq_true (by omega)
        have q6 : decide (20 < nm) = true := decide_eq_true (by omega)
        rw [decide_eq_false (by omega : ¬ nm ≤ 20)] at hb
        obtain rfl : b = false := hb.symm
        go_enter Try.func16, Try.ntmps16
        go_wp2
        go_ret
        exact ⟨rfl, BB.out⟩
      · have q5 : decide ((20 : Int) < (nm : Int)) = false := decide_eq_false (by omega)
        have q6 : decide (20 < nm) = false := decide_eq_false (by omega)
        rw [decide_eq_true (by omega : nm ≤ 20), Bool.true_and] at hb
        have HB0 : Hid ((rs.drop 0).all (fun x => decide (x.1.length ≤ 20)) = b) := Lib.hid hb
        obtain ⟨wb, hwb⟩ : ∃ wb, wb = w.alloc (.cells #[.int .i64 m, .slice ado no capo, .slice ada na capa, .slice adm nm capm] 41) := ⟨_, rfl⟩
        rw [← hwb] at BB KB
        have HWB := Lib.hid hwb
        clear hb hwb
        go_enter Try.func16, Try.ntmps16
        go_wp2_with fail
        rw [← HWB.out]
        have k2 := KB.out.cell 2
        have kl := KB.out.lt
        go_loopg [3] na (fun fuel i' wr => ∃ k : Nat, i' = .int .i64 k ∧ k ≤ na ∧ na - k ≤ fuel ∧ ((rs.drop k).all (fun x => decide (x.1.length ≤ 20))) = b ∧ wb = wr)
        case atStart => exact ⟨0, rfl, Nat.zero_le _, Nat.le_refl _, HB0.out, rfl⟩
        case round =>
          obtain ⟨k, rfl, hk, hf, ha, rfl⟩ := hrel
          have HA := Lib.hid ha
          clear ha
          by_cases hlt : k < na
          · have hk' : k < rs.length := by have := HNA.out; omega
            have HD := Lib.hid (List.drop_eq_getElem_cons hk')
            obtain ⟨g, off, rfl, hbl, x0, x1⟩ := HCA.out k hk'
            have hx2 := H4.out _ (List.getElem_mem hk')
            obtain ⟨⟨xl, xv⟩, hx⟩ : ∃ x, x = rs[k] := ⟨_, rfl⟩
            rw [← hx] at x0 x1 hx2 HD
            simp only [] at x0 x1 hx2
            obtain ⟨ad3, cap3, rfl⟩ := x1.shape
            have c0 : wb.cell? ⟨g, off + k, none⟩ = some (.slice ad3 xl.length cap3) := (BB.out.cell (p := ⟨g, _, none⟩) hbl).trans (by rw [Nat.mul_one] at x0; exact x0)
            have hgl : g < wb.heap.size := by have := BB.out.size; omega
            have hd := HD.out
            have HA2 : Hid ((decide (xl.length ≤ 20) && (rs.drop (k + 1)).all (fun x => decide (x.1.length ≤ 20))) = b) := Lib.hid (by rw [← HA.out, hd, List.all_cons])
            obtain ⟨nx, hnx⟩ : ∃ n, xl.length = n := ⟨_, rfl⟩
            rw [hnx] at c0 HA2 hx2
            unfold maxLen at hx2
            clear x0 x1 hx hd hnx HD HA
            by_cases g4 : 20 < nx
            · have q7 : decide ((20 : Int) < (nx : Int)) = true := decide_eq_true (by omega)
              have q8 : decide (20 < nx) = true := decide_eq_true (by omega)
              have hbb := HA2.out
              rw [decide_eq_false (by omega : ¬ nx ≤ 20), Bool.false_and] at hbb
              subst hbb
              go_wp2
              go_ret
              exact ⟨rfl, BB.out⟩
            · have q7 : decide ((20 : Int) < (nx : Int)) = false := decide_eq_false (by omega)
              have q8 : decide (20 < nx) = false := decide_eq_false (by omega)
              have hbb := HA2.out
              rw [decide_eq_true (by omega : nx ≤ 20), Bool.true_and] at hbb
              have HA3 := Lib.hid hbb
              clear hbb
              go_wp2
              go_roundg (gk - 1)
              case measure => omega
              case rel => exact ⟨k + 1, by go_num, by omega, by omega, HA3.out, rfl⟩
          · have hbt : b = true := by
              have h := HA.out
              rw [List.drop_eq_nil_of_le (by rw [← HNA.out]; omega)] at h
              exact h.symm
            subst hbt
            go_wp2
            go_ret
            exact ⟨rfl, BB.out⟩

set_option maxRecDepth 100000 in
set_option maxHeartbeats 4000000 in
theorem lengths6_any (m : Int) (rs : List (List Int × Value)) (ov av mv : Value) (w : World) (ha : AllD w av rs) (h2 : rs.length ≤ 100000) (h4 : ∀ x ∈ rs, x.1.length ≤ 100000) (ho : ∃ ad n cap, ov = .slice ad n cap) (hm : ∃ ad n cap, mv = .slice ad n cap) :
    Calls Try.prog 22 #[.agg #[.int .i64 m, ov, av, mv]] w fun e w' => ∃ z, e = .returned z ∧ IntsD w' z (lenI rs) ∧ Below w.heap.size w w' := by
  have BB : Hid (Below w.heap.size w (w.alloc (.cells #[.int .i64 m, ov, av, mv] 41))) := Lib.hid ((Below.refl _ _).alloc (Nat.le_refl _) _)
  have KB := Lib.hid (Bk.new w 41 #[.int .i64 m, ov, av, mv])
  obtain ⟨ado, no, capo, rfl⟩ := ho
  obtain ⟨ada, capa, rfl, _, _, hca⟩ := id ha
  obtain ⟨adm, nm, capm, rfl⟩ := hm
  have HCA := Lib.hid hca
  have H4 := Lib.hid h4
  obtain ⟨na, hna⟩ : ∃ n, n = rs.length := ⟨_, rfl⟩
  rw [← hna] at BB KB h2 ⊢
  have HNA := Lib.hid hna
  obtain ⟨wb, hwb⟩ : ∃ wb, wb = w.alloc (.cells #[.int .i64 m, .slice ado no capo, .slice ada na capa, .slice adm nm capm] 41) := ⟨_, rfl⟩
  rw [← hwb] at BB KB
  have HWB := Lib.hid hwb
  clear ha hca h4 hna hwb
  go_enter Try.func22, Try.ntmps22
  go_wp2_with fail
  rw [← HWB.out]
  go_loopg [3, 4] na (fun fuel v' i' wr => ∃ (k : Nat) (ad2 : Option Addr) (cap2 : Nat), i' = .int .i64 k ∧ k ≤ na ∧ na - k ≤ fuel ∧ v' = .slice ad2 k cap2 ∧ wr.ownsRow wb.heap.size 3 1 (.slice ad2 k cap2) k (lensK rs k) ∧ Below wb.heap.size wb wr)
  case atStart => exact ⟨0, none, 0, rfl, Nat.zero_le _, Nat.le_refl _, rfl, ⟨rfl, .inl ⟨rfl, rfl⟩⟩, Below.refl _ _⟩
  case round =>
    obtain ⟨k, ad2, cap2, rfl, hk, hf, rfl, ho, hb⟩ := hrel
    have HOW := Lib.hid ho
    have HB := Lib.hid hb
    have hsz := hb.size
    have k2 := (KB.out.below hb).cell 2
    have kl := (KB.out.below hb).lt
    clear ho hb
    by_cases hlt : k < na
    · have hk' : k < rs.length := by have := HNA.out; omega
      obtain ⟨g, off, rfl, hbl, x0, x1⟩ := HCA.out k hk'
      have hx2 := H4.out _ (List.getElem_mem hk')
      have hls := lensK_succ rs k hk'
      obtain ⟨⟨xl, xv⟩, hx⟩ : ∃ x, x = rs[k] := ⟨_, rfl⟩
      rw [← hx] at x0 x1 hx2 hls
      simp only [] at x0 x1 hx2 hls
      have HLS := Lib.hid hls
      obtain ⟨ad3, cap3, rfl⟩ := x1.shape
      have BW := Lib.hid (BB.out.trans (HB.out.mono BB.out.size))
      have c0 : wr.cell? ⟨g, off + k, none⟩ = some (.slice ad3 xl.length cap3) := (BW.out.cell (p := ⟨g, _, none⟩) hbl).trans (by rw [Nat.mul_one] at x0; exact x0)
      have hgl : g < wr.heap.size := by have := BW.out.size; omega
      obtain ⟨nx, hnx⟩ : ∃ n, xl.length = n := ⟨_, rfl⟩
      rw [hnx] at c0 HLS hx2
      clear x0 x1 hx hls hnx
      have L1 : Hid (Below wr.heap.size wr (wr.alloc (.cells #[.int .i64 nx] 3))) := (Below.refl _ _).alloc (Nat.le_refl _) _
      go_wp2_with (at_builtin; refine append_num rfl (.tmp 12) (.tmp 19) rfl wb.heap.size k (.slice ad2 k cap2) (lensK rs k) nx rfl wr.heap.size rfl (own_below HOW.out L1.out) (heap_alloc_new _ _) (by omega) (Nat.le_trans hsz L1.out.size) ?_; intro g' cap' w2 ho2 hb2)
      have B2 := Lib.hid (HB.out.trans ((L1.out.mono hsz).trans hb2))
      rw [← HLS.out] at ho2
      have O2 := Lib.hid ho2
      clear ho2 hb2 L1
      go_roundg (gk - 1)
      case measure => omega
      case rel => exact ⟨k + 1, _, cap', by go_num, by omega, by omega, rfl, O2.out, B2.out⟩
    · obtain rfl : k = na := by omega
      have ho := HOW.out
      rw [HNA.out, lensK_full _ _ (Nat.le_refl _), ← HNA.out] at ho
      have hll : (lenI rs).length = k := by rw [HNA.out]; simp [lenI]
      have HI := Lib.hid (intsD_of_own (l := lenI rs) (by rw [hll]; exact ho))
      clear ho hll HOW
      go_wp2
      go_ret
      exact ⟨_, rfl, HI.out, BB.out.trans (HB.out.mono BB.out.size)⟩

end Go.Proofs.Ytpidodeekogcfaa
