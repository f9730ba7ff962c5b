/- Layer 6: the value of code in the reference: its parts. Layer 6: the value of code in the reference: the whole. Layer 10: the reference's value of an expression of a thread. -/
import Derived.Test.YtacbanfnakgecaaGreatXh
namespace Go.Proofs.YtacbanfnakgecaaGreat
set_option linter.unusedSimpArgs false
set_option linter.unusedVariables false
open Go.RowKit
theorem tru_beq (a b : Int) : tru (a == b) = tru (decide (a = b)) := rfl
theorem tru_bne (a b : Int) : tru (a != b) = tru (decide (a ≠ b)) := by
  congr 1
  by_cases h : a = b <;> simp [h]
set_option maxRecDepth 100000 in
set_option maxHeartbeats 1000000 in
set_option linter.unusedVariables false in
theorem rtwo6 (a b m : Int) (w : World) (hm1 : 2 ≤ m) (hm2 : m ≤ 16) (ha1 : 0 ≤ a) (ha2 : a < m) (hb1 : 0 ≤ b) (hb2 : b < m) :
    Calls Tryz.prog 91 #[.int .i64 6, .int .i64 a, .int .i64 b, .int .i64 m] w fun e w' => e = .returned (.int .i64 (twoO 6 a b m)) ∧ w = w' := by
  have hmz : ¬ m = 0 := by omega
  go_enter Tryz.func91, Tryz.ntmps91
  go_wp2
  go_ret
  exact ⟨rfl, rfl⟩
set_option maxRecDepth 100000 in
set_option maxHeartbeats 1000000 in
set_option linter.unusedVariables false in
theorem rtwo7 (a b m : Int) (w : World) (hm1 : 2 ≤ m) (hm2 : m ≤ 16) (ha1 : 0 ≤ a) (ha2 : a < m) (hb1 : 0 ≤ b) (hb2 : b < m) :
    Calls Tryz.prog 91 #[.int .i64 7, .int .i64 a, .int .i64 b, .int .i64 m] w fun e w' => e = .returned (.int .i64 (twoO 7 a b m)) ∧ w = w' := by
  have hx1 : 0 ≤ a - b + m := by omega
  have hmz : ¬ m = 0 := by omega
  go_enter Tryz.func91, Tryz.ntmps91
  go_wp2
  go_ret
  exact ⟨rfl, rfl⟩
set_option maxRecDepth 100000 in
set_option maxHeartbeats 1000000 in
set_option linter.unusedVariables false in
theorem rtwo8 (a b m : Int) (w : World) (hm1 : 2 ≤ m) (hm2 : m ≤ 16) (ha1 : 0 ≤ a) (ha2 : a < m) (hb1 : 0 ≤ b) (hb2 : b < m) :
    Calls Tryz.prog 91 #[.int .i64 8, .int .i64 a, .int .i64 b, .int .i64 m] w fun e w' => e = .returned (.int .i64 (twoO 8 a b m)) ∧ w = w' := by
  have hx1 : 0 ≤ a * b := Int.mul_nonneg ha1 hb1
  have hx2 : a * b ≤ 15 * 15 := Int.mul_le_mul (by omega) (by omega) hb1 (by omega)
  have hmz : ¬ m = 0 := by omega
  go_enter Tryz.func91, Tryz.ntmps91
  go_wp2
  go_ret
  exact ⟨rfl, rfl⟩
set_option maxRecDepth 100000 in
set_option maxHeartbeats 1000000 in
set_option linter.unusedVariables false in
theorem rtwo9 (a b m : Int) (w : World) (hm1 : 2 ≤ m) (hm2 : m ≤ 16) (ha1 : 0 ≤ a) (ha2 : a < m) (hb1 : 0 ≤ b) (hb2 : b < m) :
    Calls Tryz.prog 91 #[.int .i64 9, .int .i64 a, .int .i64 b, .int .i64 m] w fun e w' => e = .returned (.int .i64 (twoO 9 a b m)) ∧ w = w' := by
  go_enter Tryz.func91, Tryz.ntmps91
  go_wp2_with (go_at_call 90; refine (rtruth_any _ _).mono ?_; rintro e w2 ⟨rfl, rfl⟩)
  go_ret
  exact ⟨ret_int (by first | rfl | exact tru_beq _ _ | exact tru_bne _ _), rfl⟩
set_option maxRecDepth 100000 in
set_option maxHeartbeats 1000000 in
set_option linter.unusedVariables false in
theorem rtwo10 (a b m : Int) (w : World) (hm1 : 2 ≤ m) (hm2 : m ≤ 16) (ha1 : 0 ≤ a) (ha2 : a < m) (hb1 : 0 ≤ b) (hb2 : b < m) :
    Calls Tryz.prog 91 #[.int .i64 10, .int .i64 a, .int .i64 b, .int .i64 m] w fun e w' => e = .returned (.int .i64 (twoO 10 a b m)) ∧ w = w' := by
  go_enter Tryz.func91, Tryz.ntmps91
  go_wp2_with (go_at_call 90; refine (rtruth_any _ _).mono ?_; rintro e w2 ⟨rfl, rfl⟩)
  go_ret
  exact ⟨ret_int (by first | rfl | exact tru_beq _ _ | exact tru_bne _ _), rfl⟩
set_option maxRecDepth 100000 in
set_option maxHeartbeats 1000000 in
set_option linter.unusedVariables false in
theorem rtwo11 (a b m : Int) (w : World) (hm1 : 2 ≤ m) (hm2 : m ≤ 16) (ha1 : 0 ≤ a) (ha2 : a < m) (hb1 : 0 ≤ b) (hb2 : b < m) :
    Calls Tryz.prog 91 #[.int .i64 11, .int .i64 a, .int .i64 b, .int .i64 m] w fun e w' => e = .returned (.int .i64 (twoO 11 a b m)) ∧ w = w' := by
  go_enter Tryz.func91, Tryz.ntmps91
  go_wp2_with (go_at_call 90; refine (rtruth_any _ _).mono ?_; rintro e w2 ⟨rfl, rfl⟩)
  go_ret
  exact ⟨ret_int (by first | rfl | exact tru_beq _ _ | exact tru_bne _ _), rfl⟩
set_option maxRecDepth 100000 in
set_option maxHeartbeats 1000000 in
set_option linter.unusedVariables false in
theorem rtwo12 (a b m : Int) (w : World) (hm1 : 2 ≤ m) (hm2 : m ≤ 16) (ha1 : 0 ≤ a) (ha2 : a < m) (hb1 : 0 ≤ b) (hb2 : b < m) :
    Calls Tryz.prog 91 #[.int .i64 12, .int .i64 a, .int .i64 b, .int .i64 m] w fun e w' => e = .returned (.int .i64 (twoO 12 a b m)) ∧ w = w' := by
  go_enter Tryz.func91, Tryz.ntmps91
  go_wp2_with (go_at_call 90; refine (rtruth_any _ _).mono ?_; rintro e w2 ⟨rfl, rfl⟩)
  go_ret
  exact ⟨ret_int (by first | rfl | exact tru_beq _ _ | exact tru_bne _ _), rfl⟩
set_option maxRecDepth 100000 in
set_option maxHeartbeats 1000000 in
set_option linter.unusedVariables false in
theorem rtwo13 (a b m : Int) (w : World) (hm1 : 2 ≤ m) (hm2 : m ≤ 16) (ha1 : 0 ≤ a) (ha2 : a < m) (hb1 : 0 ≤ b) (hb2 : b < m) :
    Calls Tryz.prog 91 #[.int .i64 13, .int .i64 a, .int .i64 b, .int .i64 m] w fun e w' => e = .returned (.int .i64 (twoO 13 a b m)) ∧ w = w' := by
  by_cases h3 : a = 0
  · subst h3
    go_enter Tryz.func91, Tryz.ntmps91
    go_wp2_with (go_at_call 90; refine (rtruth_any _ _).mono ?_; rintro e w2 ⟨rfl, rfl⟩)
    all_goals
      go_ret
      exact ⟨ret_int (by unfold twoO; simp <;> rfl), rfl⟩
  · have h4 : (a == 0) = false := by simpa using h3
    have h5 : (a != 0) = true := by simpa using h3
    have H3 := Lib.hid h3
    clear h3
    go_enter Tryz.func91, Tryz.ntmps91
    go_wp2_with (go_at_call 90; refine (rtruth_any _ _).mono ?_; rintro e w2 ⟨rfl, rfl⟩)
    all_goals
      go_ret
      exact ⟨ret_int (by have := H3.out; unfold twoO; simp [this] <;> rfl), rfl⟩
set_option maxRecDepth 100000 in
set_option maxHeartbeats 1000000 in
set_option linter.unusedVariables false in
theorem rtwo14 (a b m : Int) (w : World) (hm1 : 2 ≤ m) (hm2 : m ≤ 16) (ha1 : 0 ≤ a) (ha2 : a < m) (hb1 : 0 ≤ b) (hb2 : b < m) :
    Calls Tryz.prog 91 #[.int .i64 14, .int .i64 a, .int .i64 b, .int .i64 m] w fun e w' => e = .returned (.int .i64 (twoO 14 a b m)) ∧ w = w' := by
  by_cases h3 : a = 0
  · subst h3
    go_enter Tryz.func91, Tryz.ntmps91
    go_wp2_with (go_at_call 90; refine (rtruth_any _ _).mono ?_; rintro e w2 ⟨rfl, rfl⟩)
    all_goals
      go_ret
      exact ⟨ret_int (by unfold twoO; simp <;> rfl), rfl⟩
  · have h4 : (a == 0) = false := by simpa using h3
    have h5 : (a != 0) = true := by simpa using h3
    have H3 := Lib.hid h3
    clear h3
    go_enter Tryz.func91, Tryz.ntmps91
    go_wp2_with (go_at_call 90; refine (rtruth_any _ _).mono ?_; rintro e w2 ⟨rfl, rfl⟩)
    all_goals
      go_ret
      exact ⟨ret_int (by have := H3.out; unfold twoO; simp [this] <;> rfl), rfl⟩
theorem rtwo_any (op : Int) (h1 : 6 ≤ op) (h2 : op ≤ 14) (a b m : Int) (w : World) (hm : 2 ≤ m ∧ m ≤ 16) (ha : 0 ≤ a ∧ a < m) (hb : 0 ≤ b ∧ b < m) :
    Calls Tryz.prog 91 #[.int .i64 op, .int .i64 a, .int .i64 b, .int .i64 m] w fun e w' => e = .returned (.int .i64 (twoO op a b m)) ∧ w = w' := by
  rcases op_cases op h1 h2 with rfl | rfl | rfl | rfl | rfl | rfl | rfl | rfl | rfl
  · exact rtwo6 a b m w hm.1 hm.2 ha.1 ha.2 hb.1 hb.2
  · exact rtwo7 a b m w hm.1 hm.2 ha.1 ha.2 hb.1 hb.2
  · exact rtwo8 a b m w hm.1 hm.2 ha.1 ha.2 hb.1 hb.2
  · exact rtwo9 a b m w hm.1 hm.2 ha.1 ha.2 hb.1 hb.2
  · exact rtwo10 a b m w hm.1 hm.2 ha.1 ha.2 hb.1 hb.2
  · exact rtwo11 a b m w hm.1 hm.2 ha.1 ha.2 hb.1 hb.2
  · exact rtwo12 a b m w hm.1 hm.2 ha.1 ha.2 hb.1 hb.2
  · exact rtwo13 a b m w hm.1 hm.2 ha.1 ha.2 hb.1 hb.2
  · exact rtwo14 a b m w hm.1 hm.2 ha.1 ha.2 hb.1 hb.2
set_option maxRecDepth 100000 in
set_option maxHeartbeats 2000000 in
theorem rall_any (l : List Int) (v : Value) (m : Int) (w : World) (hv : IntsD w v l) (hn : l.length ≤ 100000) (b : Bool) (hb : allB m l = b) :
    Calls Tryz.prog 50 #[v, .int .i64 m] w fun e w' => e = .returned (.bool b) ∧ w = w' := by
  have HB0 : Hid ((l.drop 0).all (okI m) = b) := Lib.hid hb
  obtain ⟨ad, cap, rfl, _, _, hc⟩ := hv
  have HC := Lib.hid hc
  obtain ⟨n, hN⟩ : ∃ n, n = l.length := ⟨_, rfl⟩
  rw [← hN] at hn ⊢
  have HN := Lib.hid hN
  clear hN hc hb
  go_enter Tryz.func50, Tryz.ntmps50
  go_wp2_with fail
  go_loopg [5] n (fun fuel i' wr => ∃ k : Nat, i' = .int .i64 k ∧ k ≤ n ∧ n - k ≤ fuel ∧ ((l.drop k).all (okI m)) = b ∧ w = wr)
  case atStart => exact ⟨0, rfl, Nat.zero_le _, Nat.le_refl _, HB0.out, rfl⟩
  case round =>
    obtain ⟨k, rfl, hk, hf, ha, rfl⟩ := hrel
    have HA := Lib.hid ha
    clear ha
    by_cases hlt : k < n
    · have hk' : k < l.length := by have := HN.out; omega
      have HD := Lib.hid (List.drop_eq_getElem_cons hk')
      obtain ⟨g, off, rfl, hbl, x0⟩ := HC.out k hk'
      obtain ⟨x, hx⟩ : ∃ x, x = l[k] := ⟨_, rfl⟩
      rw [← hx] at x0 HD
      have c0 : w.cell? ⟨g, off + k, none⟩ = some (.int .i64 x) := by unfold IntAt at x0; rw [Nat.mul_one] at x0; exact x0
      clear x0 hx
      obtain ⟨q, hq⟩ : ∃ q, okI m x = q := ⟨_, rfl⟩
      have H := Lib.hid (rin_is x m q hq)
      have HQ := Lib.hid hq
      clear hq
      cases q with
      | true =>
        go_wp2_with (go_at_call 72; refine (H.out _).mono ?_; rintro e w2 ⟨rfl, rfl⟩)
        go_roundg (gk - 1)
        case measure => omega
        case rel =>
          refine ⟨k + 1, by go_num, by omega, by omega, ?_, rfl⟩
          have h2 := HA.out
          rw [HD.out, List.all_cons, HQ.out] at h2
          simpa using h2
      | false =>
        go_wp2_with (go_at_call 72; refine (H.out _).mono ?_; rintro e w2 ⟨rfl, rfl⟩)
        go_ret
        refine ⟨ret_bool ?_, rfl⟩
        rw [← HA.out, HD.out, List.all_cons, HQ.out]; rfl
    · have HE := Lib.hid (drop_over l k (by have := HN.out; omega))
      go_wp2
      go_ret
      exact ⟨ret_bool (by rw [← HA.out, HE.out]; rfl), rfl⟩
theorem rdO_lt (s : Nbs) (o : Opn) (hN : rightN s = true) (hok : okO (s.all.map fun x => (x.length : Int)) s.own.length s.mem.length o = true) (h : o.op = 2 ∨ o.op = 3 ∨ o.op = 4) : 0 ≤ rdO s o ∧ rdO s o < s.mod := by
  unfold rightN at hN
  rw [Bool.and_eq_true, Bool.and_eq_true, Bool.and_eq_true] at hN
  obtain ⟨h1, h2, h3, h4⟩ := hN
  unfold rdO
  unfold okO at hok
  rw [if_neg (by omega)] at hok
  by_cases g2 : o.op = 2
  · rw [if_pos g2] at hok ⊢
    have := of_decide_eq_true hok
    exact getD_all _ _ h2 o.n.toNat (by omega)
  · rw [if_neg g2] at hok ⊢
    by_cases g3 : o.op = 3
    · rw [if_pos g3] at hok ⊢
      have := of_decide_eq_true hok
      exact getD_all _ _ h3 o.n.toNat (by omega)
    · rw [if_neg g3] at hok ⊢
      have g4 : o.op = 4 := by omega
      rw [if_pos g4] at hok ⊢
      rw [Bool.and_eq_true] at hok
      obtain ⟨k1, k2⟩ := hok
      have k1 := of_decide_eq_true k1
      rw [List.length_map] at k1
      have hx : o.t.toNat < s.all.length := by omega
      have k2 := of_decide_eq_true k2
      rw [List.getD_eq_getElem?_getD, List.getElem?_map, List.getElem?_eq_getElem hx, Option.map_some, Option.getD_some] at k2
      have hd : s.all.getD o.t.toNat [] = s.all[o.t.toNat] := by rw [List.getD_eq_getElem?_getD, List.getElem?_eq_getElem hx, Option.getD_some]
      rw [hd]
      exact getD_all _ _ (List.all_eq_true.1 h4 _ (List.getElem_mem hx)) o.n.toNat (by omega)
theorem set_last (xs : List Value) (x u : Value) (q : Nat) (h : xs.length = q) : (xs ++ [x]).set q u = xs ++ [u] := by
  rw [List.set_append_right _ _ (by omega), h, Nat.sub_self]; rfl
theorem set_last2 (xs : List Value) (x y u : Value) (q : Nat) (h : xs.length = q) : (xs ++ [x] ++ [y]).set q u = xs ++ [u] ++ [y] := by
  rw [List.append_assoc, List.set_append_right _ _ (by omega), h, Nat.sub_self, List.append_assoc]; rfl
theorem lensV_succ (l : List (List Int × Value)) (k : Nat) (h : k < l.length) : intV (lenI (l.take (k + 1))) = intV (lenI (l.take k)) ++ [.int .i64 (l[k].1.length : Int)] := by
  rw [List.take_succ_eq_append_getElem h]
  simp only [intV, lenI, List.map_append, List.map_cons, List.map_nil]
def lensK (l : List (List Int × Value)) (k : Nat) : List Value := intV (lenI (l.take k))
theorem lensK_succ (l : List (List Int × Value)) (k : Nat) (h : k < l.length) : lensK l (k + 1) = lensK l k ++ [.int .i64 (l[k].1.length : Int)] := lensV_succ l k h
theorem lensK_full (l : List (List Int × Value)) (k : Nat) (h : l.length ≤ k) : lensK l k = intV (lenI l) := by unfold lensK; rw [List.take_of_length_le h]
end Go.Proofs.YtacbanfnakgecaaGreat

namespace Go.Proofs.YtacbanfnakgecaaGreat
set_option linter.unusedSimpArgs false
set_option linter.unusedVariables false
open Go.RowKit
theorem append_num {w : World} {ops : Array Oper} {rest : List Oper} {o : Oper} {a : Act} {Q : Exit → Act → World → Prop} (hgd : o.guard = none) (s x : Operand)
    (ho : o.op = .call { callee := .builtin .append, args := #[s, x], argTypes := #[22, 22] }) (base n : Nat) (v : Value) (xs : List Value) (z : Int) (hs : a.eval s = v) (g : Nat) (hx : a.eval x = .slice (some ⟨g, 0, none⟩) 1 1)
    (hown : w.ownsRow base 3 1 v n xs) (hc : w.heap[g]? = some (.cells #[.int .i64 z] 3 (0, 0))) (hn : n ≤ 1000000) (hbase : base ≤ w.heap.size)
    (h : ∀ g' cap w', w'.ownsRow base 3 1 (.slice (some ⟨g', 0, none⟩) (n + 1) cap) (n + 1) (xs ++ [.int .i64 z]) → Below base w w' → wpList Tryz.prog ops Q rest (a.put o.dst (.slice (some ⟨g', 0, none⟩) (n + 1) cap)) w') : wpList Tryz.prog ops Q (o :: rest) a w := by
  obtain ⟨i0, hi, hz0, hz1, hz2⟩ := info_parts info3
  refine wpList_append_own _ hgd s x 22 ho base 3 i0 (.int .i64 0) 1 8 Tryz.underlying22 hi hz0 hz1 hz2 rfl (by decide) v n xs hs hown ⟨g, 0, none⟩ 1 1 [.int .i64 z] hx rfl (World.news_of_block hc) (fun u hu => by simp at hu; subst hu; rfl) (by unfold maxLen; omega) (by omega) hbase ?_
  intro v' w' h1 h2 _
  rcases h1.2 with ⟨h3, h4⟩ | ⟨g', cap', cur, hv, hg, hh, _⟩
  · omega
  · subst hv
    exact h g' cap' w' h1 ((Below.refl base w).grown h2 hbase (fun k hk => (hown.lt k hk).1))
theorem heap_two (w : World) (o o2 : Obj) : ((w.alloc o).alloc o2).heap[w.heap.size + 1]? = some o2 := by
  have h := heap_alloc_new (w.alloc o) o2
  rwa [alloc_size] at h
theorem all_bad {m : Int} {rs : List (List Int × Value)} {s : Nbs} (he : rs.map (·.1) = s.all) (hm : m = s.mod) (q : Bool) (h : rs.all (fun x => allB m x.1) = q) : s.all.all (allB s.mod) = q := by
  subst hm
  rw [← he, List.all_map, ← h]; rfl
set_option maxRecDepth 100000 in
set_option maxHeartbeats 2000000 in
theorem rvalue_bad (s : Nbs) (rs : List (List Int × Value)) (ov av mv : Value) (l : List Opn) (v : Value) (w : World) (hd : NbD w ov av mv rs s) (hv : OpsD w v l) (hb : (decide (2 ≤ s.mod ∧ s.mod ≤ 16) && (allB s.mod s.own && allB s.mod s.mem)) = false) :
    Calls Tryz.prog 60 #[v, .int .i64 s.mod, ov, av, mv] w fun e w' => e = .returned (.tuple #[.int .i64 0, .bool false]) ∧ w = w' := by
  have HO := Lib.hid (fun b h => rall_any s.own ov s.mod w hd.o hd.lo b h)
  have HM := Lib.hid (fun b h => rall_any s.mem mv s.mod w hd.m hd.lm b h)
  obtain ⟨ado, capo, rfl⟩ := hd.o.shape0
  obtain ⟨ada, capa, rfl⟩ := hd.a.shape0
  obtain ⟨adm, capm, rfl⟩ := hd.m.shape0
  obtain ⟨ad, cap, rfl⟩ := hv.shape0
  obtain ⟨q1, hq1⟩ : ∃ q, allB s.mod s.own = q := ⟨_, rfl⟩
  obtain ⟨q2, hq2⟩ : ∃ q, allB s.mod s.mem = q := ⟨_, rfl⟩
  rw [hq1, hq2] at hb
  have HO := Lib.hid (HO.out q1 hq1)
  have HM := Lib.hid (HM.out q2 hq2)
  generalize s.own.length = no at HO ⊢
  generalize s.mem.length = nm at HM ⊢
  generalize rs.length = na
  generalize l.length = nl
  generalize s.mod = m at *
  clear hd hv hq1 hq2
  by_cases h1 : m < 2
  · have g1 : decide (m < 2) = true := decide_eq_true h1
    go_enter Tryz.func60, Tryz.ntmps60
    go_wp2
    go_ret2
    exact ⟨rfl, rfl⟩
  · have g1 : decide (m < 2) = false := decide_eq_false h1
    by_cases h2 : 16 < m
    · have g2 : decide (16 < m) = true := decide_eq_true h2
      go_enter Tryz.func60, Tryz.ntmps60
      go_wp2
      go_ret2
      exact ⟨rfl, rfl⟩
    · have g2 : decide (16 < m) = false := decide_eq_false h2
      rw [show decide (2 ≤ m ∧ m ≤ 16) = true from decide_eq_true (by omega), Bool.true_and] at hb
      cases q1 with
      | false =>
        clear hb
        go_enter Tryz.func60, Tryz.ntmps60
        go_wp2_with (go_at_call 50; refine HO.out.mono ?_; rintro e w2 ⟨rfl, rfl⟩)
        go_ret2
        exact ⟨rfl, rfl⟩
      | true =>
        obtain rfl : q2 = false := by simpa using hb
        clear hb
        go_enter Tryz.func60, Tryz.ntmps60
        go_wp2_with fail
        refine HO.out.mono ?_
        rintro e w2 ⟨rfl, rfl⟩
        go_wp2_with fail
        refine HM.out.mono ?_
        rintro e w2 ⟨rfl, rfl⟩
        go_wp2
        go_ret2
        exact ⟨rfl, rfl⟩
set_option maxRecDepth 100000 in
set_option maxHeartbeats 8000000 in
theorem rvalue_good (s : Nbs) (rs : List (List Int × Value)) (ov av mv : Value) (l : List Opn) (v : Value) (w : World) (hd : NbD w ov av mv rs s) (hv : OpsD w v l) (hn : l.length ≤ 100000) (hb1 : 2 ≤ s.mod) (hb2 : s.mod ≤ 16) (hb3 : allB s.mod s.own = true) (hb4 : allB s.mod s.mem = true) (z : Int) (b : Bool) (hz : valO l s = (z, b)) :
    Calls Tryz.prog 60 #[v, .int .i64 s.mod, ov, av, mv] w fun e w' => e = .returned (.tuple #[.int .i64 z, .bool b]) ∧ Below w.heap.size w w' := by
  have HZ := Lib.hid hz
  have HD := Lib.hid hd
  have HV := Lib.hid hv
  have HO := Lib.hid (rall_any s.own ov s.mod w hd.o hd.lo true hb3)
  have HM := Lib.hid (rall_any s.mem mv s.mod w hd.m hd.lm true hb4)
  obtain ⟨q3, hq3⟩ : ∃ q, rs.all (fun x => allB s.mod x.1) = q := ⟨_, rfl⟩
  obtain ⟨q4, hq4⟩ : ∃ q, rightO l (lenI rs) s.own.length s.mem.length = q := ⟨_, rfl⟩
  have HRN : Hid (rightN s = q3) := by
    have h := all_bad hd.e rfl q3 hq3
    exact Lib.hid (by unfold rightN; rw [h, hb3, hb4, decide_eq_true ⟨hb1, hb2⟩]; simp)
  have HLI := Lib.hid (lenI_of hd.e)
  have HQ4 := Lib.hid hq4
  have HRC := Lib.hid (fun (W : World) (h : Below w.heap.size w W) (rv : Value) (hr : IntsD W rv (lenI rs)) => rright_code l (lenI rs) v rv s.own.length s.mem.length W (OpsD.below hv h) hr hn q4 hq4)
  have HA0 : Hid ((rs.drop 0).all (fun x => allB s.mod x.1) = q3) := Lib.hid hq3
  have hla := hd.la
  have HLR := Lib.hid hd.lr
  have hlo := hd.lo
  have hlm := hd.lm
  obtain ⟨ad, cap, rfl, _, _, hc⟩ := id hv
  have HC := Lib.hid hc
  obtain ⟨ado, capo, hov⟩ := hd.o.shape0
  obtain ⟨ada, capa, hav, _, _, hca⟩ := id hd.a
  have HCA := Lib.hid hca
  obtain ⟨adm, capm, hmv⟩ := hd.m.shape0
  obtain ⟨m, hMM⟩ : ∃ m, m = s.mod := ⟨_, rfl⟩
  have HMM := Lib.hid hMM
  rw [← hMM] at hb1 hb2 HO HM HA0 ⊢
  obtain ⟨no, hno⟩ : ∃ n, n = s.own.length := ⟨_, rfl⟩
  obtain ⟨nm, hnm⟩ : ∃ n, n = s.mem.length := ⟨_, rfl⟩
  obtain ⟨na, hna⟩ : ∃ n, n = rs.length := ⟨_, rfl⟩
  obtain ⟨nl, hnl⟩ : ∃ n, n = l.length := ⟨_, rfl⟩
  rw [← hno] at hov hlo HRC
  rw [← hnm] at hmv hlm HRC
  rw [← hna] at hav hla
  rw [← hnl] at hn HRC ⊢
  have HNO := Lib.hid hno
  have HNM := Lib.hid hnm
  have HNA := Lib.hid hna
  have HNL := Lib.hid hnl
  subst hov hav hmv
  have g1 : decide (m < 2) = false := decide_eq_false (by omega)
  have g2 : decide (16 < m) = false := decide_eq_false (by omega)
  clear hz hd hv hb3 hb4 hq3 hq4 hc hca hMM hno hnm hna hnl
  go_enter Tryz.func60, Tryz.ntmps60
  go_wp2_with fail
  refine HO.out.mono ?_
  rintro e w2 ⟨rfl, rfl⟩
  go_wp2_with fail
  refine HM.out.mono ?_
  rintro e w2 ⟨rfl, rfl⟩
  go_wp2_with fail
  go_loopg [12, 13] na (fun fuel v' i' wr => ∃ (k : Nat) (ad2 : Option Addr) (cap2 : Nat), i' = .int .i64 k ∧ k ≤ na ∧ na - k ≤ fuel ∧ v' = .slice ad2 k cap2 ∧ wr.ownsRow w.heap.size 3 1 (.slice ad2 k cap2) k (lensK rs k) ∧ ((rs.drop k).all (fun x => allB m x.1)) = q3 ∧ Below w.heap.size w wr)
  case atStart => exact ⟨0, none, 0, rfl, Nat.zero_le _, Nat.le_refl _, rfl, ⟨rfl, .inl ⟨rfl, rfl⟩⟩, HA0.out, Below.refl _ _⟩
  case round =>
    obtain ⟨k, ad2, cap2, rfl, hk, hf, rfl, ho, ha, hb⟩ := hrel
    have HOW := Lib.hid ho
    have HA := Lib.hid ha
    have HB := Lib.hid hb
    have hsz := hb.size
    clear ho ha hb
    by_cases hlt : k < na
    · have hk' : k < rs.length := by have := HNA.out; omega
      have HDR := Lib.hid (List.drop_eq_getElem_cons hk')
      obtain ⟨g, off, rfl, hbl, x0, x1⟩ := HCA.out k hk'
      have hx2 := HLR.out _ (List.getElem_mem hk')
      have hls := lensK_succ rs k hk'
      obtain ⟨⟨xl, xv⟩, hx⟩ : ∃ x, x = rs[k] := ⟨_, rfl⟩
      rw [← hx] at x0 x1 hx2 HDR hls
      simp only [] at x0 x1 hx2 hls
      have HLS := Lib.hid hls
      obtain ⟨q, hq⟩ : ∃ q, allB m xl = q := ⟨_, rfl⟩
      have HAL := Lib.hid (rall_any xl xv m wr (IntsD.below x1 HB.out) hx2 q hq)
      have HQ := Lib.hid hq
      obtain ⟨ad3, cap3, rfl⟩ := x1.shape0
      have c0 : wr.cell? ⟨g, off + k, none⟩ = some (.slice ad3 xl.length cap3) := (HB.out.cell (p := ⟨g, _, none⟩) hbl).trans (by rw [Nat.mul_one] at x0; exact x0)
      have hgl : g < wr.heap.size := Nat.lt_of_lt_of_le hbl hsz
      obtain ⟨nx, hnx⟩ : ∃ n, xl.length = n := ⟨_, rfl⟩
      rw [hnx] at c0 HAL HLS hx2
      clear x0 x1 hx hls hq hnx
      cases q with
      | false =>
        go_wp2_with fail
        refine HAL.out.mono ?_
        rintro e w2 ⟨rfl, rfl⟩
        go_wp2
        have h2 := HA.out
        rw [HDR.out, List.all_cons, HQ.out, Bool.false_and] at h2
        have hz := HZ.out
        rw [valO_no (by rw [HRN.out, ← h2]; rfl)] at hz
        obtain ⟨rfl, rfl⟩ := Prod.mk.inj hz
        go_ret2
        exact ⟨rfl, HB.out⟩
      | true =>
        go_wp2_with fail
        refine HAL.out.mono ?_
        rintro e w2 ⟨rfl, rfl⟩
        have L1 : Hid (Below wr.heap.size wr (wr.alloc (.cells #[.int .i64 nx] 3))) := (Below.refl _ _).alloc (Nat.le_refl _) _
        go_wp2_with (at_builtin; refine append_num rfl (.tmp 50) (.tmp 56) rfl w.heap.size k (.slice ad2 k cap2) (lensK rs k) nx rfl wr.heap.size rfl (own_below HOW.out L1.out) (heap_alloc_new _ _) (by omega) (Nat.le_trans hsz L1.out.size) ?_; intro g' cap' w2 ho2 hb2)
        have B2 := Lib.hid (HB.out.trans ((L1.out.mono hsz).trans hb2))
        rw [← HLS.out] at ho2
        have O2 := Lib.hid ho2
        clear ho2 hb2 L1
        go_roundg (gk - 1)
        case measure => omega
        case rel =>
          refine ⟨k + 1, _, cap', by go_num, by omega, by omega, rfl, O2.out, ?_, B2.out⟩
          have h2 := HA.out
          rw [HDR.out, List.all_cons, HQ.out, Bool.true_and] at h2
          exact h2
    · obtain rfl : k = na := by omega
      have h3 : q3 = true := by
        have h2 := HA.out
        rw [List.drop_eq_nil_of_le (by rw [← HNA.out]; exact Nat.le_refl _)] at h2
        exact h2.symm
      subst h3
      have ho := HOW.out
      rw [HNA.out, lensK_full _ _ (Nat.le_refl _), ← HNA.out] at ho
      have hll : (lenI rs).length = k := by rw [HNA.out]; simp [lenI]
      have HRC2 := Lib.hid (HRC.out wr HB.out _ (intsD_intV (by rw [hll]; exact ho)))
      clear ho hll HOW HA
      go_wp2_with fail
      refine HRC2.out.mono ?_
      rintro e w2 ⟨rfl, b2⟩
      have B2 := Lib.hid (HB.out.trans (b2.mono HB.out.size))
      clear b2 HRC2
      have hz := HZ.out
      cases q4 with
      | false =>
        rw [valO_no (by rw [HRN.out, ← HLI.out, HQ4.out]; rfl)] at hz
        obtain ⟨rfl, rfl⟩ := Prod.mk.inj hz
        go_wp2
        go_ret2
        exact ⟨rfl, B2.out⟩
      | true =>
        rw [valO_yes (by rw [HRN.out, ← HLI.out, HQ4.out]; rfl)] at hz
        obtain ⟨hz1, rfl⟩ := Prod.mk.inj hz
        have HR0 : Hid ((runO s (l.drop 0) []).getD 0 0 = z) := Lib.hid hz1
        have hr2 := HQ4.out
        unfold rightO at hr2
        rw [Bool.and_eq_true] at hr2
        have HG0 : Hid (Go1 l 0 0) := ⟨0, of_decide_eq_true hr2.1⟩
        have HALL := Lib.hid hr2.2
        clear hz hz1 hr2 HZ
        go_wp2_with fail
        have BW2 := Lib.hid B2.out
        go_loopg [14, 15] nl (fun fuel v' i' wr => ∃ (j : Nat) (st : List Int) (ad3 : Option Addr) (cap3 : Nat), i' = .int .i64 j ∧ j ≤ nl ∧ nl - j ≤ fuel ∧ v' = .slice ad3 st.length cap3 ∧ st.length ≤ j ∧ Go1 l j st.length ∧ (∀ x ∈ st, 0 ≤ x ∧ x < m) ∧ (runO s (l.drop j) st).getD 0 0 = z ∧ wr.ownsRow w2.heap.size 3 1 (.slice ad3 st.length cap3) st.length (intV st.reverse) ∧ Below w2.heap.size w2 wr)
        case atStart => exact ⟨0, [], none, 0, rfl, Nat.zero_le _, Nat.le_refl _, rfl, Nat.le_refl _, HG0.out, (fun x hx => by cases hx), HR0.out, ⟨rfl, .inl ⟨rfl, rfl⟩⟩, Below.refl _ _⟩
        case round =>
          obtain ⟨j, st, ad3, cap3, rfl, hj, hf3, rfl, hsk, hg, hst, hrun, ho, hb⟩ := hrel
          have HB3 := Lib.hid hb
          have HO3 := Lib.hid ho
          have HG := Lib.hid hg
          have HST := Lib.hid hst
          have HRUN := Lib.hid hrun
          have hww := hb.size
          have hcp := own_cap ho
          clear hb ho hg hst hrun
          by_cases hlt3 : j < nl
          · have hj' : j < l.length := by have := HNL.out; omega
            obtain ⟨⟨ha0, ha1⟩, hgn⟩ := HG.out.step hj'
            have HGN := Lib.hid hgn
            have HRA := Lib.hid (runO_at s l j hj' st)
            have hok := List.all_eq_true.1 HALL.out _ (List.getElem_mem hj')
            obtain ⟨b, off, rfl, hbl, x0, x1, x2⟩ := HC.out j hj'
            obtain ⟨⟨xo, xn, xt⟩, hx⟩ : ∃ x, x = l[j] := ⟨_, rfl⟩
            rw [← hx] at x0 x1 x2 HGN HRA hok ha0 ha1
            simp only [] at x0 x1 x2 HGN ha0 ha1
            have BW := Lib.hid (BW2.out.trans (HB3.out.mono BW2.out.size))
            have hwr : w.heap.size ≤ wr.heap.size := BW.out.size
            have c0 : wr.cell? ⟨b, off + j * 3, none⟩ = some (.int .i64 xo) := (BW.out.cell (p := ⟨b, _, none⟩) hbl).trans x0
            have c1 : wr.cell? ⟨b, off + j * 3 + 1, none⟩ = some (.int .i64 xn) := (BW.out.cell (p := ⟨b, _, none⟩) hbl).trans x1
            have c2 : wr.cell? ⟨b, off + j * 3 + 2, none⟩ = some (.int .i64 xt) := (BW.out.cell (p := ⟨b, _, none⟩) hbl).trans x2
            clear x0 x1 x2 hx hgn
            have hm0 : ¬ m = 0 := by omega
            have hbw : b < wr.heap.size := by omega
            have HOK := Lib.hid hok
            clear hok
            have hac := ar_kind xo
            by_cases h0 : ar xo = 0
            · have hr3 := HRUN.out
              rw [HRA.out, stO_zero s ⟨xo, xn, xt⟩ st h0, ← HMM.out] at hr3
              obtain ⟨u, hu⟩ : ∃ u, u = rdO s ⟨xo, xn, xt⟩ % m := ⟨_, rfl⟩
              rw [← hu] at hr3
              have HR3 := Lib.hid hr3
              have hu0 : 0 ≤ u := by rw [hu]; exact Int.emod_nonneg _ (by omega)
              have hu1 : u < m := by rw [hu]; exact Int.emod_lt_of_pos _ (by omega)
              have HGN1 := Lib.hid (HGN.out (st.length + 1) (by rw [h0]; omega))
              have HFIN : ∀ (g' : Nat) (cap' : Nat) (w4 : World), w4.ownsRow w2.heap.size 3 1 (.slice (some ⟨g', 0, none⟩) (st.length + 1) cap') (st.length + 1) (intV st.reverse ++ [.int .i64 u]) → w4.ownsRow w2.heap.size 3 1 (.slice (some ⟨g', 0, none⟩) (u :: st).length cap') (u :: st).length (intV (u :: st).reverse) := fun g' cap' w4 h => by rw [intV_rev]; exact h
              have HFIN := Lib.hid HFIN
              have HST2 : Hid (∀ x ∈ u :: st, 0 ≤ x ∧ x < m) := Lib.hid fun x hx => by
                rcases List.mem_cons.1 hx with rfl | hx
                · exact ⟨hu0, hu1⟩
                · exact HST.out x hx
              have h4 : xo = 1 ∨ xo = 2 ∨ xo = 3 ∨ xo = 4 := by omega
              have L1 : ∀ o, Hid (Below wr.heap.size wr ((wr.alloc (.cells #[.int .i64 xo, .int .i64 xn, .int .i64 xt] 86)).alloc o)) := fun o => Lib.hid (((Below.refl _ _).alloc (Nat.le_refl _) _).alloc (by simp) _)
              have HU := Lib.hid hu
              clear hr3 ha0 ha1 hac hu
              rcases h4 with rfl | rfl | rfl | rfl
              · have hy : rdO s ⟨1, xn, xt⟩ = xn := rfl
                have hx0 : 0 ≤ xn ∧ xn < 10000 := of_decide_eq_true HOK.out
                obtain ⟨hx0, hx1⟩ := hx0
                have hym : xn.tmod m = u := by rw [Int.tmod_eq_emod_of_nonneg hx0, HU.out, hy]
                have hym2 : xn % m = u := by rw [HU.out, hy]
                clear hy
                go_wp2_with (at_builtin; refine append_num rfl (.tmp 105) (.tmp 110) rfl w2.heap.size st.length (.slice ad3 st.length cap3) (intV st.reverse) u rfl _ rfl (own_below HO3.out (L1 _).out) (heap_two _ _ _) (by omega) (Nat.le_trans hww (L1 _).out.size) ?_; intro g' cap' w4 ho4 hb4)
                have B4 := Lib.hid (HB3.out.trans (((L1 _).out.mono hww).trans hb4))
                have O4 := Lib.hid (HFIN.out _ _ _ ho4)
                clear ho4 hb4 L1
                go_roundg (gk - 1)
                case measure => omega
                case rel => exact ⟨j + 1, u :: st, _, cap', by go_num, by omega, by omega, rfl, by simp; omega, HGN1.out, HST2.out, HR3.out, O4.out, B4.out⟩
              · have ht : inB xn s.own.length = true := HOK.out
                obtain ⟨g, off2, cap4, hv4, hl4, hc4⟩ := IntsD.at HD.out.o xn ht
                obtain ⟨h1, h2⟩ := of_decide_eq_true ht
                have hlt2 := rdO_lt s ⟨2, xn, xt⟩ HRN.out (by rw [← HLI.out]; exact HOK.out) (.inl rfl)
                have hrd : rdO s ⟨2, xn, xt⟩ = s.own.getD xn.toNat 0 := rfl
                have hu2 : s.own.getD xn.toNat 0 = u := by rw [HU.out, hrd, Int.emod_eq_of_lt (hrd ▸ hlt2.1) (by rw [HMM.out]; exact hrd ▸ hlt2.2)]
                rw [hu2] at hc4
                rw [← HNO.out] at h2 hv4
                obtain ⟨e1, e3⟩ : ado = some ⟨g, off2, none⟩ ∧ capo = cap4 := by injection hv4 with e1 e2 e3; exact ⟨e1, e3⟩
                obtain ⟨t, rfl⟩ : ∃ t : Nat, xn = t := ⟨xn.toNat, by omega⟩
                rw [Int.toNat_natCast] at hc4
                have h3 : t < no := by omega
                have c9 : wr.cell? ⟨g, off2 + t, none⟩ = some (.int .i64 u) := (BW.out.cell (p := ⟨g, _, none⟩) hl4).trans hc4
                have hgl : g < wr.heap.size := by omega
                clear ht hv4 hc4 h1 h2 hlt2 hrd hu2
                subst e1 e3
                go_wp2_with (at_builtin; refine append_num rfl (.tmp 114) (.tmp 120) rfl w2.heap.size st.length (.slice ad3 st.length cap3) (intV st.reverse) u rfl _ rfl (own_below HO3.out (L1 _).out) (heap_two _ _ _) (by omega) (Nat.le_trans hww (L1 _).out.size) ?_; intro g' cap' w4 ho4 hb4)
                have B4 := Lib.hid (HB3.out.trans (((L1 _).out.mono hww).trans hb4))
                have O4 := Lib.hid (HFIN.out _ _ _ ho4)
                clear ho4 hb4 L1
                go_roundg (gk - 1)
                case measure => omega
                case rel => exact ⟨j + 1, u :: st, _, cap', by go_num, by omega, by omega, rfl, by simp; omega, HGN1.out, HST2.out, HR3.out, O4.out, B4.out⟩
              · have ht : inB xn s.mem.length = true := HOK.out
                obtain ⟨g, off2, cap4, hv4, hl4, hc4⟩ := IntsD.at HD.out.m xn ht
                obtain ⟨h1, h2⟩ := of_decide_eq_true ht
                have hlt2 := rdO_lt s ⟨3, xn, xt⟩ HRN.out (by rw [← HLI.out]; exact HOK.out) (.inr (.inl rfl))
                have hrd : rdO s ⟨3, xn, xt⟩ = s.mem.getD xn.toNat 0 := rfl
                have hu2 : s.mem.getD xn.toNat 0 = u := by rw [HU.out, hrd, Int.emod_eq_of_lt (hrd ▸ hlt2.1) (by rw [HMM.out]; exact hrd ▸ hlt2.2)]
                rw [hu2] at hc4
                rw [← HNM.out] at h2 hv4
                obtain ⟨e1, e3⟩ : adm = some ⟨g, off2, none⟩ ∧ capm = cap4 := by injection hv4 with e1 e2 e3; exact ⟨e1, e3⟩
                obtain ⟨t, rfl⟩ : ∃ t : Nat, xn = t := ⟨xn.toNat, by omega⟩
                rw [Int.toNat_natCast] at hc4
                have h3 : t < nm := by omega
                have c9 : wr.cell? ⟨g, off2 + t, none⟩ = some (.int .i64 u) := (BW.out.cell (p := ⟨g, _, none⟩) hl4).trans hc4
                have hgl : g < wr.heap.size := by omega
                clear ht hv4 hc4 h1 h2 hlt2 hrd hu2
                subst e1 e3
                go_wp2_with (at_builtin; refine append_num rfl (.tmp 124) (.tmp 130) rfl w2.heap.size st.length (.slice ad3 st.length cap3) (intV st.reverse) u rfl _ rfl (own_below HO3.out (L1 _).out) (heap_two _ _ _) (by omega) (Nat.le_trans hww (L1 _).out.size) ?_; intro g' cap' w4 ho4 hb4)
                have B4 := Lib.hid (HB3.out.trans (((L1 _).out.mono hww).trans hb4))
                have O4 := Lib.hid (HFIN.out _ _ _ ho4)
                clear ho4 hb4 L1
                go_roundg (gk - 1)
                case measure => omega
                case rel => exact ⟨j + 1, u :: st, _, cap', by go_num, by omega, by omega, rfl, by simp; omega, HGN1.out, HST2.out, HR3.out, O4.out, B4.out⟩
              · have ht0 : (inB xt (lenI rs).length && inB xn ((lenI rs).getD xt.toNat 0)) = true := HOK.out
                rw [Bool.and_eq_true] at ht0
                obtain ⟨ht, ht2⟩ := ht0
                have ht' : inB xt rs.length = true := by rw [← ht]; simp [lenI]
                have h1 := (of_decide_eq_true ht').1
                have h2 := (of_decide_eq_true ht').2
                obtain ⟨g, off2, cap4, hv4, hl4, rv, hc4, hr4⟩ := AllD.at HD.out.a xt ht'
                rw [HD.out.e] at hr4
                have hlen : (lenI rs).getD xt.toNat 0 = ((s.all.getD xt.toNat []).length : Int) := by
                  have hx : xt.toNat < rs.length := by omega
                  rw [← HD.out.e, List.getD_eq_getElem?_getD, List.getD_eq_getElem?_getD, lenI, List.getElem?_map, List.getElem?_map, List.getElem?_eq_getElem hx]; rfl
                rw [hlen] at ht2
                obtain ⟨g2, off5, cap5, rfl, hl5, hc5⟩ := IntsD.at hr4 xn ht2
                have h3 := (of_decide_eq_true ht2).1
                have h4 := (of_decide_eq_true ht2).2
                have hlt2 := rdO_lt s ⟨4, xn, xt⟩ HRN.out (by rw [← HLI.out]; exact HOK.out) (.inr (.inr rfl))
                have hrd : rdO s ⟨4, xn, xt⟩ = (s.all.getD xt.toNat []).getD xn.toNat 0 := rfl
                have hu2 : (s.all.getD xt.toNat []).getD xn.toNat 0 = u := by rw [HU.out, hrd, Int.emod_eq_of_lt (hrd ▸ hlt2.1) (by rw [HMM.out]; exact hrd ▸ hlt2.2)]
                rw [hu2] at hc5
                rw [← HNA.out] at h2 hv4
                obtain ⟨e1, e3⟩ : ada = some ⟨g, off2, none⟩ ∧ capa = cap4 := by injection hv4 with e1 e2 e3; exact ⟨e1, e3⟩
                obtain ⟨t, rfl⟩ : ∃ t : Nat, xn = t := ⟨xn.toNat, by omega⟩
                obtain ⟨r, rfl⟩ : ∃ r : Nat, xt = r := ⟨xt.toNat, by omega⟩
                rw [Int.toNat_natCast] at hc5
                rw [Int.toNat_natCast] at hc4 h4
                obtain ⟨n2, hn2⟩ : ∃ n, (s.all.getD r []).length = n := ⟨_, rfl⟩
                rw [hn2] at hc4
                rw [hn2] at h4
                have h5 : r < k := by omega
                have h6 : t < n2 := by omega
                have KX := Lib.hid (Bk.new wr 86 #[.int .i64 4, .int .i64 t, .int .i64 r])
                have LX : Hid (Below wr.heap.size wr (wr.alloc (.cells #[.int .i64 4, .int .i64 t, .int .i64 r] 86))) := Lib.hid ((Below.refl _ _).alloc (Nat.le_refl _) _)
                have C9 : Hid (wr.cell? ⟨g, off2 + r, none⟩ = some (.slice (some ⟨g2, off5, none⟩) n2 cap5)) := Lib.hid ((BW.out.cell (p := ⟨g, _, none⟩) hl4).trans hc4)
                have C8 : Hid (wr.cell? ⟨g2, off5 + t, none⟩ = some (.int .i64 u)) := Lib.hid ((BW.out.cell (p := ⟨g2, _, none⟩) hl5).trans hc5)
                have hgl : g < wr.heap.size := by omega
                have hgl2 : g2 < wr.heap.size := by omega
                clear ht ht' ht2 hv4 hc4 hc5 h1 h2 h3 h4 hlt2 hrd hu2 hn2 hlen hr4 L1
                subst e1 e3
                go_wp2_with fail
                generalize wr.alloc _ = w3 at KX LX ⊢
                have e0 := KX.out.cell 0
                have e1 := KX.out.cell 1
                have e2 := KX.out.cell 2
                have el := KX.out.lt
                have d0 : w3.cell? ⟨g, off2 + r, none⟩ = some (.slice (some ⟨g2, off5, none⟩) n2 cap5) := (LX.out.cell (p := ⟨g, _, none⟩) hgl).trans C9.out
                have d1 : w3.cell? ⟨g2, off5 + t, none⟩ = some (.int .i64 u) := (LX.out.cell (p := ⟨g2, _, none⟩) hgl2).trans C8.out
                have dl0 : g < w3.heap.size := Nat.lt_of_lt_of_le hgl LX.out.size
                have dl1 : g2 < w3.heap.size := Nat.lt_of_lt_of_le hgl2 LX.out.size
                have O3 := Lib.hid (own_below HO3.out LX.out)
                have BB3 := Lib.hid (HB3.out.trans (LX.out.mono hww))
                have s3 := BB3.out.size
                clear c0 c1 c2
                go_region_law (refine step_append_int (hgd := rfl) (s := .tmp 134) (x := .tmp 144) (ho := rfl) (base := w2.heap.size) (n := st.length) (v := .slice ad3 st.length cap3) (xs := intV st.reverse) (z := u) (hs := by simp [Act.eval]) (g := w3.heap.size) (hx := by simp [Act.eval]) (hown := own_below O3.out ((Below.refl _ _).drew.alloc (by simp) _)) (hc := heap_alloc_new _ _) (hn := by omega) (hbase := by simp; omega) (h := ?_); intro g' cap' w4 ho4 hb4)
                all_goals
                  go_wp2
                  go_roundg (gk - 1)
                  case measure => omega
                  case rel => exact ⟨j + 1, u :: st, _, cap', by go_num, by omega, by omega, rfl, by simp; omega, HGN1.out, HST2.out, HR3.out, HFIN.out _ _ _ ho4, (BB3.out.drew.alloc (by simp; omega) _).trans hb4⟩
            · by_cases h01 : ar xo = 1
              · obtain ⟨bq, r, rfl⟩ : ∃ bq r, st = bq :: r := by
                  cases st with
                  | nil => simp at ha1; omega
                  | cons bq r => exact ⟨_, _, rfl⟩
                have ho := HO3.out
                rw [intV_rev] at ho
                obtain ⟨q, hq⟩ : ∃ q, q = r.length := ⟨_, rfl⟩
                obtain ⟨L, hL⟩ : ∃ L, L = (bq :: r).length := ⟨_, rfl⟩
                have hLq : L = q + 1 := by rw [hL, hq]; rfl
                rw [← hL] at ho HGN hsk hcp ⊢
                obtain ⟨g, rfl, hgB, hgl, hc0, _, hrl⟩ := own_top ho q hLq
                have hr3 := HRUN.out
                rw [HRA.out, stO_one s ⟨xo, xn, xt⟩ bq r h01] at hr3
                obtain ⟨u, hu⟩ : ∃ u, u = tru (decide (bq = 0)) := ⟨_, rfl⟩
                rw [← hu] at hr3
                have hub := tru_b (decide (bq = 0))
                rw [← hu] at hub
                obtain ⟨hu0, hu1⟩ := hub
                obtain rfl : xo = 5 := by omega
                have HST2 : Hid (∀ x ∈ u :: r, 0 ≤ x ∧ x < m) := Lib.hid fun x hx => by
                  rcases List.mem_cons.1 hx with rfl | hx
                  · exact ⟨by omega, by omega⟩
                  · exact HST.out x (List.mem_cons_of_mem _ hx)
                have HTR := Lib.hid (fun W => (rtruth_any (bq == 0) W).mono fun e w' (h : e = .returned (.int .i64 (tru (bq == 0))) ∧ W = w') => (⟨by rw [h.1, tru_beq, ← hu], h.2⟩ : e = .returned (.int .i64 u) ∧ W = w'))
                have hset := (ho.stored q (.int .i64 u)).1
                rw [set_last _ _ _ q hrl, ← intV_rev] at hset
                have LX : Hid (Below (wr.setCell ⟨g, q, none⟩ (.int .i64 u)).heap.size (wr.setCell ⟨g, q, none⟩ (.int .i64 u)) ((wr.setCell ⟨g, q, none⟩ (.int .i64 u)).alloc (.cells #[.int .i64 5, .int .i64 xn, .int .i64 xt] 86))) := Lib.hid ((Below.refl _ _).alloc (Nat.le_refl _) _)
                have HSET := Lib.hid (own_below hset LX.out)
                have hfz : wr.frozen? ⟨g, q, none⟩ = false := ho.frozenAt q
                have HR3 := Lib.hid hr3
                have HGN1 := Lib.hid (HGN.out L (by rw [h01]; omega))
                have HLL : Hid (L = (u :: r).length) := Lib.hid (by rw [hL]; rfl)
                have BF := Lib.hid ((HB3.out.setCell (p := ⟨g, q, none⟩) hgB (.int .i64 u)).trans (LX.out.mono (by simpa using hww)))
                have e2 : (L : Int) - 1 = (q : Int) := by omega
                have hq1 : q < L := by omega
                clear hset ho hr3 hu hL hq hrl hac ha0 ha1 h0 h01 LX
                go_wp2_with (go_at_call 90; refine (HTR.out _).mono ?_; rintro e w5 ⟨rfl, rfl⟩)
                go_roundg (gk - 1)
                case measure => omega
                case rel =>
                  refine ⟨j + 1, u :: r, some ⟨g, 0, none⟩, cap3, by go_num, by omega, by omega, (by first | (rw [← HLL.out]; done) | rw [← HLL.out, hLq]), by rw [← HLL.out]; omega, by rw [← HLL.out]; exact HGN1.out, HST2.out, HR3.out, by rw [← HLL.out]; exact HSET.out, BF.out⟩
              · have h02 : ar xo = 2 := by omega
                obtain ⟨bq, aq, r, rfl⟩ : ∃ bq aq r, st = bq :: aq :: r := by
                  match st, ha1 with
                  | [], h => simp at h; omega
                  | [_], h => simp at h; omega
                  | bq :: aq :: r, _ => exact ⟨_, _, _, rfl⟩
                have ho := HO3.out
                rw [intV_rev, intV_rev] at ho
                obtain ⟨q, hq⟩ : ∃ q, q = r.length := ⟨_, rfl⟩
                obtain ⟨p, hp⟩ : ∃ p, p = q + 1 := ⟨_, rfl⟩
                obtain ⟨L, hL⟩ : ∃ L, L = (bq :: aq :: r).length := ⟨_, rfl⟩
                have hLp : L = p + 1 := by rw [hL, hp, hq]; rfl
                rw [← hL] at ho HGN hsk hcp ⊢
                obtain ⟨g, rfl, hgB, hgl, hc1, hop1, _⟩ := own_top ho p hLp
                obtain ⟨g', hgg, _, _, hc0, _, hrl⟩ := own_top hop1 q hp
                obtain rfl : g = g' := by injection hgg with h; injection h
                have hbq := HST.out bq (List.mem_cons_self ..)
                have haq := HST.out aq (List.mem_cons_of_mem _ (List.mem_cons_self ..))
                have hr3 := HRUN.out
                rw [HRA.out, stO_two s ⟨xo, xn, xt⟩ aq bq r h02, ← HMM.out] at hr3
                have hxo : 6 ≤ xo ∧ xo ≤ 14 := by omega
                obtain ⟨_, hu0, hu1, _, _, _⟩ := raw_two xo aq bq m hxo.1 hxo.2 ⟨hb1, hb2⟩ haq hbq
                obtain ⟨u, hu⟩ : ∃ u, twoO xo aq bq m = u := ⟨_, rfl⟩
                have hr3' : (runO s (List.drop (j + 1) l) (u :: r)).getD 0 0 = z := by rw [← hu]; exact hr3
                rw [hu] at hu0 hu1
                have HTW := Lib.hid (fun (X : World) (kk : Nat) => (rtwo_any xo hxo.1 hxo.2 aq bq m (X.drewN kk) ⟨hb1, hb2⟩ haq hbq).mono fun e w' (h : e = .returned (.int .i64 (twoO xo aq bq m)) ∧ X.drewN kk = w') => (⟨by rw [h.1, hu], kk, h.2.symm⟩ : e = .returned (.int .i64 u) ∧ ∃ mm, w' = X.drewN mm))
                have HST2 : Hid (∀ x ∈ u :: r, 0 ≤ x ∧ x < m) := Lib.hid fun x hx => by
                  rcases List.mem_cons.1 hx with rfl | hx
                  · exact ⟨hu0, hu1⟩
                  · exact HST.out x (List.mem_cons_of_mem _ (List.mem_cons_of_mem _ hx))
                have hn1 : ¬ xo = 1 := by omega
                have hn2 : ¬ xo = 2 := by omega
                have hn3 : ¬ xo = 3 := by omega
                have hn4 : ¬ xo = 4 := by omega
                have hn5 : ¬ xo = 5 := by omega
                have KX := Lib.hid (Bk.new wr 86 #[.int .i64 xo, .int .i64 xn, .int .i64 xt])
                have LX : Hid (Below wr.heap.size wr (wr.alloc (.cells #[.int .i64 xo, .int .i64 xn, .int .i64 xt] 86))) := Lib.hid ((Below.refl _ _).alloc (Nat.le_refl _) _)
                have HR3 := Lib.hid hr3'
                have HGN1 := Lib.hid (HGN.out p (by rw [h02]; omega))
                have HLL : Hid (p = (u :: r).length) := Lib.hid (by rw [hp, hq]; rfl)
                have HOW := Lib.hid ho
                have HCS := Lib.hid (And.intro hc0 hc1)
                have HRL := Lib.hid hrl
                have HP := Lib.hid (And.intro hp hLp)
                have e2 : (L : Int) - 2 = (q : Int) := by omega
                have e3 : (L : Int) - 1 = (p : Int) := by omega
                have hq1 : q < L := by omega
                have hp1 : p < L := by omega
                have hp2 : p ≤ cap3 := by omega
                clear ho hc0 hc1 hop1 hgg hbq haq hr3 hr3' hxo hu hq hL hrl hac ha0 ha1 h0 h01 h02 hp hLp
                go_wp2_with fail
                generalize wr.alloc _ = w3 at KX LX ⊢
                have e0 := KX.out.cell 0
                have el := KX.out.lt
                have d0 : w3.cell? ⟨g, q, none⟩ = some (.int .i64 aq) := (LX.out.cell (p := ⟨g, _, none⟩) hgl).trans HCS.out.1
                have d1 : w3.cell? ⟨g, p, none⟩ = some (.int .i64 bq) := (LX.out.cell (p := ⟨g, _, none⟩) hgl).trans HCS.out.2
                have dl0 : g < w3.heap.size := Nat.lt_of_lt_of_le hgl LX.out.size
                have O3 := Lib.hid (own_below HOW.out LX.out)
                have BB3 := Lib.hid (HB3.out.trans (LX.out.mono hww))
                clear c0 c1 c2
                go_quiet (with_reducible exact HTW.out _ _)
                have hk4 : Below w3.heap.size w3 (w3.drewN nq) := below_end _
                generalize w3.drewN nq = w4 at hk4 ⊢
                have O4 := own_below O3.out hk4
                have f0 : w4.cell? ⟨g, q, none⟩ = some (.int .i64 aq) := (hk4.cell (p := ⟨g, _, none⟩) dl0).trans d0
                have fl0 : g < w4.heap.size := Nat.lt_of_lt_of_le dl0 hk4.size
                have hfz : w4.frozen? ⟨g, q, none⟩ = false := O4.frozenAt q
                have hset := (O4.stored q (.int .i64 u)).1
                rw [set_last2 _ _ _ _ q HRL.out, ← intV_rev, HP.out.2] at hset
                have HSET := Lib.hid (own_pop hset)
                have BF := Lib.hid ((BB3.out.trans (hk4.mono BB3.out.size)).setCell (p := ⟨g, q, none⟩) hgB (.int .i64 u))
                clear hset O4 hk4 d0 d1 e0 el
                go_wp2
                go_roundg (gk - 1)
                case measure => omega
                case rel =>
                  refine ⟨j + 1, u :: r, some ⟨g, 0, none⟩, cap3, by go_num, by omega, by omega, (by first | (rw [← HLL.out]; done) | rw [← HLL.out, hLq]), by rw [← HLL.out]; omega, by rw [← HLL.out]; exact HGN1.out, HST2.out, HR3.out, by rw [← HLL.out]; exact HSET.out, BF.out⟩
          · have HE := Lib.hid (runO_over s l j (by have := HNL.out; omega) st)
            have h1 := HG.out.over (by have := HNL.out; omega)
            obtain ⟨y, rfl⟩ : ∃ y, st = [y] := by
              match st, h1 with
              | [y], _ => exact ⟨y, rfl⟩
            have ho := HO3.out
            rw [intV_rev] at ho
            obtain ⟨g, rfl, hgB, hgl, hc0, _, _⟩ := own_top ho 0 rfl
            have hr3 := HRUN.out
            rw [HE.out] at hr3
            have hr4 : y = z := hr3
            clear ho hr3
            subst hr4
            have HF := Lib.hid (B2.out.trans (HB3.out.mono B2.out.size))
            have hL : [y].length = 1 := rfl
            rw [hL]
            go_wp2
            go_ret2
            exact ⟨rfl, HF.out⟩
theorem rvalue_any (s : Nbs) (rs : List (List Int × Value)) (ov av mv : Value) (l : List Opn) (v : Value) (w : World) (hd : NbD w ov av mv rs s) (hv : OpsD w v l) (hn : l.length ≤ 100000) (z : Int) (b : Bool) (hz : valO l s = (z, b)) :
    Calls Tryz.prog 60 #[v, .int .i64 s.mod, ov, av, mv] w fun e w' => e = .returned (.tuple #[.int .i64 z, .bool b]) ∧ Below w.heap.size w w' := by
  by_cases h : (decide (2 ≤ s.mod ∧ s.mod ≤ 16) && (allB s.mod s.own && allB s.mod s.mem)) = true
  · rw [Bool.and_eq_true, Bool.and_eq_true] at h
    obtain ⟨h1, h2, h3⟩ := h
    obtain ⟨h4, h5⟩ := of_decide_eq_true h1
    exact rvalue_good s rs ov av mv l v w hd hv hn h4 h5 h2 h3 z b hz
  · have h : (decide (2 ≤ s.mod ∧ s.mod ≤ 16) && (allB s.mod s.own && allB s.mod s.mem)) = false := by simpa using h
    have hr : rightN s = false := by
      unfold rightN
      rw [Bool.and_eq_false_iff, Bool.and_eq_false_iff] at h
      rcases h with h | h | h
      · rw [h]; rfl
      · rw [h, Bool.false_and, Bool.and_false]
      · rw [h, Bool.false_and, Bool.and_false, Bool.and_false]
    rw [valO_no (by rw [hr]; rfl)] at hz
    obtain ⟨rfl, rfl⟩ := Prod.mk.inj hz
    exact (rvalue_bad s rs ov av mv l v w hd hv h).mono fun e w' h => ⟨h.1, h.2 ▸ Below.refl _ _⟩
end Go.Proofs.YtacbanfnakgecaaGreat

namespace Go.Proofs.YtacbanfnakgecaaGreat
set_option linter.unusedSimpArgs false
set_option linter.unusedVariables false
open Go.RowKit
def valC (u : Un) (c : Cf) (k : Nat) (l : List Opn) : Int := (valO l ⟨u.mod, (c.regs.getD k ([], undef)).1, [], []⟩).1
set_option maxRecDepth 100000 in
set_option maxHeartbeats 4000000 in
theorem rval_any (u : Un) (c : Cf) (k : Nat) (l : List Opn) (vi vr vc ap ar am ab lv : Value) (w : World) (hu : UnD w vi vr vc u) (hc : CfD w ap ar am ab c) (hk : k < c.regs.length) (hr : ∀ r ∈ c.regs, r.1.length ≤ 100000) (hl : OpsD w lv l) (hn : l.length ≤ 100000) (q : Int) (hq : valC u c k l = q) :
    Calls Tryz.prog 33 #[.agg #[.int .i64 u.mod, vi, vr, vc], .agg #[ap, ar, am, ab], .int .i64 k, lv] w fun e w' => e = .returned (.int .i64 q) ∧ Below w.heap.size w w' := by
  have HC := Lib.hid hc
  obtain ⟨xi, ci, rfl⟩ := hu.i.shape0
  obtain ⟨xr, cr, rfl⟩ := hu.r.shape0
  obtain ⟨xc, cc, rfl⟩ := hu.c.shape0
  obtain ⟨yp, dp, rfl⟩ := hc.p.shape0
  obtain ⟨yr, dr, rfl⟩ := hc.r.shape0
  obtain ⟨ym, dm, rfl⟩ := hc.m.shape0
  obtain ⟨yb, db, rfl⟩ := hc.b.shape0
  obtain ⟨yl, dl, rfl⟩ := hl.shape0
  obtain ⟨b1, o1, rfl, hb1, hx⟩ := SlD.at HC.out.r k hk
  obtain ⟨hx1, hx2⟩ := hx
  have hlen : (c.regs[k]).1.length ≤ 100000 := hr _ (List.getElem_mem hk)
  obtain ⟨x2, m2, hxv⟩ := hx2.shape0
  rw [hxv] at hx1 hx2
  rw [Nat.mul_one] at hx1
  have hg : c.regs.getD k ([], undef) = c.regs[k] := by rw [List.getD_eq_getElem?_getD, List.getElem?_eq_getElem hk]; rfl
  unfold valC at hq
  rw [hg] at hq
  obtain ⟨z1, z2, hz⟩ : ∃ a b, valO l ⟨u.mod, (c.regs[k]).1, [], []⟩ = (a, b) := ⟨_, _, rfl⟩
  rw [hz] at hq
  have hq : z1 = q := hq
  subst hq
  have HV := Lib.hid (fun (W : World) (h : Below w.heap.size w W) => rvalue_any ⟨u.mod, (c.regs[k]).1, [], []⟩ [] _ (.slice none 0 0) (.slice none 0 0) l _ W ⟨IntsD.below hx2 h, SlD.nil, rfl, SlD.nil, hlen, by simp, by simp, by simp⟩ (OpsD.below hl h) hn z1 z2 hz)
  obtain ⟨mr, hmr⟩ : ∃ n, n = c.regs.length := ⟨_, rfl⟩
  rw [← hmr] at hk ⊢
  generalize (c.regs[k]'(by rw [← hmr]; exact hk)).1.length = nb at hx1 HV
  have T2 := Lib.hid (two_new w 25 29 #[.int .i64 u.mod, .slice xi u.init.length ci, .slice xr u.regs.length cr, .slice xc u.code.length cc] #[.slice yp c.pc.length dp, .slice (some ⟨b1, o1, none⟩) mr dr, .slice ym c.mem.length dm, .slice yb c.buf.length db])
  have HV : Hid (∀ W : World, Below w.heap.size w W → Calls Tryz.prog 60 #[.slice yl l.length dl, .int .i64 u.mod, .slice x2 nb m2, .slice none 0 0, .slice none 0 0] W fun e w' => e = .returned (.tuple #[.int .i64 z1, .bool z2]) ∧ Below W.heap.size W w') := HV
  generalize u.mod = m at HV T2 ⊢
  generalize u.init.length = ni at T2 ⊢
  generalize u.regs.length = nr at T2 ⊢
  generalize u.code.length = nc at T2 ⊢
  generalize c.pc.length = mp at T2 ⊢
  generalize c.mem.length = mm at T2 ⊢
  generalize c.buf.length = mb at T2 ⊢
  generalize l.length = nl at HV ⊢
  obtain ⟨L0, KA0, KB0⟩ := T2.out
  have LL := Lib.hid L0
  clear hu hc hl hr hx2 hxv hlen hz HC hg T2 hmr
  have e1 : (0 : Int) ≤ (k : Int) := by omega
  have e2 : (k : Int) < (mr : Int) := by omega
  go_enter Tryz.func33, Tryz.ntmps33
  go_wp2_with fail
  clear hk
  generalize hW : World.alloc (w.alloc _) _ = W at L0 LL KA0 KB0 ⊢
  have x1 : W.cell? ⟨b1, o1 + k, none⟩ = some (.slice x2 nb m2) := (LL.out.cell (p := ⟨b1, _, none⟩) hb1).trans hx1
  have hb3 : b1 < W.heap.size := Nat.lt_of_lt_of_le hb1 LL.out.size
  have c0 := KA0.cell 0
  have c1 := KB0.cell 1
  have l0 := KA0.lt
  have l1 := KB0.lt
  clear hW L0 KA0 KB0 hx1
  go_region_law (go_simp; go_at_call 60; (refine Calls.mono (HV.out W.drew LL.out.drew) ?_); rintro e w2 ⟨rfl, b2⟩; have B2 := Lib.hid (LL.out.drew.trans (b2.mono LL.out.drew.size)))
  all_goals
    go_wp2
    go_ret
    exact ⟨rfl, B2.out⟩
end Go.Proofs.YtacbanfnakgecaaGreat
