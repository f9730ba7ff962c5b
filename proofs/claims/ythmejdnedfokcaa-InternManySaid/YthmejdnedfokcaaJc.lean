/- Layer 13: what a table of the code is, by what its methods do; light. -/
import Derived.Test.YthmejdnedfokcaaJb
namespace Go.Proofs.Ythmejdnedfokcaa
set_option linter.unusedSimpArgs false
set_option linter.unusedVariables false
open Go.RowKit

def Few (L : List ByteArray) : Prop := L.length ≤ 3000 ∧ ∀ x ∈ L, x.size ≤ 300
/-- A row of texts in a block of its own; the block may be longer than the row tells. -/
def OwnT (w : World) (B : Nat) (v : Value) (n : Nat) (xs : List Value) : Prop :=
  xs.length = n ∧ ((v = .slice none 0 0 ∧ n = 0) ∨ ∃ g cap cur, v = .slice (some ⟨g, 0, none⟩) n cap ∧ B ≤ g ∧ w.heap[g]? = some (.cells cur 9 (0, 0)) ∧ n ≤ cap ∧ cap ≤ maxLen ∧ cap ≤ cur.size ∧ cur.toList.take n = xs)
theorem OwnT.of {w : World} {B n : Nat} {v : Value} {xs : List Value} (h : w.ownsRow B 9 1 v n xs) : OwnT w B v n xs := by
  obtain ⟨h1, h2⟩ := h
  rw [Nat.mul_one] at h1 h2
  refine ⟨h1, ?_⟩
  rcases h2 with h2 | ⟨g, cap, cur, hv, hB, hg, hle, hm, hcs, ht⟩
  · exact .inl h2
  · exact .inr ⟨g, cap, cur, hv, hB, hg, hle, hm, by omega, ht⟩
theorem OwnT.shape {w : World} {B n : Nat} {v : Value} {xs : List Value} (h : OwnT w B v n xs) : ∃ ad cap, v = .slice ad n cap ∧ True := by
  rcases h.2 with ⟨rfl, rfl⟩ | ⟨g, cap', cur, rfl, hb, hg, _⟩
  · exact ⟨none, 0, rfl, trivial⟩
  · exact ⟨_, cap', rfl, trivial⟩
theorem OwnT.below {w w' : World} {B n : Nat} {v : Value} {xs : List Value} (h : OwnT w B v n xs) (hb : Below w.heap.size w w') : OwnT w' B v n xs := by
  obtain ⟨h1, h2⟩ := h
  refine ⟨h1, ?_⟩
  rcases h2 with h2 | ⟨g, cap, cur, hv, hg, hh, r⟩
  · exact .inl h2
  · exact .inr ⟨g, cap, cur, hv, hg, by rw [hb.block g (Array.getElem?_eq_some_iff.1 hh).1]; exact hh, r⟩
theorem OwnT.put {w : World} {B n k : Nat} {v : Value} {xs : List Value} (h : OwnT w B v n xs) (hk : k < n) :
    ∃ g cap, v = .slice (some ⟨g, 0, none⟩) n cap ∧ B ≤ g ∧ g < w.heap.size ∧ w.cell? ⟨g, k, none⟩ = xs[k]? ∧ w.frozen? ⟨g, k, none⟩ = false ∧ ∀ u, OwnT (w.setCell ⟨g, k, none⟩ u) B v n (xs.set k u) := by
  obtain ⟨h1, h2⟩ := h
  rcases h2 with ⟨_, h2⟩ | ⟨g, cap, cur, rfl, hB, hg, hle, hm, hcs, ht⟩
  · omega
  · have hb : Bk w g 9 cur := hg
    refine ⟨g, cap, rfl, hB, hb.lt, ?_, hb.fz k, fun u => ⟨by rw [List.length_set, h1], .inr ⟨g, cap, cur.setIfInBounds k u, rfl, hB, heap_setCell_same w g k cur 9 u hg, hle, hm, by rw [Array.size_setIfInBounds]; exact hcs, ?_⟩⟩⟩
    · rw [hb.cell k, ← ht, List.getElem?_take_of_lt (by omega), Array.getElem?_toList]
    · rw [Array.toList_setIfInBounds, List.take_set, ht]
theorem OwnT.cell {w : World} {B n k : Nat} {v : Value} {xs : List Value} (h : OwnT w B v n xs) (hk : k < n) : ∃ g cap, v = .slice (some ⟨g, 0, none⟩) n cap ∧ g < w.heap.size ∧ w.cell? ⟨g, k, none⟩ = xs[k]? := by
  obtain ⟨g, cap, h1, _, h2, h3, _⟩ := h.put hk
  exact ⟨g, cap, h1, h2, h3⟩
/-- What the methods of a table do: TB tells that a pointer is a table with these texts, in these blocks. -/
structure TabOK (TB : World → Value → List ByteArray → (Nat → Prop) → Prop) : Prop where
  frame : ∀ {w w' : World} {t : Value} {L : List ByteArray} {F : Nat → Prop}, TB w t L F → w.heap.size ≤ w'.heap.size → (∀ g, F g → w'.heap[g]? = w.heap[g]?) → TB w' t L F
  lt : ∀ {w : World} {t : Value} {L : List ByteArray} {F : Nat → Prop}, TB w t L F → ∀ g, F g → g < w.heap.size
  new : ∀ w : World, Calls Try.prog 9 #[] w fun e w' => ∃ (a : Addr) (F : Nat → Prop), e = .returned (.pointer (some a)) ∧ TB w' (.pointer (some a)) [] F ∧ (∀ g, F g → w.heap.size ≤ g) ∧ Below w.heap.size w w'
  put : ∀ {w : World} {t : Value} {L : List ByteArray} {F : Nat → Prop} (s : ByteArray), TB w t L F → Few L → s.size ≤ 300 → Calls Try.prog 10 #[t, .string s] w fun e w' => e = .returned (.tuple #[.int .i64 (putN L s), .bool (!hasT L s)]) ∧ ∃ F' : Nat → Prop, TB w' t (putL L s) F' ∧ (∀ g, F' g → F g ∨ w.heap.size ≤ g) ∧ Oth F w w'
  get : ∀ {w : World} {t : Value} {L : List ByteArray} {F : Nat → Prop} (s : ByteArray), TB w t L F → Few L → s.size ≤ 300 → Calls Try.prog 12 #[t, .string s] w fun e w' => e = .returned (.tuple #[.int .i64 (getN L s), .bool (hasT L s)]) ∧ Below w.heap.size w w'
  at' : ∀ {w : World} {t : Value} {L : List ByteArray} {F : Nat → Prop} (i : Int), TB w t L F → Few L → Calls Try.prog 18 #[t, .int .i64 i] w fun e w' => e = .returned (.tuple #[.string (atS L i), .bool (atB L i)]) ∧ Below w.heap.size w w'
  len : ∀ {w : World} {t : Value} {L : List ByteArray} {F : Nat → Prop}, TB w t L F → Few L → Calls Try.prog 14 #[t] w fun e w' => e = .returned (.int .i64 L.length) ∧ Below w.heap.size w w'
  slots : ∀ {w : World} {t : Value} {L : List ByteArray} {F : Nat → Prop}, TB w t L F → Few L → Calls Try.prog 15 #[t] w fun e w' => e = .returned (.int .i64 (slotsN L.length)) ∧ Below w.heap.size w w'
  all : ∀ {w : World} {t : Value} {L : List ByteArray} {F : Nat → Prop}, TB w t L F → Few L → Calls Try.prog 17 #[t] w fun e w' => ∃ v, e = .returned v ∧ OwnT w' w.heap.size v L.length (L.map fun x => .string x) ∧ Below w.heap.size w w'

theorem StrsD.at2 {w : World} {ad : Option Addr} {n cap : Nat} {xs : List ByteArray} (h : StrsD w (.slice ad n cap) xs) (k : Nat) (hk : k < xs.length) : ∃ b off, ad = some ⟨b, off, none⟩ ∧ b < w.heap.size ∧ w.cell? ⟨b, off + k, none⟩ = some (.string xs[k]) := by
  obtain ⟨ad', cap', hv, h1, h2, hc⟩ := h
  injection hv with e1 e2 e3
  subst e1
  obtain ⟨b, off, ha, hl, hR⟩ := hc k hk
  exact ⟨b, off, ha, hl, by have := hR; unfold StrAt at this; rwa [Nat.mul_one] at this⟩

def lightT (L : List ByteArray) : Bool := decide (L.length ≤ 200) && L.all fun x => decide (x.size ≤ 200)
theorem light_few {L : List ByteArray} (h : lightT L = true) : Few L := by
  unfold lightT at h
  simp only [Bool.and_eq_true, decide_eq_true_eq, List.all_eq_true] at h
  exact ⟨by omega, fun x hx => by have := h.2 x hx; omega⟩
def lightF (L : List ByteArray) (k : Nat) : Bool := (L.drop k).all fun x => decide (x.size ≤ 200)

set_option maxRecDepth 100000 in
set_option maxHeartbeats 2000000 in
theorem light13_any (L : List ByteArray) (v : Value) (w : World) (hv : StrsD w v L) (q : Bool) (hq : lightT L = q) :
    Calls Try.prog 7 #[v] w fun e w' => e = .returned (.bool q) ∧ Below w.heap.size w w' := by
  have HV := Lib.hid hv
  obtain ⟨ad, cap, rfl⟩ := hv.shape0
  obtain ⟨n, hn⟩ : ∃ n, n = L.length := ⟨_, rfl⟩
  have HQ := Lib.hid hq
  rw [← hn] at HV ⊢
  have HN := Lib.hid hn
  clear hv hn hq
  by_cases h2 : n ≤ 200
  · have h3 : ¬ (200 : Int) < (n : Int) := by omega
    have HL0 : Hid (lightF L 0 = q) := Lib.hid (by
      rw [← HQ.out]
      unfold lightF lightT
      rw [List.drop_zero, decide_eq_true (by rw [← HN.out]; exact h2), Bool.true_and])
    have H2 := Lib.hid h2
    clear h2
    go_enter Try.func7, Try.ntmps7
    go_wp2_with fail
    go_loopg [3] n (fun fuel i' wr => ∃ (k : Nat), i' = .int .i64 k ∧ k ≤ n ∧ n - k ≤ fuel ∧ lightF L k = q ∧ Below w.heap.size w wr)
    case atStart => exact ⟨0, rfl, Nat.zero_le _, Nat.le_refl _, HL0.out, Below.refl _ _⟩
    case round =>
      obtain ⟨k, rfl, hk, hf, hl, hb⟩ := hrel
      have HL := Lib.hid hl
      have HB := Lib.hid hb
      clear hl hb
      by_cases hlt : k < n
      · have hk' : k < L.length := by rw [← HN.out]; exact hlt
        obtain ⟨b, off, rfl, hbl, y⟩ := StrsD.at2 (StrsD.below HV.out HB.out) k hk'
        have HD : Hid (lightF L k = (decide ((L[k]).size ≤ 200) && lightF L (k + 1))) := Lib.hid (by unfold lightF; rw [List.drop_eq_getElem_cons hk']; rfl)
        generalize L[k] = x at y HD
        have e1 : (0 : Int) ≤ (k : Int) := by omega
        have e2 : (k : Int) < (n : Int) := by omega
        have hwk : IntKind.i64.wrap ((k : Int) + 1) = (k : Int) + 1 := IntWalk.i64_in _ (by have := H2.out; omega)
        by_cases hx : x.size ≤ 200
        · have hx' : ¬ (200 : Int) < (x.size : Int) := by omega
          rw [decide_eq_true hx, Bool.true_and] at HD
          clear hx
          go_wp2_with fail
          go_roundg (gk - 1)
          case measure => omega
          case rel => exact ⟨k + 1, by go_num, by omega, by omega, HD.out.symm.trans HL.out, HB.out⟩
        · have hx' : (200 : Int) < (x.size : Int) := by omega
          rw [decide_eq_false hx, Bool.false_and] at HD
          have hq0 : q = false := HL.out.symm.trans HD.out
          clear hx
          go_wp2_with fail
          go_ret
          exact ⟨ret_bool hq0.symm, HB.out⟩
      · obtain rfl : k = n := by omega
        have hq0 : q = true := by
          rw [← HL.out]
          unfold lightF
          rw [List.drop_eq_nil_of_le (by rw [← HN.out]; exact Nat.le_refl _)]
          rfl
        go_wp2_with fail
        go_ret
        exact ⟨ret_bool hq0.symm, HB.out⟩
  · have h3 : (200 : Int) < (n : Int) := by omega
    have hq0 : q = false := by
      rw [← HQ.out]
      unfold lightT
      rw [decide_eq_false (by rw [← HN.out]; exact h2), Bool.false_and]
    clear h2
    go_enter Try.func7, Try.ntmps7
    go_wp2_with fail
    go_ret
    exact ⟨ret_bool hq0.symm, Below.refl _ _⟩

end Go.Proofs.Ythmejdnedfokcaa
