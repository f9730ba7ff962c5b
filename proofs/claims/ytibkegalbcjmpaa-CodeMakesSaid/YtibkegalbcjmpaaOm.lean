/- Layer 6: names and their places. -/
import Derived.Test.YtibkegalbcjmpaaOl
namespace Go.Proofs.Ytibkegalbcjmpaa
open Go.RowKit

/-- A slice of nodes, that may be cut. -/
def NdsC (w : World) (v : Value) (l : List Nd) : Prop :=
  ∃ ad cap, v = .slice ad l.length cap ∧ l.length ≤ cap ∧ cap ≤ 9223372036854775807 ∧ ∀ i, (hi : i < l.length) → ∃ b off, ad = some ⟨b, off, none⟩ ∧ b < w.heap.size ∧ NdAt w b (off + i * 5) l[i]

theorem NdsC.nds {w : World} {v : Value} {l : List Nd} (h : NdsC w v l) : Nds w v l := by
  obtain ⟨ad, cap, rfl, _, _, hc⟩ := h
  by_cases h0 : l.length = 0
  · have := List.eq_nil_of_length_eq_zero h0
    subst this
    exact .inl ⟨rfl, ad, cap, rfl⟩
  · obtain ⟨b, off, rfl, hb, _⟩ := hc 0 (by omega)
    refine .inr ⟨b, off, cap, rfl, hb, fun i hi => ?_⟩
    obtain ⟨b', off', he, _, h⟩ := hc i hi
    cases he
    exact h
theorem NdsC.below {w w' : World} {v : Value} {l : List Nd} (h : NdsC w v l) (hb : Below w.heap.size w w') : NdsC w' v l := by
  obtain ⟨ad, cap, hv, h1, h2, hc⟩ := h
  refine ⟨ad, cap, hv, h1, h2, fun i hi => ?_⟩
  obtain ⟨b, off, he, hl, h⟩ := hc i hi
  exact ⟨b, off, he, Nat.lt_of_lt_of_le hl hb.size, h.below hb hl⟩

/-- A cut from k on, and a cut up to k. -/
theorem NdsC.drop {w : World} {b off cap : Nat} {l : List Nd} (h : NdsC w (.slice (some ⟨b, off, none⟩) l.length cap) l) (k : Nat) (hk : k < l.length) : NdsC w (.slice (some ⟨b, off + k * 5, none⟩) (l.length - k) (cap - k)) (l.drop k) := by
  obtain ⟨ad, cap', hv, h1, h2, hc⟩ := h
  cases hv
  refine ⟨_, _, by rw [List.length_drop], by rw [List.length_drop]; omega, by omega, fun i hi => ?_⟩
  rw [List.length_drop] at hi
  obtain ⟨b', off', he, hl, h⟩ := hc (k + i) (by omega)
  cases he
  refine ⟨b, off + k * 5, rfl, hl, ?_⟩
  rw [List.getElem_drop, show off + k * 5 + i * 5 = off + (k + i) * 5 by omega]
  exact h
theorem NdsC.none {w : World} (ad : Option Addr) (cap : Nat) (hc : cap ≤ 9223372036854775807) : NdsC w (.slice ad 0 cap) [] := ⟨ad, cap, rfl, Nat.zero_le _, hc, fun _ hi => absurd hi (Nat.not_lt_zero _)⟩
theorem NdsC.take {w : World} {ad : Option Addr} {cap : Nat} {l : List Nd} (h : NdsC w (.slice ad l.length cap) l) (k : Nat) (hk : k ≤ l.length) : NdsC w (.slice ad k cap) (l.take k) := by
  obtain ⟨ad', cap', hv, h1, h2, hc⟩ := h
  cases hv
  refine ⟨ad, cap, by rw [List.length_take, Nat.min_eq_left hk], by rw [List.length_take]; omega, h2, fun i hi => ?_⟩
  rw [List.length_take] at hi
  obtain ⟨b', off', he, hl, h⟩ := hc i (by omega)
  refine ⟨b', off', he, hl, ?_⟩
  rw [List.getElem_take]
  exact h


/-- A name's place among names. -/
def ixL : List ByteArray → ByteArray → Nat → Int
  | [], _, _ => -1
  | a :: r, s, k => if a.toList = s.toList then (k : Int) else ixL r s (k + 1)

theorem ixL_at (l : List ByteArray) (s : ByteArray) (k : Nat) (h : k < l.length) : ixL (l.drop k) s k = if l[k].toList = s.toList then (k : Int) else ixL (l.drop (k + 1)) s (k + 1) := by
  rw [List.drop_eq_getElem_cons h]; rfl
theorem ixL_over (l : List ByteArray) (s : ByteArray) (k : Nat) (h : ¬ k < l.length) : ixL (l.drop k) s k = -1 := by
  rw [List.drop_eq_nil_of_le (by omega)]; rfl
theorem ixL_range (l : List ByteArray) (s : ByteArray) : ∀ k, ixL l s k = -1 ∨ (k ≤ ixL l s k ∧ ixL l s k < k + l.length) := by
  induction l with
  | nil => intro k; exact .inl rfl
  | cons a r ih =>
    intro k
    unfold ixL
    split
    · right; simp; omega
    · rcases ih (k + 1) with h | h
      · exact .inl h
      · right; simp; omega

set_option maxRecDepth 100000 in
set_option maxHeartbeats 2000000 in
theorem sindex_any (l : List ByteArray) (v : Value) (s : ByteArray) (w : World) (hv : StrsD w v l) (hn : l.length ≤ 100000) (z : Int) (hz : ixL l s 0 = z) :
    Calls Try.prog 51 #[v, .string s] w fun e w' => e = .returned (.int .i64 z) ∧ w = w' := by
  have HZ : Hid (ixL (l.drop 0) s 0 = z) := Lib.hid hz
  obtain ⟨ad, cap, rfl, hcap1, hcap2, hc⟩ := hv
  have HC := Lib.hid hc
  obtain ⟨n, hN⟩ : ∃ n, n = l.length := ⟨_, rfl⟩
  rw [← hN] at hn ⊢
  have HN := Lib.hid hN
  clear hN hc hcap1 hcap2 hz
  go_enter Try.func51, Try.ntmps51
  go_wp2_with fail
  go_loopg [8] n (fun fuel i' wr => ∃ k : Nat, i' = .int .i64 k ∧ k ≤ n ∧ n - k ≤ fuel ∧ ixL (l.drop k) s k = z ∧ w = wr)
  case atStart => exact ⟨0, rfl, Nat.zero_le _, Nat.le_refl _, HZ.out, rfl⟩
  case round =>
    obtain ⟨k, rfl, hk, hf, ha, rfl⟩ := hrel
    have HA := Lib.hid ha
    clear ha
    by_cases hlt : k < n
    · have hk' : k < l.length := by have := HN.out; omega
      have HE := Lib.hid (ixL_at l s k hk')
      obtain ⟨b, off, rfl, hbl, x0⟩ := HC.out k hk'
      obtain ⟨x, hx⟩ : ∃ x, x = l[k] := ⟨_, rfl⟩
      rw [← hx] at x0 HE
      have c0 : w.cell? ⟨b, off + k, none⟩ = some (.string x) := by unfold StrAt at x0; rw [Nat.mul_one] at x0; exact x0
      clear x0 hx
      by_cases h1 : x.toList = s.toList
      · have q1 : (s.toList == x.toList) = true := by simpa using h1.symm
        have H1 := Lib.hid h1
        clear h1
        go_wp2
        go_ret
        refine ⟨ret_int ?_, rfl⟩
        rw [← HA.out, HE.out, if_pos H1.out]
      · have q1 : (s.toList == x.toList) = false := by simpa using (fun h => h1 h.symm)
        have H1 := Lib.hid h1
        clear h1
        go_wp2
        go_roundg (gk - 1)
        case measure => omega
        case rel => exact ⟨k + 1, by go_num, by omega, by omega, by rw [← HA.out, HE.out, if_neg H1.out], rfl⟩
    · have HE := Lib.hid (ixL_over l s k (by have := HN.out; omega))
      go_wp2
      go_ret
      exact ⟨ret_int (by rw [← HA.out, HE.out]), rfl⟩

set_option maxRecDepth 100000 in
set_option maxHeartbeats 2000000 in
theorem rindex_any (l : List ByteArray) (v : Value) (s : ByteArray) (w : World) (hv : StrsD w v l) (hn : l.length ≤ 100000) (z : Int) (hz : ixL l s 0 = z) :
    Calls Try.prog 30 #[v, .string s] w fun e w' => e = .returned (.int .i64 z) ∧ w = w' := by
  have HZ : Hid (ixL (l.drop 0) s 0 = z) := Lib.hid hz
  obtain ⟨ad, cap, rfl, hcap1, hcap2, hc⟩ := hv
  have HC := Lib.hid hc
  obtain ⟨n, hN⟩ : ∃ n, n = l.length := ⟨_, rfl⟩
  rw [← hN] at hn ⊢
  have HN := Lib.hid hN
  clear hN hc hcap1 hcap2 hz
  go_enter Try.func30, Try.ntmps30
  go_wp2_with fail
  go_loopg [5] n (fun fuel i' wr => ∃ k : Nat, i' = .int .i64 k ∧ k ≤ n ∧ n - k ≤ fuel ∧ ixL (l.drop k) s k = z ∧ w = wr)
  case atStart => exact ⟨0, rfl, Nat.zero_le _, Nat.le_refl _, HZ.out, rfl⟩
  case round =>
    obtain ⟨k, rfl, hk, hf, ha, rfl⟩ := hrel
    have HA := Lib.hid ha
    clear ha
    by_cases hlt : k < n
    · have hk' : k < l.length := by have := HN.out; omega
      have HE := Lib.hid (ixL_at l s k hk')
      obtain ⟨b, off, rfl, hbl, x0⟩ := HC.out k hk'
      obtain ⟨x, hx⟩ : ∃ x, x = l[k] := ⟨_, rfl⟩
      rw [← hx] at x0 HE
      have c0 : w.cell? ⟨b, off + k, none⟩ = some (.string x) := by unfold StrAt at x0; rw [Nat.mul_one] at x0; exact x0
      clear x0 hx
      by_cases h1 : x.toList = s.toList
      · have q1 : (x.toList == s.toList) = true := by simpa using h1
        have H1 := Lib.hid h1
        clear h1
        go_wp2
        go_ret
        refine ⟨ret_int ?_, rfl⟩
        rw [← HA.out, HE.out, if_pos H1.out]
      · have q1 : (x.toList == s.toList) = false := by simpa using h1
        have H1 := Lib.hid h1
        clear h1
        go_wp2
        go_roundg (gk - 1)
        case measure => omega
        case rel => exact ⟨k + 1, by go_num, by omega, by omega, by rw [← HA.out, HE.out, if_neg H1.out], rfl⟩
    · have HE := Lib.hid (ixL_over l s k (by have := HN.out; omega))
      go_wp2
      go_ret
      exact ⟨ret_int (by rw [← HA.out, HE.out]), rfl⟩

theorem index_any (l : List ByteArray) (v : Value) (s : ByteArray) (w : World) (hv : StrsD w v l) (hn : l.length ≤ 100000) (z : Int) (hz : ixL l s 0 = z) :
    Calls Try.prog 28 #[v, .string s] w fun e w' => e = .returned (.int .i64 z) ∧ w = w' := by
  have H := sindex_any l v s w hv hn z hz
  obtain ⟨ad, cap, rfl⟩ := hv.shape
  generalize l.length = n at H
  clear hv hn hz
  go_enter Try.func28, Try.ntmps28
  go_wp2_with fail
  refine H.mono ?_
  rintro e w2 ⟨rfl, rfl⟩
  go_wp2
  go_ret
  exact ⟨rfl, rfl⟩

end Go.Proofs.Ytibkegalbcjmpaa
