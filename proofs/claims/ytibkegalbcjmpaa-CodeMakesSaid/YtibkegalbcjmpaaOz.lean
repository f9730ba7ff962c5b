/- Layer 6: rows that were just laid, as they are read; codes that are the same. -/
import Derived.Test.YtibkegalbcjmpaaOy
import Derived.Laws.StructEq
import Derived.BigQuiet
namespace Go.Proofs.Ytibkegalbcjmpaa
open Go.RowKit

theorem flat_at {α : Type} (f : α → List Value) (S : Nat) (hS : ∀ x, (f x).length = S) (l : List α) : ∀ i, (h : i < l.length) → ∀ k, (hk : k < S) → (l.flatMap f)[i * S + k]? = some ((f l[i])[k]'(by rw [hS]; exact hk)) := by
  induction l with
  | nil => intro i h; exact absurd h (Nat.not_lt_zero _)
  | cons a l ih =>
    intro i h k hk
    cases i with
    | zero =>
      rw [List.flatMap_cons, Nat.zero_mul, Nat.zero_add, List.getElem?_append_left (by rw [hS]; exact hk), List.getElem?_eq_getElem (by rw [hS]; exact hk)]
      rfl
    | succ i =>
      rw [List.flatMap_cons, List.getElem?_append_right (by rw [hS, Nat.succ_mul]; omega), hS, show (i + 1) * S + k - S = i * S + k by rw [Nat.succ_mul]; omega]
      exact ih i (by simpa using h) k hk

theorem slD_of_bk {α : Type} (f : α → List Value) (S : Nat) (hS : ∀ x, (f x).length = S) {R : World → Nat → Nat → α → Prop} {w : World} {g T : Nat} {cs : Array Value} {xs : List α} (h : Bk w g T cs) (hcs : cs.toList = xs.flatMap f) (hl : xs.length ≤ 1000000)
    (hR : ∀ i, (hi : i < xs.length) → (∀ k, (hk : k < S) → w.cell? ⟨g, i * S + k, none⟩ = some ((f xs[i])[k]'(by rw [hS]; exact hk))) → R w g (i * S) xs[i]) : SlD S R w (.slice (some ⟨g, 0, none⟩) xs.length xs.length) xs := by
  refine ⟨_, _, rfl, ⟨Nat.le_refl _, fun h => by cases h⟩, by omega, fun i hi => ⟨g, 0, rfl, h.lt, ?_⟩⟩
  rw [Nat.zero_add]
  refine hR i hi fun k hk => ?_
  rw [h.cell (i * S + k), ← Array.getElem?_toList, hcs]
  exact flat_at f S hS xs i hi k hk

theorem ndsC_of_bk {w : World} {g T : Nat} {cs : Array Value} {xs : List Nd} (h : Bk w g T cs) (hcs : cs.toList = xs.flatMap Nd.cells) (hl : xs.length ≤ 1000000) : NdsC w (.slice (some ⟨g, 0, none⟩) xs.length xs.length) xs := by
  have : SlD 5 NdAt w (.slice (some ⟨g, 0, none⟩) xs.length xs.length) xs := slD_of_bk Nd.cells 5 (fun _ => rfl) h hcs hl fun i hi hk => ⟨hk 0 (by decide), hk 1 (by decide), hk 2 (by decide), hk 3 (by decide), hk 4 (by decide)⟩
  obtain ⟨ad, cap, h1, h2, h3, h4⟩ := this
  exact ⟨ad, cap, h1, h2.1, h3, h4⟩
theorem opsD_of_bk {w : World} {g T : Nat} {cs : Array Value} {xs : List Opn} (h : Bk w g T cs) (hcs : cs.toList = xs.flatMap Opn.cells) (hl : xs.length ≤ 1000000) : OpsD w (.slice (some ⟨g, 0, none⟩) xs.length xs.length) xs :=
  slD_of_bk Opn.cells 3 (fun _ => rfl) h hcs hl fun i hi hk => ⟨hk 0 (by decide), hk 1 (by decide), hk 2 (by decide)⟩
theorem strsD_of_bk {w : World} {g T : Nat} {cs : Array Value} {xs : List ByteArray} (h : Bk w g T cs) (hcs : cs.toList = xs.flatMap fun x => [Value.string x]) (hl : xs.length ≤ 1000000) : StrsD w (.slice (some ⟨g, 0, none⟩) xs.length xs.length) xs :=
  slD_of_bk (fun x => [Value.string x]) 1 (fun _ => rfl) h hcs hl fun i hi hk => hk 0 (by decide)
theorem intsD_of_bk {w : World} {g T : Nat} {cs : Array Value} {xs : List Int} (h : Bk w g T cs) (hcs : cs.toList = xs.flatMap fun x => [Value.int .i64 x]) (hl : xs.length ≤ 1000000) : IntsD w (.slice (some ⟨g, 0, none⟩) xs.length xs.length) xs :=
  slD_of_bk (fun x => [Value.int .i64 x]) 1 (fun _ => rfl) h hcs hl fun i hi hk => hk 0 (by decide)
theorem opsD_of_own {w : World} {B : Nat} {v : Value} {l : List Opn} (h : w.ownsRow B 53 3 v l.length (rowP l)) : OpsD w v l := by
  have hc := @World.ownsRow.cells _ _ _ _ _ _ _ h
  have hl := h.lt
  rcases h.2 with ⟨rfl, hn⟩ | ⟨g, cap, cur, rfl, _, hh, hle, hcm, _⟩
  · obtain rfl := List.eq_nil_of_length_eq_zero hn
    exact SlD.nil
  · refine ⟨_, cap, rfl, ⟨hle, fun h => by cases h⟩, by unfold maxLen at hcm; omega, fun i hi => ?_⟩
    refine ⟨g, 0, rfl, (hl g rfl).2, ?_⟩
    have r : ∀ k, (hk : k < 3) → w.cell? ⟨g, i * 3 + k, none⟩ = some ((l[i].cells)[k]'(by simp [Opn.cells]; exact hk)) := fun k hk => by
      have := hc (g := g) rfl (i * 3 + k) _ (flat_at Opn.cells 3 (fun _ => rfl) l i hi k hk)
      rwa [addr_add'] at this
    rw [Nat.zero_add]
    exact ⟨r 0 (by decide), r 1 (by decide), r 2 (by decide)⟩

theorem OpsD.take {w : World} {ad : Option Addr} {cap : Nat} {l : List Opn} (h : OpsD w (.slice ad l.length cap) l) (k : Nat) (hk : k ≤ l.length) : OpsD w (.slice ad k cap) (l.take k) := by
  obtain ⟨ad', cap', hv, h1, h2, hc⟩ := h
  cases hv
  refine ⟨ad, cap, by rw [List.length_take, Nat.min_eq_left hk], ⟨by rw [List.length_take]; omega, h1.2⟩, h2, fun i hi => ?_⟩
  rw [List.length_take] at hi
  obtain ⟨b', off', he, hl, h⟩ := hc i (by omega)
  refine ⟨b', off', he, hl, ?_⟩
  rw [List.getElem_take]
  exact h
theorem OpsD.drop {w : World} {b off cap : Nat} {l : List Opn} (h : OpsD w (.slice (some ⟨b, off, none⟩) l.length cap) l) (k : Nat) (hk : k < l.length) : OpsD w (.slice (some ⟨b, off + k * 3, none⟩) (l.length - k) (cap - k)) (l.drop k) := by
  obtain ⟨ad, cap', hv, h1, h2, hc⟩ := h
  cases hv
  refine ⟨_, _, by rw [List.length_drop], ⟨by rw [List.length_drop]; omega, fun h => by cases h⟩, by omega, fun i hi => ?_⟩
  rw [List.length_drop] at hi
  obtain ⟨b', off', he, hl, h⟩ := hc (k + i) (by omega)
  cases he
  refine ⟨b, off + k * 3, rfl, hl, ?_⟩
  rw [List.getElem_drop, show off + k * 3 + i * 3 = off + (k + i) * 3 by omega]
  exact h

set_option maxRecDepth 100000 in
set_option maxHeartbeats 2000000 in
theorem sameO_any (l : List Opn) (v1 v2 : Value) (w : World) (h1 : OpsD w v1 l) (h2 : OpsD w v2 l) (hn : l.length ≤ 100000) :
    Calls Try.prog 15 #[v1, v2] w fun e w' => e = .returned (.bool true) ∧ Below w.heap.size w w' := by
  obtain ⟨ad, cap, rfl, _, _, hc⟩ := h1
  obtain ⟨ad2, cap2, rfl, _, _, hc2⟩ := h2
  have HC := Lib.hid hc
  have HC2 := Lib.hid hc2
  obtain ⟨n, hN⟩ : ∃ n, n = l.length := ⟨_, rfl⟩
  rw [← hN] at hn ⊢
  have HN := Lib.hid hN
  clear hN hc hc2
  go_enter Try.func15, Try.ntmps15
  go_wp2_with fail
  go_loopg [5] n (fun fuel i' wr => ∃ (k : Nat), i' = .int .i64 k ∧ k ≤ n ∧ n - k ≤ fuel ∧ Below w.heap.size w wr)
  case atStart => exact ⟨0, rfl, Nat.zero_le _, Nat.le_refl _, Below.refl _ _⟩
  case round =>
    obtain ⟨k, rfl, hk, hf, hb⟩ := hrel
    have HB := Lib.hid hb
    have hww := hb.size
    by_cases hlt : k < n
    · have hk' : k < l.length := by have := HN.out; omega
      obtain ⟨b, off, rfl, hbl, x0, x1, x2⟩ := HC.out k hk'
      obtain ⟨b2, off2, rfl, hbl2, y0, y1, y2⟩ := HC2.out k hk'
      obtain ⟨⟨xo, xn, xt⟩, hx⟩ : ∃ x, x = l[k] := ⟨_, rfl⟩
      rw [← hx] at x0 x1 x2 y0 y1 y2
      simp only [] at x0 x1 x2 y0 y1 y2
      have c0 : wr.cell? ⟨b, off + k * 3, none⟩ = some (.int .i64 xo) := (hb.cell (p := ⟨b, _, none⟩) hbl).trans x0
      have c1 : wr.cell? ⟨b, off + k * 3 + 1, none⟩ = some (.int .i64 xn) := (hb.cell (p := ⟨b, _, none⟩) hbl).trans x1
      have c2 : wr.cell? ⟨b, off + k * 3 + 2, none⟩ = some (.int .i64 xt) := (hb.cell (p := ⟨b, _, none⟩) hbl).trans x2
      have d0 : wr.cell? ⟨b2, off2 + k * 3, none⟩ = some (.int .i64 xo) := (hb.cell (p := ⟨b2, _, none⟩) hbl2).trans y0
      have d1 : wr.cell? ⟨b2, off2 + k * 3 + 1, none⟩ = some (.int .i64 xn) := (hb.cell (p := ⟨b2, _, none⟩) hbl2).trans y1
      have d2 : wr.cell? ⟨b2, off2 + k * 3 + 2, none⟩ = some (.int .i64 xt) := (hb.cell (p := ⟨b2, _, none⟩) hbl2).trans y2
      clear x0 x1 x2 y0 y1 y2 hx hb
      go_wp2
      go_quiet (fail)
      go_wp2
      go_roundg (gk - 1)
      case measure => omega
      case rel => exact ⟨k + 1, by go_num, by omega, by omega, HB.out.trans (below_end _)⟩
    · clear hb
      go_wp2
      go_ret
      exact ⟨rfl, HB.out⟩

end Go.Proofs.Ytibkegalbcjmpaa
