/- Layer 12: bytes appended, and a row of bytes as a text. -/
import Derived.Test.YtmkgijedchpgcaaEa
import Derived.Laws.BytesArg
import Derived.Test.YtmkgijedchpgcaaWa
namespace Go.Proofs.Ytmkgijedchpgcaa
set_option linter.unusedSimpArgs false
set_option linter.unusedVariables false
open Go.RowKit

def rowY (l : List Int) : List Value := l.map fun n => .int .u8 n
def OwnY (w : World) (B : Nat) (v : Value) (l : List Int) : Prop := w.ownsRow B 5 1 v l.length (rowY l)
theorem info_u8 : (Try.prog.info? 5).map (fun i => (i.zero, i.size, i.bytes)) = some (some (.int .u8 0), 1, 1) := by kernel_rfl

/-- append of bytes to a row of one's own. -/
theorem append_byt {w : World} {ops : Array Oper} {rest : List Oper} {o : Oper} {a : Act} {Q : Exit → Act → World → Prop} (hgd : o.guard = none) (s x : Operand)
    (ho : o.op = .call { callee := .builtin .append, args := #[s, x], argTypes := #[56, 56] }) (base : Nat) (v : Value) (l zs : List Int) (m : Nat) (hm : zs.length = m) (hm0 : 0 < m) (hs : a.eval s = v) (g : Nat) (hx : a.eval x = .slice (some ⟨g, 0, none⟩) m m)
    (hown : OwnY w base v l) (hc : ∀ (j : Nat) (u : Value), (rowY zs)[j]? = some u → w.cell? ⟨g, j, none⟩ = some u) (hn : l.length ≤ 1000000) (hm1 : m ≤ 100) (hbase : base ≤ w.heap.size)
    (h : ∀ g' cap w', OwnY w' base (.slice (some ⟨g', 0, none⟩) (l ++ zs).length cap) (l ++ zs) → Below base w w' → wpList Try.prog ops Q rest (a.put o.dst (.slice (some ⟨g', 0, none⟩) (l ++ zs).length cap)) w') : wpList Try.prog ops Q (o :: rest) a w := by
  obtain ⟨i0, hi, hz0, hz1, hz2⟩ := info_parts info_u8
  have hl : (rowY zs).length = m * 1 := by unfold rowY; rw [List.length_map, hm, Nat.mul_one]
  refine wpList_append_own _ hgd s x 56 ho base 5 i0 (.int .u8 0) 1 1 Try.underlying56 hi hz0 hz1 hz2 rfl (by decide) v l.length (rowY l) hs hown ⟨g, 0, none⟩ m m (rowY zs) hx hl ?_ ?_ (by unfold maxLen; omega) (by omega) hbase ?_
  · intro j u hj
    have := hc j u hj
    rw [show (⟨g, 0, none⟩ : Addr).add j = ⟨g, j, none⟩ by unfold Addr.add; split <;> simp_all]
    exact this
  · intro u hu
    unfold rowY at hu
    obtain ⟨n, _, rfl⟩ := List.mem_map.1 hu
    rfl
  · intro v' w' h1 h2 _
    have e1 : l.length + m = (l ++ zs).length := by rw [List.length_append, hm]
    have e2 : rowY l ++ rowY zs = rowY (l ++ zs) := by unfold rowY; rw [List.map_append]
    rw [e1, e2] at h1
    rcases h1.2 with ⟨h3, h4⟩ | ⟨g', cap', cur, hv, hg, hh, _⟩
    · rw [List.length_append] at h4; omega
    · subst hv
      exact h g' cap' w' h1 ((Below.refl base w).grown h2 hbase (fun k hk => (hown.lt k hk).1))

theorem append_byt_wp {w : World} {o : Oper} {a : Act} {K : Act → World → Prop} {Q : Exit → Act → World → Prop} (s x : Operand)
    (ho : o.op = .call { callee := .builtin .append, args := #[s, x], argTypes := #[56, 56] }) (base : Nat) (v : Value) (l zs : List Int) (m : Nat) (hm : zs.length = m) (hm0 : 0 < m) (hs : a.eval s = v) (g : Nat) (hx : a.eval x = .slice (some ⟨g, 0, none⟩) m m)
    (hown : OwnY w base v l) (hc : Bk w g 5 (rowY zs).toArray) (hn : l.length ≤ 1000000) (hm1 : m ≤ 100) (hbase : base ≤ w.heap.size)
    (h : ∀ g' cap w', OwnY w' base (.slice (some ⟨g', 0, none⟩) (l ++ zs).length cap) (l ++ zs) → Below base w w' → K (a.put o.dst (.slice (some ⟨g', 0, none⟩) (l ++ zs).length cap)) w') : o.wp Try.prog a w K Q := by
  obtain ⟨i0, hi, hz0, hz1, hz2⟩ := info_parts info_u8
  have hl : (rowY zs).length = m * 1 := by unfold rowY; rw [List.length_map, hm, Nat.mul_one]
  refine wp_append_own w s x 56 ho base 5 i0 (.int .u8 0) 1 1 Try.underlying56 hi hz0 hz1 hz2 rfl (by decide) v l.length (rowY l) hs hown ⟨g, 0, none⟩ m m (rowY zs) hx hl ?_ ?_ (by unfold maxLen; omega) (by omega) hbase ?_
  · intro j u hj
    rw [show (⟨g, 0, none⟩ : Addr).add j = ⟨g, j, none⟩ by unfold Addr.add; split <;> simp_all]
    rw [hc.cell j]
    simpa using hj
  · intro u hu
    unfold rowY at hu
    obtain ⟨n, _, rfl⟩ := List.mem_map.1 hu
    rfl
  · intro v' w' h1 h2 _
    have e1 : l.length + m = (l ++ zs).length := by rw [List.length_append, hm]
    have e2 : rowY l ++ rowY zs = rowY (l ++ zs) := by unfold rowY; rw [List.map_append]
    rw [e1, e2] at h1
    rcases h1.2 with ⟨h3, h4⟩ | ⟨g', cap', cur, hv, hg, hh, _⟩
    · rw [List.length_append] at h4; omega
    · subst hv
      exact h g' cap' w' h1 ((Below.refl base w).grown h2 hbase (fun k hk => (hown.lt k hk).1))

/-- A row of bytes, as a text. -/
theorem conv_byt {w : World} {B : Nat} {v : Value} {l : List Int} (h : OwnY w B v l) : Sem.run Try.prog (convert 56 9 v) w = .ok (.string (bytZ l)) w := by
  by_cases hl : l.length = 0
  · obtain rfl : l = [] := List.eq_nil_of_length_eq_zero hl
    rcases h.2 with ⟨hv, _⟩ | ⟨g, cap, cur, hv, hg, hh, _⟩
    · subst hv
      exact run_convert_bytes_nil w 56 5 Try.underlying56 Try.underlying5 0 0 9 Try.underlying9
    · subst hv
      exact run_convert_bytes_arg w 56 5 Try.underlying56 Try.underlying5 g 0 0 cap [] rfl (fun i hi => by omega) 9 Try.underlying9
  · obtain ⟨g, cap, rfl, _, _⟩ := World.ownsRow.form h (by omega)
    refine run_convert_bytes_arg w 56 5 Try.underlying56 Try.underlying5 g 0 l.length cap l rfl (fun i hi => ?_) 9 Try.underlying9
    rw [Nat.zero_add, World.ownsRow.cellAt h i (by omega)]
    unfold rowY
    rw [List.getElem?_map, List.getElem?_eq_getElem hi, List.getD_eq_getElem?_getD, List.getElem?_eq_getElem hi]
    rfl

end Go.Proofs.Ytmkgijedchpgcaa
