/- Rows of texts: copied, made, cut. -/
import Derived.Test.YthmejdnedfokcaaJi
namespace Go.Proofs.Ythmejdnedfokcaa
set_option linter.unusedSimpArgs false
set_option linter.unusedVariables false
open Go.RowKit

theorem strs_len (L : List ByteArray) : (strs L).length = L.length := by simp [strs]
theorem strs_one (L : List ByteArray) : ∀ u ∈ strs L, u.oneCell' = true := by
  intro u hu
  obtain ⟨o, _, rfl⟩ := List.mem_map.1 hu
  rfl
theorem strs_cells {w : World} {a : Addr} {n cap : Nat} {l : List ByteArray} (h : StrsD w (.slice (some a) n cap) l) : ∀ j u, (strs l)[j]? = some u → w.cell? (a.add j) = some u := by
  intro j u hu
  have hj : j < l.length := by rw [← strs_len]; exact (List.getElem?_eq_some_iff.1 hu).1
  obtain ⟨b, off, he, hb, hc⟩ := StrsD.at2 h j hj
  injection he with he
  subst he
  unfold strs at hu
  rw [List.getElem?_map, List.getElem?_eq_getElem hj] at hu
  injection hu with hu
  rw [addr_add', hc, ← hu]
theorem splice_whole {α : Type} (Z X : List α) (h : Z.length = X.length) : splice Z 0 X = X := by
  unfold splice
  rw [List.take_zero, List.nil_append, List.drop_eq_nil_of_le (by omega), List.append_nil]
theorem StrsD.nn {w : World} {n cap : Nat} {l : List ByteArray} (h : StrsD w (.slice none n cap) l) : l.length = 0 := by
  rcases Nat.eq_zero_or_pos l.length with h0 | h0
  · exact h0
  · obtain ⟨b, off, he, _⟩ := StrsD.at2 h 0 h0
    cases he
theorem SlD.len13 {α : Type} {S : Nat} {R : World → Nat → Nat → α → Prop} {w : World} {ad : Option Addr} {n cap : Nat} {xs : List α} (h : SlD S R w (.slice ad n cap) xs) : n = xs.length := by
  obtain ⟨ad', cap', hv, _⟩ := h
  injection hv
/-- copy of a row of texts into a row that is known whole. -/
theorem copy_strs {w : World} {ops : Array Oper} {rest : List Oper} {o : Oper} {a : Act} {Q : Exit → Act → World → Prop} (hgd : o.guard = none) (d s : Operand)
    (ho : o.op = .call { callee := .builtin .copy, args := #[d, s], argTypes := #[22, 22] })
    (dp sp : Option Addr) (dLen dCap sLen sCap : Nat) (hd : a.eval d = .slice dp dLen dCap) (hs : a.eval s = .slice sp sLen sCap)
    (g off : Nat) (cur : List Value) (t : TypeId) (hg : w.heap[g]? = some (.cells cur.toArray t (0, 0))) (xs : List ByteArray) (hle : sLen ≤ dLen) (hxs : StrsD w (.slice sp sLen sCap) xs)
    (hpos : 0 < xs.length → dp = some ⟨g, off, none⟩) (hfit : off + xs.length ≤ cur.length) (B : Nat) (w0 : World) (hb : Below B w0 w) (hBg : B ≤ g)
    (h : ∀ w', Hid (w'.heap[g]? = some (.cells (splice cur off (strs xs)).toArray t (0, 0))) → Below B w0 w' → wpList Try.prog ops Q rest (a.put o.dst (goInt xs.length)) w') :
    wpList Try.prog ops Q (o :: rest) a w := by
  have hm : xs.length = sLen := (SlD.len13 hxs).symm
  refine wpList_copy_splice hgd d s 22 22 ho 9 Try.underlying22 (by kernel_rfl) dp sp dLen dCap sLen sCap hd hs g off cur t hg (strs xs) (by rw [strs_len, hm]; exact (Nat.min_eq_left hle).symm) ?_ (by rw [strs_len]; exact hfit) (strs_one xs) B w0 hb hBg ?_
  · intro h0
    rw [strs_len] at h0
    refine ⟨hpos h0, ?_⟩
    cases sp with
    | none =>
      have h1 := StrsD.nn hxs
      omega
    | some ad => exact ⟨ad, rfl, strs_cells hxs⟩
  · intro w' h1 h2
    have h3 := h w' h1 h2
    rw [strs_len]
    exact h3

end Go.Proofs.Ythmejdnedfokcaa
