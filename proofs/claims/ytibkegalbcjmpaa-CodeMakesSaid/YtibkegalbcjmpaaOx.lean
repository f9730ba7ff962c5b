/- Layer 6: what Claim hands to its resolver. -/
import Derived.Test.YtibkegalbcjmpaaOw
namespace Go.Proofs.Ytibkegalbcjmpaa
open Go.RowKit

theorem StrsD.set {w : World} {v : Value} {l : List ByteArray} (h : StrsD w v l) {g : Nat} (hc : w.cell? ⟨g, 0, none⟩ = some (.slice none 0 0)) (u : Value) : StrsD (w.setCell ⟨g, 0, none⟩ u) v l := by
  obtain ⟨ad, cap, hv, h1, h2, hx⟩ := h
  refine ⟨ad, cap, hv, h1, h2, fun i hi => ?_⟩
  obtain ⟨b, off, ha, hl, g1⟩ := hx i hi
  refine ⟨b, off, ha, by simp [World.setCell]; exact hl, ?_⟩
  unfold StrAt at g1 ⊢
  by_cases hbg : b = g ∧ off + i * 1 = 0
  · obtain ⟨rfl, h0⟩ := hbg
    rw [h0, hc] at g1
    cases g1
  · rw [← g1]
    by_cases hb : b = g
    · subst hb
      have : off + i * 1 ≠ 0 := fun h => hbg ⟨rfl, h⟩
      simp only [World.cell?, World.setCell, Array.getElem?_modify, if_true]
      cases hh : w.heap[b]? with
      | none => rfl
      | some o =>
        cases o with
        | cells cs tt fr =>
          show (cs.setIfInBounds 0 u)[off + i * 1]? = cs[off + i * 1]?
          exact Array.getElem?_setIfInBounds_ne (Ne.symm this)
        | _ => rfl
    · exact World.cell?_of_block (Below.heap_setCell w ⟨g, 0, none⟩ u b hb)

/-- What Claim hands to its resolver, at a world. -/
def Fin (wb W : World) (p1 p2 : Nat) (n1 n2 : List ByteArray) : Prop := Below wb.heap.size wb W ∧ ∃ v1 v2, W.cell? ⟨p1, 0, none⟩ = some v1 ∧ W.cell? ⟨p2, 0, none⟩ = some v2 ∧ StrsD W v1 n1 ∧ StrsD W v2 n2
section
variable {wb w : World} {n1 n2 : List ByteArray} {v1 v2 : Value}
theorem fin_nn (hb : Below wb.heap.size wb w) (s1 : StrsD w v1 n1) (s2 : StrsD w v2 n2) : Fin wb ((w.alloc (.cells #[v1] 23)).alloc (.cells #[v2] 23)) w.heap.size (w.heap.size + 1) n1 n2 := by
  obtain ⟨a, b, c⟩ := two_new w 23 23 #[v1] #[v2]
  exact ⟨hb.trans (a.mono hb.size), v1, v2, b.cell 0, c.cell 0, StrsD.below s1 a, StrsD.below s2 a⟩
theorem fin_nm (hb : Below wb.heap.size wb w) (s1 : StrsD w v1 n1) (s2 : StrsD w v2 n2) : Fin wb ((w.alloc (.cells #[v2] 23)).alloc (.cells #[v1] 23)) (w.heap.size + 1) w.heap.size n1 n2 := by
  obtain ⟨a, b, c⟩ := two_new w 23 23 #[v2] #[v1]
  exact ⟨hb.trans (a.mono hb.size), v1, v2, c.cell 0, b.cell 0, StrsD.below s1 a, StrsD.below s2 a⟩
theorem fin_sn (hb : Below wb.heap.size wb w) (s1 : StrsD w v1 n1) (s2 : StrsD w v2 n2) {a : Nat} (ka : Bk w a 23 #[.slice none 0 0]) (ha : wb.heap.size ≤ a) : Fin wb ((w.setCell ⟨a, 0, none⟩ v1).alloc (.cells #[v2] 23)) a w.heap.size n1 n2 := by
  have k := ka.set 0 v1
  have hs : (w.setCell ⟨a, 0, none⟩ v1).heap.size = w.heap.size := by simp [World.setCell]
  have hal : Below (w.setCell ⟨a, 0, none⟩ v1).heap.size (w.setCell ⟨a, 0, none⟩ v1) ((w.setCell ⟨a, 0, none⟩ v1).alloc (.cells #[v2] 23)) := (Below.refl _ _).alloc (Nat.le_refl _) _
  have hn := (Bk.new (w.setCell ⟨a, 0, none⟩ v1) 23 #[v2]).cell 0
  rw [hs] at hn
  have hbs := hb.setCell (p := ⟨a, 0, none⟩) ha v1
  exact ⟨hbs.trans (hal.mono (by rw [hs]; exact hb.size)), v1, v2, (k.below hal).cell 0, hn, StrsD.below (StrsD.set s1 (ka.cell 0) v1) hal, StrsD.below (StrsD.set s2 (ka.cell 0) v1) hal⟩
theorem fin_sm (hb : Below wb.heap.size wb w) (s1 : StrsD w v1 n1) (s2 : StrsD w v2 n2) {a : Nat} (ka : Bk w a 23 #[.slice none 0 0]) (ha : wb.heap.size ≤ a) : Fin wb ((w.setCell ⟨a, 0, none⟩ v2).alloc (.cells #[v1] 23)) w.heap.size a n1 n2 := by
  obtain ⟨h1, x2, x1, c2, c1, d2, d1⟩ := fin_sn (n1 := n2) (n2 := n1) hb s2 s1 ka ha
  exact ⟨h1, x1, x2, c1, c2, d1, d2⟩
theorem fin_ss (hb : Below wb.heap.size wb w) (s1 : StrsD w v1 n1) (s2 : StrsD w v2 n2) {a b : Nat} (hab : a ≠ b) (ka : Bk w a 23 #[.slice none 0 0]) (kb : Bk w b 23 #[.slice none 0 0]) (ha : wb.heap.size ≤ a) (hbb : wb.heap.size ≤ b) :
    Fin wb ((w.setCell ⟨a, 0, none⟩ v1).setCell ⟨b, 0, none⟩ v2) a b n1 n2 := by
  have k1 := (ka.set 0 v1).other hab 0 v2
  have k2 := kb.other (Ne.symm hab) 0 v1
  exact ⟨(hb.setCell (p := ⟨a, 0, none⟩) ha v1).setCell (p := ⟨b, 0, none⟩) hbb v2, v1, v2, k1.cell 0, (k2.set 0 v2).cell 0, StrsD.set (StrsD.set s1 (ka.cell 0) v1) (k2.cell 0) v2, StrsD.set (StrsD.set s2 (ka.cell 0) v1) (k2.cell 0) v2⟩
end

end Go.Proofs.Ytibkegalbcjmpaa
