/- What build, ident, number and token do. -/
import Derived.Test.YtgpbogagpmjilaaB
import Derived.Test.YtgpbogagpmjilaaShelf
import Derived.Laws.ResultCell
import Derived.Laws.NewBlocks
namespace Go.Proofs.Ytgpbogagpmjilaa
open Go.RowKit

set_option maxHeartbeats 400000 in
theorem clone_any (s : ByteArray) (w : World) (h : s.size ≤ 281474976710656) :
    Calls Try.prog 38 #[.string s] w fun e w' => e = .returned (.string s) ∧ Below w.heap.size w w' := by
  go_enter Try.func38, Try.ntmps38
  go_wp2_with (go_at_call 40; refine (Try.stringslite_Clone _ _ h).mono ?_; rintro e w' ⟨rfl, hb⟩)
  go_ret
  exact ⟨rfl, hb⟩

/-- A block of four cells, open to writes. -/
def Blk4 (W : World) (b : Nat) (x0 x1 x2 x3 : Value) : Prop := W.heap[b]? = some (.cells #[x0, x1, x2, x3] 29 (0, 0))

theorem Blk4.new (w : World) (x0 x1 x2 x3 : Value) : Blk4 (w.alloc (.cells #[x0, x1, x2, x3] 29)) w.heap.size x0 x1 x2 x3 := heap_alloc_new w _

theorem Blk4.below {W W' : World} {b B : Nat} {x0 x1 x2 x3 : Value} (h : Blk4 W b x0 x1 x2 x3) (hb : Below B W W') (hlt : b < B) : Blk4 W' b x0 x1 x2 x3 := by
  unfold Blk4 at *; rw [hb.block b hlt]; exact h

theorem Blk4.lt {W : World} {b : Nat} {x0 x1 x2 x3 : Value} (h : Blk4 W b x0 x1 x2 x3) : b < W.heap.size := (Array.getElem?_eq_some_iff.1 h).1

theorem Blk4.facts {W : World} {b : Nat} {x0 x1 x2 x3 : Value} (h : Blk4 W b x0 x1 x2 x3) :
    (W.cell? ⟨b, 0, none⟩ = some x0 ∧ W.cell? ⟨b, 1, none⟩ = some x1 ∧ W.cell? ⟨b, 2, none⟩ = some x2 ∧ W.cell? ⟨b, 3, none⟩ = some x3) ∧
    W.frozen? ⟨b, 0, none⟩ = false ∧ W.frozen? ⟨b, 1, none⟩ = false ∧ W.frozen? ⟨b, 2, none⟩ = false ∧ W.frozen? ⟨b, 3, none⟩ = false := by
  unfold Blk4 at h
  simp [World.cell?, World.frozen?, h]

theorem below_new {w w' : World} {o : Obj} (h : Below (w.alloc o).heap.size (w.alloc o) w') : Below w.heap.size w w' :=
  ((Below.refl _ w).alloc (Nat.le_refl _) o).trans (h.mono (by simp))

set_option maxHeartbeats 400000 in
theorem build_any (k : Int) (s : ByteArray) (w : World) (h : s.size ≤ 281474976710656) :
    Calls Try.prog 34 #[.int .i64 k, .string s] w fun e w' => e = .returned (.agg #[.int .i64 k, .string s, .int .i64 0, .int .i64 0]) ∧ Below w.heap.size w w' := by
  go_enter Try.func34, Try.ntmps34
  go_wp2_with (go_at_call 38; refine (clone_any _ _ h).mono ?_; rintro e w' ⟨rfl, hb⟩; obtain ⟨⟨c0, c1, c2, c3⟩, f0, f1, f2, f3⟩ := ((Blk4.new w _ _ _ _).below hb (by simp)).facts)
  exact bodyPost_ret (v := .agg #[.int .i64 k, .string s, .int .i64 0, .int .i64 0]) (by simp [results, Try.results34, go_sem, c0, c1, c2, c3]) rfl ⟨rfl, ((((below_new hb).setCell (Nat.le_refl _) _).setCell (Nat.le_refl _) _).setCell (Nat.le_refl _) _).setCell (Nat.le_refl _) _⟩

set_option maxHeartbeats 400000 in
theorem ident_big (s : ByteArray) (w : World) (h : 16 < s.size) :
    Calls Try.prog 30 #[.string s] w fun e w' => e = .returned (.tuple #[.agg #[.int .i64 0, .string ⟨#[]⟩, .int .i64 0, .int .i64 0], .int .i64 2]) ∧ Below w.heap.size w w' := by
  go_enter Try.func30, Try.ntmps30
  go_wp2
  exact bodyPost_ret (v := .tuple #[.agg #[.int .i64 0, .string ⟨#[]⟩, .int .i64 0, .int .i64 0], .int .i64 2]) (by simp [results, Try.results30, go_sem]) rfl ⟨rfl, (Below.refl _ _).alloc (Nat.le_refl _) _⟩

set_option maxHeartbeats 400000 in
theorem ident_ok (s : ByteArray) (w : World) (h : s.size ≤ 16) :
    Calls Try.prog 30 #[.string s] w fun e w' => e = .returned (.tuple #[.agg #[.int .i64 1, .string s, .int .i64 0, .int .i64 0], .int .i64 0]) ∧ Below w.heap.size w w' := by
  go_enter Try.func30, Try.ntmps30
  go_wp2_with (go_at_call 34; refine (build_any _ _ _ (by omega)).mono ?_; rintro e w' ⟨rfl, hb⟩; obtain ⟨⟨c0, c1, c2, c3⟩, f0, f1, f2, f3⟩ := ((Blk4.new w _ _ _ _).below hb (by simp)).facts)
  exact bodyPost_ret (v := .tuple #[.agg #[.int .i64 1, .string s, .int .i64 0, .int .i64 0], .int .i64 0]) (by simp [results, Try.results30, go_sem, c0, c1, c2, c3]) rfl ⟨rfl, ((((below_new hb).setCell (Nat.le_refl _) _).setCell (Nat.le_refl _) _).setCell (Nat.le_refl _) _).setCell (Nat.le_refl _) _⟩

set_option maxHeartbeats 1000000 in
theorem number_big (s : ByteArray) (w : World) (hd : ∀ k, (h : k < s.size) → 48 ≤ (s[k]).toNat ∧ (s[k]).toNat ≤ 57) (h : 9999 < numV s.data.toList) :
    Calls Try.prog 32 #[.string s] w fun e w' => e = .returned (.tuple #[.agg #[.int .i64 0, .string ⟨#[]⟩, .int .i64 0, .int .i64 0], .int .i64 4]) ∧ Below w.heap.size w w' := by
  have HD := Lib.hid hd; clear hd
  have HN := Lib.hid h; clear h
  go_enter Try.func32, Try.ntmps32
  go_wp2_with (go_at_call 37; refine (value_any _ _ HD.out).mono ?_; rintro e w' ⟨n, rfl, n0, n1, _, n3, hb⟩; have n4 := n3 HN.out; clear n3; obtain ⟨⟨c0, c1, c2, c3⟩, f0, f1, f2, f3⟩ := ((Blk4.new w _ _ _ _).below hb (by simp)).facts)
  exact bodyPost_ret (v := .tuple #[.agg #[.int .i64 0, .string ⟨#[]⟩, .int .i64 0, .int .i64 0], .int .i64 4]) (by simp [results, Try.results32, go_sem, c0, c1, c2, c3]) rfl ⟨rfl, ((((below_new hb).setCell (Nat.le_refl _) _).setCell (Nat.le_refl _) _).setCell (Nat.le_refl _) _).setCell (Nat.le_refl _) _⟩

set_option maxHeartbeats 1000000 in
theorem number_ok (s : ByteArray) (m : Nat) (w : World) (hd : ∀ k, (h : k < s.size) → 48 ≤ (s[k]).toNat ∧ (s[k]).toNat ≤ 57) (hs : s.size ≤ 281474976710656) (hm : Hid (numV s.data.toList = m)) (h : m ≤ 9999) :
    Calls Try.prog 32 #[.string s] w fun e w' => e = .returned (.tuple #[.agg #[.int .i64 2, .string s, .int .i64 m, .int .i64 0], .int .i64 0]) ∧ Below w.heap.size w w' := by
  have HD := Lib.hid hd; clear hd
  go_enter Try.func32, Try.ntmps32
  go_wp2_with (first
    | (go_at_call 37; refine (value_any _ _ HD.out).mono ?_; rintro e w1 ⟨n, rfl, n0, n1, n2, _, hb⟩; have hnm : n = (m : Int) := (n2 (by rw [hm.out]; exact h)).trans (by rw [hm.out]); clear n2 n0 n1; subst hnm; have B1 := (Blk4.new w _ _ _ _).below hb (by simp); have hb1 := below_new hb; have hl1 := B1.lt; clear hb)
    | (go_at_call 34; refine (build_any _ _ _ hs).mono ?_; rintro e w2 ⟨rfl, hb2⟩; have B2 := B1.below hb2 hl1; have hb3 := hb1.trans (hb2.mono (Nat.le_of_lt hl1)); have hl2 := B2.lt; clear hb1 B1 hl1 hb2; obtain ⟨⟨c0, c1, c2, c3⟩, f0, f1, f2, f3⟩ := B2.facts))
  refine bodyPost_ret (v := .tuple #[.agg #[.int .i64 2, .string s, .int .i64 m, .int .i64 0], .int .i64 0]) (by simp [results, Try.results32, go_sem, c0, c1, c2, c3, hl2]) rfl ⟨rfl, ?_⟩
  exact ((((hb3.setCell (Nat.le_refl _) _).setCell (Nat.le_refl _) _).setCell (Nat.le_refl _) _).setCell (Nat.le_refl _) _).alloc (by simp; omega) _

end Go.Proofs.Ytgpbogagpmjilaa
