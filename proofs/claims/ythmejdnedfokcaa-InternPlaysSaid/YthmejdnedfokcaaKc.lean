/- Layer 13: the landed table: what it is; valid; slot. -/
import Derived.Test.YthmejdnedfokcaaKb
import Derived.LaidEqlPtr
namespace Go.Proofs.Ythmejdnedfokcaa
set_option linter.unusedSimpArgs false
set_option linter.unusedVariables false
open Go.RowKit

theorem and_i64 {n p x : Nat} (hn : n = 2 ^ p) (hp : p ≤ 20) (hx : x ≤ 1000000000) : bits .and .i64 (x : Int) ((n : Int) - 1) = ((x % n : Nat) : Int) := by
  have h1 : 1 ≤ n := by rw [hn]; exact Nat.two_pow_pos p
  have h2 : n ≤ 2 ^ 20 := by rw [hn]; exact Nat.pow_le_pow_right (by decide) hp
  have e1 : (n : Int) - 1 = ((n - 1 : Nat) : Int) := by omega
  rw [e1]
  show IntKind.i64.wrap ((BitVec.ofInt 64 (x : Int) &&& BitVec.ofInt 64 ((n - 1 : Nat) : Int) : BitVec 64).toNat : Int) = _
  rw [BitVec.ofInt_natCast, BitVec.ofInt_natCast, BitVec.toNat_and, BitVec.toNat_ofNat, BitVec.toNat_ofNat, Nat.mod_eq_of_lt (by omega), Nat.mod_eq_of_lt (by omega), hn, Nat.and_two_pow_sub_one_eq_mod]
  have := Nat.mod_lt x (Nat.two_pow_pos p)
  exact IntWalk.i64_in _ (by omega)
/-- Where a text's search begins, among n slots. -/
def hsN (n : Nat) (s : ByteArray) : Nat := (hashP s % 18446744073709551616).toNat % n
theorem and_u64 {n p : Nat} (h : Int) (hn : n = 2 ^ p) (hp : p ≤ 20) : bits .and .u64 h ((n : Int) - 1) = (((h % 18446744073709551616).toNat % n : Nat) : Int) := by
  have h1 : 1 ≤ n := by rw [hn]; exact Nat.two_pow_pos p
  have h2 : n ≤ 2 ^ 20 := by rw [hn]; exact Nat.pow_le_pow_right (by decide) hp
  have e1 : (n : Int) - 1 = ((n - 1 : Nat) : Int) := by omega
  rw [e1]
  show IntKind.u64.wrap ((BitVec.ofInt 64 h &&& BitVec.ofInt 64 ((n - 1 : Nat) : Int) : BitVec 64).toNat : Int) = _
  rw [BitVec.ofInt_natCast, BitVec.toNat_and, BitVec.toNat_ofNat, BitVec.toNat_ofInt, Nat.mod_eq_of_lt (a := n - 1) (by omega), hn, Nat.and_two_pow_sub_one_eq_mod]
  have := Nat.mod_lt (h % (2 ^ 64 : Nat)).toNat (Nat.two_pow_pos p)
  exact IntWalk.u64_in _ (by omega)

/-- What a slot holds: one more than a number, or 0. -/
def encV : Option Nat → Int
  | none => 0
  | some j => (j : Int) + 1
/-- The table's blocks: itself (g), its slots (sl, n of them), its texts (vt). -/
structure Tb (w : World) (g sl n : Nat) (vt : Value) (L : List ByteArray) (val : Nat → Option Nat) : Prop where
  bk : Bk w g 43 #[.pointer (some ⟨g, 0, none⟩), vt, .slice (some ⟨sl, 0, none⟩) n n]
  own : w.ownsRow 0 9 1 vt L.length (strs L)
  sl : ∃ cs, Bk w sl 3 cs ∧ ∀ a, a < n → cs[a]? = some (.int .i64 (encV (val a)))
  pw : ∃ p, n = 2 ^ p ∧ p ≤ 20
theorem Tb.frame {w w' : World} {g sl n : Nat} {vt : Value} {L : List ByteArray} {val : Nat → Option Nat} (h : Tb w g sl n vt L val) (hs : w.heap.size ≤ w'.heap.size) (hf : ∀ x, x = g ∨ x = sl ∨ vt.ownBlock = some x → w'.heap[x]? = w.heap[x]?) : Tb w' g sl n vt L val := by
  obtain ⟨hb, ho, ⟨cs, hs1, hs2⟩, hp⟩ := h
  refine ⟨(hf g (.inl rfl)).trans hb, ?_, ⟨cs, (hf sl (.inr (.inl rfl))).trans hs1, hs2⟩, hp⟩
  obtain ⟨h1, h2⟩ := ho
  refine ⟨h1, ?_⟩
  rcases h2 with h2 | ⟨b, cap, cur, rfl, hB, hh, r⟩
  · exact .inl h2
  · exact .inr ⟨b, cap, cur, rfl, hB, (hf b (.inr (.inr rfl))).trans hh, r⟩
theorem Tb.lt {w : World} {g sl n : Nat} {vt : Value} {L : List ByteArray} {val : Nat → Option Nat} (h : Tb w g sl n vt L val) : ∀ x, x = g ∨ x = sl ∨ vt.ownBlock = some x → x < w.heap.size := by
  obtain ⟨hb, ho, ⟨cs, hs1, hs2⟩, hp⟩ := h
  rintro x (rfl | rfl | hv)
  · exact hb.lt
  · exact hs1.lt
  · exact (ho.lt x hv).2
theorem Tb.below {w w' : World} {g sl n : Nat} {vt : Value} {L : List ByteArray} {val : Nat → Option Nat} (h : Tb w g sl n vt L val) (hb : Below w.heap.size w w') : Tb w' g sl n vt L val := h.frame hb.size fun x hx => hb.block x (h.lt x hx)
theorem Tb.cells {w : World} {g sl n : Nat} {vt : Value} {L : List ByteArray} {val : Nat → Option Nat} (h : Tb w g sl n vt L val) : w.cell? ⟨g, 0, none⟩ = some (.pointer (some ⟨g, 0, none⟩)) ∧ w.cell? ⟨g, 1, none⟩ = some vt ∧ w.cell? ⟨g, 2, none⟩ = some (.slice (some ⟨sl, 0, none⟩) n n) :=
  ⟨h.bk.cell 0, h.bk.cell 1, h.bk.cell 2⟩
theorem Tb.slot {w : World} {g sl n : Nat} {vt : Value} {L : List ByteArray} {val : Nat → Option Nat} (h : Tb w g sl n vt L val) {a : Nat} (ha : a < n) : w.cell? ⟨sl, a, none⟩ = some (.int .i64 (encV (val a))) := by
  obtain ⟨cs, hs1, hs2⟩ := h.sl
  rw [hs1.cell]; exact hs2 a ha
theorem Tb.shape {w : World} {g sl n : Nat} {vt : Value} {L : List ByteArray} {val : Nat → Option Nat} (h : Tb w g sl n vt L val) : ∃ ad cap, vt = .slice ad L.length cap := by
  obtain ⟨ad, cap, h, _⟩ := own_shape' h.own
  exact ⟨ad, cap, h⟩

theorem eq_self (g : Nat) (w : World) : (binOp .eql 25 (.pointer (some ⟨g, 0, none⟩)) (.pointer (some ⟨g, 0, none⟩))).run Try.prog w = .ok (.bool true) w := by
  have h : (Try.prog.info? 43).isSome = true := by kernel_rfl
  obtain ⟨j, hj⟩ := Option.isSome_iff_exists.1 h
  exact run_eql_ptr_same w _ Try.underlying25 hj
theorem eq_none (g : Nat) (w : World) : (binOp .eql 25 (.pointer none) (.pointer (some ⟨g, 0, none⟩))).run Try.prog w = .ok (.bool false) w := by
  have h : ∀ d : Nat, (Op.equalIn (d + 1) 25 (.pointer none) (.pointer (some ⟨g, 0, none⟩))).run Try.prog w = .ok false w := fun d => by
    simp [Op.equalIn, run_underlying (P := Try.prog) Try.underlying25]
  simp only [binOp]
  simp [Op.equal, Op.maxDepth, h 9999]

set_option maxRecDepth 100000 in
set_option maxHeartbeats 4000000 in
theorem valid_yes {w : World} (g : Nat) (vt vs : Value) (h : Bk w g 43 #[.pointer (some ⟨g, 0, none⟩), vt, vs]) :
    Calls Try.prog 20 #[.pointer (some ⟨g, 0, none⟩)] w fun e w' => e = .returned (.bool true) ∧ Below w.heap.size w w' := by
  have c0 := h.cell 0
  have hE := eq_self g
  go_enter Try.func20, Try.ntmps20
  go_wp2_with fail
  go_ret
  exact ⟨rfl, Below.refl _ _⟩
set_option maxRecDepth 100000 in
set_option maxHeartbeats 4000000 in
theorem valid_nil (w : World) :
    Calls Try.prog 20 #[.pointer none] w fun e w' => e = .returned (.bool false) ∧ Below w.heap.size w w' := by
  go_enter Try.func20, Try.ntmps20
  go_wp2_with fail
  go_ret
  exact ⟨rfl, Below.refl _ _⟩
set_option maxRecDepth 100000 in
set_option maxHeartbeats 4000000 in
theorem valid_no {w : World} (g : Nat) (vt vs : Value) (h : Bk w g 43 #[.pointer none, vt, vs]) :
    Calls Try.prog 20 #[.pointer (some ⟨g, 0, none⟩)] w fun e w' => e = .returned (.bool false) ∧ Below w.heap.size w w' := by
  have c0 := h.cell 0
  have hE := eq_none g
  go_enter Try.func20, Try.ntmps20
  go_wp2_with fail
  go_ret
  exact ⟨rfl, Below.refl _ _⟩

end Go.Proofs.Ythmejdnedfokcaa
