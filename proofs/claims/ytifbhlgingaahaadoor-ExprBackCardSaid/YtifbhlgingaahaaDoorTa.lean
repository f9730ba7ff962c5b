/- The tables; an expression as text; what text does. -/
import Derived.Test.YtifbhlgingaahaaDoorNh
import Derived.Test.YtifbhlgingaahaaDoorKa
import Derived.Test.YtifbhlgingaahaaDoorShelf
import Derived.Lib.QuietBelow
import Derived.Deep.QuietTactic
import Derived.BigQuiet
import Derived.BigRegion
namespace Go.Proofs.YtifbhlgingaahaaDoor
open Go.RowKit

def powName : String := "internal/strconv.uint64pow10"

/-- The tables lie in their places, whatever is made from here on. -/
def Tabs (w : World) : Prop := Sgn w ∧ ∀ w', Below w.heap.size w w' → Lib.TabIs Tryd.prog w' powName .u64 Lib.pow10Tab
theorem Tabs.below {w w' : World} (h : Tabs w) (hb : Below w.heap.size w w') : Tabs w' := ⟨h.1.below hb, fun w2 h2 => h.2 w2 (hb.trans (h2.mono hb.size))⟩

theorem grow_below (w : World) (k : Nat) (os : Array Obj) : Below w.heap.size w (Sort.grow (w.drewN k) os) := by
  refine ⟨rfl, rfl, rfl, ?_, fun i hi => ?_⟩
  · show w.heap.size ≤ (w.heap ++ os).size
    simp
  · show (w.heap ++ os)[i]? = w.heap[i]?
    rw [Array.getElem?_append_left hi]

/-- A number's digits. -/
def dg (n : Int) : List UInt8 := Lib.decDigits n.toNat

theorem itoa_any (n : Int) (w : World) (h0 : 0 ≤ n) (h1 : n ≤ 9999) (ht : Tabs w) :
    Calls Tryd.prog 36 #[.int .i64 n] w fun e w' => e = .returned (.string ⟨(dg n).toArray⟩) ∧ Below w.heap.size w w' := by
  refine (Tryd.strconv_Itoa n (by omega) (by omega) w (ht.2 w (Below.refl _ _))).mono ?_
  rintro e w' ⟨rfl, k, os, rfl⟩
  refine ⟨?_, grow_below w k os⟩
  unfold Lib.itoa dg
  rw [if_neg (by omega)]

def wrapB : Ex → List UInt8 → List UInt8
  | .bin _ _ _, s => [40] ++ s ++ [41]
  | _, s => s
/-- An expression as text. -/
def showE : Ex → List UInt8
  | .leaf x => if x.op = 1 then dg x.n else if x.op = 4 then x.inn.data.toList ++ [46] ++ x.nm.data.toList else x.nm.data.toList
  | .un _ a => [33] ++ wrapB a (showE a)
  | .bin x a b => wrapB a (showE a) ++ [32] ++ sgO x.op.toNat ++ [32] ++ wrapB b (showE b)

/-- A slice of nodes, that may be cut. -/
def NdsC (w : World) (v : Value) (l : List Nd) : Prop :=
  ∃ ad cap, v = .slice ad l.length cap ∧ l.length ≤ cap ∧ cap ≤ 9223372036854775807 ∧ ∀ i, (hi : i < l.length) → ∃ b off, ad = some ⟨b, off, none⟩ ∧ b < w.heap.size ∧ NdAt w b (off + i * 5) l[i]

theorem NdsC.nds {w : World} {v : Value} {l : List Nd} (h : NdsC w v l) : Nds w v l := by
  obtain ⟨ad, cap, rfl, _, _, hc⟩ := h
  by_cases h0 : l.length = 0
  · have := List.eq_nil_of_length_eq_zero h0
    subst this
    exact .inl ⟨rfl, ad, cap, rfl⟩
  · obtain ⟨b, off, rfl, hb, _⟩ := hc 0 (by omega)
    refine .inr ⟨b, off, cap, rfl, hb, fun i hi => ?_⟩
    obtain ⟨b', off', he, _, h⟩ := hc i hi
    cases he
    exact h
theorem NdsC.below {w w' : World} {v : Value} {l : List Nd} (h : NdsC w v l) (hb : Below w.heap.size w w') : NdsC w' v l := by
  obtain ⟨ad, cap, hv, h1, h2, hc⟩ := h
  refine ⟨ad, cap, hv, h1, h2, fun i hi => ?_⟩
  obtain ⟨b, off, he, hl, h⟩ := hc i hi
  exact ⟨b, off, he, Nat.lt_of_lt_of_le hl hb.size, h.below hb hl⟩

/-- A cut from k on, and a cut up to k. -/
theorem NdsC.drop {w : World} {b off cap : Nat} {l : List Nd} (h : NdsC w (.slice (some ⟨b, off, none⟩) l.length cap) l) (k : Nat) (hk : k < l.length) : NdsC w (.slice (some ⟨b, off + k * 5, none⟩) (l.length - k) (cap - k)) (l.drop k) := by
  obtain ⟨ad, cap', hv, h1, h2, hc⟩ := h
  cases hv
  refine ⟨_, _, by rw [List.length_drop], by rw [List.length_drop]; omega, by omega, fun i hi => ?_⟩
  rw [List.length_drop] at hi
  obtain ⟨b', off', he, hl, h⟩ := hc (k + i) (by omega)
  cases he
  refine ⟨b, off + k * 5, rfl, hl, ?_⟩
  rw [List.getElem_drop, show off + k * 5 + i * 5 = off + (k + i) * 5 by omega]
  exact h
theorem NdsC.none {w : World} (ad : Option Addr) (cap : Nat) (hc : cap ≤ 9223372036854775807) : NdsC w (.slice ad 0 cap) [] := ⟨ad, cap, rfl, Nat.zero_le _, hc, fun _ hi => absurd hi (Nat.not_lt_zero _)⟩
theorem NdsC.take {w : World} {ad : Option Addr} {cap : Nat} {l : List Nd} (h : NdsC w (.slice ad l.length cap) l) (k : Nat) (hk : k ≤ l.length) : NdsC w (.slice ad k cap) (l.take k) := by
  obtain ⟨ad', cap', hv, h1, h2, hc⟩ := h
  cases hv
  refine ⟨ad, cap, by rw [List.length_take, Nat.min_eq_left hk], by rw [List.length_take]; omega, h2, fun i hi => ?_⟩
  rw [List.length_take] at hi
  obtain ⟨b', off', he, hl, h⟩ := hc i (by omega)
  refine ⟨b', off', he, hl, ?_⟩
  rw [List.getElem_take]
  exact h

theorem nameB_size (s : ByteArray) (h : nameB s = true) : s.size ≤ 16 := by
  unfold nameB at h
  simp at h
  omega

theorem ba_eq {a : ByteArray} {l : List UInt8} (h : a.data.toList = l) : a = ⟨l.toArray⟩ := by subst h; rfl

theorem ret_str {a b : ByteArray} (h : a = b) : Ending.returned (.string a) = .returned (.string b) := by rw [h]

/-- What text gives. -/
def TextIs (s : List UInt8) (w : World) (e : Ending) (w' : World) : Prop := e = .returned (.string ⟨s.toArray⟩) ∧ Below w.heap.size w w'

set_option maxHeartbeats 1000000 in
theorem text_leaf (x : Nd) (v : Value) (w : World) (hv : NdsC w v [x]) (hx : ar x.op = 0) (hok : okN x = true) (ht : Tabs w) :
    Calls Tryd.prog 28 #[v] w (TextIs (showE (.leaf x)) w) := by
  obtain ⟨ad, cap, rfl, h1, h2, hc⟩ := hv
  obtain ⟨b, off, rfl, hb, x0, x1, x2, x3, x4⟩ := hc 0 (by simp)
  obtain ⟨xo, xn, xm, xi, xp⟩ := x
  simp only [List.getElem_cons_zero, Nat.zero_mul, Nat.add_zero] at x0 x1 x2 x3 x4
  simp only [List.length_cons, List.length_nil, Nat.zero_add] at h1 ⊢
  clear hc
  have HT := Lib.hid ht
  have HOK := Lib.hid hok
  clear ht hok
  have hcase : xo = 1 ∨ xo = 2 ∨ xo = 3 ∨ xo = 4 := by
    have h : ar xo = 0 := hx
    unfold ar at h
    split at h
    · omega
    · split at h
      · omega
      · split at h <;> omega
  clear hx
  have hs : ∀ y : ByteArray, (⟨y.data.toList.toArray⟩ : ByteArray) = y := fun y => rfl
  clear hs
  by_cases hc1 : cap = 1
  · subst hc1
    rcases hcase with rfl | rfl | rfl | rfl
    · obtain ⟨n0, n9⟩ : 0 ≤ xn ∧ xn ≤ 9999 := by
        have h := HOK.out
        simp [okN, numB] at h
        exact h.2.1
      have HIT : ∀ w', Below w.heap.size w w' → Calls Tryd.prog 36 #[.int .i64 xn] w' fun e w'' => e = .returned (.string ⟨(dg xn).toArray⟩) ∧ Below w'.heap.size w' w'' := fun w' h => itoa_any xn w' n0 n9 (HT.out.below h)
      have HI2 := Lib.hid HIT
      clear HIT
      go_enter Tryd.func28, Tryd.ntmps28
      go_wp2_with fail
      go_region
      have hb1 : Below w.heap.size w ((w.alloc (.cells #[.int .i64 1, .int .i64 xn, .string xm, .string xi, .int .i64 xp] 32)).drew) := ((Below.refl _ _).alloc (Nat.le_refl _) _).drew
      go_wp2_with fail
      refine (HI2.out _ hb1).mono ?_
      rintro e w2 ⟨rfl, hb2⟩
      go_wp2
      go_ret
      exact ⟨rfl, hb1.trans (hb2.mono hb1.size)⟩
    · go_enter Tryd.func28, Tryd.ntmps28
      go_wp2_with fail
      go_region
      go_wp2
      go_ret
      exact ⟨rfl, ((Below.refl _ _).alloc (Nat.le_refl _) _).drew⟩
    · go_enter Tryd.func28, Tryd.ntmps28
      go_wp2_with fail
      go_region
      go_wp2
      go_ret
      exact ⟨rfl, ((Below.refl _ _).alloc (Nat.le_refl _) _).drew⟩
    · obtain ⟨s1, s2⟩ : xm.size ≤ 16 ∧ xi.size ≤ 16 := by
        have h := HOK.out
        simp [okN] at h
        exact ⟨nameB_size xm h.2.2.1, nameB_size xi h.2.2.2⟩
      go_enter Tryd.func28, Tryd.ntmps28
      go_wp2_with fail
      go_region
      go_wp2
      go_ret
      exact ⟨ret_str (ba_eq (by simp [showE])), ((Below.refl _ _).alloc (Nat.le_refl _) _).drew⟩
  · rcases hcase with rfl | rfl | rfl | rfl
    · obtain ⟨n0, n9⟩ : 0 ≤ xn ∧ xn ≤ 9999 := by
        have h := HOK.out
        simp [okN, numB] at h
        exact h.2.1
      have HIT : ∀ w', Below w.heap.size w w' → Calls Tryd.prog 36 #[.int .i64 xn] w' fun e w'' => e = .returned (.string ⟨(dg xn).toArray⟩) ∧ Below w'.heap.size w' w'' := fun w' h => itoa_any xn w' n0 n9 (HT.out.below h)
      have HI2 := Lib.hid HIT
      clear HIT
      go_enter Tryd.func28, Tryd.ntmps28
      go_wp2_with fail
      go_region
      have hb1 : Below w.heap.size w ((w.alloc (.cells #[.int .i64 1, .int .i64 xn, .string xm, .string xi, .int .i64 xp] 32)).drew) := ((Below.refl _ _).alloc (Nat.le_refl _) _).drew
      go_wp2_with fail
      refine (HI2.out _ hb1).mono ?_
      rintro e w2 ⟨rfl, hb2⟩
      go_wp2
      go_ret
      exact ⟨rfl, hb1.trans (hb2.mono hb1.size)⟩
    · go_enter Tryd.func28, Tryd.ntmps28
      go_wp2_with fail
      go_region
      go_wp2
      go_ret
      exact ⟨rfl, ((Below.refl _ _).alloc (Nat.le_refl _) _).drew⟩
    · go_enter Tryd.func28, Tryd.ntmps28
      go_wp2_with fail
      go_region
      go_wp2
      go_ret
      exact ⟨rfl, ((Below.refl _ _).alloc (Nat.le_refl _) _).drew⟩
    · obtain ⟨s1, s2⟩ : xm.size ≤ 16 ∧ xi.size ≤ 16 := by
        have h := HOK.out
        simp [okN] at h
        exact ⟨nameB_size xm h.2.2.1, nameB_size xi h.2.2.2⟩
      go_enter Tryd.func28, Tryd.ntmps28
      go_wp2_with fail
      go_region
      go_wp2
      go_ret
      exact ⟨ret_str (ba_eq (by simp [showE])), ((Below.refl _ _).alloc (Nat.le_refl _) _).drew⟩

end Go.Proofs.YtifbhlgingaahaaDoor
