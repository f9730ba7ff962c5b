/- InternNil: its walk, by what the methods of no table do. -/
import Derived.Test.YthmejdnedfokcaaJe
namespace Go.Proofs.Ythmejdnedfokcaa
set_option linter.unusedSimpArgs false
set_option linter.unusedVariables false
open Go.RowKit

/-- What the methods do of a pointer that is no table (ZB): nil, and a table that New did not return. -/
structure NilTab (ZB : World → Value → Prop) : Prop where
  below : ∀ {w w' : World} {t : Value}, ZB w t → Below w.heap.size w w' → ZB w' t
  nil : ∀ w : World, ZB w (.pointer none)
  zero : ∀ w : World, ZB (w.alloc (.cells #[.pointer none, .slice none 0 0, .slice none 0 0] 43)) (.pointer (some ⟨w.heap.size, 0, none⟩))
  put : ∀ {w : World} {t : Value} (s : ByteArray), ZB w t → Calls Try.prog 10 #[t, .string s] w fun e w' => e = .returned (.tuple #[.int .i64 0, .bool false]) ∧ Below w.heap.size w w'
  get : ∀ {w : World} {t : Value} (s : ByteArray), ZB w t → Calls Try.prog 12 #[t, .string s] w fun e w' => e = .returned (.tuple #[.int .i64 0, .bool false]) ∧ Below w.heap.size w w'
  at' : ∀ {w : World} {t : Value}, ZB w t → Calls Try.prog 18 #[t, .int .i64 0] w fun e w' => e = .returned (.tuple #[.string ⟨#[]⟩, .bool false]) ∧ Below w.heap.size w w'
  len : ∀ {w : World} {t : Value}, ZB w t → Calls Try.prog 14 #[t] w fun e w' => e = .returned (.int .i64 0) ∧ Below w.heap.size w w'
  slots : ∀ {w : World} {t : Value}, ZB w t → Calls Try.prog 15 #[t] w fun e w' => e = .returned (.int .i64 0) ∧ Below w.heap.size w w'
  all : ∀ {w : World} {t : Value}, ZB w t → Calls Try.prog 17 #[t] w fun e w' => e = .returned (.slice none 0 0) ∧ Below w.heap.size w w'

attribute [local go_sem ↓] Go.wp_at_zero Go.wp_at_succ
set_option maxRecDepth 100000 in
set_option maxHeartbeats 8000000 in
theorem nil_in {TB : World → Value → List ByteArray → (Nat → Prop) → Prop} (H0 : TabOK TB) {ZB : World → Value → Prop} (N0 : NilTab ZB) (s : ByteArray) (w : World) :
    Calls Try.prog 5 #[.string s] w fun e w' => e = .returned (.bool true) ∧ Below w.heap.size w w' := by
  have HKN := Lib.hid (known13_in H0)
  have N := Lib.hid N0
  clear H0 N0
  by_cases hs : s.size ≤ 200
  · have hs2 : ¬ (200 : Int) < (s.size : Int) := by omega
    clear hs
    have HT0 := Lib.hid (N.out.zero w)
    have HB0 := Lib.hid ((Below.refl w.heap.size w).alloc (Nat.le_refl _) (.cells #[.pointer none, .slice none 0 0, .slice none 0 0] 43))
    go_enter Try.func5, Try.ntmps5
    go_wp2_with fail
    generalize w.alloc _ = w0 at HT0 HB0 ⊢
    generalize w.heap.size = g at HT0 ⊢
    refine (N.out.put s (N.out.nil w0)).mono ?_
    rintro e w1 ⟨rfl, b⟩
    replace HT0 := Lib.hid (N.out.below HT0.out b)
    replace HB0 := Lib.hid (HB0.out.trans (b.mono HB0.out.size))
    clear b
    go_wp2_with fail
    refine (N.out.put s HT0.out).mono ?_
    rintro e w2 ⟨rfl, b⟩
    replace HT0 := Lib.hid (N.out.below HT0.out b)
    replace HB0 := Lib.hid (HB0.out.trans (b.mono HB0.out.size))
    clear b
    go_wp2_with fail
    refine (N.out.get s (N.out.nil w2)).mono ?_
    rintro e w3 ⟨rfl, b⟩
    replace HT0 := Lib.hid (N.out.below HT0.out b)
    replace HB0 := Lib.hid (HB0.out.trans (b.mono HB0.out.size))
    clear b
    go_wp2_with fail
    refine (N.out.get s HT0.out).mono ?_
    rintro e w4 ⟨rfl, b⟩
    replace HT0 := Lib.hid (N.out.below HT0.out b)
    replace HB0 := Lib.hid (HB0.out.trans (b.mono HB0.out.size))
    clear b
    go_wp2_with fail
    refine (N.out.at' (N.out.nil w4)).mono ?_
    rintro e w5 ⟨rfl, b⟩
    replace HT0 := Lib.hid (N.out.below HT0.out b)
    replace HB0 := Lib.hid (HB0.out.trans (b.mono HB0.out.size))
    clear b
    go_wp2_with fail
    refine (N.out.at' HT0.out).mono ?_
    rintro e w6 ⟨rfl, b⟩
    replace HT0 := Lib.hid (N.out.below HT0.out b)
    replace HB0 := Lib.hid (HB0.out.trans (b.mono HB0.out.size))
    clear b
    go_wp2_with fail
    refine (N.out.len (N.out.nil w6)).mono ?_
    rintro e w7 ⟨rfl, b⟩
    replace HT0 := Lib.hid (N.out.below HT0.out b)
    replace HB0 := Lib.hid (HB0.out.trans (b.mono HB0.out.size))
    clear b
    go_wp2_with fail
    refine (N.out.len HT0.out).mono ?_
    rintro e w8 ⟨rfl, b⟩
    replace HT0 := Lib.hid (N.out.below HT0.out b)
    replace HB0 := Lib.hid (HB0.out.trans (b.mono HB0.out.size))
    clear b
    go_wp2_with fail
    refine (N.out.slots (N.out.nil w8)).mono ?_
    rintro e w9 ⟨rfl, b⟩
    replace HT0 := Lib.hid (N.out.below HT0.out b)
    replace HB0 := Lib.hid (HB0.out.trans (b.mono HB0.out.size))
    clear b
    go_wp2_with fail
    refine (N.out.slots HT0.out).mono ?_
    rintro e w10 ⟨rfl, b⟩
    replace HT0 := Lib.hid (N.out.below HT0.out b)
    replace HB0 := Lib.hid (HB0.out.trans (b.mono HB0.out.size))
    clear b
    go_wp2_with fail
    refine (N.out.all (N.out.nil w10)).mono ?_
    rintro e w11 ⟨rfl, b⟩
    replace HT0 := Lib.hid (N.out.below HT0.out b)
    replace HB0 := Lib.hid (HB0.out.trans (b.mono HB0.out.size))
    clear b
    go_wp2_with fail
    refine (N.out.all HT0.out).mono ?_
    rintro e w12 ⟨rfl, b⟩
    replace HT0 := Lib.hid (N.out.below HT0.out b)
    replace HB0 := Lib.hid (HB0.out.trans (b.mono HB0.out.size))
    clear b
    go_wp2_with fail
    refine (HKN.out w12).mono ?_
    rintro e w13 ⟨rfl, b⟩
    replace HB0 := Lib.hid (HB0.out.trans (b.mono HB0.out.size))
    clear b
    go_wp2_with fail
    go_ret
    exact ⟨rfl, HB0.out⟩
  · have hs2 : (200 : Int) < (s.size : Int) := by omega
    clear hs
    go_enter Try.func5, Try.ntmps5
    go_wp2_with fail
    refine (HKN.out w).mono ?_
    rintro e w1 ⟨rfl, b⟩
    have HB := Lib.hid b
    clear b
    go_wp2_with fail
    go_ret
    exact ⟨rfl, HB.out⟩

end Go.Proofs.Ythmejdnedfokcaa
