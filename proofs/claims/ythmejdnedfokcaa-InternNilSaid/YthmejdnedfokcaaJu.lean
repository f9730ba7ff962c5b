/- Layer 13: no table. -/
import Derived.Test.YthmejdnedfokcaaKc
import Derived.Test.YthmejdnedfokcaaJn
namespace Go.Proofs.Ythmejdnedfokcaa
set_option linter.unusedSimpArgs false
set_option linter.unusedVariables false
open Go.RowKit

/-- A pointer that is no table: nil, or to a struct that New did not make. -/
def ZBt (w : World) (t : Value) : Prop := t = .pointer none ∨ ∃ g vt vs, t = .pointer (some ⟨g, 0, none⟩) ∧ Bk w g 43 #[.pointer none, vt, vs]
theorem zvalid_any {w : World} {t : Value} (h : ZBt w t) : Calls Try.prog 20 #[t] w fun e w' => e = .returned (.bool false) ∧ Below w.heap.size w w' := by
  rcases h with rfl | ⟨g, vt, vs, rfl, hb⟩
  · exact valid_nil w
  · exact valid_no g vt vs hb
attribute [local go_sem ↓] Go.wp_at_zero Go.wp_at_succ
set_option maxRecDepth 100000 in
set_option maxHeartbeats 4000000 in
theorem zput_any {w : World} {t : Value} (s : ByteArray) (ht : ZBt w t) : Calls Try.prog 10 #[t, .string s] w fun e w' => e = .returned (.tuple #[.int .i64 0, .bool false]) ∧ Below w.heap.size w w' := by
  have HV := Lib.hid (zvalid_any ht)
  clear ht
  go_enter Try.func10, Try.ntmps10
  go_wp2_with fail
  refine HV.out.mono ?_
  rintro e w1 ⟨rfl, b1⟩
  have B1 := Lib.hid b1
  clear b1
  go_wp2_with fail
  go_ret2
  exact ⟨rfl, B1.out⟩
set_option maxRecDepth 100000 in
set_option maxHeartbeats 4000000 in
theorem zget_any {w : World} {t : Value} (s : ByteArray) (ht : ZBt w t) : Calls Try.prog 12 #[t, .string s] w fun e w' => e = .returned (.tuple #[.int .i64 0, .bool false]) ∧ Below w.heap.size w w' := by
  have HV := Lib.hid (zvalid_any ht)
  clear ht
  go_enter Try.func12, Try.ntmps12
  go_wp2_with fail
  refine HV.out.mono ?_
  rintro e w1 ⟨rfl, b1⟩
  have B1 := Lib.hid b1
  clear b1
  go_wp2_with fail
  go_ret2
  exact ⟨rfl, B1.out⟩
set_option maxRecDepth 100000 in
set_option maxHeartbeats 4000000 in
theorem zat_any {w : World} {t : Value} (ht : ZBt w t) : Calls Try.prog 18 #[t, .int .i64 0] w fun e w' => e = .returned (.tuple #[.string ⟨#[]⟩, .bool false]) ∧ Below w.heap.size w w' := by
  have HV := Lib.hid (zvalid_any ht)
  clear ht
  go_enter Try.func18, Try.ntmps18
  go_wp2_with fail
  refine HV.out.mono ?_
  rintro e w1 ⟨rfl, b1⟩
  have B1 := Lib.hid b1
  clear b1
  go_wp2_with fail
  go_ret2
  exact ⟨rfl, B1.out⟩
set_option maxRecDepth 100000 in
set_option maxHeartbeats 4000000 in
theorem zlen_any {w : World} {t : Value} (ht : ZBt w t) : Calls Try.prog 14 #[t] w fun e w' => e = .returned (.int .i64 0) ∧ Below w.heap.size w w' := by
  have HV := Lib.hid (zvalid_any ht)
  clear ht
  go_enter Try.func14, Try.ntmps14
  go_wp2_with fail
  refine HV.out.mono ?_
  rintro e w1 ⟨rfl, b1⟩
  have B1 := Lib.hid b1
  clear b1
  go_wp2_with fail
  go_ret
  exact ⟨rfl, B1.out⟩
set_option maxRecDepth 100000 in
set_option maxHeartbeats 4000000 in
theorem zslots_any {w : World} {t : Value} (ht : ZBt w t) : Calls Try.prog 15 #[t] w fun e w' => e = .returned (.int .i64 0) ∧ Below w.heap.size w w' := by
  have HV := Lib.hid (zvalid_any ht)
  clear ht
  go_enter Try.func15, Try.ntmps15
  go_wp2_with fail
  refine HV.out.mono ?_
  rintro e w1 ⟨rfl, b1⟩
  have B1 := Lib.hid b1
  clear b1
  go_wp2_with fail
  go_ret
  exact ⟨rfl, B1.out⟩
set_option maxRecDepth 100000 in
set_option maxHeartbeats 4000000 in
theorem zall_any {w : World} {t : Value} (ht : ZBt w t) : Calls Try.prog 17 #[t] w fun e w' => e = .returned (.slice none 0 0) ∧ Below w.heap.size w w' := by
  have HV := Lib.hid (zvalid_any ht)
  clear ht
  go_enter Try.func17, Try.ntmps17
  go_wp2_with fail
  refine HV.out.mono ?_
  rintro e w1 ⟨rfl, b1⟩
  have B1 := Lib.hid b1
  clear b1
  go_wp2_with fail
  go_ret
  exact ⟨rfl, B1.out⟩

theorem nil_ok : ∃ ZB, NilTab ZB := by
  refine ⟨ZBt, ⟨?_, fun w => .inl rfl, fun w => .inr ⟨w.heap.size, _, _, rfl, Bk.new _ _ _⟩, fun s h => zput_any s h, fun s h => zget_any s h, fun h => zat_any h, fun h => zlen_any h, fun h => zslots_any h, fun h => zall_any h⟩⟩
  intro w w' t h hb
  rcases h with rfl | ⟨g, vt, vs, rfl, h⟩
  · exact .inl rfl
  · exact .inr ⟨g, vt, vs, rfl, h.below hb⟩

end Go.Proofs.Ythmejdnedfokcaa
