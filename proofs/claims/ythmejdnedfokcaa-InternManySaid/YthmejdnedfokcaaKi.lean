/- Layer 13: the landed table: All, New; no table. -/
import Derived.Test.YthmejdnedfokcaaKh
namespace Go.Proofs.Ythmejdnedfokcaa
set_option linter.unusedSimpArgs false
set_option linter.unusedVariables false
open Go.RowKit

/-- append of a row of texts to a row of one's own. -/
theorem append_strs {w : World} {ops : Array Oper} {rest : List Oper} {o : Oper} {a : Act} {Q : Exit → Act → World → Prop} (hgd : o.guard = none) (s x : Operand)
    (ho : o.op = .call { callee := .builtin .append, args := #[s, x], argTypes := #[22, 22] }) (base : Nat) (v : Value) (xs ys : List ByteArray) (hs : a.eval s = v) (ad : Option Addr) (m cap : Nat) (hx : a.eval x = .slice ad m cap)
    (hown : w.ownsRow base 9 1 v xs.length (strs xs)) (hys : StrsD w (.slice ad m cap) ys) (hn : xs.length + ys.length ≤ 1000000) (hbase : base ≤ w.heap.size) (zs : List ByteArray) (hz : xs ++ ys = zs)
    (h : ∀ v' w', Hid (w'.ownsRow base 9 1 v' zs.length (strs zs)) → Below base w w' → wpList Try.prog ops Q rest (a.put o.dst v') w') : wpList Try.prog ops Q (o :: rest) a w := by
  subst hz
  obtain ⟨i0, hi, hz0, hz1, hz2⟩ := info_parts info_strs
  have hm : ys.length = m ∧ (ad = none → cap = 0) ∧ ys.length ≤ cap := by
    obtain ⟨ad', cap', hv, h1, h2, hc⟩ := hys
    injection hv with e1 e2 e3
    subst e1; subst e2; subst e3
    exact ⟨rfl, h1.2, h1.1⟩
  obtain ⟨rfl, h0, h1⟩ := hm
  cases ad with
  | none =>
    have hc0 := h0 rfl
    have hy0 : ys = [] := List.eq_nil_of_length_eq_zero (by omega)
    subst hy0; subst hc0
    refine wpList_append_own_none hgd s x 22 ho base 9 i0 1 Try.underlying22 hi v xs.length (strs xs) hs hown hx ?_
    exact h v w (Lib.hid (by rw [List.append_nil]; exact hown)) (Below.refl _ _)
  | some a0 =>
    refine wpList_append_own _ hgd s x 22 ho base 9 i0 (.string ⟨#[]⟩) 1 16 Try.underlying22 hi hz0 hz1 hz2 rfl (by decide) v xs.length (strs xs) hs hown a0 ys.length cap (strs ys) hx (by rw [strs_len, Nat.mul_one]) (strs_cells hys) (strs_one ys) (by unfold maxLen; omega) (by omega) hbase ?_
    intro v' w' h1 h2 _
    refine h v' w' ?_ ((Below.refl base w).grown h2 hbase (fun k hk => (hown.lt k hk).1))
    show World.ownsRow _ _ _ _ _ _ _
    rw [List.length_append, show strs (xs ++ ys) = strs xs ++ strs ys by unfold strs; rw [List.map_append]]
    exact h1
theorem own_nil (w : World) : w.ownsRow w.heap.size 9 1 (.slice none 0 0) ([] : List ByteArray).length (strs []) := ⟨rfl, .inl ⟨rfl, rfl⟩⟩
theorem OwnT.base {w : World} {B B' n : Nat} {v : Value} {xs : List Value} (h : OwnT w B v n xs) (hb : B' ≤ B) : OwnT w B' v n xs := by
  obtain ⟨h1, h2⟩ := h
  refine ⟨h1, ?_⟩
  rcases h2 with h2 | ⟨g, cap, cur, hv, hg, r⟩
  · exact .inl h2
  · exact .inr ⟨g, cap, cur, hv, Nat.le_trans hb hg, r⟩
/-- A row, told only as long as it is. -/
theorem OwnT.cut {w : World} {B n cap : Nat} {ad : Option Addr} {xs : List Value} (h : w.ownsRow B 9 1 (.slice ad n cap) n xs) : OwnT w B (.slice ad n n) n xs := by
  obtain ⟨h1, h2⟩ := h
  rw [Nat.mul_one] at h1 h2
  refine ⟨h1, ?_⟩
  rcases h2 with ⟨hv, h2⟩ | ⟨g, cap, cur, hv, hB, hg, hle, hm, hcs, ht⟩
  · injection hv with e1 e2 e3
    subst e1; subst e2
    exact .inl ⟨rfl, rfl⟩
  · injection hv with e1 e2 e3
    subst e1; subst e3
    exact .inr ⟨g, n, cur, rfl, hB, hg, Nat.le_refl _, by omega, by omega, ht⟩

attribute [local go_sem ↓] Go.wp_at_zero Go.wp_at_succ
set_option maxRecDepth 100000 in
set_option maxHeartbeats 4000000 in
theorem all_any {w : World} {t : Value} {L : List ByteArray} {F : Nat → Prop} (ht : TBt w t L F) (hfw : Few L) :
    Calls Try.prog 17 #[t] w fun e w' => ∃ v, e = .returned v ∧ OwnT w' w.heap.size v L.length (L.map fun x => .string x) ∧ Below w.heap.size w w' := by
  obtain ⟨g, sl, n, vt, val, rfl, hb, hr, hn, hF⟩ := ht
  obtain ⟨ad, cap, rfl⟩ := hb.shape
  have HVL := Lib.hid (valid_yes g _ _ hb.bk)
  have HT := Lib.hid hb
  have HNL : Hid (([] : List ByteArray).length + L.length ≤ 1000000) := Lib.hid (by have := hfw.1; rw [List.length_nil]; omega)
  clear hb hr hn hF hfw
  go_enter Try.func17, Try.ntmps17
  go_wp2_with fail
  refine HVL.out.mono ?_
  rintro e w1 ⟨rfl, b1⟩
  have T1 := Lib.hid (HT.out.below b1)
  have B1 := Lib.hid b1
  have c1 := T1.out.cells.2.1
  have ON := Lib.hid (own_nil w1)
  have SD := Lib.hid (strsD_of_own T1.out.own)
  have HSZ : Hid (w1.heap.size ≤ w1.heap.size) := Lib.hid (Nat.le_refl _)
  clear b1 HT
  go_wp2_with (at_builtin; refine append_strs rfl (.const (.slice none 0 0)) (.tmp 10) rfl w1.heap.size (.slice none 0 0) [] L rfl ad L.length cap rfl ON.out SD.out HNL.out HSZ.out L (List.nil_append L) ?_)
  intro v' w' ho' b'
  obtain ⟨ad2, cap2, rfl, _⟩ := own_shape' ho'.out
  have HO := Lib.hid (OwnT.cut ho'.out)
  have B2 := Lib.hid b'
  have hle : L.length ≤ cap2 := by
    rcases ho'.out.2 with ⟨h1, h2⟩ | ⟨g', cap', cur, hv, _, _, hle, _⟩
    · injection h1 with e1 e2 e3; omega
    · injection hv with e1 e2 e3; omega
  clear ho' b' c1 ON SD HSZ
  go_wp2_with fail
  go_ret
  exact ⟨_, rfl, HO.out.base B1.out.size, B1.out.trans (B2.out.mono B1.out.size)⟩

set_option maxRecDepth 100000 in
set_option maxHeartbeats 4000000 in
theorem new_any (w : World) : Calls Try.prog 9 #[] w fun e w' => ∃ (a : Addr) (F : Nat → Prop), e = .returned (.pointer (some a)) ∧ TBt w' (.pointer (some a)) [] F ∧ (∀ g, F g → w.heap.size ≤ g) ∧ Below w.heap.size w w' := by
  have hm6 : 16 ≤ 1000000 := by decide
  go_enter Try.func9, Try.ntmps9
  go_wp2_with (refine make_one rfl (.const (.int .i64 16)) (.const (.int .i64 16)) 41 3 (.int .i64 0) 8 Try.underlying41 (by kernel_rfl) rfl (by decide) rfl 16 rfl rfl hm6 ?_)
  intro w1 Z hZ hz1 b1
  go_wp2_with fail
  go_ret
  have hne : w1.heap.size ≠ w.heap.size := fun e => by have := (show Bk w1 w.heap.size 3 Z.toArray from hz1.out).lt; omega
  refine ⟨⟨w1.heap.size, 0, none⟩, fun x => x = w1.heap.size ∨ x = w.heap.size ∨ (Value.slice none 0 0).ownBlock = some x, rfl, ⟨w1.heap.size, w.heap.size, 16, .slice none 0 0, fun _ => none, rfl, ⟨Bk.new _ _ _, ⟨rfl, .inl ⟨rfl, rfl⟩⟩, ⟨Z.toArray, bk_alloc (show Bk w1 w.heap.size 3 Z.toArray from hz1.out) _, fun a ha => ?_⟩, ⟨4, rfl, by decide⟩⟩, Slo.nil 16 _, rfl, fun x => Iff.rfl⟩, ?_, b1.alloc b1.size _⟩
  · have hZ2 : Z = List.replicate 16 (.int .i64 0) := hZ.out
    rw [hZ2, List.getElem?_toArray, List.getElem?_replicate, if_pos ha]; rfl
  · rintro x (rfl | rfl | h)
    · exact b1.size
    · exact Nat.le_refl _
    · cases h

end Go.Proofs.Ythmejdnedfokcaa
