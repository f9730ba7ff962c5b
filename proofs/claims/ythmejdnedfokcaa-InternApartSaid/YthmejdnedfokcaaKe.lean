/- Layer 13: the landed table: twice as many slots. -/
import Derived.Test.YthmejdnedfokcaaKd
namespace Go.Proofs.Ythmejdnedfokcaa
set_option linter.unusedSimpArgs false
set_option linter.unusedVariables false
open Go.RowKit

theorem bk_ne {w : World} {g g' T T' : Nat} {cs cs' : Array Value} (h : Bk w g T cs) (h' : Bk w g' T' cs') (hT : T ≠ T') : g ≠ g' := by
  rintro rfl
  unfold Bk at h h'
  rw [h] at h'
  injection h' with h'
  injection h' with _ h2 _
  exact hT h2
/-- New slots, all empty. -/
theorem Tb.setSlots {w w1 : World} {g sl n m : Nat} {vt : Value} {L : List ByteArray} {val : Nat → Option Nat} {Z : List Value} (h : Tb w g sl n vt L val) (hb : Below w.heap.size w w1)
    (hZ : Z = List.replicate m (.int .i64 0)) (hz : w1.heap[w.heap.size]? = some (.cells Z.toArray 3 (0, 0))) (hm : ∃ p, m = 2 ^ p ∧ p ≤ 20) :
    Tb (w1.setCell ⟨g, 2, none⟩ (.slice (some ⟨w.heap.size, 0, none⟩) m m)) g w.heap.size m vt L (fun _ => none) ∧ Oth (fun x => x = g) w (w1.setCell ⟨g, 2, none⟩ (.slice (some ⟨w.heap.size, 0, none⟩) m m)) := by
  have h1 := h.below hb
  have hg : w.heap.size ≠ g := fun e => by have := h.bk.lt; omega
  refine ⟨⟨heap_setCell_same w1 g 2 _ _ _ h1.bk, own_setT h1.own h1.bk (by decide), ⟨Z.toArray, (Below.heap_setCell w1 ⟨g, 2, none⟩ _ w.heap.size hg).trans hz, fun a ha => ?_⟩, hm⟩, ?_, ?_⟩
  · subst hZ
    rw [List.getElem?_toArray, List.getElem?_replicate, if_pos ha]; rfl
  · exact ((hb.mono (Nat.zero_le _))).setCell (Nat.zero_le _) _
  · intro x hx hn
    exact (Below.heap_setCell w1 ⟨g, 2, none⟩ _ x hn).trans (hb.block x hx)
/-- A number comes into a slot. -/
theorem Tb.setSlot {w : World} {g sl n : Nat} {vt : Value} {L : List ByteArray} {val : Nat → Option Nat} (h : Tb w g sl n vt L val) {a : Nat} (ha : a < n) (j : Nat) :
    Tb (w.setCell ⟨sl, a, none⟩ (.int .i64 ((j : Int) + 1))) g sl n vt L (fun x => if x = a then some j else val x) := by
  obtain ⟨cs, h1, h2⟩ := h.sl
  have hg : g ≠ sl := bk_ne h.bk h1 (by decide)
  refine ⟨(Below.heap_setCell w ⟨sl, a, none⟩ _ g hg).trans h.bk, own_setT h.own h1 (by decide), ⟨_, heap_setCell_same w sl a _ _ _ h1, fun b hb => ?_⟩, h.pw⟩
  have hlt : a < cs.size := (Array.getElem?_eq_some_iff.1 (h2 a ha)).1
  rw [Array.getElem?_setIfInBounds]
  by_cases e : a = b
  · subst e
    rw [if_pos rfl, if_pos hlt, if_pos rfl]; rfl
  · rw [if_neg e, if_neg (fun e' => e e'.symm)]
    exact h2 b hb
theorem Tb.setSlot' {w : World} {g sl n : Nat} {vt : Value} {L : List ByteArray} {val : Nat → Option Nat} (h : Tb w g sl n vt L val) {a : Nat} (ha : a < n) (j : Nat) (x : Int) (hx : x = (j : Int) + 1) :
    Tb (w.setCell ⟨sl, a, none⟩ (.int .i64 x)) g sl n vt L (fun x => if x = a then some j else val x) := by
  rw [hx]; exact h.setSlot ha j
theorem Tb.slFz {w : World} {g sl n : Nat} {vt : Value} {L : List ByteArray} {val : Nat → Option Nat} (h : Tb w g sl n vt L val) (a : Nat) : w.frozen? ⟨sl, a, none⟩ = false := by
  obtain ⟨cs, h1, h2⟩ := h.sl
  exact h1.fz a
theorem not_take {L : List ByteArray} (nd : ∀ i j, i < L.length → j < L.length → L.getD i emptyT = L.getD j emptyT → i = j) {k : Nat} (hk : k < L.length) : hasT (L.take k) (L.getD k emptyT) = false := by
  rw [Bool.eq_false_iff]
  intro h1
  rw [has_iff] at h1
  obtain ⟨j, hj, e⟩ := List.mem_iff_getElem.1 h1
  rw [List.length_take] at hj
  rw [List.getElem_take] at e
  have := nd j k (by omega) hk (by rw [← e, List.getD_eq_getElem?_getD, List.getElem?_eq_getElem (by omega)]; rfl)
  omega
theorem getD_take {L : List ByteArray} {j k : Nat} (h : j < k) : (L.take k).getD j emptyT = L.getD j emptyT := by
  rw [List.getD_eq_getElem?_getD, List.getElem?_take, if_pos h, List.getD_eq_getElem?_getD]
/-- The next text comes into the new slots. -/
theorem Slo.next {m k d a : Nat} {val : Nat → Option Nat} {L : List ByteArray} (nd : ∀ i j, i < L.length → j < L.length → L.getD i emptyT = L.getD j emptyT → i = j) (hk : k < L.length) (h : Slo m val (hsN m) (L.take k)) (hf : Fnd m val L (L.getD k emptyT) d a) :
    Slo m (fun x => if x = a then some k else val x) (hsN m) (L.take (k + 1)) := by
  have hl : (L.take k).length = k := by rw [List.length_take]; omega
  have hn : val a = none := by
    rcases hf.at' with h0 | ⟨j, h1, h2⟩
    · exact h0
    · have hj := h.p.mem a j hf.al h1
      rw [hl] at hj
      have := nd j k (by omega) hk h2
      omega
  have := h.put (not_take nd hk) hf.dl hf.ae hn fun e he => (hf.pre e he).1
  rw [hl] at this
  rw [take_next hk]
  exact this

attribute [local go_sem ↓] Go.wp_at_zero Go.wp_at_succ
set_option maxRecDepth 100000 in
set_option maxHeartbeats 4000000 in
theorem double_any {w : World} {g sl n : Nat} {vt : Value} {L : List ByteArray} {val : Nat → Option Nat} (ht : Tb w g sl n vt L val) (nd : ∀ i j, i < L.length → j < L.length → L.getD i emptyT = L.getD j emptyT → i = j)
    (hs : ∀ x ∈ L, x.size ≤ 300) (hn : n ≤ 100000) (hr : L.length < 2 * n) (hL : L.length ≤ 100000) :
    Calls Try.prog 22 #[.pointer (some ⟨g, 0, none⟩)] w fun e w' => e = .returned (.tuple #[]) ∧ ∃ val', Tb w' g w.heap.size (2 * n) vt L val' ∧ Slo (2 * n) val' (hsN (2 * n)) L ∧ Oth (fun x => x = g) w w' := by
  obtain ⟨ad, cap, rfl⟩ := ht.shape
  have HT := Lib.hid ht
  have HND := Lib.hid nd
  have HS := Lib.hid hs
  obtain ⟨m, hm⟩ : ∃ m, 2 * n = m := ⟨_, rfl⟩
  have HPW : Hid (∃ p, m = 2 ^ p ∧ p ≤ 20) := by
    obtain ⟨p, h1, h2⟩ := ht.pw
    refine Lib.hid ⟨p + 1, by rw [← hm, Nat.pow_succ, h1]; omega, ?_⟩
    rcases Nat.lt_or_ge p 20 with h3 | h3
    · omega
    · have h4 : 2 ^ 20 ≤ n := by rw [h1]; exact Nat.pow_le_pow_right (by decide) h3
      have h5 : (2 : Nat) ^ 20 = 1048576 := by decide
      omega
  have c2 := ht.cells.2.2
  have l0 := ht.bk.lt
  have hw1 : IntKind.i64.wrap (2 * (n : Int)) = (m : Int) := by rw [show 2 * (n : Int) = (m : Int) by omega]; exact IntWalk.i64_in _ (by omega)
  have HM : Hid (m ≤ 1000000 ∧ L.length < m ∧ L.length ≤ 100000) := Lib.hid ⟨by omega, by omega, by omega⟩
  have hm6 : m ≤ 1000000 := HM.out.1
  have hz : ((.int .i64 0) : Value).cells = #[.int .i64 0] := rfl
  rw [hm]
  clear ht nd hs hn hr hm hL
  go_enter Try.func22, Try.ntmps22
  go_wp2_with (refine make_one rfl (.tmp 10) (.tmp 10) 41 3 (.int .i64 0) 8 Try.underlying41 (by kernel_rfl) rfl (by decide) rfl m rfl rfl hm6 ?_)
  intro w1 Z hZ hz1 b1
  have HX := Lib.hid (HT.out.setSlots b1 hZ.out hz1.out HPW.out)
  have k1 := (HT.out.below b1).bk
  have d2 : w1.cell? ⟨g, 2, none⟩ = some (.slice (some ⟨sl, 0, none⟩) n n) := k1.cell 2
  have f2 : w1.frozen? ⟨g, 2, none⟩ = false := k1.fz 2
  have l1 := k1.lt
  have o1 := HX.out.1.cells.2.1
  clear hZ hz1 b1 k1 c2
  go_wp2_with fail
  generalize w1.setCell _ _ = w2 at HX o1 ⊢
  generalize hsl2 : w.heap.size = sl2 at HX ⊢
  have HSL2 := Lib.hid hsl2
  clear hsl2 d2 f2 l1 l0 o1
  go_loopg [2, 3, 19] L.length (fun fuel a' b' i' wr => ∃ (k : Nat) (val : Nat → Option Nat), i' = .int .i64 (k : Int) ∧ k ≤ L.length ∧ L.length - k ≤ fuel ∧ Tb wr g sl2 m (.slice ad L.length cap) L val ∧ Slo m val (hsN m) (L.take k) ∧ Oth (fun x => x = g) w wr)
  case atStart => exact ⟨0, _, rfl, Nat.zero_le _, Nat.le_refl _, HX.out.1, by rw [List.take_zero]; exact Slo.nil m _, HX.out.2⟩
  case round =>
    clear HX
    obtain ⟨k, vk, rfl, hk, hf, htk, hsk, ho⟩ := hrel
    have HTK := Lib.hid htk
    have HSK := Lib.hid hsk
    have HO := Lib.hid ho
    have HF := Lib.hid hf
    clear htk hsk ho hf
    by_cases hlt : k < L.length
    · have hk' := hlt
      obtain ⟨b, off, rfl, hbl, y⟩ := StrsD.at2 (strsD_of_own HTK.out.own) k hk'
      have HG : Hid (L.getD k emptyT = L[k]) := Lib.hid (by rw [List.getD_eq_getElem?_getD, List.getElem?_eq_getElem hk']; rfl)
      have HSZ : Hid (L[k].size ≤ 300) := Lib.hid (HS.out _ (List.getElem_mem hk'))
      have HK' := Lib.hid hk'
      generalize L[k] = x at y HG HSZ
      have c2 := HTK.out.cells.2.2
      have e1 : (0 : Int) ≤ (k : Int) := by omega
      have e2 : (k : Int) < (L.length : Int) := by omega
      have e3 : IntKind.i64.wrap ((k : Int) + 1) = (k : Int) + 1 := IntWalk.i64_in _ (by have := HM.out; omega)
      have HSA := Lib.hid fun (W : World) (hT : Tb W g sl2 m (.slice (some ⟨b, off, none⟩) L.length cap) L vk) => slot_any (w := W) x hT (fun a j ha h => by
        have := HSK.out.p.mem a j ha h
        rw [List.length_take] at this
        omega) (HSK.out.room (by rw [List.length_take]; have := HM.out; omega) _) HSZ.out (by have := HM.out; omega)
      have lsl := HTK.out.lt sl2 (.inr (.inl rfl))
      clear hk'
      go_wp2_with fail
      go_region_law (go_simp; go_at_call 21; (refine Calls.mono (HSA.out _ (HTK.out.below (below_drewN (Below.refl _ _) 1))) ?_); rintro e wn ⟨d, a, fd, rfl, bn⟩; have TN := Lib.hid ((HTK.out.below (below_drewN (Below.refl _ _) 1)).below bn); have ON := Lib.hid (HO.out.trans (Oth.of ((below_drewN (Below.refl _ _) 1).trans (bn.mono (Nat.le_refl _)))) (fun _ h => h) (fun _ _ h => h)); have FD := Lib.hid fd; have hal := fd.al; have hal0 : (0 : Int) ≤ (a : Int) := Int.natCast_nonneg a; have hal1 : (a : Int) < (m : Int) := Int.ofNat_lt.2 hal; have c2n := TN.out.cells.2.2; have c3n := TN.out.slot hal; have f3n := TN.out.slFz a; have l3n := TN.out.lt sl2 (.inr (.inl rfl)))
      all_goals
        have TS := Lib.hid (TN.out.setSlot hal k)
        have OS := Lib.hid (ON.out.trans (G := fun x => x = g) (show Oth (fun x => x = sl2) wn (wn.setCell ⟨sl2, a, none⟩ (.int .i64 ((k : Int) + 1))) from ⟨(Below.refl 0 _).setCell (Nat.zero_le _) _, fun x _ hn => Below.heap_setCell wn ⟨sl2, a, none⟩ _ x hn⟩) (fun _ h => h) (fun x hx h => by have := HSL2.out; omega))
        have SN := Lib.hid (HSK.out.next HND.out HK'.out (by rw [HG.out]; exact FD.out))
        generalize wn.setCell _ _ = w5 at TS OS ⊢
        clear TN ON FD hal hal0 hal1 c2n c3n f3n l3n c2 hbl y
        go_wp2_with fail
        have hf := HF.out
        go_roundg (gk - 1)
        case measure => omega
        case rel => exact ⟨k + 1, _, by go_num, by omega, by omega, TS.out, SN.out, OS.out⟩
    · obtain rfl : k = L.length := by omega
      go_wp2_with fail
      exact bodyPost_end (v := .tuple #[]) (by simp [results, Try.results22, go_sem]) rfl ⟨rfl, vk, by rw [HSL2.out]; exact HTK.out, by have := HSK.out; rwa [List.take_of_length_le (Nat.le_refl _)] at this, HO.out⟩

end Go.Proofs.Ythmejdnedfokcaa
