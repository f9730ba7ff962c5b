/- What operator does. -/
import Derived.Test.YtifbhlgingaahaaDoorKc
namespace Go.Proofs.YtifbhlgingaahaaDoor
open Go.RowKit

/-- The signs of the operators. -/
def sgT : List (List UInt8) := [[], [], [], [], [], [33], [43], [45], [42], [61, 61], [33, 61], [60], [60, 61], [38, 38], [124, 124]]
def sgO (op : Nat) : List UInt8 := sgT.getD op []
def sgV (op : Nat) : ByteArray := ⟨(sgO op).toArray⟩

/-- The table of signs lies in its place. -/
def Sgn (w : World) : Prop := 0 < w.heap.size ∧ ∀ i, i < 15 → w.cell? ⟨0, i, none⟩ = some (.string (sgV i))

theorem Sgn.below {w w' : World} (h : Sgn w) (hb : Below w.heap.size w w') : Sgn w' :=
  ⟨Nat.lt_of_lt_of_le h.1 hb.size, fun i hi => (hb.cell (p := ⟨0, i, none⟩) h.1).trans (h.2 i hi)⟩
theorem Sgn.keep {w w' : World} {b : Nat} (h : Sgn w) (hb : Keep b w w') (h0 : 0 < b) : Sgn w' :=
  ⟨Nat.lt_of_lt_of_le h.1 hb.size, fun i hi => (hb.cell (p := ⟨0, i, none⟩) h.1 (by show 0 ≠ b; omega)).trans (h.2 i hi)⟩

/-- Which of the operators stands at a place; 0: none. -/
def which (l : List Tok) (i : Nat) : List Nat → Nat
  | [] => 0
  | o :: r => if sgAt l i (sgO o) then o else which l i r

/-- Numbers in a block of their own. -/
def Ints (w : World) (v : Value) (os : List Nat) : Prop :=
  ∃ g cap, v = .slice (some ⟨g, 0, none⟩) os.length cap ∧ g < w.heap.size ∧ ∀ i, (hi : i < os.length) → w.cell? ⟨g, i, none⟩ = some (.int .i64 os[i])

theorem Ints.below {w w' : World} {v : Value} {os : List Nat} (h : Ints w v os) (hb : Below w.heap.size w w') : Ints w' v os := by
  obtain ⟨g, cap, hv, hg, hc⟩ := h
  exact ⟨g, cap, hv, Nat.lt_of_lt_of_le hg hb.size, fun i hi => (hb.cell (p := ⟨g, i, none⟩) hg).trans (hc i hi)⟩

theorem which_at (l : List Tok) (i : Nat) (os : List Nat) (k : Nat) (h : k < os.length) : which l i (os.drop k) = if sgAt l i (sgO os[k]) then os[k] else which l i (os.drop (k + 1)) := by
  rw [List.drop_eq_getElem_cons h, which]

set_option maxHeartbeats 1000000 in
theorem operator_any (l : List Tok) (b : Nat) (lv : Value) (i : Nat) (op er pl : Int) (v : Value) (os : List Nat) (w : World) (hp : Pst w b lv i op er pl) (ht : TokS w b lv l) (hn : l.length ≤ 100000) (hs : Sgn w) (hv : Ints w v os) (hos : ∀ o ∈ os, o < 15) (hol : os.length ≤ 4) :
    Calls Tryd.prog 54 #[.pointer (some ⟨b, 0, none⟩), v] w fun e w' => e = .returned (.int .i64 (which l i os)) ∧ Below w.heap.size w w' := by
  obtain ⟨R, hR⟩ : ∃ R, which l i os = R := ⟨_, rfl⟩
  rw [hR]
  have HR := Lib.hid hR
  obtain ⟨g, cap, rfl, hg, hc⟩ := hv
  obtain ⟨n, hN⟩ : ∃ n, n = os.length := ⟨_, rfl⟩
  rw [← hN] at hol ⊢
  have HN := Lib.hid hN
  have HC := Lib.hid hc
  have HOS := Lib.hid hos
  have HP := Lib.hid hp
  have HT := Lib.hid ht
  have HS := Lib.hid hs
  have HL := Lib.hid hn
  clear hR hc hN hos hp ht hs hn
  go_enter Tryd.func54, Tryd.ntmps54
  go_wp2
  go_loopg [9] n (fun fuel i' wr => ∃ k : Nat, i' = .int .i64 k ∧ k ≤ n ∧ n - k ≤ fuel ∧ which l i (os.drop k) = R ∧ Below w.heap.size w wr)
  case atStart => exact ⟨0, rfl, Nat.zero_le _, Nat.le_refl _, HR.out, Below.refl _ _⟩
  case round =>
    obtain ⟨k, rfl, hk, hf, hr, hb⟩ := hrel
    have HR2 := Lib.hid hr
    have HB := Lib.hid hb
    clear hr hb
    by_cases hlt : k < n
    · have hk' : k < os.length := by have := HN.out; omega
      have HE := Lib.hid (which_at l i os k hk')
      have c0 := HC.out k hk'
      have ho : os[k] < 15 := HOS.out _ (List.getElem_mem hk')
      obtain ⟨o, hoo⟩ : ∃ o, o = os[k] := ⟨_, rfl⟩
      have HO := Lib.hid hoo
      rw [← hoo] at c0 ho
      clear hoo
      have g0 : wr.cell? ⟨g, k, none⟩ = some (.int .i64 o) := (HB.out.cell (p := ⟨g, k, none⟩) hg).trans c0
      have s0 : wr.cell? ⟨0, o, none⟩ = some (.string (sgV o)) := ((HS.out).below HB.out).2 o ho
      obtain ⟨x, hx⟩ : ∃ x, x = sgV o := ⟨_, rfl⟩
      have hxl : x.data.toList = sgO o := by rw [hx, sgV]
      rw [← hx] at s0
      obtain ⟨r, hr⟩ : ∃ r, sgAt l i (sgO o) = r := ⟨_, rfl⟩
      have HSI : ∀ w', w' = wr → Calls Tryd.prog 60 #[.pointer (some ⟨b, 0, none⟩), .string x] w' fun e w'' => e = .returned (.bool r) ∧ Below w'.heap.size w' w'' := by
        rintro w' rfl
        exact sign_is l b lv i op er pl x _ (HP.out.below HB.out) (HT.out.keep (Below.keep HB.out)) HL.out r (by rw [hxl]; exact hr)
      have HSI2 := HSI wr rfl
      have HRR := Lib.hid hr
      clear c0 hx hxl hr HSI
      cases r with
      | true =>
        go_wp2_with (go_at_call 60; refine HSI2.mono ?_; rintro e w2 ⟨rfl, hb2⟩)
        go_ret
        refine ⟨ret_int ?_, HB.out.trans (hb2.mono HB.out.size)⟩
        have := HR2.out
        rw [HE.out, ← HO.out, HRR.out, if_pos rfl] at this
        rw [this]
      | false =>
        go_wp2_with (go_at_call 60; refine HSI2.mono ?_; rintro e w2 ⟨rfl, hb2⟩)
        go_roundg (gk - 1)
        case measure => omega
        case rel =>
          refine ⟨k + 1, by go_num, by omega, by omega, ?_, HB.out.trans (hb2.mono HB.out.size)⟩
          have := HR2.out
          rw [HE.out, ← HO.out, HRR.out, if_neg (by simp)] at this
          exact this
    · have hk2 : ¬ k < os.length := by have := HN.out; omega
      have HE := Lib.hid (drop_over os k hk2)
      go_wp2
      go_ret
      exact ⟨ret_int (by rw [← HR2.out, HE.out]; rfl), HB.out⟩

end Go.Proofs.YtifbhlgingaahaaDoor
