/- The reference's parser of programs: word, kind. -/
import Derived.Test.YtlpgafgiljffhaaGreatDoorHc
namespace Go.Proofs.YtlpgafgiljffhaaGreatDoor
open Go.RowKit
set_option linter.unusedSimpArgs false
set_option linter.unusedVariables false
def wdB : Nat → ByteArray
  | 1 => ⟨#[102, 111, 114, 97, 108, 108]⟩
  | 2 => ⟨#[101, 120, 105, 115, 116, 115]⟩
  | 3 => ⟨#[97, 108, 119, 97, 121, 115]⟩
  | _ => ⟨#[]⟩
theorem sword_any (k : Nat) (h : k = 1 ∨ k = 2 ∨ k = 3) (w : World) :
    Calls Tryz.prog 87 #[.int .i64 k] w fun e w' => e = .returned (.string (wdB k)) ∧ Below w.heap.size w w' := by
  rcases h with rfl | rfl | rfl
  all_goals
    go_enter Tryz.func87, Tryz.ntmps87
    go_wp2
    go_ret
    exact ⟨rfl, (Below.refl _ _).alloc (Nat.le_refl _) _⟩
theorem kdP_of {l : List Tok} {q : Pq} {k : Nat} (h : k = 1 ∨ k = 2 ∨ k = 3) (hn : ∀ j, 0 < j → j < k → kyB l q (wdB j).data.toList = false) (hk : kyB l q (wdB k).data.toList = true) : kdP l q = k := by
  unfold kdP
  rcases h with rfl | rfl | rfl
  · exact if_pos hk
  · rw [if_neg (by rw [show kyB l q [102, 111, 114, 97, 108, 108] = false from hn 1 (by omega) (by omega)]; decide)]
    exact if_pos hk
  · rw [if_neg (by rw [show kyB l q [102, 111, 114, 97, 108, 108] = false from hn 1 (by omega) (by omega)]; decide), if_neg (by rw [show kyB l q [101, 120, 105, 115, 116, 115] = false from hn 2 (by omega) (by omega)]; decide)]
    exact if_pos hk
theorem kdP_no {l : List Tok} {q : Pq} (hn : ∀ j, 0 < j → j < 4 → kyB l q (wdB j).data.toList = false) : kdP l q = 0 := by
  unfold kdP
  rw [if_neg (by rw [show kyB l q [102, 111, 114, 97, 108, 108] = false from hn 1 (by omega) (by omega)]; decide), if_neg (by rw [show kyB l q [101, 120, 105, 115, 116, 115] = false from hn 2 (by omega) (by omega)]; decide), if_neg (by rw [show kyB l q [97, 108, 119, 97, 121, 115] = false from hn 3 (by omega) (by omega)]; decide)]
section
variable {w : World} {b : Nat} {l : List Tok} {v : Value} {q : Pq}
set_option maxRecDepth 100000 in
set_option maxHeartbeats 4000000 in
theorem skind_any (h : Rs w b l v q) :
    Calls Tryz.prog 57 #[.pointer (some ⟨b, 0, none⟩)] w fun e w' => e = .returned (.int .i64 (kdP l q)) ∧ Below w.heap.size w w' := by
  have H := Lib.hid h
  clear h
  go_enter Tryz.func57, Tryz.ntmps57
  go_wp2_with fail
  go_loopg [3] 4 (fun fuel i' wr => ∃ (k : Nat), i' = .int .i64 k ∧ 1 ≤ k ∧ k ≤ 4 ∧ 4 - k ≤ fuel ∧ (∀ j, 0 < j → j < k → kyB l q (wdB j).data.toList = false) ∧ Below w.heap.size w wr)
  case atStart => exact ⟨1, rfl, by omega, by omega, by omega, fun j h1 h2 => by omega, Below.refl _ _⟩
  case round =>
    obtain ⟨k, rfl, hk1, hk4, hf, ha, hb⟩ := hrel
    have HA := Lib.hid ha
    have HB := Lib.hid hb
    have hww := hb.size
    clear ha hb
    by_cases hlt : k < 4
    · have hc : k = 1 ∨ k = 2 ∨ k = 3 := by omega
      have HW := Lib.hid fun (W : World) => sword_any k hc W
      have HKY := Lib.hid fun (W : World) (hW : Rs W b l v q) => skey_any (wdB k) hW
      have HC := Lib.hid hc
      obtain ⟨r, hr⟩ : ∃ r, kyB l q (wdB k).data.toList = r := ⟨_, rfl⟩
      rw [hr] at HKY
      have HR := Lib.hid hr
      clear hc hr
      generalize wdB k = wd at HW HKY
      go_wp2_with fail
      refine (HW.out _).mono ?_
      rintro e w1 ⟨rfl, b1⟩
      have HB1 := Lib.hid (HB.out.trans (b1.mono hww))
      clear b1
      go_wp2_with fail
      refine (HKY.out _ (H.out.below HB1.out)).mono ?_
      rintro e w2 ⟨rfl, b2⟩
      have HB2 := Lib.hid (HB1.out.trans (b2.mono HB1.out.size))
      have hw2 := HB2.out.size
      clear b2
      cases r
      · go_wp2_with fail
        go_roundg (gk - 1)
        case measure => omega
        case rel =>
          refine ⟨k + 1, by go_num, by omega, by omega, by omega, fun j h1 h2 => ?_, HB2.out⟩
          by_cases hj : j = k
          · rw [hj]; exact HR.out
          · exact HA.out j h1 (by omega)
      · have HK := Lib.hid (kdP_of HC.out HA.out HR.out)
        go_wp2_with fail
        go_ret
        rw [HK.out]
        exact ⟨rfl, HB2.out⟩
    · obtain rfl : k = 4 := by omega
      have HK := Lib.hid (kdP_no HA.out)
      go_wp2_with fail
      go_ret
      rw [HK.out]
      exact ⟨rfl, HB.out⟩
end

end Go.Proofs.YtlpgafgiljffhaaGreatDoor
