/- The tokens of right statements are read as these statements, but for their places. -/
import Derived.Test.YtidjkihkoggjdaaGreatDoorYk
import Derived.Test.YtidjkihkoggjdaaGreatDoorWa
namespace Go.Proofs.YtidjkihkoggjdaaGreatDoor
open Go.RowKit
def St.er (x : St) : St := { x with e := x.e.map Nd.er, f := x.f.map Nd.er, pl := 0 }
theorem fld_good (l : List Tok) (hp : ∀ i, (tokO l i).2.2.2 + (tokO l i).2.1.length ≤ 200000) : ∀ (cs : List UInt8) (i : Nat) (y x : St) (j : Nat), i ≤ l.length → fld l cs i y = .ok x j →
    x.kind = y.kind ∧ x.pl = y.pl ∧ x.body = y.body ∧ x.els = y.els ∧ (if 114 ∈ cs then nameB x.reg = true else x.reg = y.reg) ∧ (if 108 ∈ cs then nameB x.loc = true else x.loc = y.loc) ∧
    (if 101 ∈ cs then rightP x.e ∧ regsO x.e = true else x.e = y.e) ∧ (if 102 ∈ cs then rightP x.f ∧ regsO x.f = true else x.f = y.f) ∧ (113 ∉ cs → x.ne = y.ne) := by
  intro cs
  induction cs with
  | nil => intro i y x j _ h; rw [fld] at h; cases h; simp
  | cons c cs ih =>
    intro i y x j hi h
    have hplain : ∀ u k, plainR l i = .ok u k → rightP u.flat ∧ regsO u.flat = true ∧ k ≤ l.length := by
      intro u k hu
      have ho := parse_out' l i hi hp
      unfold plainR at hu
      cases hq : parseR l i with
      | err k a => rw [hq] at hu; cases hu
      | ok e m =>
        rw [hq] at hu ho
        obtain ⟨p1, p2, p3, p4, p5⟩ := ho
        simp only [] at hu
        by_cases hg : regsB e.flat = true
        · rw [if_pos hg] at hu
          cases hu
          exact ⟨fit_right p1 p2 p3, by rw [← regs_is]; exact hg, p5⟩
        · rw [if_neg hg] at hu; cases hu
    rw [fld_cons] at h
    by_cases c1 : c = 114
    · subst c1
      rw [if_pos rfl] at h
      by_cases hn : nmAt l i = true
      · rw [if_pos hn] at h
        have hlt := nmAt_lt hn
        have hnm : nameB (txt l i) = true := by unfold nmAt at hn; rw [Bool.and_eq_true] at hn; exact hn.2
        obtain ⟨g1, g2, g3, g4, g5, g6, g7, g8, g9⟩ := ih _ _ _ _ (by omega) h
        refine ⟨g1, g2, g3, g4, ?_, by simpa using g6, by simpa using g7, by simpa using g8, by simpa using g9⟩
        rw [if_pos (by simp)]
        split at g5
        · exact g5
        · rw [g5]; exact hnm
      · rw [if_neg hn] at h; cases h
    · rw [if_neg c1] at h
      by_cases c2 : c = 108
      · subst c2
        rw [if_pos rfl] at h
        by_cases hn : nmAt l i = true
        · rw [if_pos hn] at h
          have hlt := nmAt_lt hn
          have hnm : nameB (txt l i) = true := by unfold nmAt at hn; rw [Bool.and_eq_true] at hn; exact hn.2
          obtain ⟨g1, g2, g3, g4, g5, g6, g7, g8, g9⟩ := ih _ _ _ _ (by omega) h
          refine ⟨g1, g2, g3, g4, by simpa using g5, ?_, by simpa using g7, by simpa using g8, by simpa using g9⟩
          rw [if_pos (by simp)]
          split at g6
          · exact g6
          · rw [g6]; exact hnm
        · rw [if_neg hn] at h; cases h
      · rw [if_neg c2] at h
        by_cases c3 : c = 101
        · subst c3
          rw [if_pos rfl] at h
          cases hq : plainR l i with
          | err k a => rw [hq] at h; cases h
          | ok u k =>
            rw [hq] at h
            obtain ⟨p1, p2, p3⟩ := hplain u k hq
            obtain ⟨g1, g2, g3, g4, g5, g6, g7, g8, g9⟩ := ih _ _ _ _ p3 h
            refine ⟨g1, g2, g3, g4, by simpa using g5, by simpa using g6, ?_, by simpa using g8, by simpa using g9⟩
            rw [if_pos (by simp)]
            split at g7
            · exact g7
            · rw [g7]; exact ⟨p1, p2⟩
        · rw [if_neg c3] at h
          by_cases c4 : c = 102
          · subst c4
            rw [if_pos rfl] at h
            cases hq : plainR l i with
            | err k a => rw [hq] at h; cases h
            | ok u k =>
              rw [hq] at h
              obtain ⟨p1, p2, p3⟩ := hplain u k hq
              obtain ⟨g1, g2, g3, g4, g5, g6, g7, g8, g9⟩ := ih _ _ _ _ p3 h
              refine ⟨g1, g2, g3, g4, by simpa using g5, by simpa using g6, by simpa using g7, ?_, by simpa using g9⟩
              rw [if_pos (by simp)]
              split at g8
              · exact g8
              · rw [g8]; exact ⟨p1, p2⟩
          · rw [if_neg c4] at h
            by_cases c5 : c = 113
            · subst c5
              rw [if_pos rfl] at h
              by_cases hn : sgAt l i [33, 61] = true
              · rw [if_pos hn] at h
                have hlt := sgAt_lt hn
                obtain ⟨g1, g2, g3, g4, g5, g6, g7, g8, g9⟩ := ih _ _ _ _ (by omega) h
                exact ⟨g1, g2, g3, g4, by simpa using g5, by simpa using g6, by simpa using g7, by simpa using g8, fun hh => absurd (List.mem_cons_self ..) hh⟩
              · rw [if_neg hn] at h
                by_cases hm : sgAt l i [61, 61] = true
                · rw [if_pos hm] at h
                  have hlt := sgAt_lt hm
                  obtain ⟨g1, g2, g3, g4, g5, g6, g7, g8, g9⟩ := ih _ _ _ _ (by omega) h
                  exact ⟨g1, g2, g3, g4, by simpa using g5, by simpa using g6, by simpa using g7, by simpa using g8, fun hh => absurd (List.mem_cons_self ..) hh⟩
                · rw [if_neg hm] at h; cases h
            · rw [if_neg c5] at h
              by_cases hn : sgAt l i [c] = true
              · rw [if_pos hn] at h
                have hlt := sgAt_lt hn
                obtain ⟨g1, g2, g3, g4, g5, g6, g7, g8, g9⟩ := ih _ _ _ _ (by omega) h
                have m1 : ∀ d : UInt8, c ≠ d → (d ∈ c :: cs ↔ d ∈ cs) := fun d hd => by simp [Ne.symm hd]
                simp only [m1 114 c1, m1 108 c2, m1 101 c3, m1 102 c4, m1 113 c5]
                exact ⟨g1, g2, g3, g4, g5, g6, g7, g8, g9⟩
              · rw [if_neg hn] at h; cases h
theorem fld_okSt (l : List Tok) (hp : ∀ i, (tokO l i).2.2.2 + (tokO l i).2.1.length ≤ 200000) (i k pl : Nat) (x : St) (j : Nat) (hi : i ≤ l.length) (h1 : 1 ≤ k) (h13 : k ≤ 13) (h : fld l (formL k) i (st0 (k : Nat) (pl : Nat)) = .ok x j) (n m : Nat) (hn : n ≠ 0 → blkB k = true) (hm : m ≠ 0 → k = 10) :
    okSt { x with body := (n : Nat), els := (m : Nat) } ∧ x.kind = (k : Nat) := by
  obtain ⟨g1, g2, g3, g4, g5, g6, g7, g8, g9⟩ := fld_good l hp _ _ _ _ _ hi h
  obtain ⟨xk, reg, loc, e, f, ne, body, els, p⟩ := x
  simp only [st0] at g1 g2 g3 g4 g5 g6 g7 g8 g9 ⊢
  subst g1 g2
  have hz : (⟨#[]⟩ : ByteArray).size = 0 := rfl
  refine ⟨?_, rfl⟩
  have hkk : k = 1 ∨ k = 2 ∨ k = 3 ∨ k = 4 ∨ k = 5 ∨ k = 6 ∨ k = 7 ∨ k = 8 ∨ k = 9 ∨ k = 10 ∨ k = 11 ∨ k = 12 ∨ k = 13 := by omega
  rcases hkk with rfl | rfl | rfl | rfl | rfl | rfl | rfl | rfl | rfl | rfl | rfl | rfl | rfl
  all_goals
    simp [formL, blkB] at g5 g6 g7 g8 g9 hn hm
    refine ⟨by simp, by simp, by simp, ?_, ?_, ?_, ?_, ?_, ?_, ?_⟩
    all_goals
      simp [hasR, hasL, hasE, hasF, nestK]
      try simp_all
theorem brc_parts {L : Nat → Nat → Option SRes} {l : List Tok} {inn i : Nat} {xs : List St} {j : Nat} (h : brc L l inn i = some (.ok xs j)) : inn < 30 ∧ i < l.length ∧ ∃ j2, L (inn + 1) (i + 1) = some (.ok xs j2) ∧ j = j2 + 1 ∧ sgAt l j2 [125] = true := by
  unfold brc at h
  by_cases h1 : sgAt l i [123] = true
  · rw [if_pos h1] at h
    by_cases h2 : 30 ≤ inn
    · rw [if_pos h2] at h; cases h
    · rw [if_neg h2] at h
      cases h3 : L (inn + 1) (i + 1) with
      | none => rw [h3] at h; cases h
      | some r =>
        rw [h3] at h
        cases r with
        | err k a => cases h
        | ok b j2 =>
          simp only [] at h
          by_cases h4 : sgAt l j2 [125] = true
          · rw [if_pos h4] at h
            cases h
            exact ⟨by omega, sgAt_lt h1, j2, rfl, rfl, h4⟩
          · rw [if_neg h4] at h; cases h
  · rw [if_neg h1] at h; cases h
theorem lst_good (l : List Tok) (hp : ∀ i, (tokO l i).2.2.2 + (tokO l i).2.1.length ≤ 200000) : ∀ (f inn i : Nat) (xs : List St) (j : Nat), i ≤ l.length → inn ≤ 30 → lst l f inn i = some (.ok xs j) →
    ∃ t : Tr, t.flat = xs ∧ (∀ x ∈ xs, okSt x) ∧ inn + t.hgt ≤ 30 ∧ (j = l.length ∨ sgAt l j [125] = true) ∧ j ≤ l.length := by
  intro f
  induction f with
  | zero => intro inn i xs j _ _ h; cases h
  | succ f ih =>
    intro inn i xs j hi hinn h
    rw [lst] at h
    by_cases h0 : i < l.length ∧ sgAt l i [125] = false
    · rw [if_pos h0] at h
      by_cases hk : kindL l i = 0
      · rw [if_pos hk] at h; cases h
      · rw [if_neg hk] at h
        have hk13 := kindL_le l i
        have hff := fld_fit l hp (formL (kindL l i)) (i + 1) (st0 (kindL l i : Nat) (plc l i : Nat)) (by omega)
        cases h1 : fld l (formL (kindL l i)) (i + 1) (st0 (kindL l i : Nat) (plc l i : Nat)) with
        | err k a => rw [h1] at h; cases h
        | ok x j1 =>
          rw [h1] at h hff
          obtain ⟨k, hkk⟩ : ∃ k, k = kindL l i := ⟨_, rfl⟩
          rw [← hkk] at h h1 hk hk13
          simp only [] at h
          have hx := fun n m hn hm => fld_okSt l hp (i + 1) k (plc l i) x j1 (by omega) (by omega) hk13 h1 n m hn hm
          cases h2 : (if blkB k then brc (lst l f) l inn j1 else some (.ok [] j1)) with
          | none => rw [h2] at h; cases h
          | some r2 =>
            rw [h2] at h
            cases r2 with
            | err k a => cases h
            | ok b j2 =>
              simp only [] at h
              have hb : ∃ tb : Tr, tb.flat = b ∧ (∀ x ∈ b, okSt x) ∧ (b.length ≠ 0 → blkB k = true) ∧ (blkB k = true → inn + 1 + tb.hgt ≤ 30) ∧ j2 ≤ l.length := by
                by_cases hbk : blkB k = true
                · rw [if_pos hbk] at h2
                  obtain ⟨q1, q2, j3, q3, q4, q5⟩ := brc_parts h2
                  obtain ⟨tb, t1, t2, t3, _, _⟩ := ih (inn + 1) (j1 + 1) b j3 q2 (by omega) q3
                  exact ⟨tb, t1, t2, fun _ => hbk, fun _ => t3, by have := sgAt_lt q5; omega⟩
                · rw [if_neg hbk] at h2
                  cases h2
                  exact ⟨.nil, rfl, fun x hx => (by cases hx), fun hh => absurd rfl hh, fun hh => absurd hh hbk, hff.2⟩
              obtain ⟨tb, b1, b2, b3, b4, b5⟩ := hb
              cases h3 : (if k = 10 ∧ elseAt l j2 = true then brc (lst l f) l inn (j2 + 1) else some (.ok [] j2)) with
              | none => rw [h3] at h; cases h
              | some r3 =>
                rw [h3] at h
                cases r3 with
                | err k a => cases h
                | ok o j3 =>
                  simp only [] at h
                  have ho : ∃ tq : Tr, tq.flat = o ∧ (∀ x ∈ o, okSt x) ∧ (o.length ≠ 0 → k = 10) ∧ (blkB k = true → inn + 1 + tq.hgt ≤ 30) ∧ j3 ≤ l.length := by
                    by_cases hk10 : k = 10 ∧ elseAt l j2 = true
                    · rw [if_pos hk10] at h3
                      obtain ⟨q1, q2, j4, q3, q4, q5⟩ := brc_parts h3
                      obtain ⟨tq, t1, t2, t3, _, _⟩ := ih (inn + 1) (j2 + 1 + 1) o j4 q2 (by omega) q3
                      exact ⟨tq, t1, t2, fun _ => hk10.1, fun _ => t3, by have := sgAt_lt q5; omega⟩
                    · rw [if_neg hk10] at h3
                      cases h3
                      refine ⟨.nil, rfl, fun x hx => (by cases hx), fun hh => absurd rfl hh, fun hh => ?_, b5⟩
                      have := b4 hh
                      show inn + 1 + 0 ≤ 30
                      omega
                  obtain ⟨tq, o1, o2, o3, o4, o5⟩ := ho
                  cases h4 : lst l f inn j3 with
                  | none => rw [h4] at h; cases h
                  | some r4 =>
                    rw [h4] at h
                    cases r4 with
                    | err k a => cases h
                    | ok r j4 =>
                      simp only [] at h
                      obtain ⟨tr, r1, r2, r3, r4, r5⟩ := ih inn j3 r j4 o5 hinn h4
                      cases h
                      obtain ⟨hx1, hx2⟩ := hx b.length o.length b3 o3
                      refine ⟨.node x tb tq tr, ?_, ?_, ?_, r4, r5⟩
                      · rw [Tr.flat, b1, o1, r1]
                      · intro z hz
                        rcases List.mem_cons.1 hz with rfl | hz
                        · exact hx1
                        · rcases List.mem_append.1 hz with hz | hz
                          · rcases List.mem_append.1 hz with hz | hz
                            · exact b2 z hz
                            · exact o2 z hz
                          · exact r2 z hz
                      · rw [Tr.hgt]
                        have hnb : nestK x.kind = blkB k := by rw [hx2]; unfold nestK blkB; congr 1; apply propext; omega
                        rw [hnb]
                        by_cases hbk : blkB k = true
                        · have := b4 hbk
                          have := o4 hbk
                          rw [if_pos hbk]
                          omega
                        · rw [if_neg hbk]
                          omega
    · rw [if_neg h0] at h
      cases h
      refine ⟨.nil, rfl, fun x hx => (by cases hx), (by show inn + 0 ≤ 30; omega), ?_, hi⟩
      by_cases hlt : i < l.length
      · refine .inr ?_
        cases hs : sgAt l i [125] with
        | true => rfl
        | false => exact absurd ⟨hlt, hs⟩ h0
      · exact .inl (by omega)
theorem stmt_good (l : List Tok) (hp : ∀ i, (tokO l i).2.2.2 + (tokO l i).2.1.length ≤ 200000) (xs : List St) (j i : Nat) (hi : i ≤ l.length) (h : stmtR l i = .ok xs j) : rightS xs ∧ (j = l.length ∨ sgAt l j [125] = true) ∧ j ≤ l.length := by
  obtain ⟨r, hr⟩ := lst_total l hp (l.length + 1) 0 i hi (by omega)
  rw [stmtR_of l i r hi hr] at h
  cases r with
  | err k a => cases h
  | ok ys m =>
    have h2 : (if 200 < ys.length then SRes.err 2 (refK l i).2 else .ok ys m) = .ok xs j := h
    by_cases hb : 200 < ys.length
    · rw [if_pos hb] at h2; cases h2
    · rw [if_neg hb] at h2
      cases h2
      obtain ⟨t, t1, t2, t3, t4, t5⟩ := lst_good l hp _ _ _ _ _ hi (by omega) hr
      exact ⟨⟨by omega, t, t1, t2, by omega⟩, t4, t5⟩
end Go.Proofs.YtidjkihkoggjdaaGreatDoor
