/- What Scan of package scan does: the tokens that a plain function of lists tells. What the reference's letter, digit, words, signs and Keyword do. What the reference's gap does; the plain scanner's steps, whatever their number. -/
import Derived.Test.YtlpgafgiljffhaaGreatDoorA
import Derived.Deep.LoopGhost
namespace Go.Proofs.YtlpgafgiljffhaaGreatDoor
open Go.RowKit
abbrev Tok := Nat × List UInt8 × Nat × Nat
def cellsOf (t : Tok) : List Value := [.int .i64 t.1, .string ⟨t.2.1.toArray⟩, .int .i64 t.2.2.1, .int .i64 t.2.2.2]
def rowOf (l : List Tok) : List Value := l.flatMap cellsOf
def blank (c : Int) : Bool := decide (c = 32 ∨ c = 10 ∨ c = 9 ∨ c = 13)
def noNl (c : Int) : Bool := decide (c ≠ 10)
def sc : Nat → List UInt8 → Nat → List Tok → List Tok × Nat × Nat
  | 0, _, _, acc => (acc, 0, 0)
  | _ + 1, [], _, acc => (acc, 0, 0)
  | f + 1, c :: r, p, acc =>
    if blank (c.toNat : Int) then sc f r (p + 1) acc
    else if (c.toNat : Int) = 35 then sc f ((c :: r).drop (spanN noNl (c :: r))) (p + spanN noNl (c :: r)) acc
    else if (tk (c :: r)).1 ≠ 0 then ([], (tk (c :: r)).1, p)
    else sc f ((c :: r).drop (tk (c :: r)).2.2.1) (p + (tk (c :: r)).2.2.1) (acc ++ [((tk (c :: r)).2.1, (c :: r).take (tk (c :: r)).2.2.1, (tk (c :: r)).2.2.2, p)])
def scanL (l : List UInt8) : List Tok × Nat × Nat := if 20000 < l.length then ([], 2, 20000) else sc l.length l 0 []
def ScanAns (B : Nat) (r : List Tok × Nat × Nat) (w : World) (e : Ending) (w' : World) : Prop :=
  ∃ v, e = .returned (.tuple #[v, .int .i64 r.2.1, .int .i64 r.2.2]) ∧ w'.ownsRow B 89 4 v r.1.length (rowOf r.1) ∧ Below w.heap.size w w'
theorem sc_nil (f p : Nat) (acc : List Tok) : sc f [] p acc = (acc, 0, 0) := by cases f <;> rfl
theorem sc_end (s : ByteArray) (p q f : Nat) (acc : List Tok) (h : ¬ p < s.size) : sc f (s.data.toList.drop p) q acc = (acc, 0, 0) := by
  rw [List.drop_eq_nil_of_le (by rw [← Lib.size_eq]; omega), sc_nil]
theorem sc_blank (s : ByteArray) (p f : Nat) (acc : List Tok) (h : p < s.size) (hb : blank (s[p].toNat : Int) = true) :
    sc (f + 1) (s.data.toList.drop p) p acc = sc f (s.data.toList.drop (p + 1)) (p + 1) acc := by
  rw [drop_at s p h, sc, if_pos hb]
theorem sc_hash (s : ByteArray) (p f : Nat) (acc : List Tok) (h : p < s.size) (hb : blank (s[p].toNat : Int) = false) (hc : (s[p].toNat : Int) = 35) :
    sc (f + 1) (s.data.toList.drop p) p acc = sc f (s.data.toList.drop (p + spanN noNl (s.data.toList.drop p))) (p + spanN noNl (s.data.toList.drop p)) acc := by
  rw [← List.drop_drop]
  conv => lhs; rw [drop_at s p h, sc, if_neg (by rw [hb]; decide), if_pos hc, ← drop_at s p h]
theorem sc_bad (s : ByteArray) (p f : Nat) (acc : List Tok) (h : p < s.size) (hb : blank (s[p].toNat : Int) = false) (hc : (s[p].toNat : Int) ≠ 35) (ht : (tk (s.data.toList.drop p)).1 ≠ 0) :
    sc (f + 1) (s.data.toList.drop p) p acc = ([], (tk (s.data.toList.drop p)).1, p) := by
  rw [drop_at s p h] at ht ⊢
  rw [sc, if_neg (by rw [hb]; decide), if_neg hc, if_pos ht]
theorem sc_tok (s : ByteArray) (p f : Nat) (acc : List Tok) (h : p < s.size) (hb : blank (s[p].toNat : Int) = false) (hc : (s[p].toNat : Int) ≠ 35) (ht : (tk (s.data.toList.drop p)).1 = 0) :
    sc (f + 1) (s.data.toList.drop p) p acc = sc f (s.data.toList.drop (p + (tk (s.data.toList.drop p)).2.2.1)) (p + (tk (s.data.toList.drop p)).2.2.1) (acc ++ [((tk (s.data.toList.drop p)).2.1, (s.data.toList.drop p).take (tk (s.data.toList.drop p)).2.2.1, (tk (s.data.toList.drop p)).2.2.2, p)]) := by
  rw [← List.drop_drop]
  rw [drop_at s p h] at ht ⊢
  conv => lhs; rw [sc, if_neg (by rw [hb]; decide), if_neg hc, if_neg (by rw [ht]; decide)]
theorem tk_len (l : List UInt8) (h : (tk l).1 = 0) : 0 < (tk l).2.2.1 ∧ (tk l).2.2.1 ≤ l.length := by
  cases l with
  | nil => cases h
  | cons c r =>
    have hw := spanN_le wrd (c :: r)
    have hd := spanN_le dig (c :: r)
    have hg := sgnN_le (c :: r)
    have hw1 : ltr (c.toNat : Int) = true → 0 < spanN wrd (c :: r) := fun h => by simp [spanN, wrd, h]
    have hd1 : dig (c.toNat : Int) = true → 0 < spanN dig (c :: r) := fun h => by simp [spanN, h]
    unfold tk at *
    rcases h1 : ltr (c.toNat : Int) with _ | _
    · rcases h2 : dig (c.toNat : Int) with _ | _
      · by_cases h3 : 0 < sgnN (c :: r)
        · simp only [h1, h2, if_pos h3]; simp; exact ⟨h3, by simpa using hg⟩
        · simp [h1, h2, if_neg h3] at h
      · by_cases h3 : 9999 < numV ((c :: r).take (spanN dig (c :: r)))
        · simp [h1, h2, if_pos h3] at h
        · simp only [h1, h2, if_neg h3]; simp; exact ⟨hd1 h2, by simpa using hd⟩
    · by_cases h3 : 16 < spanN wrd (c :: r)
      · simp [h1, if_pos h3] at h
      · simp only [h1, if_neg h3]; simp; exact ⟨hw1 h1, by simpa using hw⟩
theorem own_below {w w' : World} {B e size n : Nat} {v : Value} {xs : List Value} (h : w.ownsRow B e size v n xs) (hb : Below w.heap.size w w') : w'.ownsRow B e size v n xs := by
  obtain ⟨h1, h2⟩ := h
  refine ⟨h1, ?_⟩
  rcases h2 with h2 | ⟨g, cap, cur, hv, hg, hh, r⟩
  · exact .inl h2
  · exact .inr ⟨g, cap, cur, hv, hg, by rw [hb.block g (Array.getElem?_eq_some_iff.1 hh).1]; exact hh, r⟩
theorem cell_four_new (w : World) (a b c d : Value) (t n : Nat) (hn : n = w.heap.size) : ∀ j u, [a, b, c, d][j]? = some u → (w.alloc (.cells #[a, b, c, d] t)).cell? ((⟨n, 0, none⟩ : Addr).add j) = some u := by
  subst hn
  intro j u h
  match j, h with
  | 0, h => simp at h; subst h; simp [Addr.add]
  | 1, h => simp at h; subst h; simp [Addr.add]
  | 2, h => simp at h; subst h; simp [Addr.add]
  | 3, h => simp at h; subst h; simp [Addr.add]
theorem four_oneCell (k v p : Int) (s : ByteArray) : ∀ u ∈ [Value.int .i64 k, .string s, .int .i64 v, .int .i64 p], u.oneCell' = true := by
  intro u h; simp at h; rcases h with rfl | rfl | rfl | rfl <;> rfl
theorem info29 : (Tryz.prog.info? 89).map (fun i => (i.zero, i.size, i.bytes)) = some (some (.agg #[.int .i64 0, .string ⟨#[]⟩, .int .i64 0, .int .i64 0]), 4, 40) := by kernel_rfl
end Go.Proofs.YtlpgafgiljffhaaGreatDoor

namespace Go.Proofs.YtlpgafgiljffhaaGreatDoor
open Go.RowKit
set_option maxHeartbeats 400000 in
theorem rletter_any (c : Int) (w : World) :
    Calls Tryz.prog 59 #[.int .u8 c] w fun e w' => e = .returned (.bool (ltr c)) ∧ w = w' := by
  go_enter Tryz.func59, Tryz.ntmps59
  go_wp2
  all_goals
    go_ret
    exact ⟨ret_bool (by rw [Bool.eq_iff_iff]; simp [ltr]; omega), rfl⟩
set_option maxHeartbeats 400000 in
theorem rdigit_any (c : Int) (w : World) :
    Calls Tryz.prog 61 #[.int .u8 c] w fun e w' => e = .returned (.bool (dig c)) ∧ w = w' := by
  go_enter Tryz.func61, Tryz.ntmps61
  go_wp2
  all_goals
    go_ret
    exact ⟨ret_bool (by rw [Bool.eq_iff_iff]; simp [dig]; omega), rfl⟩
def wordsB : List (List UInt8) := [[109, 111, 100], [108, 111, 99], [116, 104, 114, 101, 97, 100], [114, 101, 103], [115, 107, 105, 112], [115, 101, 116], [108, 111, 97, 100], [115, 116, 111, 114, 101], [99, 97, 115], [102, 97, 100, 100], [120, 99, 104, 103], [102, 101, 110, 99, 101], [97, 119, 97, 105, 116], [105, 102], [101, 108, 115, 101], [119, 104, 105, 108, 101], [108, 111, 111, 112], [98, 114, 101, 97, 107], [102, 111, 114, 97, 108, 108], [101, 120, 105, 115, 116, 115], [97, 108, 119, 97, 121, 115]]
def signsB : List (List UInt8) := [[61, 61], [33, 61], [60, 61], [38, 38], [124, 124], [59], [44], [123], [125], [40], [41], [46], [61], [43], [45], [42], [33], [60]]
def cellsS (l : List (List UInt8)) : Array Value := (l.map fun x => Value.string ⟨x.toArray⟩).toArray
set_option maxHeartbeats 400000 in
theorem words_any (w : World) :
    Calls Tryz.prog 89 #[] w fun e w' => e = .returned (.slice (some ⟨w.heap.size, 0, none⟩) 21 21) ∧ w' = w.alloc (.cells (cellsS wordsB) 9) := by
  go_enter Tryz.func89, Tryz.ntmps89
  go_wp2
  go_ret
  exact ⟨rfl, rfl⟩
set_option maxHeartbeats 400000 in
theorem signs_any (w : World) :
    Calls Tryz.prog 111 #[] w fun e w' => e = .returned (.slice (some ⟨w.heap.size, 0, none⟩) 18 18) ∧ w' = w.alloc (.cells (cellsS signsB) 9) := by
  go_enter Tryz.func111, Tryz.ntmps111
  go_wp2
  go_ret
  exact ⟨rfl, rfl⟩
theorem cellsS_at (w : World) (l : List (List UInt8)) (k : Nat) (h : k < l.length) : (w.alloc (.cells (cellsS l) 9)).cell? ⟨w.heap.size, k, none⟩ = some (.string ⟨(l[k]).toArray⟩) := by
  simp [cellsS, h]
theorem kw_mem (s : ByteArray) : kw s = wordsB.contains s.data.toList := by
  simp only [kw, Lib.toList_data, wordsB, List.contains_cons, List.contains_nil, Bool.or_false, Bool.or_assoc]
set_option maxHeartbeats 1000000 in
theorem rkeyword_any (s : ByteArray) (w : World) :
    Calls Tryz.prog 60 #[.string s] w fun e w' => e = .returned (.bool (kw s)) ∧ Below w.heap.size w w' := by
  have HK := Lib.hid (kw_mem s)
  go_enter Tryz.func60, Tryz.ntmps60
  go_wp2_with (go_at_call 89; refine (words_any _).mono ?_; rintro e w1 ⟨rfl, rfl⟩)
  go_loop [4] (fun i => ∃ k : Nat, k ≤ 21 ∧ i = .int .i64 k ∧ wordsB.contains s.data.toList = (wordsB.drop k).contains s.data.toList) (fun i => 21 - (intOf i).toNat)
  case atStart => exact ⟨0, by omega, rfl, rfl⟩
  case round =>
    obtain ⟨k, hk, rfl, hc⟩ := hrel
    have HC := Lib.hid hc; clear hc
    by_cases hlt : k < 21
    · have hlt' : k < wordsB.length := hlt
      have hcell := cellsS_at w wordsB k hlt'
      have hdr := List.drop_eq_getElem_cons hlt'
      obtain ⟨x, hx⟩ : ∃ x : ByteArray, x = ⟨(wordsB[k]).toArray⟩ := ⟨_, rfl⟩
      rw [← hx] at hcell
      have hxl : x.toList = wordsB[k] := by rw [Lib.toList_data, hx]
      rw [← hxl] at hdr
      have HD := Lib.hid hdr
      clear hdr hx hxl hlt'
      rcases hq : (x.toList == s.toList) with _ | _
      · go_wp2
        go_round
        case rel =>
          refine ⟨k + 1, by omega, by go_num, ?_⟩
          rw [HC.out, HD.out, List.contains_cons]
          rw [Lib.toList_data s] at hq
          have : (s.data.toList == x.toList) = false := by rw [BEq.comm]; exact hq
          rw [this, Bool.false_or]
        case measure => simp [intOf]; omega
      · go_wp2
        go_ret
        refine ⟨ret_bool ?_, ?_⟩
        · rw [HK.out, HC.out, HD.out, List.contains_cons]
          rw [Lib.toList_data s] at hq
          have : (s.data.toList == x.toList) = true := by rw [BEq.comm]; exact hq
          rw [this, Bool.true_or]
        · exact (Below.refl _ _).alloc (Nat.le_refl _) _
    · obtain rfl : k = 21 := by omega
      go_wp2
      go_ret
      exact ⟨ret_bool (by rw [HK.out, HC.out]; rfl), (Below.refl _ _).alloc (Nat.le_refl _) _⟩
end Go.Proofs.YtlpgafgiljffhaaGreatDoor
namespace Go.Proofs.YtlpgafgiljffhaaGreatDoor
open Go.RowKit
def allW (l : List UInt8) : Bool := l.all fun c => wrd (c.toNat : Int)
def headL : List UInt8 → Bool | [] => false | c :: _ => ltr (c.toNat : Int)
def nameB (s : ByteArray) : Bool := decide (0 < s.size ∧ s.size ≤ 16) && (!kw s && (headL s.data.toList && allW s.data.toList))
theorem spanN_all (l : List UInt8) : decide ((spanN wrd l : Int) = (l.length : Int)) = allW l := by
  unfold spanN allW
  induction l with
  | nil => rfl
  | cons c r ih =>
    rcases h : wrd (c.toNat : Int) with _ | _
    · simp [h]; omega
    · simp only [List.takeWhile_cons, h, if_true, List.length_cons, List.all_cons, Bool.true_and]
      rw [← ih]; congr 1; simp
theorem nameB_zero (s : ByteArray) (h : s.size = 0) : nameB s = false := by simp [nameB, h]
theorem nameB_big (s : ByteArray) (h : 16 < s.size) : nameB s = false := by simp [nameB]; omega
theorem nameB_kw (s : ByteArray) (h : kw s = true) : nameB s = false := by simp [nameB, h]
theorem headL_at (s : ByteArray) (hz : 0 < s.size) : headL s.data.toList = ltr (s[0].toNat : Int) := by
  obtain ⟨r, hr⟩ := head_of s hz
  rw [hr]; rfl
theorem nameB_head (s : ByteArray) (hz : 0 < s.size) (h : ltr (s[0].toNat : Int) = false) : nameB s = false := by
  simp [nameB, headL_at s hz, h]
theorem nameB_rest (s : ByteArray) (hz : 0 < s.size) (h16 : s.size ≤ 16) (hk : kw s = false) (h : ltr (s[0].toNat : Int) = true) : nameB s = allW s.data.toList := by
  simp [nameB, headL_at s hz, h, hk, hz, h16]
set_option maxHeartbeats 1000000 in
theorem name_any (s : ByteArray) (w : World) (hs : s.size ≤ maxLen) :
    Calls Tryz.prog 68 #[.string s] w fun e w' => e = .returned (.bool (nameB s)) ∧ Below w.heap.size w w' := by
  unfold maxLen at hs
  by_cases hz : 0 < s.size
  · have e0 : s.toList ≠ [] := by
      rw [Lib.toList_data]; intro h
      have := Lib.size_eq s
      rw [h] at this; have h0 : s.size = 0 := this; omega
    have e1 : (!s.toList.isEmpty) = true := by simpa using e0
    have e2 : s.toList.isEmpty = false := by simpa using e0
    have hc := s[0].toNat_lt
    by_cases h16 : 16 < s.size
    · rw [nameB_big s h16]
      go_enter Tryz.func68, Tryz.ntmps68
      go_wp2
      go_ret
      exact ⟨rfl, Below.refl _ _⟩
    · rcases hk : kw s with _ | _
      · rcases hl : ltr (s[0].toNat : Int) with _ | _
        · rw [nameB_head s hz hl]
          go_enter Tryz.func68, Tryz.ntmps68
          go_wp2_with (first
            | (go_at_call 98; refine (keyword_no _ _ hk).mono ?_; rintro e w1 ⟨rfl, rfl⟩)
            | (go_at_call 99; refine (letter_any _ _).mono ?_; rintro e w1 ⟨rfl, rfl⟩))
          go_ret
          exact ⟨rfl, Below.refl _ _⟩
        · rw [nameB_rest s hz (by omega) hk hl]
          have HA := Lib.hid (spanN_all s.data.toList)
          have HL := Lib.hid (Lib.size_eq s)
          go_enter Tryz.func68, Tryz.ntmps68
          go_wp2_with (first
            | (go_at_call 98; refine (keyword_no _ _ hk).mono ?_; rintro e w1 ⟨rfl, rfl⟩)
            | (go_at_call 99; refine (letter_any _ _).mono ?_; rintro e w1 ⟨rfl, rfl⟩)
            | (go_at_call 100; refine (span_word _ _).mono ?_; rintro e w1 ⟨rfl, hb⟩))
          go_ret
          exact ⟨ret_bool (by rw [← HA.out, ← HL.out, Bool.eq_iff_iff]; simp), hb⟩
      · rw [nameB_kw s hk]
        go_enter Tryz.func68, Tryz.ntmps68
        go_wp2_with (go_at_call 98; refine (keyword_yes _ _ hk).mono ?_; rintro e w1 ⟨rfl, rfl⟩)
        go_ret
        exact ⟨rfl, Below.refl _ _⟩
  · have hz' : s.size = 0 := by omega
    obtain rfl : s = ⟨#[]⟩ := ByteArray.ext (Array.eq_empty_of_size_eq_zero hz')
    rw [nameB_zero _ rfl]
    go_enter Tryz.func68, Tryz.ntmps68
    go_wp2
    go_ret
    exact ⟨rfl, Below.refl _ _⟩
theorem allW_yes (s : ByteArray) (k : Nat) (h : k < s.size) (hw : wrd (s[k].toNat : Int) = true) : allW (s.data.toList.drop k) = allW (s.data.toList.drop (k + 1)) := by
  rw [drop_at s k h]; simp [allW, hw]
theorem allW_no (s : ByteArray) (k : Nat) (h : k < s.size) (hw : wrd (s[k].toNat : Int) = false) : allW (s.data.toList.drop k) = false := by
  rw [drop_at s k h]; simp [allW, hw]
theorem allW_end (s : ByteArray) (k : Nat) (h : ¬ k < s.size) : allW (s.data.toList.drop k) = true := by
  rw [List.drop_eq_nil_of_le (by rw [← Lib.size_eq]; omega)]; rfl
set_option maxHeartbeats 1000000 in
theorem rname_any (s : ByteArray) (w : World) (hs : s.size ≤ maxLen) :
    Calls Tryz.prog 32 #[.string s] w fun e w' => e = .returned (.bool (nameB s)) ∧ Below w.heap.size w w' := by
  unfold maxLen at hs
  by_cases hz : 0 < s.size
  · by_cases h16 : 16 < s.size
    · rw [nameB_big s h16]
      go_enter Tryz.func32, Tryz.ntmps32
      go_wp2
      go_ret
      exact ⟨rfl, Below.refl _ _⟩
    · rcases hl : ltr (s[0].toNat : Int) with _ | _
      · rw [nameB_head s hz hl]
        go_enter Tryz.func32, Tryz.ntmps32
        go_wp2_with (go_at_call 59; refine (rletter_any _ _).mono ?_; rintro e w1 ⟨rfl, rfl⟩)
        go_ret
        exact ⟨rfl, Below.refl _ _⟩
      · rcases hk : kw s with _ | _
        · rw [nameB_rest s hz (by omega) hk hl]
          go_enter Tryz.func32, Tryz.ntmps32
          go_wp2_with (first
            | (go_at_call 59; refine (rletter_any _ _).mono ?_; rintro e w1 ⟨rfl, rfl⟩)
            | (go_at_call 60; refine (rkeyword_any _ _).mono ?_; rw [hk]; rintro e w1 ⟨rfl, hb⟩))
          clear hl hk
          go_loop [3] (fun i => ∃ k : Nat, k ≤ s.size ∧ i = .int .i64 k ∧ allW s.data.toList = allW (s.data.toList.drop k)) (fun i => s.size - (intOf i).toNat)
          case atStart => exact ⟨0, by omega, rfl, rfl⟩
          case round =>
            obtain ⟨k, hk, rfl, ha⟩ := hrel
            have HA := Lib.hid ha; clear ha
            by_cases hlt : k < s.size
            · have hw : wrd (s[k].toNat : Int) = (ltr (s[k].toNat : Int) || dig (s[k].toNat : Int)) := rfl
              rcases h1 : ltr (s[k].toNat : Int) with _ | _
              · rcases h2 : dig (s[k].toNat : Int) with _ | _
                · have HN := Lib.hid (allW_no s k hlt (by rw [hw, h1, h2]; rfl))
                  clear hw
                  go_wp2_with (first
                    | (go_at_call 59; refine (rletter_any _ _).mono ?_; rintro e w2 ⟨rfl, rfl⟩)
                    | (go_at_call 61; refine (rdigit_any _ _).mono ?_; rintro e w2 ⟨rfl, rfl⟩))
                  go_ret
                  exact ⟨ret_bool (by rw [HA.out, HN.out]), hb⟩
                · have HN := Lib.hid (allW_yes s k hlt (by rw [hw, h1, h2]; rfl))
                  clear hw
                  go_wp2_with (first
                    | (go_at_call 59; refine (rletter_any _ _).mono ?_; rintro e w2 ⟨rfl, rfl⟩)
                    | (go_at_call 61; refine (rdigit_any _ _).mono ?_; rintro e w2 ⟨rfl, rfl⟩))
                  go_round
                  case rel => exact ⟨k + 1, by omega, by go_num, by rw [HA.out, HN.out]⟩
                  case measure => simp [intOf]; omega
              · have HN := Lib.hid (allW_yes s k hlt (by rw [hw, h1]; rfl))
                clear hw
                go_wp2_with (go_at_call 59; refine (rletter_any _ _).mono ?_; rintro e w2 ⟨rfl, rfl⟩)
                go_round
                case rel => exact ⟨k + 1, by omega, by go_num, by rw [HA.out, HN.out]⟩
                case measure => simp [intOf]; omega
            · have HN := Lib.hid (allW_end s k hlt)
              go_wp2
              go_ret
              exact ⟨ret_bool (by rw [HA.out, HN.out]), hb⟩
        · rw [nameB_kw s hk]
          go_enter Tryz.func32, Tryz.ntmps32
          go_wp2_with (first
            | (go_at_call 59; refine (rletter_any _ _).mono ?_; rintro e w1 ⟨rfl, rfl⟩)
            | (go_at_call 60; refine (rkeyword_any _ _).mono ?_; rw [hk]; rintro e w1 ⟨rfl, hb⟩))
          go_ret
          exact ⟨rfl, hb⟩
  · rw [nameB_zero s (by omega)]
    go_enter Tryz.func32, Tryz.ntmps32
    go_wp2
    go_ret
    exact ⟨rfl, Below.refl _ _⟩
end Go.Proofs.YtlpgafgiljffhaaGreatDoor

namespace Go.Proofs.YtlpgafgiljffhaaGreatDoor
open Go.RowKit
theorem spanN_noNl_pos (c : UInt8) (r : List UInt8) (h : (c.toNat : Int) = 35) : 0 < spanN noNl (c :: r) := by
  have : noNl (c.toNat : Int) = true := by rw [h]; decide
  simp [spanN, this]
theorem sc_fuel : ∀ (f g : Nat) (l : List UInt8) (p : Nat) (acc : List Tok), l.length ≤ f → l.length ≤ g → sc f l p acc = sc g l p acc := by
  intro f
  induction f with
  | zero =>
    intro g l p acc h _
    obtain rfl : l = [] := List.eq_nil_of_length_eq_zero (by omega)
    rw [sc_nil, sc_nil]
  | succ f ih =>
    intro g l p acc hf hg
    cases l with
    | nil => rw [sc_nil, sc_nil]
    | cons c r =>
      obtain ⟨g, rfl⟩ : ∃ k, g = k + 1 := ⟨g - 1, by simp only [List.length_cons] at hg; omega⟩
      simp only [List.length_cons] at hf hg
      unfold sc
      by_cases hb : blank (c.toNat : Int) = true
      · rw [if_pos hb, if_pos hb]; exact ih _ _ _ _ (by omega) (by omega)
      · rw [if_neg hb, if_neg hb]
        by_cases hc : (c.toNat : Int) = 35
        · rw [if_pos hc, if_pos hc]
          have := spanN_noNl_pos c r hc
          exact ih _ _ _ _ (by rw [List.length_drop, List.length_cons]; omega) (by rw [List.length_drop, List.length_cons]; omega)
        · rw [if_neg hc, if_neg hc]
          by_cases ht : (tk (c :: r)).1 ≠ 0
          · rw [if_pos ht, if_pos ht]
          · rw [if_neg ht, if_neg ht]
            have := tk_len (c :: r) (by simpa using ht)
            exact ih _ _ _ _ (by rw [List.length_drop, List.length_cons]; omega) (by rw [List.length_drop, List.length_cons]; omega)
def scX (s : ByteArray) (p : Nat) (acc : List Tok) : List Tok × Nat × Nat := sc (s.size - p) (s.data.toList.drop p) p acc
theorem drop_len (s : ByteArray) (p : Nat) : (s.data.toList.drop p).length = s.size - p := by rw [List.length_drop, ← Lib.size_eq]
theorem scX_of (s : ByteArray) (p f : Nat) (acc : List Tok) (h : s.size - p ≤ f) : sc f (s.data.toList.drop p) p acc = scX s p acc :=
  sc_fuel _ _ _ _ _ (by rw [drop_len]; exact h) (by rw [drop_len]; exact Nat.le_refl _)
theorem scX_end (s : ByteArray) (p : Nat) (acc : List Tok) (h : ¬ p < s.size) : scX s p acc = (acc, 0, 0) := sc_end s p p _ acc h
theorem scX_blank (s : ByteArray) (p : Nat) (acc : List Tok) (h : p < s.size) (hb : blank (s[p].toNat : Int) = true) : scX s p acc = scX s (p + 1) acc := by
  rw [← scX_of s p (s.size - (p + 1) + 1) acc (by omega), sc_blank s p _ acc h hb]; rfl
theorem scX_hash (s : ByteArray) (p : Nat) (acc : List Tok) (h : p < s.size) (hb : blank (s[p].toNat : Int) = false) (hc : (s[p].toNat : Int) = 35) :
    scX s p acc = scX s (p + spanN noNl (s.data.toList.drop p)) acc := by
  have h1 := spanN_yes noNl s p h (by rw [hc]; decide)
  rw [← scX_of s p (s.size - (p + 1) + 1) acc (by omega), sc_hash s p _ acc h hb hc, scX_of]
  omega
theorem scX_bad (s : ByteArray) (p : Nat) (acc : List Tok) (h : p < s.size) (hb : blank (s[p].toNat : Int) = false) (hc : (s[p].toNat : Int) ≠ 35) (ht : (tk (s.data.toList.drop p)).1 ≠ 0) :
    scX s p acc = ([], (tk (s.data.toList.drop p)).1, p) := by
  rw [← scX_of s p (s.size - (p + 1) + 1) acc (by omega), sc_bad s p _ acc h hb hc ht]
theorem scX_tok (s : ByteArray) (p : Nat) (acc : List Tok) (h : p < s.size) (hb : blank (s[p].toNat : Int) = false) (hc : (s[p].toNat : Int) ≠ 35) (ht : (tk (s.data.toList.drop p)).1 = 0) :
    scX s p acc = scX s (p + (tk (s.data.toList.drop p)).2.2.1) (acc ++ [((tk (s.data.toList.drop p)).2.1, (s.data.toList.drop p).take (tk (s.data.toList.drop p)).2.2.1, (tk (s.data.toList.drop p)).2.2.2, p)]) := by
  have h1 := tk_len _ ht
  rw [← scX_of s p (s.size - (p + 1) + 1) acc (by omega), sc_tok s p _ acc h hb hc ht, scX_of]
  omega
def GapTo (s : ByteArray) (p q : Nat) : Prop := p ≤ q ∧ q ≤ s.size ∧ (∀ acc, scX s p acc = scX s q acc) ∧ ∀ h : q < s.size, blank (s[q].toNat : Int) = false ∧ (s[q].toNat : Int) ≠ 35
def GapAns (s : ByteArray) (p : Nat) (w : World) (e : Ending) (w' : World) : Prop := ∃ q : Nat, e = .returned (.int .i64 q) ∧ GapTo s p q ∧ w = w'
def OnTo (s : ByteArray) (p q : Nat) : Prop := ∀ acc, scX s p acc = scX s q acc
set_option maxRecDepth 100000 in
set_option maxHeartbeats 2000000 in
theorem gap_any (s : ByteArray) (p : Nat) (w : World) (hp : p ≤ s.size) (hs : s.size ≤ 20000) :
    Calls Tryz.prog 80 #[.string s, .int .i64 p] w (GapAns s p w) := by
  go_enter Tryz.func80, Tryz.ntmps80
  go_wp2
  go_loopg [1] (s.size - p) (fun fuel at' wr => ∃ q : Nat, p ≤ q ∧ q ≤ s.size ∧ at' = .int .i64 q ∧ s.size - q ≤ fuel ∧ OnTo s p q ∧ w = wr)
  case atStart => exact ⟨p, Nat.le_refl _, hp, rfl, Nat.le_refl _, fun _ => rfl, rfl⟩
  case round =>
    obtain ⟨q, hpq, hqs, rfl, hf, hon, rfl⟩ := hrel
    by_cases hlt : q < s.size
    · rcases hb : blank (s[q].toNat : Int) with _ | _
      · have hb' := hb
        simp only [blank, decide_eq_false_iff_not, not_or] at hb'
        obtain ⟨b0, b1, b2, b3⟩ := hb'
        have q0 : ((s[q].toNat : Int) == 32) = false := (by simpa using b0)
        have q1 : ((s[q].toNat : Int) == 9) = false := (by simpa using b2)
        have q2 : ((s[q].toNat : Int) == 10) = false := (by simpa using b1)
        have q3 : ((s[q].toNat : Int) == 13) = false := (by simpa using b3)
        clear b0 b1 b2 b3
        by_cases h35 : (s[q].toNat : Int) = 35
        · have HS := Lib.hid (fun acc => scX_hash s q acc hlt hb h35)
          have H1 := Lib.hid (spanN_yes noNl s q hlt (by rw [h35]; decide))
          have q4 : ((s[q].toNat : Int) == 35) = true := (by simp [h35])
          clear hb h35
          obtain ⟨go, rfl⟩ : ∃ go : Nat, go = gk := ⟨_, rfl⟩
          go_wp2
          go_loopg [1] (s.size - q) (fun m at' w2 => ∃ r : Nat, q ≤ r ∧ r ≤ s.size ∧ at' = .int .i64 r ∧ s.size - r ≤ m ∧ spanN noNl (s.data.toList.drop q) = (r - q) + spanN noNl (s.data.toList.drop r) ∧ w = w2)
          case atStart => exact ⟨q, Nat.le_refl _, by omega, rfl, Nat.le_refl _, by omega, rfl⟩
          case round =>
            obtain ⟨r, hqr, hrs, rfl, hm, hsp, rfl⟩ := hrel
            have HSP := Lib.hid hsp; clear hsp
            by_cases hlr : r < s.size
            · by_cases h10 : (s[r].toNat : Int) = 10
              · have HN := Lib.hid (spanN_no noNl s r hlr (by rw [h10]; decide))
                have q5 : ((s[r].toNat : Int) != 10) = false := (by simp [h10])
                clear h10
                go_wp2
                go_roundg (s.size - r)
                case measure => have e := HSP.out; have e1 := HN.out; have e2 := H1.out; omega
                case rel =>
                  have e := HSP.out
                  have e1 := HN.out
                  have e3 : q + spanN noNl (s.data.toList.drop q) = r := by omega
                  exact ⟨r, by omega, by omega, rfl, by omega, fun acc => by rw [hon acc, HS.out acc, e3], rfl⟩
              · have HN := Lib.hid (spanN_yes noNl s r hlr (by simpa [noNl] using h10))
                have q5 : ((s[r].toNat : Int) != 10) = true := (by simpa using h10)
                clear h10
                go_wp2
                go_roundg (gk - 1)
                case measure => omega
                case rel =>
                  have e := HSP.out
                  have e1 := HN.out
                  exact ⟨r + 1, by omega, by omega, by go_num, by omega, by omega, rfl⟩
            · have HN := Lib.hid (spanN_end noNl s r hlr)
              go_wp2
              go_roundg (s.size - r)
              case measure => have e := HSP.out; have e1 := HN.out; have e2 := H1.out; omega
              case rel =>
                have e := HSP.out
                have e1 := HN.out
                have e3 : q + spanN noNl (s.data.toList.drop q) = r := by omega
                exact ⟨r, by omega, by omega, rfl, by omega, fun acc => by rw [hon acc, HS.out acc, e3], rfl⟩
        · have q4 : ((s[q].toNat : Int) == 35) = false := (by simpa using h35)
          have HG : Hid (GapTo s p q) := ⟨hpq, hqs, hon, fun _ => ⟨hb, h35⟩⟩
          clear hb h35 hon
          go_wp2
          try rw [Exit.noGoto_ret]
          go_ret
          exact ⟨q, rfl, HG.out, rfl⟩
      · have HS := Lib.hid (fun acc => scX_blank s q acc hlt hb)
        have hb' := hb
        simp only [blank, decide_eq_true_eq] at hb'
        clear hb
        have hb2 : (s[q].toNat : Int) = 32 ∨ (s[q].toNat : Int) = 9 ∨ (s[q].toNat : Int) = 10 ∨ (s[q].toNat : Int) = 13 := by omega
        clear hb'
        rcases hb2 with hq | hq | hq | hq
        · have q0 : ((s[q].toNat : Int) == 32) = true := (by simp [hq])
          clear hq
          go_wp2
          go_roundg (gk - 1)
          case measure => omega
          case rel => exact ⟨q + 1, by omega, by omega, by go_num, by omega, fun acc => by rw [hon acc, HS.out acc], rfl⟩
        · have q0 : ((s[q].toNat : Int) == 32) = false := (by simp [hq])
          have q1 : ((s[q].toNat : Int) == 9) = true := (by simp [hq])
          clear hq
          go_wp2
          go_roundg (gk - 1)
          case measure => omega
          case rel => exact ⟨q + 1, by omega, by omega, by go_num, by omega, fun acc => by rw [hon acc, HS.out acc], rfl⟩
        · have q0 : ((s[q].toNat : Int) == 32) = false := (by simp [hq])
          have q1 : ((s[q].toNat : Int) == 9) = false := (by simp [hq])
          have q2 : ((s[q].toNat : Int) == 10) = true := (by simp [hq])
          clear hq
          go_wp2
          go_roundg (gk - 1)
          case measure => omega
          case rel => exact ⟨q + 1, by omega, by omega, by go_num, by omega, fun acc => by rw [hon acc, HS.out acc], rfl⟩
        · have q0 : ((s[q].toNat : Int) == 32) = false := (by simp [hq])
          have q1 : ((s[q].toNat : Int) == 9) = false := (by simp [hq])
          have q2 : ((s[q].toNat : Int) == 10) = false := (by simp [hq])
          have q3 : ((s[q].toNat : Int) == 13) = true := (by simp [hq])
          clear hq
          go_wp2
          go_roundg (gk - 1)
          case measure => omega
          case rel => exact ⟨q + 1, by omega, by omega, by go_num, by omega, fun acc => by rw [hon acc, HS.out acc], rfl⟩
    · have HG : Hid (GapTo s p q) := ⟨hpq, hqs, hon, fun h => absurd h hlt⟩
      clear hon
      go_wp2
      try rw [Exit.noGoto_ret]
      go_ret
      exact ⟨q, rfl, HG.out, rfl⟩
end Go.Proofs.YtlpgafgiljffhaaGreatDoor
