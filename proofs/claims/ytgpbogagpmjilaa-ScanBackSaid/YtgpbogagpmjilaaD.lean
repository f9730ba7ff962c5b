/- What token does. -/
import Derived.Test.YtgpbogagpmjilaaC
import Derived.Lib.Strings
import Derived.Lib.IndexBytes
namespace Go.Proofs.Ytgpbogagpmjilaa
open Go.RowKit

/-- The length of the sign at a list's head, 0 without one. -/
def sgnN (l : List UInt8) : Nat :=
  if [[61, 61], [33, 61], [60, 61], [38, 38], [124, 124]].contains (l.take 2) then 2
  else match l with | [] => 0 | c :: _ => if sgn1 (c.toNat : Int) then 1 else 0

/-- The token at a list's head: what is wrong, its kind, its length, its number. -/
def tk : List UInt8 → Nat × Nat × Nat × Nat
  | [] => (3, 0, 0, 0)
  | c :: r => if ltr (c.toNat : Int) then (if 16 < spanN wrd (c :: r) then (2, 0, 0, 0) else (0, 1, spanN wrd (c :: r), 0))
    else if dig (c.toNat : Int) then (if 9999 < numV ((c :: r).take (spanN dig (c :: r))) then (4, 0, 0, 0) else (0, 2, spanN dig (c :: r), numV ((c :: r).take (spanN dig (c :: r)))))
    else if 0 < sgnN (c :: r) then (0, 3, sgnN (c :: r), 0) else (3, 0, 0, 0)

theorem sgn2_eq (s : ByteArray) : sgn2 s = [[61, 61], [33, 61], [60, 61], [38, 38], [124, 124]].contains (s.data.toList.take 2) := by
  simp only [sgn2, Lib.extract_toList, List.drop_zero, Nat.sub_zero, List.contains_cons, List.contains_nil, Bool.or_false, Bool.or_assoc]

theorem sgn2_size (s : ByteArray) (h : sgn2 s = true) : 1 < s.size := by
  have hl : s.size = s.data.toList.length := Lib.size_eq s
  rcases hs : s.data.toList with _ | ⟨a, _ | ⟨b, r⟩⟩ <;> simp [sgn2_eq, hs] at h hl ⊢; omega

theorem mem_takeWhile (p : UInt8 → Bool) (x : UInt8) : ∀ l : List UInt8, x ∈ l.takeWhile p → p x = true
  | [], h => by simp at h
  | c :: l, h => by
    rcases hc : p c with _ | _
    · simp [hc] at h
    · rw [List.takeWhile_cons_of_pos hc, List.mem_cons] at h
      rcases h with rfl | h
      · exact hc
      · exact mem_takeWhile p x l h

theorem ext_zero (s : ByteArray) (a : Nat) : (s.extract 0 a).data.toList = s.data.toList.take a := by
  rw [Lib.extract_data]; simp

theorem head_of (s : ByteArray) (h : 0 < s.size) : ∃ r, s.data.toList = s[0] :: r := ⟨_, drop_at s 0 h⟩

set_option maxHeartbeats 400000 in
theorem sign_any (s : ByteArray) (w : World) (hz : 0 < s.size) :
    Calls Try.prog 33 #[.string s] w fun e w' => e = .returned (.int .i64 (sgnN s.data.toList)) ∧ w = w' := by
  obtain ⟨r, hr⟩ := head_of s hz
  have h2e := sgn2_eq s
  rcases h2 : sgn2 s with _ | _
  · have hn : sgnN s.data.toList = if sgn1 (s[0].toNat : Int) then 1 else 0 := by
      rw [h2, hr] at h2e
      rw [hr]
      unfold sgnN
      rw [← h2e]; rfl
    rw [hn]
    by_cases h0 : 1 < s.size
    · rcases h1 : sgn1 (s[0].toNat : Int) with _ | _
      · exact sign_no1 s w h0 h2 hz h1
      · exact sign_one1 s w h0 h2 hz h1
    · rcases h1 : sgn1 (s[0].toNat : Int) with _ | _
      · exact sign_no0 s w (by omega) hz h1
      · exact sign_one0 s w (by omega) hz h1
  · have hn : sgnN s.data.toList = 2 := by
      unfold sgnN
      rw [← h2e, h2]; rfl
    rw [hn]
    exact sign_two s w (sgn2_size s h2) h2

theorem sgnN_le (l : List UInt8) : sgnN l ≤ l.length := by
  unfold sgnN
  rcases l with _ | ⟨a, _ | ⟨b, r⟩⟩
  · simp
  · simp; split <;> omega
  · simp only [List.length_cons]; repeat' split
    all_goals omega

def TokBad (k : Nat) (w : World) (e : Ending) (w' : World) : Prop := e = .returned (.tuple #[.agg #[.int .i64 0, .string ⟨#[]⟩, .int .i64 0, .int .i64 0], .int .i64 k]) ∧ Below w.heap.size w w'
def TokGood (kind n v : Nat) (s : ByteArray) (w : World) (e : Ending) (w' : World) : Prop := e = .returned (.tuple #[.agg #[.int .i64 kind, .string (s.extract 0 n), .int .i64 v, .int .i64 0], .int .i64 0]) ∧ Below w.heap.size w w'

theorem digits_of (s : ByteArray) : ∀ k, (h : k < (s.extract 0 (spanN dig s.data.toList)).size) → 48 ≤ ((s.extract 0 (spanN dig s.data.toList))[k]).toNat ∧ ((s.extract 0 (spanN dig s.data.toList))[k]).toNat ≤ 57 := by
  intro k h
  have hm : (s.extract 0 (spanN dig s.data.toList))[k] ∈ (s.extract 0 (spanN dig s.data.toList)).data.toList := by
    rw [Array.mem_toList_iff]; exact Array.getElem_mem (by exact h)
  rw [ext_zero] at hm
  have ht : s.data.toList.take (spanN dig s.data.toList) = s.data.toList.takeWhile fun c => dig (c.toNat : Int) := by
    unfold spanN
    exact (List.prefix_iff_eq_take.1 (List.takeWhile_prefix _)).symm
  rw [ht] at hm
  have := mem_takeWhile _ _ _ hm
  simp [dig] at this
  omega

set_option maxHeartbeats 1000000 in
theorem token_word_big (s : ByteArray) (w : World) (hz : 0 < s.size) (_hs : s.size ≤ 281474976710656) (h1 : ltr (s[0].toNat : Int) = true) (h2 : 16 < spanN wrd s.data.toList) :
    Calls Try.prog 18 #[.string s] w (TokBad 2 w) := by
  obtain ⟨n, hn⟩ : ∃ n, n = spanN wrd s.data.toList := ⟨_, rfl⟩
  have hle : n ≤ s.size := by rw [hn, Lib.size_eq]; exact spanN_le _ _
  rw [← hn] at h2
  have HN := Lib.hid hn; clear hn
  have hc := s[0].toNat_lt
  go_enter Try.func18, Try.ntmps18
  go_wp2_with (first
    | (go_at_call 22; refine (letter_any _ _).mono ?_; rintro e w1 ⟨rfl, rfl⟩)
    | (go_at_call 31; refine (digit_any _ _).mono ?_; rintro e w1 ⟨rfl, rfl⟩)
    | (go_at_call 23; refine (span_word _ _).mono ?_; rintro e w1 ⟨rfl, hb⟩; rw [← HN.out]; have B1 := (Blk4.new w _ _ _ _).below hb (by simp); have hb1 := below_new hb; have hl1 := B1.lt; clear hb)
    | (go_at_call 30; refine (ident_big _ _ (by simp; omega)).mono ?_; rintro e w2 ⟨rfl, hb2⟩; have B2 := B1.below hb2 hl1; have hb3 := hb1.trans (hb2.mono (Nat.le_of_lt hl1)); clear hb1 B1 hl1 hb2; obtain ⟨⟨c0, c1, c2, c3⟩, f0, f1, f2, f3⟩ := B2.facts))
  refine bodyPost_ret (v := .tuple #[.agg #[.int .i64 0, .string ⟨#[]⟩, .int .i64 0, .int .i64 0], .int .i64 2]) (by simp [results, Try.results18, go_sem, c0, c1, c2, c3]) rfl ⟨rfl, ?_⟩
  exact (((hb3.setCell (Nat.le_refl _) _).setCell (Nat.le_refl _) _).setCell (Nat.le_refl _) _).setCell (Nat.le_refl _) _

set_option maxHeartbeats 1000000 in
theorem token_word_ok (s : ByteArray) (w : World) (hz : 0 < s.size) (_hs : s.size ≤ 281474976710656) (h1 : ltr (s[0].toNat : Int) = true) (h2 : spanN wrd s.data.toList ≤ 16) :
    Calls Try.prog 18 #[.string s] w (TokGood 1 (spanN wrd s.data.toList) 0 s w) := by
  obtain ⟨n, hn⟩ : ∃ n, n = spanN wrd s.data.toList := ⟨_, rfl⟩
  have hle : n ≤ s.size := by rw [hn, Lib.size_eq]; exact spanN_le _ _
  rw [← hn] at h2 ⊢
  have HN := Lib.hid hn; clear hn
  have hc := s[0].toNat_lt
  go_enter Try.func18, Try.ntmps18
  go_wp2_with (first
    | (go_at_call 22; refine (letter_any _ _).mono ?_; rintro e w1 ⟨rfl, rfl⟩)
    | (go_at_call 31; refine (digit_any _ _).mono ?_; rintro e w1 ⟨rfl, rfl⟩)
    | (go_at_call 23; refine (span_word _ _).mono ?_; rintro e w1 ⟨rfl, hb⟩; rw [← HN.out]; have B1 := (Blk4.new w _ _ _ _).below hb (by simp); have hb1 := below_new hb; have hl1 := B1.lt; clear hb)
    | (go_at_call 30; refine (ident_ok _ _ (by simp; omega)).mono ?_; rintro e w2 ⟨rfl, hb2⟩; have B2 := B1.below hb2 hl1; have hb3 := hb1.trans (hb2.mono (Nat.le_of_lt hl1)); clear hb1 B1 hl1 hb2; obtain ⟨⟨c0, c1, c2, c3⟩, f0, f1, f2, f3⟩ := B2.facts))
  refine bodyPost_ret (v := .tuple #[.agg #[.int .i64 1, .string (s.extract 0 n), .int .i64 0, .int .i64 0], .int .i64 0]) (by simp [results, Try.results18, go_sem, c0, c1, c2, c3]) rfl ⟨rfl, ?_⟩
  exact (((hb3.setCell (Nat.le_refl _) _).setCell (Nat.le_refl _) _).setCell (Nat.le_refl _) _).setCell (Nat.le_refl _) _

set_option maxHeartbeats 1000000 in
theorem token_digit_big (s : ByteArray) (w : World) (hz : 0 < s.size) (_hs : s.size ≤ 281474976710656) (h1 : ltr (s[0].toNat : Int) = false) (h1' : dig (s[0].toNat : Int) = true) (h2 : 9999 < numV (s.data.toList.take (spanN dig s.data.toList))) :
    Calls Try.prog 18 #[.string s] w (TokBad 4 w) := by
  obtain ⟨n, hn⟩ : ∃ n, n = spanN dig s.data.toList := ⟨_, rfl⟩
  have hle : n ≤ s.size := by rw [hn, Lib.size_eq]; exact spanN_le _ _
  have HD : Hid (∀ k, (h : k < (s.extract 0 n).size) → 48 ≤ ((s.extract 0 n)[k]).toNat ∧ ((s.extract 0 n)[k]).toNat ≤ 57) := by
    rw [hn]; exact digits_of s
  have HV : (s.extract 0 n).data.toList = s.data.toList.take n := ext_zero s n
  rw [← hn, ← HV] at h2
  clear HV
  have HN := Lib.hid hn; clear hn
  have H2 := Lib.hid h2; clear h2
  have hc := s[0].toNat_lt
  go_enter Try.func18, Try.ntmps18
  go_wp2_with (first
    | (go_at_call 22; refine (letter_any _ _).mono ?_; rintro e w1 ⟨rfl, rfl⟩)
    | (go_at_call 31; refine (digit_any _ _).mono ?_; rintro e w1 ⟨rfl, rfl⟩)
    | (go_at_call 23; refine (span_digit _ _).mono ?_; rintro e w1 ⟨rfl, hb⟩; rw [← HN.out]; have B1 := (Blk4.new w _ _ _ _).below hb (by simp); have hb1 := below_new hb; have hl1 := B1.lt; clear hb)
    | (go_at_call 32; refine (number_big _ _ HD.out H2.out).mono ?_; rintro e w2 ⟨rfl, hb2⟩; have B2 := B1.below hb2 hl1; have hb3 := hb1.trans (hb2.mono (Nat.le_of_lt hl1)); clear hb1 B1 hl1 hb2; obtain ⟨⟨c0, c1, c2, c3⟩, f0, f1, f2, f3⟩ := B2.facts))
  refine bodyPost_ret (v := .tuple #[.agg #[.int .i64 0, .string ⟨#[]⟩, .int .i64 0, .int .i64 0], .int .i64 4]) (by simp [results, Try.results18, go_sem, c0, c1, c2, c3]) rfl ⟨rfl, ?_⟩
  exact (((hb3.setCell (Nat.le_refl _) _).setCell (Nat.le_refl _) _).setCell (Nat.le_refl _) _).setCell (Nat.le_refl _) _

set_option maxHeartbeats 1000000 in
theorem token_digit_ok (s : ByteArray) (w : World) (hz : 0 < s.size) (hs : s.size ≤ 281474976710656) (h1 : ltr (s[0].toNat : Int) = false) (h1' : dig (s[0].toNat : Int) = true) (h2 : numV (s.data.toList.take (spanN dig s.data.toList)) ≤ 9999) :
    Calls Try.prog 18 #[.string s] w (TokGood 2 (spanN dig s.data.toList) (numV (s.data.toList.take (spanN dig s.data.toList))) s w) := by
  obtain ⟨n, hn⟩ : ∃ n, n = spanN dig s.data.toList := ⟨_, rfl⟩
  have hle : n ≤ s.size := by rw [hn, Lib.size_eq]; exact spanN_le _ _
  have HD : Hid (∀ k, (h : k < (s.extract 0 n).size) → 48 ≤ ((s.extract 0 n)[k]).toNat ∧ ((s.extract 0 n)[k]).toNat ≤ 57) := by
    rw [hn]; exact digits_of s
  have HV : (s.extract 0 n).data.toList = s.data.toList.take n := ext_zero s n
  rw [← hn, ← HV] at h2 ⊢
  clear HV
  obtain ⟨m, hm⟩ : ∃ m, numV (s.extract 0 n).data.toList = m := ⟨_, rfl⟩
  rw [hm] at h2 ⊢
  have HM := Lib.hid hm; clear hm
  have HN := Lib.hid hn; clear hn
  have hc := s[0].toNat_lt
  go_enter Try.func18, Try.ntmps18
  go_wp2_with (first
    | (go_at_call 22; refine (letter_any _ _).mono ?_; rintro e w1 ⟨rfl, rfl⟩)
    | (go_at_call 31; refine (digit_any _ _).mono ?_; rintro e w1 ⟨rfl, rfl⟩)
    | (go_at_call 23; refine (span_digit _ _).mono ?_; rintro e w1 ⟨rfl, hb⟩; rw [← HN.out]; have B1 := (Blk4.new w _ _ _ _).below hb (by simp); have hb1 := below_new hb; have hl1 := B1.lt; clear hb)
    | (go_at_call 32; refine (number_ok _ m _ HD.out (by simp; omega) HM h2).mono ?_; rintro e w2 ⟨rfl, hb2⟩; have B2 := B1.below hb2 hl1; have hb3 := hb1.trans (hb2.mono (Nat.le_of_lt hl1)); clear hb1 B1 hl1 hb2; obtain ⟨⟨c0, c1, c2, c3⟩, f0, f1, f2, f3⟩ := B2.facts))
  refine bodyPost_ret (v := .tuple #[.agg #[.int .i64 2, .string (s.extract 0 n), .int .i64 m, .int .i64 0], .int .i64 0]) (by simp [results, Try.results18, go_sem, c0, c1, c2, c3]) rfl ⟨rfl, ?_⟩
  exact (((hb3.setCell (Nat.le_refl _) _).setCell (Nat.le_refl _) _).setCell (Nat.le_refl _) _).setCell (Nat.le_refl _) _

set_option maxHeartbeats 1000000 in
theorem token_sign_ok (s : ByteArray) (w : World) (hz : 0 < s.size) (hs : s.size ≤ 281474976710656) (h1 : ltr (s[0].toNat : Int) = false) (h1' : dig (s[0].toNat : Int) = false) (h2 : 0 < sgnN s.data.toList) :
    Calls Try.prog 18 #[.string s] w (TokGood 3 (sgnN s.data.toList) 0 s w) := by
  obtain ⟨n, hn⟩ : ∃ n, n = sgnN s.data.toList := ⟨_, rfl⟩
  have hle : n ≤ s.size := by rw [hn, Lib.size_eq]; exact sgnN_le _
  rw [← hn] at h2 ⊢
  have HN := Lib.hid hn; clear hn
  have hc := s[0].toNat_lt
  go_enter Try.func18, Try.ntmps18
  go_wp2_with (first
    | (go_at_call 22; refine (letter_any _ _).mono ?_; rintro e w1 ⟨rfl, rfl⟩)
    | (go_at_call 31; refine (digit_any _ _).mono ?_; rintro e w1 ⟨rfl, rfl⟩)
    | (go_at_call 33; refine (sign_any _ _ hz).mono ?_; rintro e w1 ⟨rfl, rfl⟩; rw [← HN.out])
    | (go_at_call 34; refine (build_any _ _ _ (by simp; omega)).mono ?_; rintro e w2 ⟨rfl, hb⟩; have B2 := (Blk4.new w _ _ _ _).below hb (by simp); have hb3 := below_new hb; clear hb; obtain ⟨⟨c0, c1, c2, c3⟩, f0, f1, f2, f3⟩ := B2.facts))
  refine bodyPost_ret (v := .tuple #[.agg #[.int .i64 3, .string (s.extract 0 n), .int .i64 0, .int .i64 0], .int .i64 0]) (by simp [results, Try.results18, go_sem, c0, c1, c2, c3]) rfl ⟨rfl, ?_⟩
  exact (((hb3.setCell (Nat.le_refl _) _).setCell (Nat.le_refl _) _).setCell (Nat.le_refl _) _).setCell (Nat.le_refl _) _

set_option maxHeartbeats 1000000 in
theorem token_sign_bad (s : ByteArray) (w : World) (hz : 0 < s.size) (_hs : s.size ≤ 281474976710656) (h1 : ltr (s[0].toNat : Int) = false) (h1' : dig (s[0].toNat : Int) = false) (h2 : ¬ 0 < sgnN s.data.toList) :
    Calls Try.prog 18 #[.string s] w (TokBad 3 w) := by
  obtain ⟨n, hn⟩ : ∃ n, n = sgnN s.data.toList := ⟨_, rfl⟩
  have hle : n ≤ s.size := by rw [hn, Lib.size_eq]; exact sgnN_le _
  rw [← hn] at h2
  have HN := Lib.hid hn; clear hn
  have hc := s[0].toNat_lt
  go_enter Try.func18, Try.ntmps18
  go_wp2_with (first
    | (go_at_call 22; refine (letter_any _ _).mono ?_; rintro e w1 ⟨rfl, rfl⟩)
    | (go_at_call 31; refine (digit_any _ _).mono ?_; rintro e w1 ⟨rfl, rfl⟩)
    | (go_at_call 33; refine (sign_any _ _ hz).mono ?_; rintro e w1 ⟨rfl, rfl⟩; rw [← HN.out]))
  refine bodyPost_ret (v := .tuple #[.agg #[.int .i64 0, .string ⟨#[]⟩, .int .i64 0, .int .i64 0], .int .i64 3]) (by simp [results, Try.results18, go_sem]) rfl ⟨rfl, ?_⟩
  exact (Below.refl _ _).alloc (Nat.le_refl _) _

theorem token_any (s : ByteArray) (w : World) (hz : 0 < s.size) (hs : s.size ≤ 281474976710656) :
    ((tk s.data.toList).1 ≠ 0 → Calls Try.prog 18 #[.string s] w (TokBad (tk s.data.toList).1 w)) ∧
    ((tk s.data.toList).1 = 0 → Calls Try.prog 18 #[.string s] w (TokGood (tk s.data.toList).2.1 (tk s.data.toList).2.2.1 (tk s.data.toList).2.2.2 s w)) := by
  obtain ⟨r, hr⟩ := head_of s hz
  have e : tk s.data.toList = if ltr (s[0].toNat : Int) then (if 16 < spanN wrd s.data.toList then (2, 0, 0, 0) else (0, 1, spanN wrd s.data.toList, 0))
    else if dig (s[0].toNat : Int) then (if 9999 < numV (s.data.toList.take (spanN dig s.data.toList)) then (4, 0, 0, 0) else (0, 2, spanN dig s.data.toList, numV (s.data.toList.take (spanN dig s.data.toList))))
    else if 0 < sgnN s.data.toList then (0, 3, sgnN s.data.toList, 0) else (3, 0, 0, 0) := by rw [hr]; rfl
  rcases h1 : ltr (s[0].toNat : Int) with _ | _
  · rcases h2 : dig (s[0].toNat : Int) with _ | _
    · by_cases h3 : 0 < sgnN s.data.toList
      · rw [h1, h2, if_pos h3] at e; simp only [e]
        exact ⟨fun h => absurd rfl h, fun _ => token_sign_ok s w hz hs h1 h2 h3⟩
      · rw [h1, h2, if_neg h3] at e; simp only [e]
        exact ⟨fun _ => token_sign_bad s w hz hs h1 h2 h3, fun h => by cases h⟩
    · by_cases h3 : 9999 < numV (s.data.toList.take (spanN dig s.data.toList))
      · rw [h1, h2, if_pos h3] at e; simp only [e]
        exact ⟨fun _ => token_digit_big s w hz hs h1 h2 h3, fun h => by cases h⟩
      · rw [h1, h2, if_neg h3] at e; simp only [e]
        exact ⟨fun h => absurd rfl h, fun _ => token_digit_ok s w hz hs h1 h2 (by omega)⟩
  · by_cases h3 : 16 < spanN wrd s.data.toList
    · rw [h1, if_pos h3] at e; simp only [e]
      exact ⟨fun _ => token_word_big s w hz hs h1 h3, fun h => by cases h⟩
    · rw [h1, if_neg h3] at e; simp only [e]
      exact ⟨fun h => absurd rfl h, fun _ => token_word_ok s w hz hs h1 (by omega)⟩

end Go.Proofs.Ytgpbogagpmjilaa
