/- What Scan of package scan does: the tokens that a plain function of lists tells. -/
import Derived.Test.YtgpbogagpmjilaaD
import Derived.Deep.LoopGhost
namespace Go.Proofs.Ytgpbogagpmjilaa
open Go.RowKit

/-- A token: its kind, its bytes, its number, its place. -/
abbrev Tok := Nat × List UInt8 × Nat × Nat
def cellsOf (t : Tok) : List Value := [.int .i64 t.1, .string ⟨t.2.1.toArray⟩, .int .i64 t.2.2.1, .int .i64 t.2.2.2]
def rowOf (l : List Tok) : List Value := l.flatMap cellsOf

def blank (c : Int) : Bool := decide (c = 32 ∨ c = 10 ∨ c = 9 ∨ c = 13)
def noNl (c : Int) : Bool := decide (c ≠ 10)

/-- The tokens of what is left, behind those that were found: by at most so many steps. -/
def sc : Nat → List UInt8 → Nat → List Tok → List Tok × Nat × Nat
  | 0, _, _, acc => (acc, 0, 0)
  | _ + 1, [], _, acc => (acc, 0, 0)
  | f + 1, c :: r, p, acc =>
    if blank (c.toNat : Int) then sc f r (p + 1) acc
    else if (c.toNat : Int) = 35 then sc f ((c :: r).drop (spanN noNl (c :: r))) (p + spanN noNl (c :: r)) acc
    else if (tk (c :: r)).1 ≠ 0 then ([], (tk (c :: r)).1, p)
    else sc f ((c :: r).drop (tk (c :: r)).2.2.1) (p + (tk (c :: r)).2.2.1) (acc ++ [((tk (c :: r)).2.1, (c :: r).take (tk (c :: r)).2.2.1, (tk (c :: r)).2.2.2, p)])

def scanL (l : List UInt8) : List Tok × Nat × Nat := if 20000 < l.length then ([], 2, 20000) else sc l.length l 0 []

def ScanAns (B : Nat) (r : List Tok × Nat × Nat) (w : World) (e : Ending) (w' : World) : Prop :=
  ∃ v, e = .returned (.tuple #[v, .int .i64 r.2.1, .int .i64 r.2.2]) ∧ w'.ownsRow B 29 4 v r.1.length (rowOf r.1) ∧ Below w.heap.size w w'

theorem sc_nil (f p : Nat) (acc : List Tok) : sc f [] p acc = (acc, 0, 0) := by cases f <;> rfl

theorem sc_end (s : ByteArray) (p q f : Nat) (acc : List Tok) (h : ¬ p < s.size) : sc f (s.data.toList.drop p) q acc = (acc, 0, 0) := by
  rw [List.drop_eq_nil_of_le (by rw [← Lib.size_eq]; omega), sc_nil]

theorem sc_blank (s : ByteArray) (p f : Nat) (acc : List Tok) (h : p < s.size) (hb : blank (s[p].toNat : Int) = true) :
    sc (f + 1) (s.data.toList.drop p) p acc = sc f (s.data.toList.drop (p + 1)) (p + 1) acc := by
  rw [drop_at s p h, sc, if_pos hb]

theorem sc_hash (s : ByteArray) (p f : Nat) (acc : List Tok) (h : p < s.size) (hb : blank (s[p].toNat : Int) = false) (hc : (s[p].toNat : Int) = 35) :
    sc (f + 1) (s.data.toList.drop p) p acc = sc f (s.data.toList.drop (p + spanN noNl (s.data.toList.drop p))) (p + spanN noNl (s.data.toList.drop p)) acc := by
  rw [← List.drop_drop]
  conv => lhs; rw [drop_at s p h, sc, if_neg (by rw [hb]; decide), if_pos hc, ← drop_at s p h]

theorem sc_bad (s : ByteArray) (p f : Nat) (acc : List Tok) (h : p < s.size) (hb : blank (s[p].toNat : Int) = false) (hc : (s[p].toNat : Int) ≠ 35) (ht : (tk (s.data.toList.drop p)).1 ≠ 0) :
    sc (f + 1) (s.data.toList.drop p) p acc = ([], (tk (s.data.toList.drop p)).1, p) := by
  rw [drop_at s p h] at ht ⊢
  rw [sc, if_neg (by rw [hb]; decide), if_neg hc, if_pos ht]

theorem sc_tok (s : ByteArray) (p f : Nat) (acc : List Tok) (h : p < s.size) (hb : blank (s[p].toNat : Int) = false) (hc : (s[p].toNat : Int) ≠ 35) (ht : (tk (s.data.toList.drop p)).1 = 0) :
    sc (f + 1) (s.data.toList.drop p) p acc = sc f (s.data.toList.drop (p + (tk (s.data.toList.drop p)).2.2.1)) (p + (tk (s.data.toList.drop p)).2.2.1) (acc ++ [((tk (s.data.toList.drop p)).2.1, (s.data.toList.drop p).take (tk (s.data.toList.drop p)).2.2.1, (tk (s.data.toList.drop p)).2.2.2, p)]) := by
  rw [← List.drop_drop]
  rw [drop_at s p h] at ht ⊢
  conv => lhs; rw [sc, if_neg (by rw [hb]; decide), if_neg hc, if_neg (by rw [ht]; decide)]

theorem tk_len (l : List UInt8) (h : (tk l).1 = 0) : 0 < (tk l).2.2.1 ∧ (tk l).2.2.1 ≤ l.length := by
  cases l with
  | nil => cases h
  | cons c r =>
    have hw := spanN_le wrd (c :: r)
    have hd := spanN_le dig (c :: r)
    have hg := sgnN_le (c :: r)
    have hw1 : ltr (c.toNat : Int) = true → 0 < spanN wrd (c :: r) := fun h => by simp [spanN, wrd, h]
    have hd1 : dig (c.toNat : Int) = true → 0 < spanN dig (c :: r) := fun h => by simp [spanN, h]
    unfold tk at *
    rcases h1 : ltr (c.toNat : Int) with _ | _
    · rcases h2 : dig (c.toNat : Int) with _ | _
      · by_cases h3 : 0 < sgnN (c :: r)
        · simp only [h1, h2, if_pos h3]; simp; exact ⟨h3, by simpa using hg⟩
        · simp [h1, h2, if_neg h3] at h
      · by_cases h3 : 9999 < numV ((c :: r).take (spanN dig (c :: r)))
        · simp [h1, h2, if_pos h3] at h
        · simp only [h1, h2, if_neg h3]; simp; exact ⟨hd1 h2, by simpa using hd⟩
    · by_cases h3 : 16 < spanN wrd (c :: r)
      · simp [h1, if_pos h3] at h
      · simp only [h1, if_neg h3]; simp; exact ⟨hw1 h1, by simpa using hw⟩

theorem own_below {w w' : World} {B e size n : Nat} {v : Value} {xs : List Value} (h : w.ownsRow B e size v n xs) (hb : Below w.heap.size w w') : w'.ownsRow B e size v n xs := by
  obtain ⟨h1, h2⟩ := h
  refine ⟨h1, ?_⟩
  rcases h2 with h2 | ⟨g, cap, cur, hv, hg, hh, r⟩
  · exact .inl h2
  · exact .inr ⟨g, cap, cur, hv, hg, by rw [hb.block g (Array.getElem?_eq_some_iff.1 hh).1]; exact hh, r⟩

theorem cell_four_new (w : World) (a b c d : Value) (t n : Nat) (hn : n = w.heap.size) : ∀ j u, [a, b, c, d][j]? = some u → (w.alloc (.cells #[a, b, c, d] t)).cell? ((⟨n, 0, none⟩ : Addr).add j) = some u := by
  subst hn
  intro j u h
  match j, h with
  | 0, h => simp at h; subst h; simp [Addr.add]
  | 1, h => simp at h; subst h; simp [Addr.add]
  | 2, h => simp at h; subst h; simp [Addr.add]
  | 3, h => simp at h; subst h; simp [Addr.add]

theorem four_oneCell (k v p : Int) (s : ByteArray) : ∀ u ∈ [Value.int .i64 k, .string s, .int .i64 v, .int .i64 p], u.oneCell' = true := by
  intro u h; simp at h; rcases h with rfl | rfl | rfl | rfl <;> rfl

theorem info29 : (Try.prog.info? 29).map (fun i => (i.zero, i.size, i.bytes)) = some (some (.agg #[.int .i64 0, .string ⟨#[]⟩, .int .i64 0, .int .i64 0]), 4, 40) := by kernel_rfl

/-- The token at a place: what the call of token does there. -/
theorem token_at (s : ByteArray) (p : Nat) (hlt : p < s.size) (hs : s.size ≤ 20000) :
    ∃ (er k n v : Nat) (t : ByteArray), Hid (tk (s.data.toList.drop p) = (er, k, n, v)) ∧ Hid (t = ⟨((s.data.toList.drop p).take n).toArray⟩) ∧ (er = 0 → t.size = n ∧ 0 < n ∧ n ≤ s.size - p) ∧
      (er ≠ 0 → ∀ w, Calls Try.prog 18 #[.string (s.extract p s.size)] w (TokBad er w)) ∧
      (er = 0 → ∀ w, Calls Try.prog 18 #[.string (s.extract p s.size)] w fun e w' => e = .returned (.tuple #[.agg #[.int .i64 k, .string t, .int .i64 v, .int .i64 0], .int .i64 0]) ∧ Below w.heap.size w w') := by
  have hd : (s.extract p s.size).data.toList = s.data.toList.drop p := Lib.extract_to_end s p
  have hz : (s.extract p s.size).size = s.size - p := by simp
  obtain ⟨⟨er, k, n, v⟩, hT⟩ : ∃ T, tk (s.data.toList.drop p) = T := ⟨_, rfl⟩
  have hl := tk_len (s.data.toList.drop p)
  rw [hT] at hl
  simp only [List.length_drop, ← Lib.size_eq] at hl
  have hx : (s.extract p s.size).extract 0 n = ⟨((s.data.toList.drop p).take n).toArray⟩ := by
    rw [Lib.extract_eq, hd]; simp
  refine ⟨er, k, n, v, (s.extract p s.size).extract 0 n, hT, hx, ?_, ?_, ?_⟩
  · intro h
    have := hl h
    refine ⟨?_, this⟩
    simp; omega
  · intro h w
    have := (token_any (s.extract p s.size) w (by omega) (by omega)).1
    rw [hd, hT] at this
    exact this h
  · intro h w
    have := (token_any (s.extract p s.size) w (by omega) (by omega)).2
    rw [hd, hT] at this
    exact this h

set_option maxHeartbeats 400000 in
theorem scan_big (s : ByteArray) (w : World) (h : 20000 < s.size) (hs : s.size ≤ maxLen) :
    Calls Try.prog 9 #[.string s] w (ScanAns w.heap.size (scanL s.data.toList) w) := by
  have hR : scanL s.data.toList = ([], 2, 20000) := by unfold scanL; rw [if_pos (by rw [← Lib.size_eq]; exact h)]
  rw [hR]; clear hR
  unfold maxLen at hs
  go_enter Try.func9, Try.ntmps9
  go_wp2; go_step3
  go_wp2
  rw [Exit.noGoto_ret]
  go_ret3
  exact ⟨_, rfl, World.ownsRow_nil _ _ _ _, Below.refl _ _⟩

set_option maxHeartbeats 2000000 in
theorem scan_small (s : ByteArray) (w : World) (h : s.size ≤ 20000) :
    Calls Try.prog 9 #[.string s] w (ScanAns w.heap.size (scanL s.data.toList) w) := by
  obtain ⟨R, hR⟩ : ∃ R, scanL s.data.toList = R := ⟨_, rfl⟩
  have hR' := hR
  unfold scanL at hR'
  rw [if_neg (by rw [← Lib.size_eq]; omega), ← Lib.size_eq] at hR'
  rw [hR]; clear hR
  have HR := Lib.hid hR'; clear hR'
  go_enter Try.func9, Try.ntmps9
  go_wp2; go_step3
  go_wp2; go_step3
  go_wp2
  go_loopg [5, 6] s.size (fun fuel v at' wr => ∃ (p : Nat) (acc : List Tok), p ≤ s.size ∧ at' = .int .i64 p ∧ s.size - p ≤ fuel ∧ sc fuel (s.data.toList.drop p) p acc = R ∧ wr.ownsRow w.heap.size 29 4 v acc.length (rowOf acc) ∧ Below w.heap.size w wr ∧ acc.length ≤ p)
  case atStart => exact ⟨0, [], Nat.zero_le _, rfl, by omega, HR.out, World.ownsRow_nil _ _ _ _, Below.refl _ _, Nat.le_refl _⟩
  case round =>
    obtain ⟨p, acc, hp, rfl, hf, hsc, hown, hbw, hal⟩ := hrel
    have HS := Lib.hid hsc; clear hsc
    by_cases hlt : p < s.size
    · obtain ⟨f, rfl⟩ : ∃ f, gk = f + 1 := ⟨gk - 1, by omega⟩
      rcases hb : blank (s[p].toNat : Int) with _ | _
      · have hb' := hb
        simp only [blank, decide_eq_false_iff_not, not_or] at hb'
        obtain ⟨b0, b1, b2, b3⟩ := hb'
        have q0 : ((s[p].toNat : Int) == 32) = false := (by simpa using b0)
        have q1 : ((s[p].toNat : Int) == 10) = false := (by simpa using b1)
        have q2 : ((s[p].toNat : Int) == 9) = false := (by simpa using b2)
        have q3 : ((s[p].toNat : Int) == 13) = false := (by simpa using b3)
        by_cases h35 : (s[p].toNat : Int) = 35
        · have HS' := Lib.hid ((sc_hash s p f acc hlt hb h35).symm.trans HS.out)
          have H1 := Lib.hid (spanN_yes noNl s p hlt (by rw [h35]; decide))
          have q4 : ((s[p].toNat : Int) == 35) = true := (by simp [h35])
          clear hb b0 b1 b2 b3 h35 HS
          obtain ⟨wo, rfl⟩ : ∃ wo : World, wo = wr := ⟨_, rfl⟩
          obtain ⟨go, rfl⟩ : ∃ go : Nat, go = f := ⟨_, rfl⟩
          go_wp2
          go_loopg [6] (s.size - p) (fun m at' w2 => ∃ q : Nat, p ≤ q ∧ q ≤ s.size ∧ at' = .int .i64 q ∧ s.size - q ≤ m ∧ spanN noNl (s.data.toList.drop p) = (q - p) + spanN noNl (s.data.toList.drop q) ∧ w2 = wo)
          case atStart => exact ⟨p, Nat.le_refl _, by omega, rfl, by omega, by omega, rfl⟩
          case round =>
            obtain ⟨q, hpq, hq, rfl, hm, hsp, rfl⟩ := hrel
            have HSP := Lib.hid hsp; clear hsp
            by_cases hlq : q < s.size
            · by_cases h10 : (s[q].toNat : Int) = 10
              · have HN := Lib.hid (spanN_no noNl s q hlq (by rw [h10]; decide))
                have q5 : ((s[q].toNat : Int) == 10) = true := (by simp [h10])
                clear h10
                go_wp2
                go_roundg go
                case measure => omega
                case rel =>
                  have e := HSP.out
                  have e1 := HN.out
                  have e2 := H1.out
                  have e3 : p + spanN noNl (s.data.toList.drop p) = q := by omega
                  exact ⟨q, acc, hq, rfl, by omega, by rw [← HS'.out, e3], hown, hbw, by omega⟩
              · have HN := Lib.hid (spanN_yes noNl s q hlq (by simpa [noNl] using h10))
                have q5 : ((s[q].toNat : Int) == 10) = false := (by simpa using h10)
                clear h10
                go_wp2
                go_roundg (gk - 1)
                case measure => omega
                case rel =>
                  have e := HSP.out
                  have e1 := HN.out
                  exact ⟨q + 1, by omega, by omega, by go_num, by omega, by omega, rfl⟩
            · have HN := Lib.hid (spanN_end noNl s q hlq)
              go_wp2
              rw [Exit.noGoto_ret]
              go_ret3
              have hR : R = (acc, 0, 0) := by
                rw [← HS'.out, sc_end]
                have e := HSP.out
                have e1 := HN.out
                omega
              rw [hR]
              exact ⟨_, rfl, hown, hbw⟩
        · have q4 : ((s[p].toNat : Int) == 35) = false := (by simpa using h35)
          obtain ⟨er, k, n, v, tx, HT, HX, hnn, hbad, hgood⟩ := token_at s p hlt h
          by_cases her : er = 0
          · subst her
            obtain ⟨hn0, hn1, hn2⟩ := hnn rfl
            have hsc := sc_tok s p f acc hlt hb h35 (by rw [HT.out])
            rw [HT.out, HS.out] at hsc
            have HR' := Lib.hid hsc
            have HC := hgood rfl
            obtain ⟨i0, hi, hz0, hz1, hz2⟩ := info_parts info29
            clear hb b0 b1 b2 b3 h35 HS hnn hbad hgood hsc HT
            go_wp2_with (first
              | (go_at_call 18; refine (HC _).mono ?_; rintro e w1 ⟨rfl, hb1⟩; have hown1 := own_below hown hb1; have hbw1 := hbw.trans (hb1.mono hbw.size); have hz := hbw1.size; clear hown hbw hb1)
              | (at_builtin; refine wpList_append_own _ rfl (.tmp 56) (.tmp 58) 23 rfl w.heap.size 29 i0 (.agg #[.int .i64 0, .string ⟨#[]⟩, .int .i64 0, .int .i64 0]) 4 40 Try.underlying23 hi hz0 hz1 hz2 rfl (by decide) _ _ _ rfl ((hown1.alloc _).alloc _) ⟨w1.heap.size + 1, 0, none⟩ 1 1 [.int .i64 k, .string tx, .int .i64 v, .int .i64 p] ?hx rfl ?c1 ?c2 ?c3 ?c4 ?c5 ?_; rotate_right; intro v' w2 hown2 hgrow _))
            case hx => rfl
            case c1 => exact cell_four_new _ _ _ _ _ _ _ (by simp)
            case c2 => exact four_oneCell _ _ _ _
            case c3 => unfold maxLen; omega
            case c4 => omega
            case c5 => simp; omega
            go_roundg f
            case measure => omega
            case rel =>
              have hr : rowOf (acc ++ [(k, List.take n (List.drop p s.data.toList), v, p)]) = rowOf acc ++ [.int .i64 k, .string tx, .int .i64 v, .int .i64 p] := by
                rw [HX.out]; simp [rowOf, cellsOf]
              refine ⟨p + n, acc ++ [(k, List.take n (List.drop p s.data.toList), v, p)], by omega, by go_num, by omega, HR'.out.symm, ?_, ?_, by simp; omega⟩
              · rw [hr, List.length_append]; exact hown2
              · exact ((hbw1.alloc hz _).alloc (by simp; omega) _).grown hgrow (by simp; omega) (fun k hk => (hown1.lt k hk).1)
          · have HC := hbad her
            have hsc := sc_bad s p f acc hlt hb h35 (by rw [HT.out]; exact her)
            rw [HT.out, HS.out] at hsc
            have HR' := Lib.hid hsc
            have hne : ((er : Int) == 0) = false := (by simp [her])
            clear hb b0 b1 b2 b3 h35 HS hnn hbad hgood hsc her HT HX
            go_wp2_with (go_at_call 18; refine (HC _).mono ?_; rintro e w1 ⟨rfl, hb1⟩)
            rw [Exit.noGoto_ret]
            go_ret3
            rw [HR'.out]
            have hb2 := hbw.trans (hb1.mono hbw.size)
            exact ⟨_, rfl, World.ownsRow_nil _ _ _ _, hb2.alloc hb2.size _⟩
      · have HS' := Lib.hid ((sc_blank s p f acc hlt hb).symm.trans HS.out)
        have hb' := hb
        simp only [blank, decide_eq_true_eq] at hb'
        clear hb HS
        rcases hb' with hq | hq | hq | hq
        · have q0 : ((s[p].toNat : Int) == 32) = true := (by simp [hq])
          clear hq
          go_wp2
          go_roundg f
          case measure => omega
          case rel => exact ⟨p + 1, acc, by omega, by go_num, by omega, HS'.out, hown, hbw, by omega⟩
        · have q0 : ((s[p].toNat : Int) == 32) = false := (by simp [hq])
          have q1 : ((s[p].toNat : Int) == 10) = true := (by simp [hq])
          clear hq
          go_wp2
          go_roundg f
          case measure => omega
          case rel => exact ⟨p + 1, acc, by omega, by go_num, by omega, HS'.out, hown, hbw, by omega⟩
        · have q0 : ((s[p].toNat : Int) == 32) = false := (by simp [hq])
          have q1 : ((s[p].toNat : Int) == 10) = false := (by simp [hq])
          have q2 : ((s[p].toNat : Int) == 9) = true := (by simp [hq])
          clear hq
          go_wp2
          go_roundg f
          case measure => omega
          case rel => exact ⟨p + 1, acc, by omega, by go_num, by omega, HS'.out, hown, hbw, by omega⟩
        · have q0 : ((s[p].toNat : Int) == 32) = false := (by simp [hq])
          have q1 : ((s[p].toNat : Int) == 10) = false := (by simp [hq])
          have q2 : ((s[p].toNat : Int) == 9) = false := (by simp [hq])
          have q3 : ((s[p].toNat : Int) == 13) = true := (by simp [hq])
          clear hq
          go_wp2
          go_roundg f
          case measure => omega
          case rel => exact ⟨p + 1, acc, by omega, by go_num, by omega, HS'.out, hown, hbw, by omega⟩
    · have HE := Lib.hid (sc_end s p p gk acc hlt)
      go_wp2
      rw [Exit.noGoto_ret]
      go_ret3
      have hR : R = (acc, 0, 0) := by rw [← HS.out, HE.out]
      rw [hR]
      exact ⟨_, rfl, hown, hbw⟩

theorem scan_any (s : ByteArray) (w : World) (hs : s.size ≤ maxLen) :
    Calls Try.prog 9 #[.string s] w (ScanAns w.heap.size (scanL s.data.toList) w) := by
  by_cases h : 20000 < s.size
  · exact scan_big s w h hs
  · exact scan_small s w (by omega)

end Go.Proofs.Ytgpbogagpmjilaa
