/- CodeBounds: what is made of an expression is right, its value is there. -/
import Derived.Test.YtpidodeekogcfaaMa
namespace Go.Proofs.Ytpidodeekogcfaa
open Go.RowKit

theorem htsL_cons (o : Opn) (r : List Opn) (m k : Int) : htsL (o :: r) m k = if ar o.op < 0 ∨ k < ar o.op then (-1, -1) else htsL r (max m (k + 1 - ar o.op)) (k + 1 - ar o.op) := rfl

theorem okN_num {x : Nd} (h : okN x = true) (h1 : x.op = 1) : 0 ≤ x.n ∧ x.n ≤ 9999 := by
  unfold okN at h
  rw [Bool.and_eq_true] at h
  have h2 := h.2
  simp only [h1] at h2
  simp [numB] at h2
  omega

/-- The step of a leaf that stands for a register or a number. -/
theorem leaf_step {regs : List ByteArray} {x : Nd} (hw : ar x.op = 0) (hn : okN x = true) (hok : (stpL (rsvT regs) x).2 = true) :
    ar (stpL (rsvT regs) x).1.op = 0 ∧ okO [] regs.length 0 (stpL (rsvT regs) x).1 = true := by
  have hk := ar_kind x.op
  unfold stpL at hok ⊢
  by_cases h : x.op = 2 ∨ x.op = 3 ∨ x.op = 4
  · rw [if_pos h] at hok ⊢
    unfold rsvT at hok ⊢
    simp only [Bool.and_eq_true, decide_eq_true_eq] at hok
    refine ⟨rfl, ?_⟩
    show inB (ixL regs x.nm 0) regs.length = true
    have := ixL_range regs x.nm 0
    exact decide_eq_true (by omega)
  · rw [if_neg h] at hok ⊢
    have h1 : x.op = 1 := by omega
    refine ⟨hw, ?_⟩
    unfold okO
    rw [if_pos h1]
    have := okN_num hn h1
    show inB x.n 10000 = true
    exact decide_eq_true (by omega)

theorem inner_step {regs : List ByteArray} {x : Nd} (h5 : 5 ≤ x.op) (h14 : x.op ≤ 14) : (stpL (rsvT regs) x).1 = ⟨x.op, x.n, 0⟩ := by
  unfold stpL; rw [if_neg (by omega)]
theorem inner_ok {x : Nd} (h5 : 5 ≤ x.op) {regs : List Int} {a b : Int} : okO regs a b ⟨x.op, x.n, 0⟩ = true := by
  unfold okO; simp only []
  rw [if_neg (by omega), if_neg (by omega), if_neg (by omega), if_neg (by omega)]

theorem code_hts (regs : List ByteArray) (e : Ex) : e.wf → e.flat.all okN = true → okE (rsvT regs) e = true → ∀ (r : List Opn) (m k : Int), 0 ≤ k → 0 ≤ m →
    ∃ M : Int, k + 1 ≤ M ∧ M ≤ k + e.size ∧ htsL (codeE (rsvT regs) e ++ r) m k = htsL r (max m M) (k + 1) := by
  induction e with
  | leaf x =>
    intro hw hn hok r m k hk hm
    obtain ⟨h1, h2⟩ := leaf_step (regs := regs) hw (by simpa [Ex.flat] using hn) hok
    refine ⟨k + 1, by omega, by simp [Ex.size], ?_⟩
    show htsL ((stpL (rsvT regs) x).1 :: r) m k = _
    rw [htsL_cons, h1, if_neg (by omega)]
    simp
  | un x a ih =>
    intro hw hn hok r m k hk hm
    simp only [Ex.flat, List.all_cons, Bool.and_eq_true] at hn
    simp only [okE, Bool.and_eq_true] at hok
    obtain ⟨M, h1, h2, h3⟩ := ih hw.2 hn.2 hok.1 ((stpL (rsvT regs) x).1 :: r) m k hk hm
    have hx := ar_kind x.op
    have hx1 : ar x.op = 1 := hw.1
    refine ⟨M, h1, by simp only [Ex.size]; omega, ?_⟩
    show htsL (codeE (rsvT regs) a ++ [(stpL (rsvT regs) x).1] ++ r) m k = _
    rw [List.append_assoc, List.singleton_append, h3, inner_step (by omega) (by omega), htsL_cons]
    simp only [hx1]
    rw [if_neg (by omega)]
    congr 1 <;> omega
  | bin x a b iha ihb =>
    intro hw hn hok r m k hk hm
    simp only [Ex.flat, List.all_cons, List.all_append, Bool.and_eq_true] at hn
    simp only [okE, Bool.and_eq_true] at hok
    obtain ⟨M, h1, h2, h3⟩ := iha hw.2.1 hn.2.1 hok.1.1 (codeE (rsvT regs) b ++ ((stpL (rsvT regs) x).1 :: r)) m k hk hm
    obtain ⟨M2, g1, g2, g3⟩ := ihb hw.2.2 hn.2.2 hok.1.2 ((stpL (rsvT regs) x).1 :: r) (max m M) (k + 1) (by omega) (by omega)
    have hx := ar_kind x.op
    have hx1 : ar x.op = 2 := hw.1
    refine ⟨max M M2, by omega, by simp only [Ex.size]; omega, ?_⟩
    show htsL (codeE (rsvT regs) a ++ codeE (rsvT regs) b ++ [(stpL (rsvT regs) x).1] ++ r) m k = _
    rw [List.append_assoc, List.append_assoc, List.singleton_append, h3, g3, inner_step (by omega) (by omega), htsL_cons]
    simp only [hx1]
    rw [if_neg (by omega)]
    congr 1 <;> omega

theorem code_ok (regs : List ByteArray) (e : Ex) : e.wf → e.flat.all okN = true → okE (rsvT regs) e = true → (codeE (rsvT regs) e).all (okO [] regs.length 0) = true := by
  induction e with
  | leaf x =>
    intro hw hn hok
    obtain ⟨h1, h2⟩ := leaf_step (regs := regs) hw (by simpa [Ex.flat] using hn) hok
    simp [codeE, h2]
  | un x a ih =>
    intro hw hn hok
    simp only [Ex.flat, List.all_cons, Bool.and_eq_true] at hn
    simp only [okE, Bool.and_eq_true] at hok
    have hx := ar_kind x.op
    have hx1 : ar x.op = 1 := hw.1
    simp only [codeE, List.all_append, List.all_cons, List.all_nil, Bool.and_true]
    rw [ih hw.2 hn.2 hok.1, inner_step (by omega) (by omega), inner_ok (by omega)]; rfl
  | bin x a b iha ihb =>
    intro hw hn hok
    simp only [Ex.flat, List.all_cons, List.all_append, Bool.and_eq_true] at hn
    simp only [okE, Bool.and_eq_true] at hok
    have hx := ar_kind x.op
    have hx1 : ar x.op = 2 := hw.1
    simp only [codeE, List.all_append, List.all_cons, List.all_nil, Bool.and_true]
    rw [iha hw.2.1 hn.2.1 hok.1.1, ihb hw.2.2 hn.2.2 hok.1.2, inner_step (by omega) (by omega), inner_ok (by omega)]; rfl

theorem code_run (regs : List ByteArray) (s : Nbs) (hm : 2 ≤ s.mod ∧ s.mod ≤ 16) (e : Ex) : e.wf → e.flat.all okN = true → okE (rsvT regs) e = true → ∀ (r : List Opn) (st : List Int),
    ∃ z : Int, 0 ≤ z ∧ z < s.mod ∧ runO s (codeE (rsvT regs) e ++ r) st = runO s r (z :: st) := by
  induction e with
  | leaf x =>
    intro hw hn hok r st
    obtain ⟨h1, h2⟩ := leaf_step (regs := regs) hw (by simpa [Ex.flat] using hn) hok
    refine ⟨rdO s (stpL (rsvT regs) x).1 % s.mod, Int.emod_nonneg _ (by omega), Int.emod_lt_of_pos _ (by omega), ?_⟩
    show runO s r (stO s (stpL (rsvT regs) x).1 st) = _
    rw [stO_zero s _ st h1]
  | un x a ih =>
    intro hw hn hok r st
    simp only [Ex.flat, List.all_cons, Bool.and_eq_true] at hn
    simp only [okE, Bool.and_eq_true] at hok
    obtain ⟨z, z0, z1, h⟩ := ih hw.2 hn.2 hok.1 ((stpL (rsvT regs) x).1 :: r) st
    have hx := ar_kind x.op
    have hx1 : ar x.op = 1 := hw.1
    have ht := tru_b (decide (z = 0))
    refine ⟨tru (decide (z = 0)), ht.1, by omega, ?_⟩
    show runO s (codeE (rsvT regs) a ++ [(stpL (rsvT regs) x).1] ++ r) st = _
    rw [List.append_assoc, List.singleton_append, h, inner_step (by omega) (by omega)]
    show runO s r (stO s ⟨x.op, x.n, 0⟩ (z :: st)) = _
    rw [stO_one s ⟨x.op, x.n, 0⟩ z st hx1]
  | bin x a b iha ihb =>
    intro hw hn hok r st
    simp only [Ex.flat, List.all_cons, List.all_append, Bool.and_eq_true] at hn
    simp only [okE, Bool.and_eq_true] at hok
    obtain ⟨y, y0, y1, h⟩ := iha hw.2.1 hn.2.1 hok.1.1 (codeE (rsvT regs) b ++ ((stpL (rsvT regs) x).1 :: r)) st
    obtain ⟨z, z0, z1, g⟩ := ihb hw.2.2 hn.2.2 hok.1.2 ((stpL (rsvT regs) x).1 :: r) (y :: st)
    have hx := ar_kind x.op
    have hx1 : ar x.op = 2 := hw.1
    have hr := raw_two x.op y z s.mod (by omega) (by omega) hm ⟨y0, y1⟩ ⟨z0, z1⟩
    refine ⟨twoO x.op y z s.mod, hr.2.1, hr.2.2.1, ?_⟩
    show runO s (codeE (rsvT regs) a ++ codeE (rsvT regs) b ++ [(stpL (rsvT regs) x).1] ++ r) st = _
    rw [List.append_assoc, List.append_assoc, List.singleton_append, h, g, inner_step (by omega) (by omega)]
    show runO s r (stO s ⟨x.op, x.n, 0⟩ (z :: y :: st)) = _
    rw [stO_two s ⟨x.op, x.n, 0⟩ y z st hx1]

/-- What there is to know of code that was made of an expression. -/
theorem cod_facts {regs : List ByteArray} {l : List Nd} {cs : List Opn} (h : CodIs (rsvT regs) l cs true) (s : Nbs) (hs : rightN s = true) (ho : s.own.length = regs.length) (ha : s.all = []) (hm : s.mem = []) :
    rightO cs [] regs.length 0 = true ∧ (∃ z, valO cs s = (z, true) ∧ 0 ≤ z ∧ z < s.mod) ∧ 1 ≤ (htsL cs 0 0).1 ∧ (htsL cs 0 0).1 ≤ cs.length ∧ cs.length ≤ 200 := by
  rcases h with ⟨e, hw, hfl, hr, hok, hcs⟩ | ⟨_, h, _⟩
  · rw [← hok, if_pos rfl] at hcs
    obtain ⟨_, _, _, h200, hall, _⟩ := hr
    rw [← hfl] at hall
    have hmod : 2 ≤ s.mod ∧ s.mod ≤ 16 := by
      unfold rightN at hs
      rw [Bool.and_eq_true] at hs
      exact of_decide_eq_true hs.1
    obtain ⟨M, h1, h2, h3⟩ := code_hts regs e hw hall hok.symm [] 0 0 (by omega) (by omega)
    rw [List.append_nil] at h3
    have h3' : htsL (codeE (rsvT regs) e) 0 0 = (max 0 M, 0 + 1) := h3
    have hright : rightO cs [] regs.length 0 = true := by
      rw [hcs]; unfold rightO; rw [h3', code_ok regs e hw hall hok.symm]; rfl
    have hlen := codeE_len (rsvT regs) e
    refine ⟨hright, ?_, ?_, ?_, ?_⟩
    · obtain ⟨z, z0, z1, h4⟩ := code_run regs s hmod e hw hall hok.symm [] []
      rw [List.append_nil] at h4
      refine ⟨z, ?_, z0, z1⟩
      rw [valO_yes (by rw [hs, ha, hm, ho]; exact hright), hcs, h4]; rfl
    · rw [hcs, h3']; show 1 ≤ max 0 M; omega
    · rw [hcs, h3', hlen]; show max 0 M ≤ _; omega
    · rw [hcs, hlen, ← Ex.flat_length, hfl]; exact h200
  · cases h

end Go.Proofs.Ytpidodeekogcfaa
