/- What is shown of a tree has the tree's tokens. What is shown of a right tree is read as that tree, but for its places. What is read is right; where what is wrong stands. What was read is no more than the tokens that were passed. -/
import Derived.Test.YtlpgafgiljffhaaGreatDoorYb
import Derived.Test.YtlpgafgiljffhaaGreatDoorTa
import Derived.Test.YtlpgafgiljffhaaGreatDoorNk
import Derived.Test.YtlpgafgiljffhaaGreatDoorNa
namespace Go.Proofs.YtlpgafgiljffhaaGreatDoor
open Go.RowKit
abbrev Tri := Nat × List UInt8 × Nat
def wrapT : Ex → List Tri → List Tri
  | .bin _ _ _, s => (3, [40], 0) :: (s ++ [(3, [41], 0)])
  | _, s => s
def tokE : Ex → List Tri
  | .leaf x => if x.op = 1 then [(2, dg x.n, x.n.toNat)] else if x.op = 4 then [(1, x.inn.data.toList, 0), (3, [46], 0), (1, x.nm.data.toList, 0)] else [(1, x.nm.data.toList, 0)]
  | .un _ a => (3, [33], 0) :: wrapT a (tokE a)
  | .bin x a b => wrapT a (tokE a) ++ (3, sgO x.op.toNat, 0) :: wrapT b (tokE b)
def Sp (rest : List UInt8) : Prop := rest = [] ∨ ∃ c b, rest = c :: b ∧ Sep c
theorem sc_one (x rest : List UInt8) (k v : Nat) (h : tk (x ++ rest) = (0, k, x.length, v)) (hx : x ≠ []) (p : Nat) (acc : List Tok) :
    sc (x ++ rest).length (x ++ rest) p acc = sc rest.length rest (p + x.length) (acc ++ [(k, x, v, p)]) := by
  cases x with
  | nil => exact absurd rfl hx
  | cons c r =>
    obtain ⟨h1, h2⟩ := tk_head c (r ++ rest) (by rw [← List.cons_append, h])
    have d1 : (c :: (r ++ rest)).drop (c :: r).length = rest := List.drop_left (l₁ := c :: r)
    have d2 : (c :: (r ++ rest)).take (c :: r).length = c :: r := List.take_left (l₁ := c :: r)
    rw [List.cons_append] at h ⊢
    rw [List.length_cons, sc_cons, if_neg (by rw [h1]; decide), if_neg h2, h, if_neg (by simp)]
    simp only [d1, d2]
    exact sc_fuel _ _ _ _ _ (by rw [List.length_append]; omega) (Nat.le_refl _)
theorem sc_space (rest : List UInt8) (p : Nat) (acc : List Tok) : sc (32 :: rest).length (32 :: rest) p acc = sc rest.length rest (p + 1) acc := by
  rw [List.length_cons, sc_cons, if_pos (by decide)]
def Lx (s : List UInt8) (ts : List Tri) : Prop := ∀ rest, Sp rest → ∀ p acc, ∃ m q, m.map strip = ts ∧ sc (s ++ rest).length (s ++ rest) p acc = sc rest.length rest q (acc ++ m)
theorem Lx.cons {x s : List UInt8} {k v : Nat} {ts : List Tri} (h : ∀ rest, tk (x ++ (s ++ rest)) = (0, k, x.length, v)) (hx : x ≠ []) (hs : Lx s ts) : Lx (x ++ s) ((k, x, v) :: ts) := by
  intro rest hr p acc
  obtain ⟨m, q, h1, h2⟩ := hs rest hr (p + x.length) (acc ++ [(k, x, v, p)])
  refine ⟨(k, x, v, p) :: m, q, by rw [List.map_cons, h1]; rfl, ?_⟩
  rw [List.append_assoc, sc_one x (s ++ rest) k v (h rest) hx, h2, List.append_assoc]; rfl
theorem Lx.blank {s : List UInt8} {ts : List Tri} (h : Lx s ts) : Lx (32 :: s) ts := by
  intro rest hr p acc
  obtain ⟨m, q, e1, e2⟩ := h rest hr (p + 1) acc
  exact ⟨m, q, e1, by rw [List.cons_append, sc_space, e2]⟩
theorem okN_num {x : Nd} (h : okN x = true) (ho : x.op = 1) : 0 ≤ x.n ∧ x.n ≤ 9999 ∧ x.nm = ⟨#[]⟩ ∧ x.inn = ⟨#[]⟩ := by
  unfold okN at h
  rw [if_pos ho] at h
  simp only [Bool.and_eq_true, numB, decide_eq_true_eq] at h
  exact ⟨h.2.1.1, h.2.1.2, empty_of_size _ h.2.2.1, empty_of_size _ h.2.2.2⟩
end Go.Proofs.YtlpgafgiljffhaaGreatDoor
namespace Go.Proofs.YtlpgafgiljffhaaGreatDoor
open Go.RowKit
def Nd.er (x : Nd) : Nd := ⟨x.op, x.n, x.nm, x.inn, 0⟩
def Ex.er : Ex → Ex
  | .leaf x => .leaf x.er
  | .un x a => .un x.er a.er
  | .bin x a b => .bin x.er a.er b.er
theorem okN_of' {x : Nd} (h : okN x = true) (ho : x.op = 4) : nameB x.nm = true ∧ nameB x.inn = true ∧ x.n = 0 := by
  unfold okN at h
  rw [if_neg (by omega), if_neg (by omega), if_pos ho] at h
  simp only [Bool.and_eq_true, decide_eq_true_eq] at h
  exact ⟨h.2.2.1, h.2.2.2, h.2.1⟩
theorem run_op (l : List Tok) (f d i : Nat) : run l (f + 1) (.lv 5) d i =
    if sgAt l i [33] then
      if d = 30 then some (.err 7 (plc l i)) else
      match run l f (.lv 5) (d + 1) (i + 1) with
      | none => none
      | some (.err k a) => some (.err k a)
      | some (.ok e j) => some (.ok (.un (opN 5 (plc l i)) e) j)
    else if sgAt l i [40] then
      if d = 30 then some (.err 7 (plc l i)) else
      match run l f (.lv 0) (d + 1) (i + 1) with
      | none => none
      | some (.err k a) => some (.err k a)
      | some (.ok e j) => if sgAt l j [41] then some (.ok e (j + 1)) else some (refR l j)
    else if nmAt l i then some (namedR l i)
    else if nuAt l i then some (.ok (.leaf ⟨1, (tokO l i).2.2.1, ⟨#[]⟩, ⟨#[]⟩, plc l i⟩) (i + 1))
    else some (refR l i) := rfl
theorem run_lv (l : List Tok) (f d i n : Nat) (h : n ≠ 5) : run l (f + 1) (.lv n) d i =
    match run l f (.lv (n + 1)) d i with
      | none => none
      | some (.err k a) => some (.err k a)
      | some (.ok e j) => run l f (.more n e) d j := by
  rw [run, if_neg h]
  rfl
theorem run_mo (l : List Tok) (f d i n : Nat) (e : Ex) : run l (f + 1) (.more n e) d i =
    if which l i (opsOf n) = 0 then some (.ok e i) else
    match run l f (.lv (n + 1)) d (i + 1) with
    | none => none
    | some (.err k a) => some (.err k a)
    | some (.ok y j) => if n = 2 then some (.ok (.bin (opN (which l i (opsOf n)) (plc l i)) e y) j) else run l f (.more n (.bin (opN (which l i (opsOf n)) (plc l i)) e y)) d j := rfl
theorem run_pos {l : List Tok} {f : Nat} {c : Cmd} {d i : Nat} {r : Res} (h : run l f c d i = some r) : ∃ g, f = g + 1 := by
  cases f with
  | zero => cases h
  | succ g => exact ⟨g, rfl⟩
theorem up (l : List Tok) (d i j m : Nat) (e : Ex) : ∀ k f, run l f (.lv (m + k)) d i = some (.ok e j) → m + k ≤ 5 → (∀ q, q < 5 → m ≤ q → which l j (opsOf q) = 0) → ∃ g, run l g (.lv m) d i = some (.ok e j) := by
  intro k
  induction k with
  | zero => intro f h _ _; exact ⟨f, h⟩
  | succ k ih =>
    intro f h hk hq
    refine ih (f + 1) ?_ (by omega) hq
    rw [run_lv _ _ _ _ _ (by omega), show m + k + 1 = m + (k + 1) from rfl, h]
    obtain ⟨g, rfl⟩ := run_pos h
    show run l (g + 1) (.more (m + k) e) d j = _
    rw [run_mo, if_pos (hq _ (by omega) (by omega))]
end Go.Proofs.YtlpgafgiljffhaaGreatDoor
namespace Go.Proofs.YtlpgafgiljffhaaGreatDoor
open Go.RowKit
def Fit (e : Ex) : Prop := e.wf ∧ ∀ x ∈ e.flat, okN x = true ∧ x.op ≠ 3
def GoodR (N : Nat) : Res → Prop
  | .ok e _ => Fit e
  | .err k a => k ≠ 0 ∧ a ≤ N
def PlOK (N : Nat) (l : List Tok) : Prop := ∀ i, (tokO l i).2.2.2 + (tokO l i).2.1.length ≤ N
theorem plc_good {N : Nat} {l : List Tok} (h : PlOK N l) (i : Nat) : plc l i ≤ N := by have := h i; unfold plc; omega
theorem refR_good {N : Nat} {l : List Tok} (h : PlOK N l) (i : Nat) : GoodR N (refR l i) := by
  unfold refR refK
  by_cases h1 : i < l.length
  · rw [if_pos h1]; exact ⟨by show 5 ≠ 0; decide, plc_good h i⟩
  · rw [if_neg h1]
    refine ⟨by show 6 ≠ 0; decide, ?_⟩
    show (if l.length = 0 then 0 else _) ≤ N
    split
    · exact Nat.zero_le _
    · exact h _
theorem opN_ok (o pl : Nat) (h : 5 ≤ o) : okN (opN o pl) = true ∧ (opN o pl).op ≠ 3 := by
  refine ⟨?_, by show (o : Int) ≠ 3; omega⟩
  have h1 : ¬ ((o : Int) = 1) := by omega
  have h2 : ¬ ((o : Int) = 2 ∨ (o : Int) = 3) := by omega
  have h3 : ¬ ((o : Int) = 4) := by omega
  unfold okN opN
  simp only [if_neg h1, if_neg h2, if_neg h3]
  simp [ByteArray.size]
theorem ops_ar (n o : Nat) (h : o ∈ opsOf n) : ar (o : Int) = 2 ∧ 5 ≤ o := by
  have key : ∀ m : Nat, m < 15 → 6 ≤ m → ar (m : Int) = 2 ∧ 5 ≤ m := by decide
  unfold opsOf at h
  split at h <;> simp at h
  all_goals exact key o (by omega) (by omega)
theorem named_good {N : Nat} {l : List Tok} (h : PlOK N l) (i : Nat) (hn : nmAt l i = true) : GoodR N (namedR l i) := by
  have hb : ∀ j, nmAt l j = true → nameB (txt l j) = true := by
    intro j hj
    unfold nmAt at hj
    rw [Bool.and_eq_true] at hj
    exact hj.2
  have h1 := hb i hn
  unfold namedR
  by_cases h46 : sgAt l (i + 1) [46] = true
  · rw [if_pos h46]
    by_cases h2 : nmAt l (i + 2) = true
    · rw [if_pos h2]
      have h3 := hb _ h2
      refine ⟨by show ar 4 = 0; decide, fun x hx => ?_⟩
      obtain rfl := List.mem_singleton.1 hx
      exact ⟨by simp [okN, h1, h3], by show (4 : Int) ≠ 3; decide⟩
    · rw [if_neg h2]; exact refR_good h _
  · rw [if_neg h46]
    refine ⟨by show ar 2 = 0; decide, fun x hx => ?_⟩
    obtain rfl := List.mem_singleton.1 hx
    exact ⟨by simp [okN, h1, ByteArray.size], by show (2 : Int) ≠ 3; decide⟩
theorem run_good {N : Nat} {l : List Tok} (h : PlOK N l) : ∀ (f : Nat) (c : Cmd) (d i : Nat) (r : Res), (∀ n e, c = .more n e → Fit e) → run l f c d i = some r → GoodR N r := by
  intro f
  induction f with
  | zero => intro c d i r _ hr; cases hr
  | succ f ih =>
    intro c d i r hc hr
    cases c with
    | lv n =>
      by_cases h5 : n = 5
      · subst h5
        rw [run_op] at hr
        by_cases h33 : sgAt l i [33] = true
        · rw [if_pos h33] at hr
          by_cases hd : d = 30
          · rw [if_pos hd] at hr
            cases hr
            exact ⟨by decide, plc_good h i⟩
          · rw [if_neg hd] at hr
            cases h1 : run l f (.lv 5) (d + 1) (i + 1) with
            | none => rw [h1] at hr; cases hr
            | some r1 =>
              rw [h1] at hr
              have hg := ih (.lv 5) _ _ _ (fun n e hh => by cases hh) h1
              cases r1 with
              | err k a => cases hr; exact hg
              | ok e j =>
                cases hr
                refine ⟨⟨by show ar 5 = 1; decide, hg.1⟩, fun x hx => ?_⟩
                rcases List.mem_cons.1 hx with rfl | hx
                · exact opN_ok 5 _ (by decide)
                · exact hg.2 x hx
        · rw [if_neg h33] at hr
          by_cases h40 : sgAt l i [40] = true
          · rw [if_pos h40] at hr
            by_cases hd : d = 30
            · rw [if_pos hd] at hr
              cases hr
              exact ⟨by decide, plc_good h i⟩
            · rw [if_neg hd] at hr
              cases h1 : run l f (.lv 0) (d + 1) (i + 1) with
              | none => rw [h1] at hr; cases hr
              | some r1 =>
                rw [h1] at hr
                have hg := ih (.lv 0) _ _ _ (fun n e hh => by cases hh) h1
                cases r1 with
                | err k a => cases hr; exact hg
                | ok e j =>
                  by_cases h41 : sgAt l j [41] = true
                  · simp only [if_pos h41] at hr
                    cases hr
                    exact hg
                  · simp only [if_neg h41] at hr
                    cases hr
                    exact refR_good h j
          · rw [if_neg h40] at hr
            by_cases hn : nmAt l i = true
            · rw [if_pos hn] at hr
              cases hr
              exact named_good h i hn
            · rw [if_neg hn] at hr
              by_cases hu : nuAt l i = true
              · rw [if_pos hu] at hr
                cases hr
                refine ⟨by show ar 1 = 0; decide, fun x hx => ?_⟩
                obtain rfl := List.mem_singleton.1 hx
                unfold nuAt at hu
                rw [Bool.and_eq_true] at hu
                exact ⟨by simp [okN, hu.2, ByteArray.size], by show (1 : Int) ≠ 3; decide⟩
              · rw [if_neg hu] at hr
                cases hr
                exact refR_good h i
      · rw [run_lv _ _ _ _ _ h5] at hr
        cases h1 : run l f (.lv (n + 1)) d i with
        | none => rw [h1] at hr; cases hr
        | some r1 =>
          rw [h1] at hr
          have hg := ih (.lv (n + 1)) _ _ _ (fun n e hh => by cases hh) h1
          cases r1 with
          | err k a => cases hr; exact hg
          | ok e j => exact ih _ _ _ _ (fun n e hh => by cases hh; exact hg) hr
    | more n e =>
      have he := hc n e rfl
      rw [run_mo] at hr
      by_cases hw : which l i (opsOf n) = 0
      · rw [if_pos hw] at hr
        cases hr
        exact he
      · rw [if_neg hw] at hr
        obtain ⟨ho1, ho2⟩ := ops_ar n _ (which_mem hw)
        cases h1 : run l f (.lv (n + 1)) d (i + 1) with
        | none => rw [h1] at hr; cases hr
        | some r1 =>
          rw [h1] at hr
          have hg := ih (.lv (n + 1)) _ _ _ (fun n e hh => by cases hh) h1
          cases r1 with
          | err k a => cases hr; exact hg
          | ok y j =>
            have hb : Fit (.bin (opN (which l i (opsOf n)) (plc l i)) e y) := by
              refine ⟨⟨ho1, he.1, hg.1⟩, fun x hx => ?_⟩
              rcases List.mem_cons.1 hx with rfl | hx
              · exact opN_ok _ _ ho2
              · rcases List.mem_append.1 hx with hx | hx
                · exact he.2 x hx
                · exact hg.2 x hx
            by_cases h2 : n = 2
            · simp only [if_pos h2] at hr
              cases hr
              exact hb
            · simp only [if_neg h2] at hr
              exact ih _ _ _ _ (fun n e hh => by cases hh; exact hb) hr
theorem fit_right {e : Ex} (h : Fit e) (hd : e.depth ≤ 30) (hs : e.size ≤ 200) : rightP e.flat :=
  ⟨e, h.1, rfl, by rw [e.flat_length]; exact hs, List.all_eq_true.2 fun x hx => (h.2 x hx).1, hd⟩
end Go.Proofs.YtlpgafgiljffhaaGreatDoor

namespace Go.Proofs.YtlpgafgiljffhaaGreatDoor
open Go.RowKit
def FitR (L S i : Nat) : Res → Prop
  | .ok e j => i ≤ j ∧ j ≤ L ∧ e.size ≤ S + (j - i)
  | .err k _ => k ≠ 0
theorem refR_fit (l : List Tok) (L S i j : Nat) : FitR L S i (refR l j) := by
  unfold refR refK
  by_cases h : j < l.length
  · rw [if_pos h]; show 5 ≠ 0; decide
  · rw [if_neg h]; show 6 ≠ 0; decide
theorem run_fit {l : List Tok} : ∀ (f : Nat) (c : Cmd) (d i : Nat) (r : Res) (S : Nat), i ≤ l.length → (∀ n, c = .lv n → S = 0) → (∀ n e, c = .more n e → e.size ≤ S) → run l f c d i = some r →
    FitR l.length S i r ∧ (∀ n e j, c = .lv n → r = .ok e j → i < j) := by
  intro f
  induction f with
  | zero => intro c d i r S _ _ _ hr; cases hr
  | succ f ih =>
    intro c d i r S hi hS0 hc hr
    cases c with
    | lv n =>
      obtain rfl := hS0 n rfl
      by_cases h5 : n = 5
      · subst h5
        rw [run_op] at hr
        by_cases h33 : sgAt l i [33] = true
        · have hlt := sgAt_lt h33
          rw [if_pos h33] at hr
          by_cases hd : d = 30
          · rw [if_pos hd] at hr; cases hr
            exact ⟨by show 7 ≠ 0; decide, fun n e j _ h => by cases h⟩
          · rw [if_neg hd] at hr
            cases h1 : run l f (.lv 5) (d + 1) (i + 1) with
            | none => rw [h1] at hr; cases hr
            | some r1 =>
              rw [h1] at hr
              obtain ⟨hg, hg2⟩ := ih (.lv 5) _ _ _ 0 (by omega) (fun n h => rfl) (fun n e hh => by cases hh) h1
              cases r1 with
              | err k a => cases hr; exact ⟨hg, fun n e j _ h => by cases h⟩
              | ok e j =>
                cases hr
                obtain ⟨g1, g2, g3⟩ := hg
                refine ⟨⟨by omega, g2, ?_⟩, fun n e j _ h => by cases h; omega⟩
                show e.size + 1 ≤ _
                have := hg2 5 e j rfl rfl
                omega
        · rw [if_neg h33] at hr
          by_cases h40 : sgAt l i [40] = true
          · have hlt := sgAt_lt h40
            rw [if_pos h40] at hr
            by_cases hd : d = 30
            · rw [if_pos hd] at hr; cases hr
              exact ⟨by show 7 ≠ 0; decide, fun n e j _ h => by cases h⟩
            · rw [if_neg hd] at hr
              cases h1 : run l f (.lv 0) (d + 1) (i + 1) with
              | none => rw [h1] at hr; cases hr
              | some r1 =>
                rw [h1] at hr
                obtain ⟨hg, hg2⟩ := ih (.lv 0) _ _ _ 0 (by omega) (fun n h => rfl) (fun n e hh => by cases hh) h1
                cases r1 with
                | err k a => cases hr; exact ⟨hg, fun n e j _ h => by cases h⟩
                | ok e j =>
                  by_cases h41 : sgAt l j [41] = true
                  · simp only [if_pos h41] at hr
                    cases hr
                    obtain ⟨g1, g2, g3⟩ := hg
                    have hj := sgAt_lt h41
                    exact ⟨⟨by omega, by omega, by omega⟩, fun n e j _ h => by cases h; omega⟩
                  · simp only [if_neg h41] at hr
                    cases hr
                    exact ⟨refR_fit _ _ _ _ _, fun n e j _ h => by cases h⟩
          · rw [if_neg h40] at hr
            by_cases hn : nmAt l i = true
            · have hlt := nmAt_lt hn
              rw [if_pos hn] at hr
              cases hr
              unfold namedR
              by_cases h46 : sgAt l (i + 1) [46] = true
              · rw [if_pos h46]
                by_cases h2 : nmAt l (i + 2) = true
                · have hlt2 := nmAt_lt h2
                  rw [if_pos h2]
                  exact ⟨⟨by omega, by omega, by show 1 ≤ _; omega⟩, fun n e j _ h => by cases h; omega⟩
                · rw [if_neg h2]
                  exact ⟨refR_fit _ _ _ _ _, fun n e j _ h => by cases h⟩
              · rw [if_neg h46]
                exact ⟨⟨by omega, by omega, by show 1 ≤ _; omega⟩, fun n e j _ h => by cases h; omega⟩
            · rw [if_neg hn] at hr
              by_cases hu : nuAt l i = true
              · have hlt := nuAt_lt hu
                rw [if_pos hu] at hr
                cases hr
                exact ⟨⟨by omega, by omega, by show 1 ≤ _; omega⟩, fun n e j _ h => by cases h; omega⟩
              · rw [if_neg hu] at hr
                cases hr
                exact ⟨refR_fit _ _ _ _ _, fun n e j _ h => by cases h⟩
      · rw [run_lv _ _ _ _ _ h5] at hr
        cases h1 : run l f (.lv (n + 1)) d i with
        | none => rw [h1] at hr; cases hr
        | some r1 =>
          rw [h1] at hr
          obtain ⟨hg, hg2⟩ := ih (.lv (n + 1)) _ _ _ 0 hi (fun n h => rfl) (fun n e hh => by cases hh) h1
          cases r1 with
          | err k a => cases hr; exact ⟨hg, fun n e j _ h => by cases h⟩
          | ok e j =>
            obtain ⟨g1, g2, g3⟩ := hg
            have hj := hg2 _ e j rfl rfl
            obtain ⟨k1, _⟩ := ih _ _ _ _ (j - i) g2 (fun n h => by cases h) (fun n e hh => by cases hh; omega) hr
            cases r with
            | err k a => exact ⟨k1, fun n e j _ h => by cases h⟩
            | ok e2 j2 =>
              obtain ⟨k2, k3, k4⟩ := k1
              exact ⟨⟨by omega, k3, by omega⟩, fun n e j _ h => by cases h; omega⟩
    | more n e =>
      have he := hc n e rfl
      rw [run_mo] at hr
      by_cases hw : which l i (opsOf n) = 0
      · rw [if_pos hw] at hr
        cases hr
        exact ⟨⟨Nat.le_refl _, hi, by omega⟩, fun n e j h => by cases h⟩
      · rw [if_neg hw] at hr
        have hlt := which_lt hw
        cases h1 : run l f (.lv (n + 1)) d (i + 1) with
        | none => rw [h1] at hr; cases hr
        | some r1 =>
          rw [h1] at hr
          obtain ⟨hg, hg2⟩ := ih (.lv (n + 1)) _ _ _ 0 (by omega) (fun n h => rfl) (fun n e hh => by cases hh) h1
          cases r1 with
          | err k a => cases hr; exact ⟨hg, fun n e j h => by cases h⟩
          | ok y j =>
            obtain ⟨g1, g2, g3⟩ := hg
            have hj := hg2 _ y j rfl rfl
            have hs : (Ex.bin (opN (which l i (opsOf n)) (plc l i)) e y).size ≤ S + (j - i) := by show e.size + y.size + 1 ≤ _; omega
            by_cases h2 : n = 2
            · simp only [if_pos h2] at hr
              cases hr
              exact ⟨⟨by omega, g2, hs⟩, fun n e j h => by cases h⟩
            · simp only [if_neg h2] at hr
              obtain ⟨k1, _⟩ := ih _ _ _ _ (S + (j - i)) g2 (fun n h => by cases h) (fun n e hh => by cases hh; exact hs) hr
              cases r with
              | err k a => exact ⟨k1, fun n e j h => by cases h⟩
              | ok e2 j2 =>
                obtain ⟨k2, k3, k4⟩ := k1
                exact ⟨⟨by omega, k3, by omega⟩, fun n e j h => by cases h⟩
end Go.Proofs.YtlpgafgiljffhaaGreatDoor
