/- What both Names do. What both Shows do. Scanning and parsing a text. Parsing a text that was scanned. What is shown of a tree has the tree's tokens. What is shown of a right tree is read as that tree, but for its places. What is read is right; where what is wrong stands. -/
import Derived.Test.YtidjkihkoggjdaaGreatDoorKa
import Derived.Test.YtidjkihkoggjdaaGreatDoorRd
import Derived.Laws.IdiomStrings
import Derived.Test.YtidjkihkoggjdaaGreatDoorNh
import Derived.Test.YtidjkihkoggjdaaGreatDoorRa
import Derived.Test.YtidjkihkoggjdaaGreatDoorH
import Derived.Test.YtidjkihkoggjdaaGreatDoorTa
namespace Go.Proofs.YtidjkihkoggjdaaGreatDoor
open Go.RowKit
def isNm (x : Nd) : Bool := decide (x.op = 2 ∨ x.op = 3 ∨ x.op = 4)
def namesL (l : List Nd) : List Nd := l.filter isNm
end Go.Proofs.YtidjkihkoggjdaaGreatDoor

namespace Go.Proofs.YtidjkihkoggjdaaGreatDoor
open Go.RowKit
open Classical in
noncomputable def textOf (l : List Nd) : List UInt8 := if h : rightP l then showE h.choose else []
theorem textOf_no (l : List Nd) (h : ¬ rightP l) : textOf l = [] := dif_neg h
theorem textOf_tree (l : List Nd) (h : rightP l) (e : Ex) (hw : e.wf) (he : e.flat = l) : textOf l = showE e := by
  unfold textOf
  rw [dif_pos h]
  obtain ⟨h1, h2, _⟩ := h.choose_spec
  rw [Ex.flat_inj _ e h1 hw (h2.trans he.symm)]
theorem rightP_oks {e : Ex} (h : rightP e.flat) : (∀ x ∈ e.flat, okN x = true) ∧ e.size ≤ 200 := by
  obtain ⟨_, _, _, h2, h3, _⟩ := h
  rw [e.flat_length] at h2
  exact ⟨fun x hx => List.all_eq_true.1 h3 x hx, h2⟩
set_option maxRecDepth 100000 in
set_option maxHeartbeats 1000000 in
theorem shown_any (l : List Nd) (v : Value) (w : World) (hv : NdsC w v l) (hn : l.length ≤ 100000) (hz : NmOK l) (ht : Tabs w) :
    Calls Tryz.prog 57 #[v] w (TextIs (textOf l) w) := by
  by_cases h : rightP l
  · have HR := right_any l v w hv.nds hn hz true (right_yes l h)
    obtain ⟨e, hw, he, _⟩ := id h
    rw [textOf_tree l h e hw he]
    subst he
    obtain ⟨h1, h2⟩ := rightP_oks h
    have HT : Hid (∀ w', Below w.heap.size w w' → Calls Tryz.prog 111 #[v] w' (TextIs (showE e) w')) := fun w' hb => text_any e hw h1 (by omega) v w' (hv.below hb) (ht.below hb)
    obtain ⟨s, hs⟩ : ∃ s, s = showE e := ⟨_, rfl⟩
    rw [← hs] at HT ⊢
    unfold TextIs at HT
    clear hv ht hz hn h hw h1 h2 hs
    go_enter Tryz.func57, Tryz.ntmps57
    go_wp2_with fail
    refine HR.mono ?_
    rintro _ w1 ⟨rfl, hb1⟩
    go_wp2_with fail
    refine (HT.out w1 hb1).mono ?_
    rintro _ w2 ⟨rfl, hb2⟩
    go_wp2
    go_ret
    exact ⟨rfl, hb1.trans (hb2.mono hb1.size)⟩
  · have HR := right_any l v w hv.nds hn hz false (right_no l h)
    rw [textOf_no l h]
    clear hv ht hz hn h
    go_enter Tryz.func57, Tryz.ntmps57
    go_wp2_with fail
    refine HR.mono ?_
    rintro _ w1 ⟨rfl, hb1⟩
    go_wp2
    go_ret
    exact ⟨rfl, hb1⟩
end Go.Proofs.YtidjkihkoggjdaaGreatDoor
namespace Go.Proofs.YtidjkihkoggjdaaGreatDoor
open Go.RowKit
theorem rowN_at (l : List Nd) : ∀ i, (h : i < l.length) → (rowN l)[i * 5]? = some (.int .i64 (l[i]).op) ∧ (rowN l)[i * 5 + 1]? = some (.int .i64 (l[i]).n) ∧ (rowN l)[i * 5 + 2]? = some (.string (l[i]).nm) ∧ (rowN l)[i * 5 + 3]? = some (.string (l[i]).inn) ∧ (rowN l)[i * 5 + 4]? = some (.int .i64 (l[i]).pl) := by
  induction l with
  | nil => intro i h; exact absurd h (Nat.not_lt_zero _)
  | cons a l ih =>
    intro i h
    have hr : rowN (a :: l) = a.cells ++ rowN l := rfl
    have hl : a.cells.length = 5 := rfl
    cases i with
    | zero => refine ⟨?_, ?_, ?_, ?_, ?_⟩ <;> rw [hr, List.getElem?_append_left (by rw [hl]; omega)] <;> rfl
    | succ i =>
      have := ih i (by simpa using h)
      rw [hr]
      simp only [List.getElem_cons_succ]
      refine ⟨?_, ?_, ?_, ?_, ?_⟩ <;> rw [List.getElem?_append_right (by rw [hl]; omega), hl]
      · rw [show (i + 1) * 5 - 5 = i * 5 by omega]; exact this.1
      · rw [show (i + 1) * 5 + 1 - 5 = i * 5 + 1 by omega]; exact this.2.1
      · rw [show (i + 1) * 5 + 2 - 5 = i * 5 + 2 by omega]; exact this.2.2.1
      · rw [show (i + 1) * 5 + 3 - 5 = i * 5 + 3 by omega]; exact this.2.2.2.1
      · rw [show (i + 1) * 5 + 4 - 5 = i * 5 + 4 by omega]; exact this.2.2.2.2
theorem ndsC_of_own {w : World} {B : Nat} {v : Value} {l : List Nd} (h : w.ownsRow B 46 5 v l.length (rowN l)) : NdsC w v l := by
  have hl := h.lt
  have hc := @World.ownsRow.cells _ _ _ _ _ _ _ h
  rcases h.2 with ⟨rfl, h0⟩ | ⟨g, cap, cur, rfl, _, hg, h1, h2, _⟩
  · have := List.eq_nil_of_length_eq_zero h0
    subst this
    exact ⟨none, 0, rfl, Nat.zero_le _, by omega, fun i hi => absurd hi (Nat.not_lt_zero _)⟩
  · refine ⟨_, cap, rfl, h1, by unfold maxLen at h2; omega, fun i hi => ?_⟩
    obtain ⟨r0, r1, r2, r3, r4⟩ := rowN_at l i hi
    have k0 := hc (g := g) rfl _ _ r0
    have k1 := hc (g := g) rfl _ _ r1
    have k2 := hc (g := g) rfl _ _ r2
    have k3 := hc (g := g) rfl _ _ r3
    have k4 := hc (g := g) rfl _ _ r4
    rw [addr_add] at k0 k1 k2 k3 k4
    refine ⟨g, 0, rfl, (hl g rfl).2, ?_⟩
    rw [Nat.zero_add]
    exact ⟨k0, k1, k2, k3, k4⟩
end Go.Proofs.YtidjkihkoggjdaaGreatDoor
namespace Go.Proofs.YtidjkihkoggjdaaGreatDoor
open Go.RowKit
theorem tk_num (l : List UInt8) (k n v : Nat) (h : tk l = (0, k, n, v)) : v ≤ 9999 := by
  cases l with
  | nil => simp [tk] at h
  | cons c r =>
    rw [tk] at h
    by_cases h1 : ltr (c.toNat : Int) = true
    · rw [if_pos h1] at h
      by_cases h2 : 16 < spanN wrd (c :: r)
      · rw [if_pos h2] at h; simp only [Prod.mk.injEq] at h; omega
      · rw [if_neg h2] at h; simp only [Prod.mk.injEq] at h; omega
    · rw [if_neg h1] at h
      by_cases h2 : dig (c.toNat : Int) = true
      · rw [if_pos h2] at h
        by_cases h3 : 9999 < numV ((c :: r).take (spanN dig (c :: r)))
        · rw [if_pos h3] at h; simp only [Prod.mk.injEq] at h; omega
        · rw [if_neg h3] at h; simp only [Prod.mk.injEq] at h; omega
      · rw [if_neg h2] at h
        by_cases h3 : 0 < sgnN (c :: r)
        · rw [if_pos h3] at h; simp only [Prod.mk.injEq] at h; omega
        · rw [if_neg h3] at h; simp only [Prod.mk.injEq] at h; omega
theorem scan_tokOK (l : List UInt8) (h : l.length ≤ 20000) : TokOK (scanL l).1 := by
  intro i
  have hp := (scanL_place l h).1
  have hg := scanL_good l
  obtain ⟨ts, hts⟩ : ∃ ts, ts = (scanL l).1 := ⟨_, rfl⟩
  rw [← hts] at hp hg ⊢
  by_cases hi : i < ts.length
  · have e : tokO ts i = ts[i] := by simp [tokO, hi]
    rw [e]
    have h1 := hp _ (List.getElem_mem hi)
    have h2 := hg _ (List.getElem_mem hi)
    unfold Pl at h1
    unfold Good at h2
    have h3 := tk_num _ _ _ _ h2
    omega
  · have e : tokO ts i = (0, [], 0, 0) := by simp [tokO, hi]
    rw [e]
    simp
theorem scan_few (l : List UInt8) (h : l.length ≤ 20000) : (scanL l).1.length ≤ 40000 := by
  have h1 := scanL_lenS l
  have h2 := length_le_lenS (scanL l).1
  omega
def k1 : List UInt8 := [97, 32, 43, 32, 98, 32, 42, 32, 50, 32, 59]
def k2 : List UInt8 := [97, 32, 45, 32, 116, 46, 98, 32, 45, 32, 33, 99]
def k3 : List UInt8 := [40, 97, 32, 43, 32, 59]
def k4 : List UInt8 := [97, 32, 60]
def ndN (s : List UInt8) (pl : Int) : Nd := ⟨2, 0, ⟨s.toArray⟩, ⟨#[]⟩, pl⟩
def e1 : Ex := .bin (opN 6 2) (.leaf (ndN [97] 0)) (.bin (opN 8 6) (.leaf (ndN [98] 4)) (.leaf ⟨1, 2, ⟨#[]⟩, ⟨#[]⟩, 8⟩))
def e2 : Ex := .bin (opN 7 8) (.bin (opN 7 2) (.leaf (ndN [97] 0)) (.leaf ⟨4, 0, ⟨#[98]⟩, ⟨#[116]⟩, 4⟩)) (.un (opN 5 10) (.leaf (ndN [99] 11)))
def t1 : List Tok := [(1, [97], 0, 0), (3, [43], 0, 2), (1, [98], 0, 4), (3, [42], 0, 6), (2, [50], 2, 8), (3, [59], 0, 10)]
def t2 : List Tok := [(1, [97], 0, 0), (3, [45], 0, 2), (1, [116], 0, 4), (3, [46], 0, 5), (1, [98], 0, 6), (3, [45], 0, 8), (3, [33], 0, 10), (1, [99], 0, 11)]
def t3 : List Tok := [(3, [40], 0, 0), (1, [97], 0, 1), (3, [43], 0, 3), (3, [59], 0, 5)]
def t4 : List Tok := [(1, [97], 0, 0), (3, [60], 0, 2)]
theorem s1 : (scanL k1).1 = t1 := by decide +kernel
theorem s2 : (scanL k2).1 = t2 := by decide +kernel
theorem s3 : (scanL k3).1 = t3 := by decide +kernel
theorem s4 : (scanL k4).1 = t4 := by decide +kernel
theorem p1 : parseR t1 0 = .ok e1 5 := (parse_of t1 0 60 (.ok e1 5) (by decide) (by kernel_rfl)).trans (by rfl)
theorem p2 : parseR t2 0 = .ok e2 8 := (parse_of t2 0 70 (.ok e2 8) (by decide) (by kernel_rfl)).trans (by rfl)
theorem p3 : parseR t3 0 = .err 5 5 := (parse_of t3 0 60 (.err 5 5) (by decide) (by kernel_rfl)).trans (by rfl)
theorem p4 : parseR t4 0 = .err 6 3 := (parse_of t4 0 60 (.err 6 3) (by decide) (by kernel_rfl)).trans (by rfl)
theorem r1 : rightP e1.flat := ⟨e1, by simp [e1, Ex.wf, opN, ndN, ar], rfl, by decide +kernel, by decide +kernel, by decide +kernel⟩
theorem r2 : rightP e2.flat := ⟨e2, by simp [e2, Ex.wf, opN, ndN, ar], rfl, by decide +kernel, by decide +kernel, by decide +kernel⟩
theorem r1' : ¬ rightP (e1.flat.drop 1) := by
  rintro ⟨e, h1, h2, _⟩
  have h := end_of_tree e h1
  rw [h2] at h
  exact absurd h (by decide +kernel)
theorem x1 : textOf e1.flat = [97, 32, 43, 32, 40, 98, 32, 42, 32, 50, 41] := by rw [textOf_tree _ r1 e1 (by simp [e1, Ex.wf, opN, ndN, ar]) rfl]; decide +kernel
theorem x2 : textOf e2.flat = [40, 97, 32, 45, 32, 116, 46, 98, 41, 32, 45, 32, 33, 99] := by rw [textOf_tree _ r2 e2 (by simp [e2, Ex.wf, opN, ndN, ar]) rfl]; decide +kernel
theorem d1 : DepthIs e1.flat 2 := .inl ⟨e1, by simp [e1, Ex.wf, opN, ndN, ar], rfl, r1, by decide +kernel⟩
theorem n1 : endL e1.flat 2 = 5 := by decide +kernel
theorem m2 : (namesL e2.flat).length = 3 := by decide +kernel
end Go.Proofs.YtidjkihkoggjdaaGreatDoor

namespace Go.Proofs.YtidjkihkoggjdaaGreatDoor
open Go.RowKit
abbrev Tri := Nat × List UInt8 × Nat
def wrapT : Ex → List Tri → List Tri
  | .bin _ _ _, s => (3, [40], 0) :: (s ++ [(3, [41], 0)])
  | _, s => s
def tokE : Ex → List Tri
  | .leaf x => if x.op = 1 then [(2, dg x.n, x.n.toNat)] else if x.op = 4 then [(1, x.inn.data.toList, 0), (3, [46], 0), (1, x.nm.data.toList, 0)] else [(1, x.nm.data.toList, 0)]
  | .un _ a => (3, [33], 0) :: wrapT a (tokE a)
  | .bin x a b => wrapT a (tokE a) ++ (3, sgO x.op.toNat, 0) :: wrapT b (tokE b)
def Sp (rest : List UInt8) : Prop := rest = [] ∨ ∃ c b, rest = c :: b ∧ Sep c
theorem sc_one (x rest : List UInt8) (k v : Nat) (h : tk (x ++ rest) = (0, k, x.length, v)) (hx : x ≠ []) (p : Nat) (acc : List Tok) :
    sc (x ++ rest).length (x ++ rest) p acc = sc rest.length rest (p + x.length) (acc ++ [(k, x, v, p)]) := by
  cases x with
  | nil => exact absurd rfl hx
  | cons c r =>
    obtain ⟨h1, h2⟩ := tk_head c (r ++ rest) (by rw [← List.cons_append, h])
    have d1 : (c :: (r ++ rest)).drop (c :: r).length = rest := List.drop_left (l₁ := c :: r)
    have d2 : (c :: (r ++ rest)).take (c :: r).length = c :: r := List.take_left (l₁ := c :: r)
    rw [List.cons_append] at h ⊢
    rw [List.length_cons, sc_cons, if_neg (by rw [h1]; decide), if_neg h2, h, if_neg (by simp)]
    simp only [d1, d2]
    exact sc_fuel _ _ _ _ _ (by rw [List.length_append]; omega) (Nat.le_refl _)
theorem sc_space (rest : List UInt8) (p : Nat) (acc : List Tok) : sc (32 :: rest).length (32 :: rest) p acc = sc rest.length rest (p + 1) acc := by
  rw [List.length_cons, sc_cons, if_pos (by decide)]
def Lx (s : List UInt8) (ts : List Tri) : Prop := ∀ rest, Sp rest → ∀ p acc, ∃ m q, m.map strip = ts ∧ sc (s ++ rest).length (s ++ rest) p acc = sc rest.length rest q (acc ++ m)
theorem Lx.cons {x s : List UInt8} {k v : Nat} {ts : List Tri} (h : ∀ rest, tk (x ++ (s ++ rest)) = (0, k, x.length, v)) (hx : x ≠ []) (hs : Lx s ts) : Lx (x ++ s) ((k, x, v) :: ts) := by
  intro rest hr p acc
  obtain ⟨m, q, h1, h2⟩ := hs rest hr (p + x.length) (acc ++ [(k, x, v, p)])
  refine ⟨(k, x, v, p) :: m, q, by rw [List.map_cons, h1]; rfl, ?_⟩
  rw [List.append_assoc, sc_one x (s ++ rest) k v (h rest) hx, h2, List.append_assoc]; rfl
theorem Lx.blank {s : List UInt8} {ts : List Tri} (h : Lx s ts) : Lx (32 :: s) ts := by
  intro rest hr p acc
  obtain ⟨m, q, e1, e2⟩ := h rest hr (p + 1) acc
  exact ⟨m, q, e1, by rw [List.cons_append, sc_space, e2]⟩
end Go.Proofs.YtidjkihkoggjdaaGreatDoor
namespace Go.Proofs.YtidjkihkoggjdaaGreatDoor
open Go.RowKit
def Nd.er (x : Nd) : Nd := ⟨x.op, x.n, x.nm, x.inn, 0⟩
def Ex.er : Ex → Ex
  | .leaf x => .leaf x.er
  | .un x a => .un x.er a.er
  | .bin x a b => .bin x.er a.er b.er
theorem Ex.er_size (e : Ex) : e.er.size = e.size := by
  induction e with
  | leaf x => rfl
  | un x a ih => simp [Ex.er, Ex.size, ih]
  | bin x a b iha ihb => simp [Ex.er, Ex.size, iha, ihb]
theorem Ex.er_depth (e : Ex) : e.er.depth = e.depth := by
  induction e with
  | leaf x => rfl
  | un x a ih => simp [Ex.er, Ex.depth, ih]
  | bin x a b iha ihb => simp [Ex.er, Ex.depth, iha, ihb]
theorem Ex.er_flat (e : Ex) : e.er.flat = e.flat.map Nd.er := by
  induction e with
  | leaf x => rfl
  | un x a ih => simp [Ex.er, Ex.flat, ih]
  | bin x a b iha ihb => simp [Ex.er, Ex.flat, iha, ihb]
theorem run_op (l : List Tok) (f d i : Nat) : run l (f + 1) (.lv 5) d i =
    if sgAt l i [33] then
      if d = 30 then some (.err 7 (plc l i)) else
      match run l f (.lv 5) (d + 1) (i + 1) with
      | none => none
      | some (.err k a) => some (.err k a)
      | some (.ok e j) => some (.ok (.un (opN 5 (plc l i)) e) j)
    else if sgAt l i [40] then
      if d = 30 then some (.err 7 (plc l i)) else
      match run l f (.lv 0) (d + 1) (i + 1) with
      | none => none
      | some (.err k a) => some (.err k a)
      | some (.ok e j) => if sgAt l j [41] then some (.ok e (j + 1)) else some (refR l j)
    else if nmAt l i then some (namedR l i)
    else if nuAt l i then some (.ok (.leaf ⟨1, (tokO l i).2.2.1, ⟨#[]⟩, ⟨#[]⟩, plc l i⟩) (i + 1))
    else some (refR l i) := rfl
theorem run_lv (l : List Tok) (f d i n : Nat) (h : n ≠ 5) : run l (f + 1) (.lv n) d i =
    match run l f (.lv (n + 1)) d i with
      | none => none
      | some (.err k a) => some (.err k a)
      | some (.ok e j) => run l f (.more n e) d j := by
  rw [run, if_neg h]
  rfl
theorem run_mo (l : List Tok) (f d i n : Nat) (e : Ex) : run l (f + 1) (.more n e) d i =
    if which l i (opsOf n) = 0 then some (.ok e i) else
    match run l f (.lv (n + 1)) d (i + 1) with
    | none => none
    | some (.err k a) => some (.err k a)
    | some (.ok y j) => if n = 2 then some (.ok (.bin (opN (which l i (opsOf n)) (plc l i)) e y) j) else run l f (.more n (.bin (opN (which l i (opsOf n)) (plc l i)) e y)) d j := rfl
end Go.Proofs.YtidjkihkoggjdaaGreatDoor
namespace Go.Proofs.YtidjkihkoggjdaaGreatDoor
open Go.RowKit
def Fit (e : Ex) : Prop := e.wf ∧ ∀ x ∈ e.flat, okN x = true ∧ x.op ≠ 3
def GoodR (N : Nat) : Res → Prop
  | .ok e _ => Fit e
  | .err k a => k ≠ 0 ∧ a ≤ N
def PlOK (N : Nat) (l : List Tok) : Prop := ∀ i, (tokO l i).2.2.2 + (tokO l i).2.1.length ≤ N
theorem plc_good {N : Nat} {l : List Tok} (h : PlOK N l) (i : Nat) : plc l i ≤ N := by have := h i; unfold plc; omega
theorem refR_good {N : Nat} {l : List Tok} (h : PlOK N l) (i : Nat) : GoodR N (refR l i) := by
  unfold refR refK
  by_cases h1 : i < l.length
  · rw [if_pos h1]; exact ⟨by show 5 ≠ 0; decide, plc_good h i⟩
  · rw [if_neg h1]
    refine ⟨by show 6 ≠ 0; decide, ?_⟩
    show (if l.length = 0 then 0 else _) ≤ N
    split
    · exact Nat.zero_le _
    · exact h _
theorem opN_ok (o pl : Nat) (h : 5 ≤ o) : okN (opN o pl) = true ∧ (opN o pl).op ≠ 3 := by
  refine ⟨?_, by show (o : Int) ≠ 3; omega⟩
  have h1 : ¬ ((o : Int) = 1) := by omega
  have h2 : ¬ ((o : Int) = 2 ∨ (o : Int) = 3) := by omega
  have h3 : ¬ ((o : Int) = 4) := by omega
  unfold okN opN
  simp only [if_neg h1, if_neg h2, if_neg h3]
  simp [ByteArray.size]
theorem ops_ar (n o : Nat) (h : o ∈ opsOf n) : ar (o : Int) = 2 ∧ 5 ≤ o := by
  have key : ∀ m : Nat, m < 15 → 6 ≤ m → ar (m : Int) = 2 ∧ 5 ≤ m := by decide
  unfold opsOf at h
  split at h <;> simp at h
  all_goals exact key o (by omega) (by omega)
theorem named_good {N : Nat} {l : List Tok} (h : PlOK N l) (i : Nat) (hn : nmAt l i = true) : GoodR N (namedR l i) := by
  have hb : ∀ j, nmAt l j = true → nameB (txt l j) = true := by
    intro j hj
    unfold nmAt at hj
    rw [Bool.and_eq_true] at hj
    exact hj.2
  have h1 := hb i hn
  unfold namedR
  by_cases h46 : sgAt l (i + 1) [46] = true
  · rw [if_pos h46]
    by_cases h2 : nmAt l (i + 2) = true
    · rw [if_pos h2]
      have h3 := hb _ h2
      refine ⟨by show ar 4 = 0; decide, fun x hx => ?_⟩
      obtain rfl := List.mem_singleton.1 hx
      exact ⟨by simp [okN, h1, h3], by show (4 : Int) ≠ 3; decide⟩
    · rw [if_neg h2]; exact refR_good h _
  · rw [if_neg h46]
    refine ⟨by show ar 2 = 0; decide, fun x hx => ?_⟩
    obtain rfl := List.mem_singleton.1 hx
    exact ⟨by simp [okN, h1, ByteArray.size], by show (2 : Int) ≠ 3; decide⟩
theorem run_good {N : Nat} {l : List Tok} (h : PlOK N l) : ∀ (f : Nat) (c : Cmd) (d i : Nat) (r : Res), (∀ n e, c = .more n e → Fit e) → run l f c d i = some r → GoodR N r := by
  intro f
  induction f with
  | zero => intro c d i r _ hr; cases hr
  | succ f ih =>
    intro c d i r hc hr
    cases c with
    | lv n =>
      by_cases h5 : n = 5
      · subst h5
        rw [run_op] at hr
        by_cases h33 : sgAt l i [33] = true
        · rw [if_pos h33] at hr
          by_cases hd : d = 30
          · rw [if_pos hd] at hr
            cases hr
            exact ⟨by decide, plc_good h i⟩
          · rw [if_neg hd] at hr
            cases h1 : run l f (.lv 5) (d + 1) (i + 1) with
            | none => rw [h1] at hr; cases hr
            | some r1 =>
              rw [h1] at hr
              have hg := ih (.lv 5) _ _ _ (fun n e hh => by cases hh) h1
              cases r1 with
              | err k a => cases hr; exact hg
              | ok e j =>
                cases hr
                refine ⟨⟨by show ar 5 = 1; decide, hg.1⟩, fun x hx => ?_⟩
                rcases List.mem_cons.1 hx with rfl | hx
                · exact opN_ok 5 _ (by decide)
                · exact hg.2 x hx
        · rw [if_neg h33] at hr
          by_cases h40 : sgAt l i [40] = true
          · rw [if_pos h40] at hr
            by_cases hd : d = 30
            · rw [if_pos hd] at hr
              cases hr
              exact ⟨by decide, plc_good h i⟩
            · rw [if_neg hd] at hr
              cases h1 : run l f (.lv 0) (d + 1) (i + 1) with
              | none => rw [h1] at hr; cases hr
              | some r1 =>
                rw [h1] at hr
                have hg := ih (.lv 0) _ _ _ (fun n e hh => by cases hh) h1
                cases r1 with
                | err k a => cases hr; exact hg
                | ok e j =>
                  by_cases h41 : sgAt l j [41] = true
                  · simp only [if_pos h41] at hr
                    cases hr
                    exact hg
                  · simp only [if_neg h41] at hr
                    cases hr
                    exact refR_good h j
          · rw [if_neg h40] at hr
            by_cases hn : nmAt l i = true
            · rw [if_pos hn] at hr
              cases hr
              exact named_good h i hn
            · rw [if_neg hn] at hr
              by_cases hu : nuAt l i = true
              · rw [if_pos hu] at hr
                cases hr
                refine ⟨by show ar 1 = 0; decide, fun x hx => ?_⟩
                obtain rfl := List.mem_singleton.1 hx
                unfold nuAt at hu
                rw [Bool.and_eq_true] at hu
                exact ⟨by simp [okN, hu.2, ByteArray.size], by show (1 : Int) ≠ 3; decide⟩
              · rw [if_neg hu] at hr
                cases hr
                exact refR_good h i
      · rw [run_lv _ _ _ _ _ h5] at hr
        cases h1 : run l f (.lv (n + 1)) d i with
        | none => rw [h1] at hr; cases hr
        | some r1 =>
          rw [h1] at hr
          have hg := ih (.lv (n + 1)) _ _ _ (fun n e hh => by cases hh) h1
          cases r1 with
          | err k a => cases hr; exact hg
          | ok e j => exact ih _ _ _ _ (fun n e hh => by cases hh; exact hg) hr
    | more n e =>
      have he := hc n e rfl
      rw [run_mo] at hr
      by_cases hw : which l i (opsOf n) = 0
      · rw [if_pos hw] at hr
        cases hr
        exact he
      · rw [if_neg hw] at hr
        obtain ⟨ho1, ho2⟩ := ops_ar n _ (which_mem hw)
        cases h1 : run l f (.lv (n + 1)) d (i + 1) with
        | none => rw [h1] at hr; cases hr
        | some r1 =>
          rw [h1] at hr
          have hg := ih (.lv (n + 1)) _ _ _ (fun n e hh => by cases hh) h1
          cases r1 with
          | err k a => cases hr; exact hg
          | ok y j =>
            have hb : Fit (.bin (opN (which l i (opsOf n)) (plc l i)) e y) := by
              refine ⟨⟨ho1, he.1, hg.1⟩, fun x hx => ?_⟩
              rcases List.mem_cons.1 hx with rfl | hx
              · exact opN_ok _ _ ho2
              · rcases List.mem_append.1 hx with hx | hx
                · exact he.2 x hx
                · exact hg.2 x hx
            by_cases h2 : n = 2
            · simp only [if_pos h2] at hr
              cases hr
              exact hb
            · simp only [if_neg h2] at hr
              exact ih _ _ _ _ (fun n e hh => by cases hh; exact hb) hr
theorem fit_right {e : Ex} (h : Fit e) (hd : e.depth ≤ 30) (hs : e.size ≤ 200) : rightP e.flat :=
  ⟨e, h.1, rfl, by rw [e.flat_length]; exact hs, List.all_eq_true.2 fun x hx => (h.2 x hx).1, hd⟩
end Go.Proofs.YtidjkihkoggjdaaGreatDoor
