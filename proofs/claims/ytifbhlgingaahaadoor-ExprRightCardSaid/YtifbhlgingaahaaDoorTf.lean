/- What both Shows do. Scanning and parsing a text. Parsing a text that was scanned. -/
import Derived.Test.YtifbhlgingaahaaDoorTc
import Derived.Test.YtifbhlgingaahaaDoorTe
import Derived.Test.YtifbhlgingaahaaDoorNk
import Derived.Test.YtifbhlgingaahaaDoorNl
import Derived.Test.YtifbhlgingaahaaDoorRi
import Derived.Test.YtifbhlgingaahaaDoorP
import Derived.Test.YtifbhlgingaahaaDoorK
namespace Go.Proofs.YtifbhlgingaahaaDoor
open Go.RowKit

theorem rshow_any (L : List Nd) (hL : L.length ≤ 100000) (e : Ex) : e.wf → (∀ x ∈ e.flat, okN x = true) → e.size ≤ 1000 → ∀ v i w, NdsC w v L → AtL L i e → Calls Tryd.prog 29 #[v, .int .i64 (i : Nat)] w (TextIs (showE e) w) := by
  induction e with
  | leaf x => intro hw hok _ v i w hv he; exact show_leaf L x v i w hv he hw (hok x (by simp [Ex.flat]))
  | un x a ih =>
    intro hw hok hs v i w hv he
    have hoa : ∀ y ∈ a.flat, okN y = true := fun y hy => hok y (by simp [Ex.flat, hy])
    have hsa : a.size ≤ 1000 := by simp only [Ex.size] at hs; omega
    have hl := showE_len a hoa
    have h5 : x.op = 5 := by
      have h : ar x.op = 1 := hw.1
      unfold ar at h
      repeat (split at h <;> try omega)
    exact show_un L x a v i w hv he hL h5 (by omega) fun w' hb => opd_any L a v (i + 1) w' (hv.below hb) he.un hw.2 (by omega) (ih hw.2 hoa hsa v (i + 1) w' (hv.below hb) he.un)
  | bin x a b iha ihb =>
    intro hw hok hs v i w hv he
    have hoa : ∀ y ∈ a.flat, okN y = true := fun y hy => hok y (by simp [Ex.flat, hy])
    have hob : ∀ y ∈ b.flat, okN y = true := fun y hy => hok y (by simp [Ex.flat, hy])
    have hsa : a.size ≤ 1000 := by simp only [Ex.size] at hs; omega
    have hsb : b.size ≤ 1000 := by simp only [Ex.size] at hs; omega
    have hla := showE_len a hoa
    have hlb := showE_len b hob
    exact show_bin L x a b v i w hv he hL hw (by omega) (by omega)
      (fun w' hb => opd_any L a v (i + 1) w' (hv.below hb) he.left hw.2.1 (by omega) (iha hw.2.1 hoa hsa v (i + 1) w' (hv.below hb) he.left))
      (fun w' hb => opd_any L b v (i + 1 + a.size) w' (hv.below hb) he.right hw.2.2 (by omega) (ihb hw.2.2 hob hsb v _ w' (hv.below hb) he.right))

open Classical in
/-- The text of nodes. -/
noncomputable def textOf (l : List Nd) : List UInt8 := if h : rightP l then showE h.choose else []
theorem textOf_no (l : List Nd) (h : ¬ rightP l) : textOf l = [] := dif_neg h
theorem textOf_tree (l : List Nd) (h : rightP l) (e : Ex) (hw : e.wf) (he : e.flat = l) : textOf l = showE e := by
  unfold textOf
  rw [dif_pos h]
  obtain ⟨h1, h2, _⟩ := h.choose_spec
  rw [Ex.flat_inj _ e h1 hw (h2.trans he.symm)]

theorem rightP_oks {e : Ex} (h : rightP e.flat) : (∀ x ∈ e.flat, okN x = true) ∧ e.size ≤ 200 := by
  obtain ⟨_, _, _, h2, h3, _⟩ := h
  rw [e.flat_length] at h2
  exact ⟨fun x hx => List.all_eq_true.1 h3 x hx, h2⟩

set_option maxHeartbeats 1000000 in
theorem shown_any (l : List Nd) (v : Value) (w : World) (hv : NdsC w v l) (hn : l.length ≤ 100000) (hz : NmOK l) (ht : Tabs w) :
    Calls Tryd.prog 14 #[v] w (TextIs (textOf l) w) := by
  by_cases h : rightP l
  · have HR := right_any l v w hv.nds hn hz true (right_yes l h)
    obtain ⟨e, hw, he, _⟩ := id h
    rw [textOf_tree l h e hw he]
    subst he
    obtain ⟨h1, h2⟩ := rightP_oks h
    have HT : Hid (∀ w', Below w.heap.size w w' → Calls Tryd.prog 28 #[v] w' (TextIs (showE e) w')) := fun w' hb => text_any e hw h1 (by omega) v w' (hv.below hb) (ht.below hb)
    obtain ⟨s, hs⟩ : ∃ s, s = showE e := ⟨_, rfl⟩
    rw [← hs] at HT ⊢
    unfold TextIs at HT
    clear hv ht hz hn h hw h1 h2 hs
    go_enter Tryd.func14, Tryd.ntmps14
    go_wp2_with fail
    refine HR.mono ?_
    rintro _ w1 ⟨rfl, hb1⟩
    go_wp2_with fail
    refine (HT.out w1 hb1).mono ?_
    rintro _ w2 ⟨rfl, hb2⟩
    go_wp2
    go_ret
    exact ⟨rfl, hb1.trans (hb2.mono hb1.size)⟩
  · have HR := right_any l v w hv.nds hn hz false (right_no l h)
    rw [textOf_no l h]
    clear hv ht hz hn h
    go_enter Tryd.func14, Tryd.ntmps14
    go_wp2_with fail
    refine HR.mono ?_
    rintro _ w1 ⟨rfl, hb1⟩
    go_wp2
    go_ret
    exact ⟨rfl, hb1⟩

set_option maxHeartbeats 1000000 in
theorem rshown_any (l : List Nd) (v : Value) (w : World) (hv : NdsC w v l) (hn : l.length ≤ 100000) (hz : NmOK l) :
    Calls Tryd.prog 15 #[v] w (TextIs (textOf l) w) := by
  by_cases h : rightP l
  · have HR := rright_any l v w hv.nds hn hz true (right_yes l h)
    obtain ⟨e, hw, he, _⟩ := id h
    rw [textOf_tree l h e hw he]
    subst he
    obtain ⟨h1, h2⟩ := rightP_oks h
    have HT : Hid (∀ w', Below w.heap.size w w' → Calls Tryd.prog 29 #[v, .int .i64 0] w' (TextIs (showE e) w')) := fun w' hb => rshow_any e.flat hn e hw h1 (by omega) v 0 w' (hv.below hb) ⟨[], by simp⟩
    obtain ⟨s, hs⟩ : ∃ s, s = showE e := ⟨_, rfl⟩
    rw [← hs] at HT ⊢
    unfold TextIs at HT
    clear hv hz hn h hw h1 h2 hs
    go_enter Tryd.func15, Tryd.ntmps15
    go_wp2_with fail
    refine HR.mono ?_
    rintro _ w1 ⟨rfl, hb1⟩
    go_wp2_with fail
    refine (HT.out w1 hb1).mono ?_
    rintro _ w2 ⟨rfl, hb2⟩
    go_wp2
    go_ret
    exact ⟨rfl, hb1.trans (hb2.mono hb1.size)⟩
  · have HR := rright_any l v w hv.nds hn hz false (right_no l h)
    rw [textOf_no l h]
    clear hv hz hn h
    go_enter Tryd.func15, Tryd.ntmps15
    go_wp2_with fail
    refine HR.mono ?_
    rintro _ w1 ⟨rfl, hb1⟩
    go_wp2
    go_ret
    exact ⟨rfl, hb1⟩

end Go.Proofs.YtifbhlgingaahaaDoor

namespace Go.Proofs.YtifbhlgingaahaaDoor
open Go.RowKit

theorem rowN_at (l : List Nd) : ∀ i, (h : i < l.length) → (rowN l)[i * 5]? = some (.int .i64 (l[i]).op) ∧ (rowN l)[i * 5 + 1]? = some (.int .i64 (l[i]).n) ∧ (rowN l)[i * 5 + 2]? = some (.string (l[i]).nm) ∧ (rowN l)[i * 5 + 3]? = some (.string (l[i]).inn) ∧ (rowN l)[i * 5 + 4]? = some (.int .i64 (l[i]).pl) := by
  induction l with
  | nil => intro i h; exact absurd h (Nat.not_lt_zero _)
  | cons a l ih =>
    intro i h
    have hr : rowN (a :: l) = a.cells ++ rowN l := rfl
    have hl : a.cells.length = 5 := rfl
    cases i with
    | zero => refine ⟨?_, ?_, ?_, ?_, ?_⟩ <;> rw [hr, List.getElem?_append_left (by rw [hl]; omega)] <;> rfl
    | succ i =>
      have := ih i (by simpa using h)
      rw [hr]
      simp only [List.getElem_cons_succ]
      refine ⟨?_, ?_, ?_, ?_, ?_⟩ <;> rw [List.getElem?_append_right (by rw [hl]; omega), hl]
      · rw [show (i + 1) * 5 - 5 = i * 5 by omega]; exact this.1
      · rw [show (i + 1) * 5 + 1 - 5 = i * 5 + 1 by omega]; exact this.2.1
      · rw [show (i + 1) * 5 + 2 - 5 = i * 5 + 2 by omega]; exact this.2.2.1
      · rw [show (i + 1) * 5 + 3 - 5 = i * 5 + 3 by omega]; exact this.2.2.2.1
      · rw [show (i + 1) * 5 + 4 - 5 = i * 5 + 4 by omega]; exact this.2.2.2.2

/-- Nodes in a row of their own are nodes in a slice. -/
theorem ndsC_of_own {w : World} {B : Nat} {v : Value} {l : List Nd} (h : w.ownsRow B 32 5 v l.length (rowN l)) : NdsC w v l := by
  have hl := h.lt
  have hc := @World.ownsRow.cells _ _ _ _ _ _ _ h
  rcases h.2 with ⟨rfl, h0⟩ | ⟨g, cap, cur, rfl, _, hg, h1, h2, _⟩
  · have := List.eq_nil_of_length_eq_zero h0
    subst this
    exact ⟨none, 0, rfl, Nat.zero_le _, by omega, fun i hi => absurd hi (Nat.not_lt_zero _)⟩
  · refine ⟨_, cap, rfl, h1, by unfold maxLen at h2; omega, fun i hi => ?_⟩
    obtain ⟨r0, r1, r2, r3, r4⟩ := rowN_at l i hi
    have k0 := hc (g := g) rfl _ _ r0
    have k1 := hc (g := g) rfl _ _ r1
    have k2 := hc (g := g) rfl _ _ r2
    have k3 := hc (g := g) rfl _ _ r3
    have k4 := hc (g := g) rfl _ _ r4
    rw [addr_add] at k0 k1 k2 k3 k4
    refine ⟨g, 0, rfl, (hl g rfl).2, ?_⟩
    rw [Nat.zero_add]
    exact ⟨k0, k1, k2, k3, k4⟩

theorem tokens_any (s : ByteArray) (w : World) (hs : s.size ≤ 20000) :
    Calls Tryd.prog 19 #[.string s] w fun e w' => ∃ v, e = .returned v ∧ w'.ownsRow w.heap.size 51 4 v (scanL s.data.toList).1.length (rowOf (scanL s.data.toList).1) ∧ Below w.heap.size w w' := by
  have HS := rscan_any s w (by unfold maxLen; omega)
  obtain ⟨r, hr⟩ : ∃ r, r = scanL s.data.toList := ⟨_, rfl⟩
  rw [← hr] at HS ⊢
  unfold ScanAns at HS
  go_enter Tryd.func19, Tryd.ntmps19
  go_wp2_with fail
  refine HS.mono ?_
  rintro e w1 ⟨v, rfl, ho, hb⟩
  go_wp2
  go_ret
  exact ⟨v, rfl, ho, hb⟩

end Go.Proofs.YtifbhlgingaahaaDoor

namespace Go.Proofs.YtifbhlgingaahaaDoor
open Go.RowKit

theorem tk_num (l : List UInt8) (k n v : Nat) (h : tk l = (0, k, n, v)) : v ≤ 9999 := by
  cases l with
  | nil => simp [tk] at h
  | cons c r =>
    rw [tk] at h
    by_cases h1 : ltr (c.toNat : Int) = true
    · rw [if_pos h1] at h
      by_cases h2 : 16 < spanN wrd (c :: r)
      · rw [if_pos h2] at h; simp only [Prod.mk.injEq] at h; omega
      · rw [if_neg h2] at h; simp only [Prod.mk.injEq] at h; omega
    · rw [if_neg h1] at h
      by_cases h2 : dig (c.toNat : Int) = true
      · rw [if_pos h2] at h
        by_cases h3 : 9999 < numV ((c :: r).take (spanN dig (c :: r)))
        · rw [if_pos h3] at h; simp only [Prod.mk.injEq] at h; omega
        · rw [if_neg h3] at h; simp only [Prod.mk.injEq] at h; omega
      · rw [if_neg h2] at h
        by_cases h3 : 0 < sgnN (c :: r)
        · rw [if_pos h3] at h; simp only [Prod.mk.injEq] at h; omega
        · rw [if_neg h3] at h; simp only [Prod.mk.injEq] at h; omega

theorem scan_tokOK (l : List UInt8) (h : l.length ≤ 20000) : TokOK (scanL l).1 := by
  intro i
  have hp := (scanL_place l h).1
  have hg := scanL_good l
  obtain ⟨ts, hts⟩ : ∃ ts, ts = (scanL l).1 := ⟨_, rfl⟩
  rw [← hts] at hp hg ⊢
  by_cases hi : i < ts.length
  · have e : tokO ts i = ts[i] := by simp [tokO, hi]
    rw [e]
    have h1 := hp _ (List.getElem_mem hi)
    have h2 := hg _ (List.getElem_mem hi)
    unfold Pl at h1
    unfold Good at h2
    have h3 := tk_num _ _ _ _ h2
    omega
  · have e : tokO ts i = (0, [], 0, 0) := by simp [tokO, hi]
    rw [e]
    simp

theorem scan_few (l : List UInt8) (h : l.length ≤ 20000) : (scanL l).1.length ≤ 40000 := by
  have h1 := scanL_lenS l
  have h2 := length_le_lenS (scanL l).1
  omega

/-- Parsing what was scanned. -/
theorem parse_scanned (l : List UInt8) (B : Nat) (lv : Value) (w : World) (h : w.ownsRow B 51 4 lv (scanL l).1.length (rowOf (scanL l).1)) (hl : l.length ≤ 20000) (hs : Sgn w) :
    Calls Tryd.prog 20 #[lv, .int .i64 0] w (ParseAns w.heap.size (parseR (scanL l).1 0) w) := by
  have hlt := h.lt
  have hf := scan_few l hl
  exact parse_any (scanL l).1 lv 0 w (toks_of_own h _ fun g hg => by have := (hlt g hg).2; omega) hs (by omega) (scan_tokOK l hl) (Nat.zero_le _)

def k1 : List UInt8 := [97, 32, 43, 32, 98, 32, 42, 32, 50, 32, 59]
def k2 : List UInt8 := [97, 32, 45, 32, 116, 46, 98, 32, 45, 32, 33, 99]
def k3 : List UInt8 := [40, 97, 32, 43, 32, 59]
def k4 : List UInt8 := [97, 32, 60]
def ndN (s : List UInt8) (pl : Int) : Nd := ⟨2, 0, ⟨s.toArray⟩, ⟨#[]⟩, pl⟩
def e1 : Ex := .bin (opN 6 2) (.leaf (ndN [97] 0)) (.bin (opN 8 6) (.leaf (ndN [98] 4)) (.leaf ⟨1, 2, ⟨#[]⟩, ⟨#[]⟩, 8⟩))
def e2 : Ex := .bin (opN 7 8) (.bin (opN 7 2) (.leaf (ndN [97] 0)) (.leaf ⟨4, 0, ⟨#[98]⟩, ⟨#[116]⟩, 4⟩)) (.un (opN 5 10) (.leaf (ndN [99] 11)))
def t1 : List Tok := [(1, [97], 0, 0), (3, [43], 0, 2), (1, [98], 0, 4), (3, [42], 0, 6), (2, [50], 2, 8), (3, [59], 0, 10)]
def t2 : List Tok := [(1, [97], 0, 0), (3, [45], 0, 2), (1, [116], 0, 4), (3, [46], 0, 5), (1, [98], 0, 6), (3, [45], 0, 8), (3, [33], 0, 10), (1, [99], 0, 11)]
def t3 : List Tok := [(3, [40], 0, 0), (1, [97], 0, 1), (3, [43], 0, 3), (3, [59], 0, 5)]
def t4 : List Tok := [(1, [97], 0, 0), (3, [60], 0, 2)]
theorem s1 : (scanL k1).1 = t1 := by decide +kernel
theorem s2 : (scanL k2).1 = t2 := by decide +kernel
theorem s3 : (scanL k3).1 = t3 := by decide +kernel
theorem s4 : (scanL k4).1 = t4 := by decide +kernel
theorem p1 : parseR t1 0 = .ok e1 5 := (parse_of t1 0 60 (.ok e1 5) (by decide) (by kernel_rfl)).trans (by rfl)
theorem p2 : parseR t2 0 = .ok e2 8 := (parse_of t2 0 70 (.ok e2 8) (by decide) (by kernel_rfl)).trans (by rfl)
theorem p3 : parseR t3 0 = .err 5 5 := (parse_of t3 0 60 (.err 5 5) (by decide) (by kernel_rfl)).trans (by rfl)
theorem p4 : parseR t4 0 = .err 6 3 := (parse_of t4 0 60 (.err 6 3) (by decide) (by kernel_rfl)).trans (by rfl)


theorem r1 : rightP e1.flat := ⟨e1, by simp [e1, Ex.wf, opN, ndN, ar], rfl, by decide +kernel, by decide +kernel, by decide +kernel⟩
theorem r2 : rightP e2.flat := ⟨e2, by simp [e2, Ex.wf, opN, ndN, ar], rfl, by decide +kernel, by decide +kernel, by decide +kernel⟩
theorem r1' : ¬ rightP (e1.flat.drop 1) := by
  rintro ⟨e, h1, h2, _⟩
  have h := end_of_tree e h1
  rw [h2] at h
  exact absurd h (by decide +kernel)
theorem x1 : textOf e1.flat = [97, 32, 43, 32, 40, 98, 32, 42, 32, 50, 41] := by rw [textOf_tree _ r1 e1 (by simp [e1, Ex.wf, opN, ndN, ar]) rfl]; decide +kernel
theorem x2 : textOf e2.flat = [40, 97, 32, 45, 32, 116, 46, 98, 41, 32, 45, 32, 33, 99] := by rw [textOf_tree _ r2 e2 (by simp [e2, Ex.wf, opN, ndN, ar]) rfl]; decide +kernel
theorem d1 : DepthIs e1.flat 2 := .inl ⟨e1, by simp [e1, Ex.wf, opN, ndN, ar], rfl, r1, by decide +kernel⟩
theorem n1 : endL e1.flat 2 = 5 := by decide +kernel
theorem m2 : (namesL e2.flat).length = 3 := by decide +kernel

end Go.Proofs.YtifbhlgingaahaaDoor
