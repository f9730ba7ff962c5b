/- legal: one location more, plainly. legal: what Light and Right say of sizes; an append of locations. -/
import Derived.Test.YtlpgafgiljffhaaGreatDoorIm
namespace Go.Proofs.YtlpgafgiljffhaaGreatDoor
open Go.RowKit
set_option linter.unusedSimpArgs false
set_option linter.unusedVariables false
theorem inB_snoc (L : List ByteArray) (f s : ByteArray) : inB (L ++ [f]) s = (inB L s || decide (f = s)) := by unfold inB; rw [List.any_append]; simp
theorem inB_cons (x : ByteArray) (l : List ByteArray) (f : ByteArray) : inB (x :: l) f = (decide (x = f) || inB l f) := rfl
theorem locsC_le (m : Int) : ∀ (xs : List Vr) (a : List ByteArray), (locsC m xs a).1 = 0 → a.length ≤ 6 → (a ++ nms xs).length ≤ 6
  | [], a, _, h => by simpa [nms] using h
  | x :: l, a, h, ha => by
    rw [locsC_cons] at h
    split at h
    · simp at h
    · split at h
      · simp at h
      · split at h
        · simp at h
        · have := locsC_le m l (a ++ [x.nm]) h (by rw [List.length_append, List.length_singleton]; omega)
          simpa [nms] using this
theorem locsC_snoc (m : Int) (y : Vr) : ∀ (xs : List Vr) (a : List ByteArray), (locsC m xs a).1 = 0 → locsC m (xs ++ [y]) a = if (a ++ nms xs).length = 6 then (12, y.pl) else if inB (a ++ nms xs) y.nm = true then (10, y.pl) else if m ≤ y.n then (11, y.pl) else (0, 0)
  | [], a, _ => by simp only [nms, List.map_nil, List.append_nil, List.nil_append]; rfl
  | x :: l, a, h => by
    rw [locsC_cons] at h
    split at h
    · simp at h
    · next h1 =>
      split at h
      · simp at h
      · next h2 =>
        split at h
        · simp at h
        · next h3 =>
          rw [List.cons_append, locsC_cons, if_neg h1, if_neg h2, if_neg h3, locsC_snoc m y l (a ++ [x.nm]) h]
          have e : a ++ [x.nm] ++ nms l = a ++ nms (x :: l) := by simp [nms]
          rw [e]
theorem rgsC_more (LL : List ByteArray) (f : ByteArray) : ∀ (rs a : List ByteArray), rgsC LL rs a = true → rgsC (LL ++ [f]) rs a = !inB rs f
  | [], a, _ => rfl
  | x :: l, a, h => by
    rw [rgsC_cons] at h
    split at h
    · cases h
    · next h1 =>
      split at h
      · cases h
      · next h2 =>
        rw [rgsC_cons, if_neg h1, inB_snoc, inB_cons]
        by_cases hf : f = x
        · have hf2 : x = f := hf.symm
          rw [decide_eq_true hf, decide_eq_true hf2]
          simp
        · have hf2 : ¬ x = f := fun e => hf e.symm
          rw [decide_eq_false hf, decide_eq_false hf2, Bool.or_false, if_neg h2, rgsC_more LL f l _ h]
          simp
theorem rgC_more (LL : List ByteArray) (f : ByteArray) (rs : List ByteArray) (h : rgC LL rs = 0) : rgC (LL ++ [f]) rs = if inB rs f = true then 10 else 0 := by
  unfold rgC at h ⊢
  split at h
  · cases h
  · next h1 =>
    split at h
    · next h2 =>
      rw [if_neg h1, rgsC_more LL f rs [] h2]
      cases inB rs f <;> rfl
    · cases h
theorem nmB_more {LL : List ByteArray} {s : ByteArray} (f : ByteArray) (h : nmB LL s = false) : nmB (LL ++ [f]) s = false := by
  unfold nmB at *
  rw [inB_snoc]
  revert h
  cases em s <;> cases inB LL s <;> simp
theorem stsC_more (m : Int) (LL rs : List ByteArray) (f : ByteArray) : ∀ (l : List St) (i : Nat) (r : Int), (stsC m LL rs l i r).1 = 0 → (stsC m (LL ++ [f]) rs l i r).1 = 0
  | [], _, _, _ => rfl
  | x :: l, i, r, h => by
    rw [stsC_cons] at h
    split at h
    · simp at h
    · next h1 =>
      split at h
      · simp at h
      · next h2 =>
        split at h
        · simp at h
        · next h3 =>
          split at h
          · exact absurd h (by assumption)
          · next h4 =>
            split at h
            · exact absurd h (by assumption)
            · next h5 =>
              rw [stsC_cons, if_neg h1, if_neg h2, if_neg (by rw [nmB_more f (by simpa using h3)]; decide), if_neg h4, if_neg h5]
              exact stsC_more m LL rs f l (i + 1) _ h
theorem thsC_more (m : Int) (LL : List ByteArray) (f : ByteArray) : ∀ (ths : List Th) (a : List NR), (thsC m LL ths a).1 = 0 → ((thsC m (LL ++ [f]) ths a).1 = 0 ↔ (ths.any fun t => inB t.regs f) = false)
  | [], a, _ => by simp [thsC]
  | t :: l, a, h => by
    rw [thsC_cons] at h
    split at h
    · simp at h
    · next h1 =>
      split at h
      · simp at h
      · next h2 =>
        split at h
        · exact absurd h (by assumption)
        · next h3 =>
          have h3 : rgC LL t.regs = 0 := by simpa using h3
          split at h
          · exact absurd h (by assumption)
          · next h4 =>
            have h4 : (stsC m LL t.regs t.body 0 0).1 = 0 := by simpa using h4
            rw [thsC_cons, if_neg h1, if_neg h2, rgC_more LL f t.regs h3, List.any_cons]
            cases hi : inB t.regs f with
            | true => simp
            | false =>
              have h5 := stsC_more m LL t.regs f t.body 0 0 h4
              rw [if_neg (by simp), if_neg (by simp [h5]), thsC_more m LL f l _ h]
              simp
theorem ndsC_mono (m : Int) {kn kn' : Nd → Bool} (hk : ∀ x, kn x = true → kn' x = true) : ∀ l : List Nd, (ndsC m kn l).1 = 0 → (ndsC m kn' l).1 = 0
  | [], _ => rfl
  | x :: l, h => by
    rw [ndsC_cons] at h
    split at h
    · simp at h
    · next h1 =>
      split at h
      · simp at h
      · next h2 =>
        have h1' : ¬ bad kn' x = true := by
          unfold bad at *
          intro h3
          apply h1
          have := hk x
          cases e1 : em x.nm <;> cases e2 : kn x <;> cases e3 : kn' x <;> simp_all
        rw [ndsC_cons, if_neg h1', if_neg h2]
        exact ndsC_mono m hk l h
theorem clsC_more (m : Int) (LL : List ByteArray) (f : ByteArray) (a : List NR) : ∀ (l : List Cl) (i : Nat), (clsC m LL a l i).1 = 0 → (clsC m (LL ++ [f]) a l i).1 = 0
  | [], _, _ => rfl
  | c :: l, i, h => by
    rw [clsC_cons] at h
    split at h
    · simp at h
    · next h1 =>
      split at h
      · exact absurd h (by assumption)
      · next h2 =>
        have h2 : (ndsC m (kn2 LL a) c.e).1 = 0 := by simpa using h2
        have h3 := ndsC_mono m (kn := kn2 LL a) (kn' := kn2 (LL ++ [f]) a) (fun x hx => by
          unfold kn2 at *
          split at hx
          · next h => rw [if_pos h, inB_snoc, hx]; rfl
          · next h => rw [if_neg h]; exact hx) c.e h2
        rw [clsC_cons, if_neg h1, if_neg (by simp [h3])]
        exact clsC_more m LL f a l (i + 1) h
theorem idx_in (s : ByteArray) : ∀ (l : List ByteArray) (k : Nat), decide (0 ≤ idxF s l k) = inB l s
  | [], k => by simp [idxF, inB]
  | x :: l, k => by
    rw [idxF_cons, inB_cons]
    by_cases h : x = s
    · rw [if_pos h, decide_eq_true h]; simp
    · rw [if_neg h, decide_eq_false h, Bool.false_or]; exact idx_in s l (k + 1)
def frN : ByteArray := ⟨#[102, 114, 101, 115, 104, 95, 110, 97, 109, 101]⟩
theorem frN_name : nameB frN = true := by kernel_rfl
def tkB (g : Pg) : Bool := inB (nms g.locs) frN || g.ths.any fun t => inB t.regs frN
def moreG (g : Pg) (n : Int) : Pg := { g with locs := g.locs ++ [⟨frN, n, 7⟩] }
structure ChkOK (g : Pg) : Prop where
  r : rightPB g = true
  m1 : 2 ≤ g.mod
  m2 : g.mod ≤ 16
  l : (locsC g.mod g.locs []).1 = 0
  t : (thtC g.mod (nms g.locs) g.ths).1 = 0
  c : (clsC g.mod (nms g.locs) ((g.ths.map nrT).reverse) g.cls 0).1 = 0
theorem chk_ok {g : Pg} (h : (chkC g).1 = 0) : ChkOK g := by
  unfold chkC at h
  split at h
  · simp at h
  · next h1 =>
    split at h
    · simp at h
    · next h2 =>
      split at h
      · exact absurd h (by assumption)
      · next h3 =>
        split at h
        · exact absurd h (by assumption)
        · next h4 => exact ⟨by simpa using h1, by omega, by omega, by simpa using h3, by simpa using h4, h⟩
theorem right_more {g : Pg} {n : Int} (h : rightPB g = true) (h0 : 0 ≤ n) (h1 : n ≤ 9999) : rightPB (moreG g n) = true := by
  unfold rightPB at *
  simp only [Bool.and_eq_true] at h
  obtain ⟨a, b, c, d⟩ := h
  have e : (!flV ⟨frN, n, 7⟩) = true := by
    unfold flV numB
    rw [frN_name, decide_eq_true (show 0 ≤ n ∧ n ≤ 9999 from ⟨h0, h1⟩)]
    rfl
  unfold moreG
  simp only [List.all_append, List.all_cons, List.all_nil, Bool.and_true]
  rw [a, b, c, d, e]; rfl
theorem chk_more {g : Pg} {n : Int} (h : ChkOK g) (h0 : 0 ≤ n) (h1 : n < g.mod) :
    (6 ≤ g.locs.length → chkC (moreG g n) = (12, 7)) ∧ (g.locs.length < 6 → ((chkC (moreG g n)).1 = 0 ↔ tkB g = false)) := by
  have hr := right_more h.r h0 (by have := h.m2; omega)
  have hl := locsC_le g.mod g.locs [] h.l (Nat.zero_le _)
  rw [List.nil_append] at hl
  have hnl : (nms g.locs).length = g.locs.length := by unfold nms; rw [List.length_map]
  have hs := locsC_snoc g.mod ⟨frN, n, 7⟩ g.locs [] h.l
  rw [List.nil_append] at hs
  have e : chkC (moreG g n) = if (locsC g.mod (g.locs ++ [⟨frN, n, 7⟩]) []).1 ≠ 0 then locsC g.mod (g.locs ++ [⟨frN, n, 7⟩]) [] else if (thtC g.mod (nms (g.locs ++ [⟨frN, n, 7⟩])) g.ths).1 ≠ 0 then thtC g.mod (nms (g.locs ++ [⟨frN, n, 7⟩])) g.ths else clsC g.mod (nms (g.locs ++ [⟨frN, n, 7⟩])) ((g.ths.map nrT).reverse) g.cls 0 := by
    unfold chkC
    rw [hr, if_neg (by decide), if_neg (by have := h.m1; have := h.m2; show ¬ (g.mod < 2 ∨ 16 < g.mod); omega)]
    rfl
  rw [e]
  constructor
  · intro h6
    rw [if_pos (by omega)] at hs
    rw [hs, if_pos (Nat.succ_ne_zero 11)]
  · intro h6
    rw [if_neg (by omega)] at hs
    cases hi : inB (nms g.locs) frN with
    | true =>
      rw [if_pos hi] at hs
      rw [hs]
      unfold tkB
      rw [hi]
      simp
    | false =>
      rw [if_neg (by rw [hi]; decide), if_neg (by show ¬ g.mod ≤ n; omega)] at hs
      rw [hs, if_neg (by decide)]
      have en : nms (g.locs ++ [⟨frN, n, 7⟩]) = nms g.locs ++ [frN] := by simp [nms]
      rw [en]
      unfold tkB
      rw [hi, Bool.false_or]
      have ht := h.t
      unfold thtC at ht ⊢
      by_cases hz : g.ths.length = 0
      · rw [if_pos hz] at ht; exact absurd ht (by decide)
      · rw [if_neg hz] at ht
        have hm := thsC_more g.mod (nms g.locs) frN g.ths [] ht
        rw [if_neg hz]
        by_cases h9 : (thsC g.mod (nms g.locs ++ [frN]) g.ths []).1 = 0
        · rw [if_neg (fun x => x h9)]
          exact ⟨fun _ => hm.1 h9, fun _ => clsC_more g.mod (nms g.locs) frN _ g.cls 0 h.c⟩
        · rw [if_pos h9]
          exact ⟨fun x => absurd x h9, fun x => absurd (hm.2 x) h9⟩

end Go.Proofs.YtlpgafgiljffhaaGreatDoor

namespace Go.Proofs.YtlpgafgiljffhaaGreatDoor
open Go.RowKit
set_option linter.unusedSimpArgs false
set_option linter.unusedVariables false
theorem light_nm {l : List Nd} (h : lightB l = true) : l.length ≤ 250 ∧ NmOK l := by
  unfold lightB at h
  rw [Bool.and_eq_true] at h
  refine ⟨of_decide_eq_true h.1, fun i hi => ?_⟩
  have h2 := List.all_eq_true.1 h.2 _ (List.getElem_mem hi)
  unfold lightN at h2
  have h3 := of_decide_eq_true h2
  omega
theorem light_sts {l : List St} (h : lightL l = true) : l.length ≤ 60 ∧ SmOK l := by
  unfold lightL at h
  rw [Bool.and_eq_true] at h
  have hs : ∀ s ∈ l, (s.reg.size ≤ 100 ∧ s.loc.size ≤ 100) ∧ (s.e.length ≤ 250 ∧ NmOK s.e) ∧ s.f.length ≤ 250 ∧ NmOK s.f := by
    intro s hs
    have h2 := List.all_eq_true.1 h.2 s hs
    unfold lightSt at h2
    rw [Bool.and_eq_true, Bool.and_eq_true] at h2
    exact ⟨of_decide_eq_true h2.1, light_nm h2.2.1, light_nm h2.2.2⟩
  refine ⟨of_decide_eq_true h.1, fun s hm => ?_⟩
  obtain ⟨⟨h1, h2⟩, ⟨h3, h4⟩, h5, h6⟩ := hs s hm
  exact ⟨by omega, by omega, by omega, by omega, h4, h6⟩
def pgOf (m : Int) (vs : List Vr) (ts : List TI) (cs : List CI) : Pg := ⟨m, vs, ts.map (·.1), cs.map (·.1)⟩
theorem light_ok {m : Int} {vs : List Vr} {ts : List TI} {cs : List CI} (h : lightP vs ts cs = true) : PmOK (pgOf m vs ts cs) ∧ vs.length ≤ 20 ∧ ts.length ≤ 8 ∧ cs.length ≤ 12 := by
  unfold lightP at h
  simp only [Bool.and_eq_true] at h
  obtain ⟨h1, h2, h3, h4⟩ := h
  obtain ⟨n1, n2, n3⟩ := of_decide_eq_true h1
  have hv : ∀ x ∈ vs, x.nm.size ≤ 100 := fun x hx => of_decide_eq_true (List.all_eq_true.1 h2 x hx)
  have ht : ∀ x ∈ ts.map (·.1), x.nm.size ≤ 100 ∧ x.regs.length ≤ 20 ∧ (∀ s ∈ x.regs, s.size ≤ 100) ∧ lightL x.body = true := by
    intro x hx
    obtain ⟨y, hy, rfl⟩ := List.mem_map.1 hx
    have h5 := List.all_eq_true.1 h3 y hy
    unfold lightT at h5
    simp only [Bool.and_eq_true] at h5
    exact ⟨of_decide_eq_true h5.1, of_decide_eq_true h5.2.1, fun s hs => of_decide_eq_true (List.all_eq_true.1 h5.2.2.2 s hs), h5.2.2.1⟩
  have hc : ∀ x ∈ cs.map (·.1), lightB x.e = true := by
    intro x hx
    obtain ⟨y, hy, rfl⟩ := List.mem_map.1 hx
    exact List.all_eq_true.1 h4 y hy
  have l2 : (ts.map (·.1)).length ≤ 8 := by rw [List.length_map]; exact n2
  have l3 : (cs.map (·.1)).length ≤ 12 := by rw [List.length_map]; exact n3
  refine ⟨⟨⟨by show vs.length ≤ _; omega, fun x hx => by have := hv x hx; omega⟩, ⟨by show (ts.map (·.1)).length ≤ _; omega, fun x hx => ?_⟩, ⟨by show (cs.map (·.1)).length ≤ _; omega, fun x hx => ?_⟩⟩, n1, n2, n3⟩
  · obtain ⟨a, b, c, d⟩ := ht x hx
    obtain ⟨e, f⟩ := light_sts d
    exact ⟨by omega, by omega, fun s hs => by have := c s hs; omega, by omega, f⟩
  · obtain ⟨a, b⟩ := light_nm (hc x hx)
    exact ⟨by omega, b⟩
theorem pm_more {g : Pg} {n : Int} (h : PmOK g) (hl : g.locs.length ≤ 20) : PmOK (moreG g n) := by
  refine ⟨⟨?_, ?_⟩, h.t, h.c⟩
  · show (g.locs ++ [_]).length ≤ _
    rw [List.length_append, List.length_singleton]; omega
  · intro x hx
    rcases List.mem_append.1 hx with hx | hx
    · exact h.l.2 x hx
    · rcases List.mem_singleton.1 hx with rfl
      exact (by decide : frN.size ≤ 100000)
theorem tr_body : ∀ (t : Tr), ∀ x ∈ t.flat, 0 ≤ x.body ∧ x.body ≤ (t.flat.length : Nat)
  | .nil, x, h => (List.not_mem_nil h).elim
  | .node s b o r, x, h => by
    have e : (Tr.node s b o r).flat.length = 1 + (b.flat.length + o.flat.length + r.flat.length) := by
      show ((_ :: (b.flat ++ o.flat ++ r.flat) : List St)).length = _
      simp only [List.length_cons, List.length_append]; omega
    rw [e]
    have h : x ∈ ({ s with body := (b.flat.length : Nat), els := (o.flat.length : Nat) } :: (b.flat ++ o.flat ++ r.flat) : List St) := h
    rcases List.mem_cons.1 h with rfl | h
    · show 0 ≤ ((b.flat.length : Nat) : Int) ∧ ((b.flat.length : Nat) : Int) ≤ _
      omega
    · rcases List.mem_append.1 h with h | h
      · rcases List.mem_append.1 h with h | h
        · have := tr_body b x h; omega
        · have := tr_body o x h; omega
      · have := tr_body r x h; omega
open Classical in
theorem right_bd {g : Pg} (h : rightPB g = true) : ∀ t ∈ g.ths, ∀ s ∈ t.body, 0 ≤ s.body ∧ s.body ≤ 1000000 := by
  intro t ht s hs
  unfold rightPB at h
  simp only [Bool.and_eq_true] at h
  have h1 := List.all_eq_true.1 h.2.2.1 t ht
  have h2 : rightSB t.body = true := by
    unfold flT at h1
    cases hb : rightSB t.body with
    | true => rfl
    | false => rw [hb] at h1; simp at h1
  unfold rightSB at h2
  obtain ⟨h3, ⟨tr, rfl'⟩, _⟩ := of_decide_eq_true h2
  have := tr_body tr s (by rw [rfl']; exact hs)
  rw [rfl'] at this
  omega
theorem rowV_at {w : World} {b off : Nat} {vs : List Vr} (h : ∀ i, (hi : i < vs.length) → VrAt w b (off + i * 3) vs[i]) : ∀ (j : Nat) (u : Value), (rowV vs)[j]? = some u → w.cell? ⟨b, off + j, none⟩ = some u := by
  intro j u hj
  have hjl : j < (rowV vs).length := (List.getElem?_eq_some_iff.1 hj).1
  rw [rowV_length] at hjl
  have hi : j / 3 < vs.length := by omega
  obtain ⟨x0, x1, x2⟩ := h (j / 3) hi
  have ee := flat_at cellsV 3 (fun _ => rfl) vs (j / 3) hi (j % 3) (by omega)
  have ej : j / 3 * 3 + j % 3 = j := by omega
  have e2 : (rowV vs)[j]? = some ((cellsV vs[j / 3])[j % 3]'(by show j % 3 < 3; omega)) := by rw [← ee, ej]; rfl
  rw [e2] at hj
  rw [← hj]
  have e3 : off + j = off + j / 3 * 3 + j % 3 := by omega
  rw [e3]
  have hm : j % 3 = 0 ∨ j % 3 = 1 ∨ j % 3 = 2 := by omega
  rcases hm with hm | hm | hm
  · simp only [hm]; exact x0
  · simp only [hm]; exact x1
  · simp only [hm]; exact x2
theorem rowV_one (vs : List Vr) : ∀ u ∈ rowV vs, u.oneCell' = true := by
  intro u hu
  obtain ⟨x, _, hx⟩ := List.mem_flatMap.1 hu
  unfold cellsV at hx
  simp only [List.mem_cons, List.not_mem_nil, or_false] at hx
  rcases hx with rfl | rfl | rfl <;> rfl
theorem addr_addo (b off j : Nat) : (⟨b, off, none⟩ : Addr).add j = ⟨b, off + j, none⟩ := by unfold Addr.add; split <;> simp_all
/-- append(nil, l...), l locations that lie there. -/
theorem append_vrs {w : World} {ops : Array Oper} {rest : List Oper} {o : Oper} {a : Act} {Q : Exit → Act → World → Prop} (hgd : o.guard = none) (s x : Operand)
    (ho : o.op = .call { callee := .builtin .append, args := #[s, x], argTypes := #[22, 22] }) (base : Nat) (u : Value) (vs : List Vr) (hs : a.eval s = .slice none 0 0) (hx : a.eval x = u)
    (hu : VrsD w u vs) (hn : vs.length ≤ 20) (hbase : base ≤ w.heap.size)
    (h : ∀ v' w', w'.ownsRow base 40 3 v' vs.length (rowV vs) → Below base w w' → Below w.heap.size w w' → wpList Tryz.prog ops Q rest (a.put o.dst v') w') : wpList Tryz.prog ops Q (o :: rest) a w := by
  obtain ⟨i0, hi, hz0, hz1, hz2⟩ := info_parts info_var
  obtain ⟨ad, cap, rfl, ⟨hc1, hc2⟩, hc3, hc⟩ := hu
  have hown : w.ownsRow base 40 3 (.slice none 0 0) 0 [] := World.ownsRow_nil _ _ _ _
  cases hv : vs with
  | nil =>
    subst hv
    cases ad with
    | none =>
      obtain rfl : cap = 0 := hc2 rfl
      refine wpList_append_own_none hgd s x 22 ho base 40 i0 3 Tryz.underlying22 hi _ 0 [] hs hown hx ?_
      exact h _ _ hown (Below.refl _ _) (Below.refl _ _)
    | some ad0 =>
      refine wpList_append_own _ hgd s x 22 ho base 40 i0 (.agg #[.string ⟨#[]⟩, .int .i64 0, .int .i64 0]) 3 32 Tryz.underlying22 hi hz0 hz1 hz2 rfl (by decide) _ 0 [] hs hown ad0 0 cap [] hx rfl (fun j u hj => by cases hj) (fun u hu => (List.not_mem_nil hu).elim) (by unfold maxLen; omega) (by omega) hbase ?_
      intro v' w' h1 h2 _
      exact h v' w' h1 ((Below.refl base w).grown h2 hbase (fun k hk => by cases hk)) ((Below.refl _ w).grown h2 (Nat.le_refl _) (fun k hk => by cases hk))
  | cons y l =>
    obtain ⟨b, off, hba, hbl, _⟩ := hc 0 (by rw [hv]; simp)
    subst hba
    have hall : ∀ i, (hi : i < vs.length) → VrAt w b (off + i * 3) vs[i] := fun i hi => by
      obtain ⟨b', off', he, _, hh⟩ := hc i hi
      have e := Option.some.inj he
      injection e with e1 e2 e3
      rw [e1, e2]; exact hh
    refine wpList_append_own _ hgd s x 22 ho base 40 i0 (.agg #[.string ⟨#[]⟩, .int .i64 0, .int .i64 0]) 3 32 Tryz.underlying22 hi hz0 hz1 hz2 rfl (by decide) _ 0 [] hs hown ⟨b, off, none⟩ vs.length cap (rowV vs) hx (rowV_length vs) (fun j u hj => by rw [addr_addo]; exact rowV_at hall j u hj) (rowV_one vs) (by unfold maxLen; omega) (by omega) hbase ?_
    intro v' w' h1 h2 _
    rw [Nat.zero_add, List.nil_append] at h1
    exact h v' w' h1 ((Below.refl base w).grown h2 hbase (fun k hk => by cases hk)) ((Below.refl _ w).grown h2 (Nat.le_refl _) (fun k hk => by cases hk))

end Go.Proofs.YtlpgafgiljffhaaGreatDoor
