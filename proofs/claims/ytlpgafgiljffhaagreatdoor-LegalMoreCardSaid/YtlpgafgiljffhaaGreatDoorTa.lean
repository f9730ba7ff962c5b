/- The tables; an expression as text; what text does. What nested does. What named does. What operand does. What chain does. What the floors of the grammar do. What Parse does. -/
import Derived.Test.YtlpgafgiljffhaaGreatDoorYb
import Derived.Test.YtlpgafgiljffhaaGreatDoorNa
import Derived.Shelf.LaysM
import Derived.Shelf.Strconv.Clone
import Derived.Shelf.Strconv.Itoa3
import Derived.Test.YtlpgafgiljffhaaGreatDoorProg
import Derived.Lib.QuietBelow
import Derived.Deep.QuietTactic
import Derived.BigQuiet
import Derived.BigRegion
import Derived.Deep.DeepCutAuto
namespace Go.Proofs.YtlpgafgiljffhaaGreatDoor
open Go.RowKit
def dg (n : Int) : List UInt8 := Lib.decDigits n.toNat
def wrapB : Ex → List UInt8 → List UInt8
  | .bin _ _ _, s => [40] ++ s ++ [41]
  | _, s => s
def showE : Ex → List UInt8
  | .leaf x => if x.op = 1 then dg x.n else if x.op = 4 then x.inn.data.toList ++ [46] ++ x.nm.data.toList else x.nm.data.toList
  | .un _ a => [33] ++ wrapB a (showE a)
  | .bin x a b => wrapB a (showE a) ++ [32] ++ sgO x.op.toNat ++ [32] ++ wrapB b (showE b)
def NdsC (w : World) (v : Value) (l : List Nd) : Prop :=
  ∃ ad cap, v = .slice ad l.length cap ∧ l.length ≤ cap ∧ cap ≤ 9223372036854775807 ∧ ∀ i, (hi : i < l.length) → ∃ b off, ad = some ⟨b, off, none⟩ ∧ b < w.heap.size ∧ NdAt w b (off + i * 5) l[i]
theorem NdsC.nds {w : World} {v : Value} {l : List Nd} (h : NdsC w v l) : Nds w v l := by
  obtain ⟨ad, cap, rfl, _, _, hc⟩ := h
  by_cases h0 : l.length = 0
  · have := List.eq_nil_of_length_eq_zero h0
    subst this
    exact .inl ⟨rfl, ad, cap, rfl⟩
  · obtain ⟨b, off, rfl, hb, _⟩ := hc 0 (by omega)
    refine .inr ⟨b, off, cap, rfl, hb, fun i hi => ?_⟩
    obtain ⟨b', off', he, _, h⟩ := hc i hi
    cases he
    exact h
theorem NdsC.below {w w' : World} {v : Value} {l : List Nd} (h : NdsC w v l) (hb : Below w.heap.size w w') : NdsC w' v l := by
  obtain ⟨ad, cap, hv, h1, h2, hc⟩ := h
  refine ⟨ad, cap, hv, h1, h2, fun i hi => ?_⟩
  obtain ⟨b, off, he, hl, h⟩ := hc i hi
  exact ⟨b, off, he, Nat.lt_of_lt_of_le hl hb.size, h.below hb hl⟩
theorem NdsC.drop {w : World} {b off cap : Nat} {l : List Nd} (h : NdsC w (.slice (some ⟨b, off, none⟩) l.length cap) l) (k : Nat) (hk : k < l.length) : NdsC w (.slice (some ⟨b, off + k * 5, none⟩) (l.length - k) (cap - k)) (l.drop k) := by
  obtain ⟨ad, cap', hv, h1, h2, hc⟩ := h
  cases hv
  refine ⟨_, _, by rw [List.length_drop], by rw [List.length_drop]; omega, by omega, fun i hi => ?_⟩
  rw [List.length_drop] at hi
  obtain ⟨b', off', he, hl, h⟩ := hc (k + i) (by omega)
  cases he
  refine ⟨b, off + k * 5, rfl, hl, ?_⟩
  rw [List.getElem_drop, show off + k * 5 + i * 5 = off + (k + i) * 5 by omega]
  exact h
theorem NdsC.none {w : World} (ad : Option Addr) (cap : Nat) (hc : cap ≤ 9223372036854775807) : NdsC w (.slice ad 0 cap) [] := ⟨ad, cap, rfl, Nat.zero_le _, hc, fun _ hi => absurd hi (Nat.not_lt_zero _)⟩
theorem NdsC.take {w : World} {ad : Option Addr} {cap : Nat} {l : List Nd} (h : NdsC w (.slice ad l.length cap) l) (k : Nat) (hk : k ≤ l.length) : NdsC w (.slice ad k cap) (l.take k) := by
  obtain ⟨ad', cap', hv, h1, h2, hc⟩ := h
  cases hv
  refine ⟨ad, cap, by rw [List.length_take, Nat.min_eq_left hk], by rw [List.length_take]; omega, h2, fun i hi => ?_⟩
  rw [List.length_take] at hi
  obtain ⟨b', off', he, hl, h⟩ := hc i (by omega)
  refine ⟨b', off', he, hl, ?_⟩
  rw [List.getElem_take]
  exact h
theorem nameB_size (s : ByteArray) (h : nameB s = true) : s.size ≤ 16 := by
  unfold nameB at h
  simp at h
  omega
end Go.Proofs.YtlpgafgiljffhaaGreatDoor

namespace Go.Proofs.YtlpgafgiljffhaaGreatDoor
open Go.RowKit
theorem PtIn.below {w w' : World} {B c : Nat} {p : PtR} (h : PtIn w B p c) (hb : Below w.heap.size w w') : PtIn w' B p c := ⟨own_below h.1 hb, h.2⟩
theorem PtIn.keep {w w' : World} {B c b : Nat} {p : PtR} (h : PtIn w B p c) (hb : Keep b w w') (hB : b < B) : PtIn w' B p c := ⟨own_keep h.1 hb hB, h.2⟩
theorem PtIn.alloc {w : World} {B c : Nat} {p : PtR} (h : PtIn w B p c) (o : Obj) : PtIn (w.alloc o) B p c := h.below ((Below.refl _ _).alloc (Nat.le_refl _) _)
theorem PtIn.more {w : World} {B c c' : Nat} {p : PtR} (h : PtIn w B p c) (hc : c ≤ c') : PtIn w B p c' := by
  obtain ⟨h1, h2, h3, h4, h5, h6⟩ := h
  exact ⟨h1, h2, h3, by omega, h5, h6⟩
end Go.Proofs.YtlpgafgiljffhaaGreatDoor

namespace Go.Proofs.YtlpgafgiljffhaaGreatDoor
open Go.RowKit
theorem Blk5.set5 {w : World} {r : Nat} {x : Nd} (h : Blk5 w r x) (a0 a1 : Int) (a2 a3 : ByteArray) (a4 : Int) :
    Blk5 (((((w.setCell ⟨r, 0, none⟩ (.int .i64 a0)).setCell ⟨r, 1, none⟩ (.int .i64 a1)).setCell ⟨r, 2, none⟩ (.string a2)).setCell ⟨r, 3, none⟩ (.string a3)).setCell ⟨r, 4, none⟩ (.int .i64 a4)) r ⟨a0, a1, a2, a3, a4⟩ := by
  unfold Blk5 at h
  have hlt := (Array.getElem?_eq_some_iff.1 h).1
  simp [Blk5, World.setCell, Array.getElem?_modify, h]
end Go.Proofs.YtlpgafgiljffhaaGreatDoor

namespace Go.Proofs.YtlpgafgiljffhaaGreatDoor
open Go.RowKit
theorem sgAt_lt {l : List Tok} {i : Nat} {x : List UInt8} (h : sgAt l i x = true) : i < l.length := by
  unfold sgAt tokO at h
  by_cases h1 : i < l.length
  · exact h1
  · rw [List.getElem?_eq_none (by omega)] at h; simp at h
theorem nuAt_lt {l : List Tok} {i : Nat} (h : nuAt l i = true) : i < l.length := by
  unfold nuAt tokO at h
  by_cases h1 : i < l.length
  · exact h1
  · rw [List.getElem?_eq_none (by omega)] at h; simp at h
end Go.Proofs.YtlpgafgiljffhaaGreatDoor

namespace Go.Proofs.YtlpgafgiljffhaaGreatDoor
open Go.RowKit
def ChS (l : List Tok) (n f d : Nat) (r : Res) (p : PtR) (j c : Nat) (er pl : Int) : Prop :=
  (er ≠ 0 ∧ ResOK r p j er pl) ∨
  (er = 0 ∧ pl = 0 ∧ (n = 2 → c = 0) ∧ ∃ f' e, f' ≤ f ∧ run l f' (.more n e) d j = some r ∧ ResOK (.ok e j) p j 0 0) ∨
  (er = 0 ∧ pl = 0 ∧ n = 2 ∧ c = 1 ∧ ResOK r p j 0 0)
def IntsB (w : World) (b : Nat) (v : Value) (os : List Nat) : Prop :=
  ∃ g cap, v = .slice (some ⟨g, 0, none⟩) os.length cap ∧ g < w.heap.size ∧ g ≠ b ∧ ∀ i, (hi : i < os.length) → w.cell? ⟨g, i, none⟩ = some (.int .i64 os[i])
theorem IntsB.keep {w w' : World} {b : Nat} {v : Value} {os : List Nat} (h : IntsB w b v os) (hb : Keep b w w') : IntsB w' b v os := by
  obtain ⟨g, cap, hv, hg, hn, hc⟩ := h
  exact ⟨g, cap, hv, Nat.lt_of_lt_of_le hg hb.size, hn, fun i hi => (hb.cell (p := ⟨g, i, none⟩) hg hn).trans (hc i hi)⟩
theorem IntsB.below {w w' : World} {b : Nat} {v : Value} {os : List Nat} (h : IntsB w b v os) (hb : Below w.heap.size w w') : IntsB w' b v os := h.keep (Below.keep hb)
theorem which_lt {l : List Tok} {j : Nat} {os : List Nat} (h : which l j os ≠ 0) : j < l.length := by
  induction os with
  | nil => exact absurd rfl h
  | cons o os ih =>
    unfold which at h
    by_cases hs : sgAt l j (sgO o) = true
    · exact sgAt_lt hs
    · rw [if_neg hs] at h; exact ih h
theorem which_mem {l : List Tok} {j : Nat} {os : List Nat} (h : which l j os ≠ 0) : which l j os ∈ os := by
  induction os with
  | nil => exact absurd rfl h
  | cons o os ih =>
    unfold which at h ⊢
    by_cases hs : sgAt l j (sgO o) = true
    · rw [if_pos hs]; simp
    · rw [if_neg hs] at h ⊢; exact List.mem_cons_of_mem _ (ih h)
theorem ChS.step {l : List Tok} {n f d : Nat} {r : Res} {p : PtR} {j c : Nat} (h : ChS l n f d r p j c 0 0) (hw : which l j (opsOf n) ≠ 0) (hc : n = 2 → c = 0) :
    ∃ f' e r2, f' ≤ f ∧ run l f' (.lv (n + 1)) d (j + 1) = some r2 ∧ ResOK (.ok e j) p j 0 0 ∧ (∀ (p2 : PtR) (j2 : Nat) (er pl : Int) (p3 : PtR), ResOK r2 p2 j2 er pl → 0 ≤ p.d → 0 ≤ p2.d → (p2.xs.length : Int) ≤ p2.s → p3.s = p.s + p2.s + 1 → p3.d = max p.d p2.d + 1 →
      (p3.s ≤ 200 ∧ p3.d ≤ 30 → p3.xs = opN (which l j (opsOf n)) (plc l j) :: (p.xs ++ p2.xs)) → ChS l n f d r p3 j2 (c + 1) er pl) := by
  rcases h with ⟨h, _⟩ | ⟨_, _, h2, f', e, hf, hr, h⟩ | ⟨_, _, h3, h4, h⟩
  · exact absurd rfl h
  · cases f' with
    | zero => cases hr
    | succ f' =>
      unfold run at hr
      rw [if_neg hw] at hr
      obtain ⟨h1, h2', h3, h4, h5, h6⟩ := h
      cases h7 : run l f' (.lv (n + 1)) d (j + 1) with
      | none => rw [h7] at hr; cases hr
      | some r2 =>
        rw [h7] at hr
        refine ⟨f', e, r2, by omega, h7, ⟨h1, h2', h3, h4, h5, h6⟩, fun p2 j2 er pl p3 hp2 hpd hp2d hxl hs hd hx => ?_⟩
        cases r2 with
        | err k a =>
          simp only [] at hr
          cases hr
          obtain ⟨rfl, rfl, hk⟩ := hp2
          exact .inl ⟨by omega, rfl, rfl, hk⟩
        | ok y j2' =>
          simp only [] at hr
          obtain ⟨rfl, rfl, rfl, g4, g5, g6⟩ := hp2
          have hok : ResOK (.ok (.bin (opN (which l j (opsOf n)) (plc l j)) e y) j2) p3 j2 0 0 := by
            refine ⟨rfl, rfl, rfl, ?_, ?_, fun hh => ?_⟩
            · rw [hs, h4, g4]; simp [Ex.size]
            · rw [hd, h5, g5]; simp [Ex.depth]; omega
            · rw [hx hh, h6 ⟨by omega, by omega⟩, g6 ⟨by omega, by omega⟩]; rfl
          by_cases hn : n = 2
          · rw [if_pos hn] at hr
            cases hr
            exact .inr (.inr ⟨rfl, rfl, hn, by rw [hc hn], hok⟩)
          · rw [if_neg hn] at hr
            exact .inr (.inl ⟨rfl, rfl, fun h => absurd h hn, f', _, by omega, hr, hok⟩)
  · exact absurd (hc h3) (by omega)
end Go.Proofs.YtlpgafgiljffhaaGreatDoor

namespace Go.Proofs.YtlpgafgiljffhaaGreatDoor
open Go.RowKit
theorem nmAt_lt {l : List Tok} {i : Nat} (h : nmAt l i = true) : i < l.length := by
  unfold nmAt tokO at h
  by_cases h1 : i < l.length
  · exact h1
  · rw [List.getElem?_eq_none (by omega)] at h; simp at h
end Go.Proofs.YtlpgafgiljffhaaGreatDoor

namespace Go.Proofs.YtlpgafgiljffhaaGreatDoor
open Go.RowKit
def finR (l : List Tok) (i : Nat) : Res → Res
  | .err k a => .err k a
  | .ok e j => if 30 < e.depth then .err 7 (plc l i) else if 200 < e.size then .err 2 (plc l i) else .ok e j
theorem finR_ok (l : List Tok) (i : Nat) (e : Ex) (j : Nat) : finR l i (.ok e j) = if 30 < e.depth then .err 7 (plc l i) else if 200 < e.size then .err 2 (plc l i) else .ok e j := rfl
def ParseAns (B : Nat) (r : Res) (w : World) (e : Ending) (w' : World) : Prop := match r with
  | .err k a => e = .returned (.tuple #[.slice none 0 0, .int .i64 0, .int .i64 k, .int .i64 a]) ∧ Below w.heap.size w w'
  | .ok x j => ∃ v, e = .returned (.tuple #[v, .int .i64 j, .int .i64 0, .int .i64 0]) ∧ w'.ownsRow B 65 5 v x.flat.length (rowN x.flat) ∧ Below w.heap.size w w'
theorem rowOf_at (l : List Tok) : ∀ i, (h : i < l.length) → (rowOf l)[i * 4]? = some (.int .i64 (l[i]).1) ∧ (rowOf l)[i * 4 + 1]? = some (.string ⟨(l[i]).2.1.toArray⟩) ∧ (rowOf l)[i * 4 + 2]? = some (.int .i64 (l[i]).2.2.1) ∧ (rowOf l)[i * 4 + 3]? = some (.int .i64 (l[i]).2.2.2) := by
  induction l with
  | nil => intro i h; exact absurd h (Nat.not_lt_zero _)
  | cons a l ih =>
    intro i h
    cases i with
    | zero => exact ⟨rfl, rfl, rfl, rfl⟩
    | succ i =>
      have e : ∀ j, (rowOf (a :: l))[(i + 1) * 4 + j]? = (rowOf l)[i * 4 + j]? := by
        intro j
        show (cellsOf a ++ rowOf l)[(i + 1) * 4 + j]? = _
        rw [List.getElem?_append_right (by simp only [cellsOf, List.length_cons, List.length_nil]; omega)]
        congr 1
        simp only [cellsOf, List.length_cons, List.length_nil]; omega
      have := ih i (by simpa using h)
      refine ⟨(e 0).trans this.1, (e 1).trans this.2.1, (e 2).trans this.2.2.1, (e 3).trans this.2.2.2⟩
theorem addr_add (g j : Nat) : (⟨g, 0, none⟩ : Addr).add j = ⟨g, j, none⟩ := by unfold Addr.add; split <;> simp_all
theorem toks_of_own {w : World} {B : Nat} {v : Value} {l : List Tok} (h : w.ownsRow B 89 4 v l.length (rowOf l)) (b : Nat) (hb : ∀ g, v.ownBlock = some g → g ≠ b) : TokS w b v l := by
  have hl := h.lt
  have hc := @World.ownsRow.cells _ _ _ _ _ _ _ h
  rcases h.2 with ⟨rfl, h0⟩ | ⟨g, cap, cur, rfl, _, hg, _⟩
  · exact ⟨none, 0, by rw [h0], fun i hi => absurd hi (by omega)⟩
  · refine ⟨_, cap, rfl, fun i hi => ?_⟩
    obtain ⟨r0, r1, r2, r3⟩ := rowOf_at l i hi
    have k0 := hc (g := g) rfl _ _ r0
    have k1 := hc (g := g) rfl _ _ r1
    have k2 := hc (g := g) rfl _ _ r2
    have k3 := hc (g := g) rfl _ _ r3
    rw [addr_add] at k0 k1 k2 k3
    exact ⟨g, rfl, (hl g rfl).2, hb g rfl, k0, k1, k2, k3⟩
def need (L : Nat) : Cmd → Nat → Nat
  | .lv n, i => 7 * (L - i) + (6 - n)
  | .more _ _, i => 7 * (L - i) + 1
def farR (L i : Nat) : Cmd → Res → Prop
  | _, .err _ _ => True
  | .lv _, .ok _ j => i < j ∧ j ≤ L
  | .more _ _, .ok _ j => i ≤ j ∧ j ≤ L
theorem refR_far (l : List Tok) (i k : Nat) (c : Cmd) : farR l.length k c (refR l i) := by cases c <;> exact trivial
theorem run_total (l : List Tok) : ∀ (f : Nat) (c : Cmd) (d i : Nat), i ≤ l.length → (∀ n, c = .lv n → n ≤ 5) → (∀ n e, c = .more n e → n < 5) → need l.length c i ≤ f → ∃ r, run l f c d i = some r ∧ farR l.length i c r := by
  intro f
  induction f with
  | zero =>
    intro c d i _ hc1 _ h
    cases c with
    | lv n => have := hc1 n rfl; simp only [need] at h; omega
    | more n e => simp only [need] at h; omega
  | succ f ih =>
    intro c d i hi hc1 hc2 hneed
    cases c with
    | lv n =>
      have hn := hc1 n rfl
      simp only [need] at hneed
      unfold run
      by_cases h5 : n = 5
      · rw [if_pos h5]
        subst h5
        cases h33 : sgAt l i [33] with
        | true =>
          rw [if_pos rfl]
          have hlt := sgAt_lt h33
          by_cases hd : d = 30
          · rw [if_pos hd]; exact ⟨_, rfl, trivial⟩
          · rw [if_neg hd]
            obtain ⟨r, hr, hf⟩ := ih (.lv 5) (d + 1) (i + 1) (by omega) (fun n h => by cases h; omega) (fun n e h => by cases h) (by simp only [need]; omega)
            rw [hr]
            cases r with
            | err k a => exact ⟨_, rfl, trivial⟩
            | ok e j => exact ⟨_, rfl, by have := hf.1; omega, hf.2⟩
        | false =>
          rw [if_neg (by simp)]
          cases h40 : sgAt l i [40] with
          | true =>
            rw [if_pos rfl]
            have hlt := sgAt_lt h40
            by_cases hd : d = 30
            · rw [if_pos hd]; exact ⟨_, rfl, trivial⟩
            · rw [if_neg hd]
              obtain ⟨r, hr, hf⟩ := ih (.lv 0) (d + 1) (i + 1) (by omega) (fun n h => by cases h; omega) (fun n e h => by cases h) (by simp only [need]; omega)
              rw [hr]
              cases r with
              | err k a => exact ⟨_, rfl, trivial⟩
              | ok e j =>
                simp only []
                by_cases hc : sgAt l j [41] = true
                · rw [if_pos hc]
                  have := sgAt_lt hc
                  exact ⟨_, rfl, by have := hf.1; omega, by omega⟩
                · rw [if_neg hc]
                  exact ⟨_, rfl, refR_far _ _ _ _⟩
          | false =>
            rw [if_neg (by simp)]
            cases hnm : nmAt l i with
            | true =>
              rw [if_pos rfl]
              have hlt := nmAt_lt hnm
              refine ⟨_, rfl, ?_⟩
              unfold namedR
              by_cases h46 : sgAt l (i + 1) [46] = true
              · rw [if_pos h46]
                by_cases h2 : nmAt l (i + 2) = true
                · rw [if_pos h2]
                  have := nmAt_lt h2
                  exact ⟨by omega, by omega⟩
                · rw [if_neg h2]; exact refR_far _ _ _ _
              · rw [if_neg h46]; exact ⟨by omega, by omega⟩
            | false =>
              rw [if_neg (by simp)]
              cases hnu : nuAt l i with
              | true =>
                rw [if_pos rfl]
                have := nuAt_lt hnu
                exact ⟨_, rfl, by omega, by omega⟩
              | false =>
                rw [if_neg (by simp)]
                exact ⟨_, rfl, refR_far _ _ _ _⟩
      · rw [if_neg h5]
        obtain ⟨r, hr, hf⟩ := ih (.lv (n + 1)) d i hi (fun m h => by cases h; omega) (fun n e h => by cases h) (by simp only [need]; omega)
        rw [hr]
        cases r with
        | err k a => exact ⟨_, rfl, trivial⟩
        | ok e j =>
          have h1 := hf.1
          have h2 := hf.2
          obtain ⟨r2, hr2, hf2⟩ := ih (.more n e) d j h2 (fun m h => by cases h) (fun m e h => by cases h; omega) (by simp only [need]; omega)
          refine ⟨r2, hr2, ?_⟩
          cases r2 with
          | err k a => trivial
          | ok e2 j2 => exact ⟨by have := hf2.1; omega, hf2.2⟩
    | more n e =>
      have hn := hc2 n e rfl
      simp only [need] at hneed
      unfold run
      by_cases hw : which l i (opsOf n) = 0
      · rw [if_pos hw]; exact ⟨_, rfl, Nat.le_refl _, hi⟩
      · rw [if_neg hw]
        have hlt := which_lt hw
        obtain ⟨r, hr, hf⟩ := ih (.lv (n + 1)) d (i + 1) (by omega) (fun m h => by cases h; omega) (fun n e h => by cases h) (by simp only [need]; omega)
        rw [hr]
        cases r with
        | err k a => exact ⟨_, rfl, trivial⟩
        | ok y j =>
          have h1 := hf.1
          have h2 := hf.2
          simp only []
          by_cases h22 : n = 2
          · rw [if_pos h22]; exact ⟨_, rfl, by omega, h2⟩
          · rw [if_neg h22]
            obtain ⟨r2, hr2, hf2⟩ := ih (.more n (.bin (opN (which l i (opsOf n)) (plc l i)) e y)) d j h2 (fun m h => by cases h) (fun m e h => by cases h; omega) (by simp only [need]; omega)
            refine ⟨r2, hr2, ?_⟩
            cases r2 with
            | err k a => trivial
            | ok e2 j2 => exact ⟨by have := hf2.1; omega, hf2.2⟩
theorem run_more (l : List Tok) : ∀ (f g : Nat) (c : Cmd) (d i : Nat) (r : Res), f ≤ g → run l f c d i = some r → run l g c d i = some r := by
  intro f
  induction f with
  | zero => intro g c d i r _ h; cases h
  | succ f ih =>
    intro g c d i r hfg h
    obtain ⟨g, rfl⟩ : ∃ g', g = g' + 1 := ⟨g - 1, by omega⟩
    have hfg' : f ≤ g := by omega
    cases c with
    | lv n =>
      unfold run at h ⊢
      by_cases h5 : n = 5
      · rw [if_pos h5] at h ⊢
        by_cases h33 : sgAt l i [33] = true
        · rw [if_pos h33] at h ⊢
          by_cases hd : d = 30
          · rw [if_pos hd] at h ⊢; exact h
          · rw [if_neg hd] at h ⊢
            cases h1 : run l f (.lv 5) (d + 1) (i + 1) with
            | none => rw [h1] at h; cases h
            | some r1 => rw [h1] at h; rw [ih g _ _ _ _ hfg' h1]; exact h
        · rw [if_neg h33] at h ⊢
          by_cases h40 : sgAt l i [40] = true
          · rw [if_pos h40] at h ⊢
            by_cases hd : d = 30
            · rw [if_pos hd] at h ⊢; exact h
            · rw [if_neg hd] at h ⊢
              cases h1 : run l f (.lv 0) (d + 1) (i + 1) with
              | none => rw [h1] at h; cases h
              | some r1 => rw [h1] at h; rw [ih g _ _ _ _ hfg' h1]; exact h
          · rw [if_neg h40] at h ⊢; exact h
      · rw [if_neg h5] at h ⊢
        cases h1 : run l f (.lv (n + 1)) d i with
        | none => rw [h1] at h; cases h
        | some r1 =>
          rw [h1] at h; rw [ih g _ _ _ _ hfg' h1]
          cases r1 with
          | err k a => exact h
          | ok e j => exact ih g _ _ _ _ hfg' h
    | more n e =>
      unfold run at h ⊢
      by_cases hw : which l i (opsOf n) = 0
      · rw [if_pos hw] at h ⊢; exact h
      · rw [if_neg hw] at h ⊢
        cases h1 : run l f (.lv (n + 1)) d (i + 1) with
        | none => rw [h1] at h; cases h
        | some r1 =>
          rw [h1] at h; rw [ih g _ _ _ _ hfg' h1]
          cases r1 with
          | err k a => exact h
          | ok y j =>
            simp only [] at h ⊢
            by_cases h2 : n = 2
            · rw [if_pos h2] at h ⊢; exact h
            · rw [if_neg h2] at h ⊢; exact ih g _ _ _ _ hfg' h
noncomputable def parseR (l : List Tok) (i : Nat) : Res := finR l i ((run l (7 * l.length + 6) (.lv 0) 0 i).getD (.err 0 0))
theorem parse_of (l : List Tok) (i f : Nat) (r : Res) (hi : i ≤ l.length) (h : run l f (.lv 0) 0 i = some r) : parseR l i = finR l i r := by
  obtain ⟨r2, hr2, _⟩ := run_total l (7 * l.length + 6) (.lv 0) 0 i hi (fun n h => by cases h; omega) (fun n e h => by cases h) (by simp only [need]; omega)
  have e1 := run_more l _ (max f (7 * l.length + 6)) _ _ _ _ (Nat.le_max_left _ _) h
  have e2 := run_more l _ (max f (7 * l.length + 6)) _ _ _ _ (Nat.le_max_right _ _) hr2
  rw [e1] at e2
  cases e2
  unfold parseR
  rw [hr2]; rfl
end Go.Proofs.YtlpgafgiljffhaaGreatDoor
