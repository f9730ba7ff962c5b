/- Rows of statements as slices; parsing a text that was scanned. Parsing statements that were scanned. The fixed calls on statements: what their plain readers give. -/
import Derived.Test.YtmlcdnfejebhoaaGreatDoorL
import Derived.Test.YtmlcdnfejebhoaaGreatDoorYu
namespace Go.Proofs.YtmlcdnfejebhoaaGreatDoor
open Go.RowKit
theorem rowS_at (l : List SI) : ∀ i, (h : i < l.length) → ∀ k, (hk : k < 9) → (rowS l)[i * 9 + k]? = some ((cellsI l[i])[k]'(by simpa [cellsI] using hk)) := by
  induction l with
  | nil => intro i h; exact absurd h (Nat.not_lt_zero _)
  | cons a l ih =>
    intro i h k hk
    have hr : rowS (a :: l) = cellsI a ++ rowS l := by simp [rowS]
    have hl : (cellsI a).length = 9 := rfl
    cases i with
    | zero =>
      rw [hr, List.getElem?_append_left (by rw [hl]; omega), Nat.zero_mul, Nat.zero_add, List.getElem?_eq_getElem (by rw [hl]; omega)]
      rfl
    | succ i =>
      have := ih i (by simpa using h) k hk
      rw [hr, List.getElem?_append_right (by rw [hl]; omega), hl, show (i + 1) * 9 + k - 9 = i * 9 + k by omega, this]
      rfl
theorem stsD_of_row {w : World} {B : Nat} {v : Value} {ts : List SI} (h : w.ownsRow B 55 9 v ts.length (rowS ts)) (hi : SIn w ts) : StsD w v ts := by
  have hl := h.lt
  have hc := @World.ownsRow.cells _ _ _ _ _ _ _ h
  rcases h.2 with ⟨rfl, h0⟩ | ⟨g, cap, cur, rfl, _, hg, h1, h2, _⟩
  · have := List.eq_nil_of_length_eq_zero h0
    subst this
    exact ⟨none, 0, rfl, Nat.zero_le _, by omega, fun i hi => absurd hi (Nat.not_lt_zero _)⟩
  · refine ⟨_, cap, rfl, h1, by unfold maxLen at h2; omega, fun i hi' => ?_⟩
    have hk : ∀ k, (hk : k < 9) → w.cell? ⟨g, 0 + i * 9 + k, none⟩ = some ((cellsI ts[i])[k]'(by simpa [cellsI] using hk)) := by
      intro k hk
      have r := hc (g := g) rfl _ _ (rowS_at ts i hi' k hk)
      rw [addr_add] at r
      rw [Nat.zero_add]
      exact r
    have hm := hi ts[i] (List.getElem_mem hi')
    exact ⟨g, 0, rfl, (hl g rfl).2, ⟨hk 0 (by decide), hk 1 (by decide), hk 2 (by decide), hk 3 (by decide), hk 4 (by decide), hk 5 (by decide), hk 6 (by decide), hk 7 (by decide), hk 8 (by decide)⟩, ndsC_of_own hm.1, ndsC_of_own hm.2⟩
theorem stsD_of_own {w : World} {B : Nat} {v : Value} {xs : List St} (h : SOwn w B v xs) : ∃ ts : List SI, ts.map (·.1) = xs ∧ StsD w v ts := by
  obtain ⟨ts, h1, h2, h3⟩ := h
  exact ⟨ts, h1, stsD_of_row h2 h3⟩
theorem stsC_of_D {w : World} {v : Value} {ts : List SI} (h : StsD w v ts) : StsC w v ts := by
  obtain ⟨ad, cap, rfl, _, _, hc⟩ := h
  refine ⟨ad, cap, rfl, fun i hi => ?_⟩
  obtain ⟨b, off, ha, hl, ⟨h0, h1, h2, h3, h4, h5, h6, h7, h8⟩, g1, g2⟩ := hc i hi
  refine ⟨b, off, ha, hl, ?_, g1, g2⟩
  intro k hk
  match k, hk with
  | 0, _ => exact h0
  | 1, _ => exact h1
  | 2, _ => exact h2
  | 3, _ => exact h3
  | 4, _ => exact h4
  | 5, _ => exact h5
  | 6, _ => exact h6
  | 7, _ => exact h7
  | 8, _ => exact h8
theorem tokC_of_own {w : World} {B : Nat} {v : Value} {l : List Tok} (h : w.ownsRow B 35 4 v l.length (rowOf l)) : TokC w v l :=
  (toks_of_own h w.heap.size fun g hg => by have := (h.lt g hg).2; omega).tokC
end Go.Proofs.YtmlcdnfejebhoaaGreatDoor

namespace Go.Proofs.YtmlcdnfejebhoaaGreatDoor
open Go.RowKit
theorem scan_num (l : List UInt8) : ∀ i, (tokO (scanL l).1 i).2.2.1 ≤ 9999 := by
  intro i
  have hg := scanL_good l
  obtain ⟨ts, hts⟩ : ∃ ts, ts = (scanL l).1 := ⟨_, rfl⟩
  rw [← hts] at hg ⊢
  by_cases hi : i < ts.length
  · have e : tokO ts i = ts[i] := by simp [tokO, hi]
    rw [e]
    have h2 := hg _ (List.getElem_mem hi)
    unfold Good at h2
    have h3 := tk_num _ _ _ _ h2
    omega
  · have e : tokO ts i = (0, [], 0, 0) := by simp [tokO, hi]
    rw [e]
    simp
theorem spar_scanned (l : List UInt8) (B : Nat) (lv : Value) (i : Int) (w : World) (h : w.ownsRow B 35 4 lv (scanL l).1.length (rowOf (scanL l).1)) (hl : l.length ≤ 20000) (hs : Sgn w) :
    Calls Tryz.prog 14 #[lv, .int .i64 i] w (LAns (stmtR (scanL l).1 i) w) :=
  sparse_any (scanL l).1 lv i w (tokC_of_own h) hs (by have := scan_few l hl; omega) (scan_tokOK l hl)
theorem rspar_scanned (l : List UInt8) (B : Nat) (lv : Value) (i : Int) (w : World) (h : w.ownsRow B 35 4 lv (scanL l).1.length (rowOf (scanL l).1)) (hl : l.length ≤ 20000) :
    Calls Tryz.prog 15 #[lv, .int .i64 i] w (LAns (stmtR (scanL l).1 i) w) :=
  rstmt_any (scanL l).1 lv i w ⟨tokC_of_own h, by have := scan_few l hl; omega, scan_tokOK l hl, scan_num l⟩
theorem alikeS_refl (p : Bool) (x : St) (h1 : x.e.length ≤ 100000) (h2 : x.f.length ≤ 100000) : alikeS p x x :=
  ⟨rfl, rfl, rfl, ⟨rfl, fun _ _ _ => ⟨rfl, rfl, rfl, rfl, fun _ => rfl⟩⟩, ⟨rfl, fun _ _ _ => ⟨rfl, rfl, rfl, rfl, fun _ => rfl⟩⟩, rfl, rfl, rfl, fun _ => rfl, h1, h2⟩
set_option maxRecDepth 100000 in
set_option maxHeartbeats 2000000 in
theorem tops_two (ts : List SI) (v : Value) (w : World) (hv : StsD w v ts) (a b c : SI) (ht : ts = [a, b, c]) (ha : a.1.body = 1 ∧ a.1.els = 0) (hc : c.1.body = 0 ∧ c.1.els = 0) (hcp : Cpl (ts.map (·.1))) :
    Calls Tryz.prog 32 #[v] w fun e w' => (∃ ad cap, e = .returned (.slice ad 2 cap)) ∧ Below w.heap.size w w' := by
  have HC := Lib.hid (complete_any ts.length ts v w (Nat.le_refl _) (by rw [ht]; simp) hv)
  rw [cplB_yes hcp] at HC
  have hv2 := hv
  obtain ⟨ad, cap, rfl, _, _, hcell⟩ := hv2
  subst ht
  obtain ⟨b0, off, h0, hl, ⟨_, _, _, _, _, _, a6, a7, _⟩, _⟩ := hcell 0 (by simp)
  obtain ⟨b1, off1, h1, _, ⟨_, _, _, _, _, _, c6, c7, _⟩, _⟩ := hcell 2 (by simp)
  simp only [List.getElem_cons_zero, List.getElem_cons_succ] at a6 a7 c6 c7
  subst h0
  cases h1
  rw [ha.1] at a6
  rw [ha.2] at a7
  rw [hc.1] at c6
  rw [hc.2] at c7
  have HL := Lib.hid hl
  have A6 := Lib.hid a6
  have A7 := Lib.hid a7
  have C6 := Lib.hid c6
  have C7 := Lib.hid c7
  clear hcell a6 a7 c6 c7 hv hcp ha hc hl
  go_enter Tryz.func32, Tryz.ntmps32
  go_wp2_with fail
  refine HC.out.mono ?_
  rintro e w1 ⟨rfl, hb⟩
  have HB := Lib.hid hb
  clear hb HC
  go_wp2_with fail
  go_loopg [3, 4] 3 (fun fuel v' i' wr => ∃ (k i cap2 : Nat) (ad2 : Option Addr) (xs : List Value), ((i = 0 ∧ k = 0) ∨ (i = 2 ∧ k = 1) ∨ (i = 3 ∧ k = 2)) ∧ i' = .int .i64 i ∧ 3 - i ≤ fuel ∧ v' = .slice ad2 k cap2 ∧ wr.ownsRow w.heap.size 3 1 (.slice ad2 k cap2) k xs ∧ Below w.heap.size w wr)
  case atStart => exact ⟨0, 0, 0, none, [], .inl ⟨rfl, rfl⟩, rfl, Nat.le_refl _, rfl, World.ownsRow_nil _ _ _ _, HB.out⟩
  case round =>
    obtain ⟨k, i, cap2, ad2, xs, hki, rfl, hf, rfl, ho, hb⟩ := hrel
    have HO := Lib.hid ho
    have HB2 := Lib.hid hb
    have hww := hb.size
    clear ho hb
    by_cases hlt : i < 3
    · have hcc : ∃ nb : Nat, w.cell? ⟨b0, off + i * 9 + 6, none⟩ = some (.int .i64 nb) ∧ w.cell? ⟨b0, off + i * 9 + 7, none⟩ = some (.int .i64 0) ∧ nb ≤ 1 ∧ k ≤ 1 ∧ ((i + 1 + nb = 2 ∧ k = 0) ∨ (i + 1 + nb = 3 ∧ k = 1)) := by
        rcases hki with ⟨rfl, rfl⟩ | ⟨rfl, rfl⟩ | ⟨rfl, rfl⟩
        · exact ⟨1, A6.out, A7.out, by omega, by omega, .inl ⟨rfl, rfl⟩⟩
        · exact ⟨0, C6.out, C7.out, by omega, by omega, .inr ⟨rfl, rfl⟩⟩
        · omega
      obtain ⟨nb, e6, e7, hnb, hk1, hnx⟩ := hcc
      have E6 := Lib.hid e6
      have E7 := Lib.hid e7
      have HNX := Lib.hid hnx
      clear e6 e7 hnx hki
      go_wp2_with (at_builtin; refine append_int rfl (.tmp 26) (.tmp 28) rfl w.heap.size k _ _ i rfl _ rfl (own_below HO.out ((Below.refl _ _).alloc (Nat.le_refl _) _)) ?cc (by omega) (by simp; omega) ?_)
      case cc => simp
      intro v3 w3 hown3 hb3
      obtain ⟨ad4, cap4, rfl, hsh⟩ := own_shape hown3
      clear hsh
      have hb4 := (HB2.out.alloc hww (.cells #[.int .i64 i] 3)).trans hb3
      have x6 := (hb4.cell (p := ⟨b0, _, none⟩) HL.out).trans E6.out
      have x7 := (hb4.cell (p := ⟨b0, _, none⟩) HL.out).trans E7.out
      have HB3 := Lib.hid hb4
      have HO3 := Lib.hid hown3
      clear hown3 hb3 hb4
      have q1 : decide ((i : Int) < 3) = true := by simp; omega
      have q2 : decide (i < 3) = true := by simp; omega
      have hi3 : (i : Int) < 3 := by omega
      go_wp2
      go_quiet (fail)
      go_wp2
      go_roundg (gk - 1)
      case measure => omega
      case rel =>
        refine ⟨k + 1, i + 1 + nb, cap4, ad4, _, ?_, by go_num, by omega, rfl, HO3.out, HB3.out.trans ((below_end _).mono HB3.out.size)⟩
        rcases HNX.out with ⟨h1, h2⟩ | ⟨h1, h2⟩
        · exact .inr (.inl ⟨h1, by omega⟩)
        · exact .inr (.inr ⟨h1, by omega⟩)
    · obtain ⟨rfl, rfl⟩ : i = 3 ∧ k = 2 := by omega
      go_wp2
      go_ret
      exact ⟨⟨ad2, cap2, rfl⟩, HB2.out⟩
end Go.Proofs.YtmlcdnfejebhoaaGreatDoor

namespace Go.Proofs.YtmlcdnfejebhoaaGreatDoor
open Go.RowKit
def ky1 : List UInt8 := [119, 104, 105, 108, 101, 32, 97, 32, 33, 61, 32, 48, 32, 123, 32, 108, 111, 97, 100, 32, 97, 32, 61, 32, 120, 59, 32, 125, 32, 99, 97, 115, 32, 97, 32, 61, 32, 120, 44, 32, 48, 44, 32, 49, 59, 32, 125]
def ty1 : List Tok := [(1, [119, 104, 105, 108, 101], 0, 0), (1, [97], 0, 6), (3, [33, 61], 0, 8), (2, [48], 0, 11), (3, [123], 0, 13), (1, [108, 111, 97, 100], 0, 15), (1, [97], 0, 20), (3, [61], 0, 22), (1, [120], 0, 24), (3, [59], 0, 25), (3, [125], 0, 27), (1, [99, 97, 115], 0, 29), (1, [97], 0, 33), (3, [61], 0, 35), (1, [120], 0, 37), (3, [44], 0, 38), (2, [48], 0, 40), (3, [44], 0, 41), (2, [49], 1, 43), (3, [59], 0, 44), (3, [125], 0, 46)]
theorem sy1 : (scanL ky1).1 = ty1 := by decide +kernel
def ky2 : List UInt8 := [108, 111, 97, 100, 32, 97, 32, 120, 59]
def ty2 : List Tok := [(1, [108, 111, 97, 100], 0, 0), (1, [97], 0, 5), (1, [120], 0, 7), (3, [59], 0, 8)]
theorem sy2 : (scanL ky2).1 = ty2 := by decide +kernel
def ky3 : List UInt8 := [108, 111, 111, 112, 32, 123]
def ty3 : List Tok := [(1, [108, 111, 111, 112], 0, 0), (3, [123], 0, 5)]
theorem sy3 : (scanL ky3).1 = ty3 := by decide +kernel
def ky4 : List UInt8 := [115, 101, 116, 32, 97, 32, 61, 32, 116, 46, 98, 59]
def ty4 : List Tok := [(1, [115, 101, 116], 0, 0), (1, [97], 0, 4), (3, [61], 0, 6), (1, [116], 0, 8), (3, [46], 0, 9), (1, [98], 0, 10), (3, [59], 0, 11)]
theorem sy4 : (scanL ky4).1 = ty4 := by decide +kernel
def nmN (s : List UInt8) (pl : Int) : Nd := ⟨2, 0, ⟨s.toArray⟩, ⟨#[]⟩, pl⟩
def nuN (n : Int) (pl : Int) : Nd := ⟨1, n, ⟨#[]⟩, ⟨#[]⟩, pl⟩
def ey1 : Ex := .bin (opN 10 8) (.leaf (nmN [97] 6)) (.leaf (nuN 0 11))
def xy : List St := [⟨11, ⟨#[]⟩, ⟨#[]⟩, ey1.flat, [], false, 1, 0, 0⟩, ⟨3, ⟨#[97]⟩, ⟨#[120]⟩, [], [], false, 0, 0, 15⟩, ⟨5, ⟨#[97]⟩, ⟨#[120]⟩, [nuN 0 40], [nuN 1 43], false, 0, 0, 29⟩]
theorem py1 : stmtR ty1 0 = .ok xy 20 := by kernel_rfl
theorem py2 : stmtR ty2 0 = .err 5 7 := by kernel_rfl
theorem py3 : stmtR ty3 0 = .err 6 6 := by kernel_rfl
theorem py4 : stmtR ty4 0 = .err 5 8 := by kernel_rfl
theorem ey1w : ey1.wf := by simp [ey1, Ex.wf, opN, nmN, nuN, ar]
theorem ey1r : rightP ey1.flat := ⟨ey1, ey1w, rfl, by decide +kernel, by decide +kernel, by decide +kernel⟩
theorem nur (n pl : Int) (h : okN (nuN n pl) = true) : rightP [nuN n pl] := ⟨.leaf (nuN n pl), by simp [Ex.wf, nuN, ar], rfl, by simp, by simpa using h, by simp [Ex.depth]⟩
def tyx : Tr := .node ⟨11, ⟨#[]⟩, ⟨#[]⟩, ey1.flat, [], false, 1, 0, 0⟩ (.node ⟨3, ⟨#[97]⟩, ⟨#[120]⟩, [], [], false, 0, 0, 15⟩ .nil .nil .nil) .nil (.node ⟨5, ⟨#[97]⟩, ⟨#[120]⟩, [nuN 0 40], [nuN 1 43], false, 0, 0, 29⟩ .nil .nil .nil)
theorem tyf : tyx.flat = xy := rfl
theorem xok : ∀ x ∈ xy, okSt x := by
  intro x hx
  simp only [xy, List.mem_cons, List.not_mem_nil, or_false] at hx
  rcases hx with rfl | rfl | rfl
  · exact ⟨by decide, by decide, by decide, rfl, rfl, ⟨ey1r, by decide +kernel⟩, rfl, by simp, by intro _; rfl, by simp⟩
  · exact ⟨by decide, by decide, by decide, by decide +kernel, by decide +kernel, rfl, rfl, by simp, by simp, by simp⟩
  · exact ⟨by decide, by decide, by decide, by decide +kernel, by decide +kernel, ⟨nur 0 40 (by decide +kernel), by decide +kernel⟩, ⟨nur 1 43 (by decide +kernel), by decide +kernel⟩, by simp, by simp, by simp⟩
theorem xright : rightS xy := ⟨by decide, tyx, tyf, xok, by decide +kernel⟩
theorem ex1 : textOf ey1.flat = [97, 32, 33, 61, 32, 48] := by rw [textOf_tree _ ey1r ey1 ey1w rfl]; decide +kernel
theorem ex2 : textOf [nuN 0 40] = [48] := by rw [textOf_tree _ (nur 0 40 (by decide +kernel)) (.leaf (nuN 0 40)) (by simp [Ex.wf, nuN, ar]) rfl]; decide +kernel
theorem ex3 : textOf [nuN 1 43] = [49] := by rw [textOf_tree _ (nur 1 43 (by decide +kernel)) (.leaf (nuN 1 43)) (by simp [Ex.wf, nuN, ar]) rfl]; decide +kernel
theorem xtext : textS xy 0 = [119, 104, 105, 108, 101, 32, 97, 32, 33, 61, 32, 48, 32, 123, 10, 32, 32, 108, 111, 97, 100, 32, 97, 32, 61, 32, 120, 59, 10, 125, 10, 99, 97, 115, 32, 97, 32, 61, 32, 120, 44, 32, 48, 44, 32, 49, 59, 10] := by
  rw [textS_tree xright tyx tyf 0]
  simp only [tyx, Tr.text, lineB, nestK, Tr.flat]
  simp [fieldB, formL, kwds, ind, ex1, ex2, ex3]
end Go.Proofs.YtmlcdnfejebhoaaGreatDoor
