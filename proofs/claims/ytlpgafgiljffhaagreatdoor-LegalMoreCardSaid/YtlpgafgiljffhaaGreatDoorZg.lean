/- Right, Depth. Show of statements. Rows of statements as slices; parsing a text that was scanned. Rows of programs as they are read; IndexFunc and ContainsFunc over them. -/
import Derived.Test.YtlpgafgiljffhaaGreatDoorZf
import Derived.Shelf.Strings.Builder1
import Derived.Shelf.Strings.Builder2
import Derived.Shelf.Strings.BuilderF
import Derived.Shelf.Strings.Prefix
import Derived.Shelf.Bits.Mul64
import Derived.Shelf.Strings.Repeat
import Derived.Test.YtlpgafgiljffhaaGreatDoorProg
import Derived.Shelf.LaysM
import Derived.Shelf.Strconv.Clone
import Derived.Shelf.Strconv.Itoa3
import Derived.Lib.Slices
import Derived.Lib.Walk
import Derived.Lib.Builder
import Derived.Lib.AppendStr
import Derived.WalkKit
import Derived.Laws.Externs
import Derived.Lib.OthersKept
import Derived.Test.YtlpgafgiljffhaaGreatDoorVm
import Derived.Shelf.Abstract
import Derived.WideMake
namespace Go.Proofs.YtlpgafgiljffhaaGreatDoor
open Go.RowKit
def SmOK (xs : List St) : Prop := ∀ x ∈ xs, x.reg.size ≤ 100000 ∧ x.loc.size ≤ 100000 ∧ x.e.length ≤ 100000 ∧ x.f.length ≤ 100000 ∧ NmOK x.e ∧ NmOK x.f
noncomputable def goodB (xs : List St) : Bool := xs.all fun x => !flawB x
set_option maxRecDepth 100000 in
set_option maxHeartbeats 2000000 in
theorem sidx_any (ts : List SI) (v : Value) (w : World) (hv : StsD w v ts) (hn : ts.length ≤ 100000) (hz : SmOK (ts.map (·.1))) (ht : Flds w) :
    Calls Tryz.prog 119 #[v, .func (.func 105) #[] #[]] w (IdxAns (!goodB (ts.map (·.1))) w) := by
  obtain ⟨B, hB⟩ : ∃ B, goodB ((ts.drop 0).map (·.1)) = B := ⟨_, rfl⟩
  rw [show goodB (ts.map (·.1)) = B from hB]
  have HB0 := Lib.hid hB
  have HV := Lib.hid hv
  obtain ⟨ad, cap, rfl⟩ := hv.shape
  obtain ⟨n, hN⟩ : ∃ n, n = ts.length := ⟨_, rfl⟩
  rw [← hN] at hn HV ⊢
  have HN := Lib.hid hN
  have HZ := Lib.hid hz
  have HT := Lib.hid ht
  clear hN hv hz hB ht
  go_enter Tryz.func119, Tryz.ntmps119
  go_wp2_with fail
  go_loopg [8] n (fun fuel i' wr => ∃ k : Nat, i' = .int .i64 k ∧ k ≤ n ∧ n - k ≤ fuel ∧ goodB ((ts.drop k).map (·.1)) = B ∧ Below w.heap.size w wr)
  case atStart => exact ⟨0, rfl, Nat.zero_le _, Nat.le_refl _, HB0.out, Below.refl _ _⟩
  case round =>
    obtain ⟨k, rfl, hk, hf, ha, hb⟩ := hrel
    have HA := Lib.hid ha
    have HB := Lib.hid hb
    have hww := hb.size
    clear ha hb
    by_cases hlt : k < n
    · have hk' : k < ts.length := by have := HN.out; omega
      have HD := Lib.hid (List.drop_eq_getElem_cons hk')
      obtain ⟨ad', cap', hv', _, _, hc⟩ := HV.out.below HB.out
      injection hv' with e1 e2 e3
      subst e1 e3
      obtain ⟨b, off, rfl, hbl, ⟨x0, x1, x2, x3, x4, x5, x6, x7, x8⟩, hE, hF⟩ := hc k hk'
      have hsm := HZ.out ts[k].1 (List.mem_map_of_mem (List.getElem_mem hk'))
      obtain ⟨t, hx⟩ : ∃ t, t = ts[k] := ⟨_, rfl⟩
      have HX := Lib.hid hx
      rw [← hx] at x0 x1 x2 x3 x4 x5 x6 x7 x8 hE hF hsm
      have HFL := Lib.hid (sflawed_any t.1 t.2.1 t.2.2 wr hE hF hsm.2.2.1 hsm.2.2.2.1 hsm.2.2.2.2.1 hsm.2.2.2.2.2 hsm.1 hsm.2.1 (HT.out.below HB.out))
      obtain ⟨q, hq⟩ : ∃ q, flawB t.1 = q := ⟨_, rfl⟩
      rw [hq] at HFL
      have HQ := Lib.hid hq
      obtain ⟨a1, p1, e4, _⟩ := hE
      obtain ⟨a2, p2, e5, _⟩ := hF
      rw [e4] at x3 HFL
      rw [e5] at x4 HFL
      obtain ⟨⟨tk, tr, tl, te, tf, tn, tb, tq, tp⟩, v1, v2⟩ := t
      simp only [St.cells] at x0 x1 x2 x3 x4 x5 x6 x7 x8 HFL
      clear hc hx hq hsm e4 e5 e2
      go_wp2_with fail
      refine HFL.out.mono ?_
      rintro e w2 ⟨rfl, hb2⟩
      have HB2 := Lib.hid (HB.out.trans (hb2.mono hww))
      clear hb2 x0 x1 x2 x3 x4 x5 x6 x7 x8
      cases q with
      | false =>
        go_wp2
        go_roundg (gk - 1)
        case measure => omega
        case rel =>
          refine ⟨k + 1, by go_num, by omega, by omega, ?_, HB2.out⟩
          have h2 := HA.out
          rw [HD.out, List.map_cons] at h2
          unfold goodB at h2 ⊢
          rw [List.all_cons, ← HX.out] at h2
          simp only [] at h2
          rw [HQ.out] at h2
          simpa using h2
      | true =>
        go_wp2
        go_ret
        refine ⟨k, rfl, ?_, HB2.out⟩
        have h2 := HA.out
        rw [HD.out, List.map_cons] at h2
        unfold goodB at h2
        rw [List.all_cons, ← HX.out] at h2
        simp only [] at h2
        rw [HQ.out] at h2
        rw [← h2]; simp
    · have HE := Lib.hid (drop_over ts k (by have := HN.out; omega))
      go_wp2
      go_ret
      refine ⟨-1, rfl, ?_, HB.out⟩
      have := HA.out
      rw [HE.out] at this
      rw [← this]; rfl
set_option maxRecDepth 100000 in
set_option maxHeartbeats 400000 in
theorem scontains_any (ts : List SI) (v : Value) (w : World) (hv : StsD w v ts) (hn : ts.length ≤ 100000) (hz : SmOK (ts.map (·.1))) (ht : Flds w) (b : Bool) (hb : goodB (ts.map (·.1)) = b) :
    Calls Tryz.prog 104 #[v, .func (.func 105) #[] #[]] w fun e w' => e = .returned (.bool (!b)) ∧ Below w.heap.size w w' := by
  have H := sidx_any ts v w hv hn hz ht
  rw [hb] at H
  clear hv hn hz hb ht
  go_enter Tryz.func104, Tryz.ntmps104
  go_wp2_with fail
  refine H.mono ?_
  rintro e w2 ⟨z, rfl, hz, hb2⟩
  have HZ := Lib.hid hz
  clear hz
  go_wp2
  go_ret
  exact ⟨ret_bool HZ.out, hb2⟩
open Classical in
noncomputable def rightSB (xs : List St) : Bool := decide (xs.length ≤ 200 ∧ Cpl xs ∧ goodB xs = true ∧ ∃ t : Tr, t.flat = xs ∧ t.hgt ≤ 30)
open Classical in
theorem rightSB_no {xs : List St} (h : ¬ (xs.length ≤ 200 ∧ Cpl xs ∧ goodB xs = true ∧ ∃ t : Tr, t.flat = xs ∧ t.hgt ≤ 30)) : rightSB xs = false := by unfold rightSB; exact decide_eq_false h
open Classical in
theorem rightSB_yes {xs : List St} (h : xs.length ≤ 200 ∧ Cpl xs ∧ goodB xs = true ∧ ∃ t : Tr, t.flat = xs ∧ t.hgt ≤ 30) : rightSB xs = true := by unfold rightSB; exact decide_eq_true h
theorem hgt_inj : ∀ (t t' : Tr), t.flat = t'.flat → t.hgt = t'.hgt := by
  intro t
  induction t with
  | nil => intro t' h; cases t' with
    | nil => rfl
    | node s b o r => cases h
  | node s b o r hb ho hr =>
    intro t' h
    cases t' with
    | nil => cases h
    | node s' b' o' r' =>
      rw [Tr.flat, Tr.flat, List.append_assoc, List.append_assoc] at h
      injection h with e1 e2
      have g0 : s.kind = s'.kind := by have := congrArg St.kind e1; exact this
      have g1 : b.flat.length = b'.flat.length := by have := congrArg St.body e1; exact Int.ofNat_inj.1 this
      have g2 : o.flat.length = o'.flat.length := by have := congrArg St.els e1; exact Int.ofNat_inj.1 this
      obtain ⟨h1, h2⟩ := List.append_inj e2 g1
      obtain ⟨h3, h4⟩ := List.append_inj h2 g2
      rw [Tr.hgt, Tr.hgt, g0, hb _ h1, ho _ h3, hr _ h4]
set_option maxRecDepth 100000 in
set_option maxHeartbeats 2000000 in
theorem sright_any (ts : List SI) (v : Value) (w : World) (hv : StsD w v ts) (hn : ts.length ≤ 100000) (hz : SmOK (ts.map (·.1))) (ht : Flds w) :
    Calls Tryz.prog 72 #[v] w fun e w' => e = .returned (.bool (rightSB (ts.map (·.1)))) ∧ Below w.heap.size w w' := by
  have HC := Lib.hid (complete_any ts.length ts v w (Nat.le_refl _) hn hv)
  have HG := Lib.hid (fun (W : World) (h : Below w.heap.size w W) b hb => scontains_any ts v W (hv.below h) hn hz (ht.below h) b hb)
  have HH := Lib.hid (fun (W : World) (h : Below w.heap.size w W) t hf => sheight_any ts.length t ts v W (Nat.le_refl _) hn hf (hv.below h))
  obtain ⟨ad, cap, rfl⟩ := hv.shape
  have hlen : (ts.map (·.1)).length = ts.length := List.length_map ..
  obtain ⟨xs, hxs⟩ : ∃ xs, xs = ts.map (·.1) := ⟨_, rfl⟩
  rw [← hxs] at HC HG HH hlen ⊢
  obtain ⟨n, hN⟩ : ∃ n, n = ts.length := ⟨_, rfl⟩
  rw [← hN] at hn HC HG HH hlen ⊢
  clear hxs hN hv hz ht
  by_cases h200 : 200 < n
  · have q1 : decide ((200 : Int) < (n : Int)) = true := by simp; omega
    have q2 : decide (200 < n) = true := by simp; omega
    rw [rightSB_no (fun h => by omega)]
    clear hlen h200
    go_enter Tryz.func72, Tryz.ntmps72
    go_wp2
    go_ret
    exact ⟨rfl, Below.refl _ _⟩
  · have q1 : decide ((200 : Int) < (n : Int)) = false := by simp; omega
    have q2 : decide (200 < n) = false := by simp; omega
    by_cases hc : Cpl xs
    · rw [cplB_yes hc] at HC
      obtain ⟨t, htf⟩ := hc
      have HT := Lib.hid (fun (W : World) (h : Below w.heap.size w W) => HH.out W h t htf.symm)
      obtain ⟨g, hg⟩ : ∃ g, goodB xs = g := ⟨_, rfl⟩
      have HGG := Lib.hid (fun (W : World) (h : Below w.heap.size w W) => HG.out W h g hg)
      cases g with
      | false =>
        rw [rightSB_no (fun h => by rw [hg] at h; exact absurd h.2.2.1 (by simp))]
        clear hlen h200 htf hg HG HH
        go_enter Tryz.func72, Tryz.ntmps72
        go_wp2_with fail
        refine HC.out.mono ?_
        rintro e w2 ⟨rfl, hb2⟩
        go_wp2_with fail
        refine (HGG.out w2 hb2).mono ?_
        rintro e w3 ⟨rfl, hb3⟩
        go_wp2
        go_ret
        exact ⟨rfl, hb2.trans (hb3.mono hb2.size)⟩
      | true =>
        have hbd : t.hgt ≤ n := by have := hgt_le t; rw [htf, hlen] at this; exact this
        obtain ⟨z, hz⟩ : ∃ z, z = t.hgt := ⟨_, rfl⟩
        have hrs : rightSB xs = decide ((z : Int) ≤ 30) := by
          by_cases h30 : t.hgt ≤ 30
          · rw [rightSB_yes ⟨by omega, ⟨t, htf⟩, hg, t, htf, h30⟩, hz]
            symm; simp; omega
          · rw [rightSB_no (fun h => by obtain ⟨_, _, _, t', h1, h2⟩ := h; rw [hgt_inj t t' (htf.trans h1.symm)] at h30; exact h30 h2), hz]
            symm; simp; omega
        rw [hrs]
        rw [← hz] at HT hbd
        clear hlen h200 htf hg HG HH hrs hz
        go_enter Tryz.func72, Tryz.ntmps72
        go_wp2_with fail
        refine HC.out.mono ?_
        rintro e w2 ⟨rfl, hb2⟩
        go_wp2_with fail
        refine (HGG.out w2 hb2).mono ?_
        rintro e w3 ⟨rfl, hb3⟩
        have hb23 := hb2.trans (hb3.mono hb2.size)
        go_wp2_with fail
        refine (HT.out w3 hb23).mono ?_
        rintro e w4 ⟨rfl, hb4⟩
        go_wp2
        go_ret
        refine ⟨ret_bool (by simp), hb23.trans (hb4.mono hb23.size)⟩
    · rw [cplB_no hc] at HC
      rw [rightSB_no (fun h => hc h.2.1)]
      clear hlen h200 hc HG HH
      go_enter Tryz.func72, Tryz.ntmps72
      go_wp2_with fail
      refine HC.out.mono ?_
      rintro e w2 ⟨rfl, hb2⟩
      go_wp2
      go_ret
      exact ⟨rfl, hb2⟩
end Go.Proofs.YtlpgafgiljffhaaGreatDoor

namespace Go.Proofs.YtlpgafgiljffhaaGreatDoor
open Go.RowKit
theorem Tr.flat_inj : ∀ (t t' : Tr), t.flat = t'.flat → (∀ d, t.text d = t'.text d) ∧ t.tok = t'.tok := by
  intro t
  induction t with
  | nil =>
    intro t' h
    cases t' with
    | nil => exact ⟨fun _ => rfl, rfl⟩
    | node s b o r => cases h
  | node s b o r ib io ir =>
    intro t' h
    cases t' with
    | nil => cases h
    | node s' b' o' r' =>
      simp only [Tr.flat] at h
      injection h with h1 h2
      have hb : b.flat.length = b'.flat.length := by
        have := congrArg St.body h1
        simp only [] at this
        omega
      have ho : o.flat.length = o'.flat.length := by
        have := congrArg St.els h1
        simp only [] at this
        omega
      rw [List.append_assoc, List.append_assoc] at h2
      obtain ⟨e1, e2⟩ := List.append_inj h2 hb
      obtain ⟨e3, e4⟩ := List.append_inj e2 ho
      have q1 := ib b' e1
      have q2 := io o' e3
      have q3 := ir r' e4
      have z1 := bareS s (b.flat.length : Nat) (o.flat.length : Nat)
      have z2 := bareS s' (b'.flat.length : Nat) (o'.flat.length : Nat)
      have hk : s.kind = s'.kind := by have h9 := congrArg St.kind h1; exact h9
      have hL : lineB s = lineB s' := by rw [← z1.1, h1, z2.1]
      have hT : lineT s = lineT s' := by rw [← z1.2, h1, z2.2]
      have hof : o.flat.length = 0 ↔ o'.flat.length = 0 := by omega
      constructor
      · intro d
        rw [Tr.text, Tr.text, hL, hk, q1.1, q2.1, q3.1, ho]
      · rw [Tr.tok, Tr.tok, hT, hk, q1.2, q2.2, q3.2, ho]
end Go.Proofs.YtlpgafgiljffhaaGreatDoor

namespace Go.Proofs.YtlpgafgiljffhaaGreatDoor
open Go.RowKit
theorem rowS_at (l : List SI) : ∀ i, (h : i < l.length) → ∀ k, (hk : k < 9) → (rowS l)[i * 9 + k]? = some ((cellsI l[i])[k]'(by simpa [cellsI] using hk)) := by
  induction l with
  | nil => intro i h; exact absurd h (Nat.not_lt_zero _)
  | cons a l ih =>
    intro i h k hk
    have hr : rowS (a :: l) = cellsI a ++ rowS l := by simp [rowS]
    have hl : (cellsI a).length = 9 := rfl
    cases i with
    | zero =>
      rw [hr, List.getElem?_append_left (by rw [hl]; omega), Nat.zero_mul, Nat.zero_add, List.getElem?_eq_getElem (by rw [hl]; omega)]
      rfl
    | succ i =>
      have := ih i (by simpa using h) k hk
      rw [hr, List.getElem?_append_right (by rw [hl]; omega), hl, show (i + 1) * 9 + k - 9 = i * 9 + k by omega, this]
      rfl
theorem stsD_of_row {w : World} {B : Nat} {v : Value} {ts : List SI} (h : w.ownsRow B 61 9 v ts.length (rowS ts)) (hi : SIn w ts) : StsD w v ts := by
  have hl := h.lt
  have hc := @World.ownsRow.cells _ _ _ _ _ _ _ h
  rcases h.2 with ⟨rfl, h0⟩ | ⟨g, cap, cur, rfl, _, hg, h1, h2, _⟩
  · have := List.eq_nil_of_length_eq_zero h0
    subst this
    exact ⟨none, 0, rfl, Nat.zero_le _, by omega, fun i hi => absurd hi (Nat.not_lt_zero _)⟩
  · refine ⟨_, cap, rfl, h1, by unfold maxLen at h2; omega, fun i hi' => ?_⟩
    have hk : ∀ k, (hk : k < 9) → w.cell? ⟨g, 0 + i * 9 + k, none⟩ = some ((cellsI ts[i])[k]'(by simpa [cellsI] using hk)) := by
      intro k hk
      have r := hc (g := g) rfl _ _ (rowS_at ts i hi' k hk)
      rw [addr_add] at r
      rw [Nat.zero_add]
      exact r
    have hm := hi ts[i] (List.getElem_mem hi')
    exact ⟨g, 0, rfl, (hl g rfl).2, ⟨hk 0 (by decide), hk 1 (by decide), hk 2 (by decide), hk 3 (by decide), hk 4 (by decide), hk 5 (by decide), hk 6 (by decide), hk 7 (by decide), hk 8 (by decide)⟩, ndsC_of_own hm.1, ndsC_of_own hm.2⟩
theorem stsD_of_own {w : World} {B : Nat} {v : Value} {xs : List St} (h : SOwn w B v xs) : ∃ ts : List SI, ts.map (·.1) = xs ∧ StsD w v ts := by
  obtain ⟨ts, h1, h2, h3⟩ := h
  exact ⟨ts, h1, stsD_of_row h2 h3⟩
end Go.Proofs.YtlpgafgiljffhaaGreatDoor

namespace Go.Proofs.YtlpgafgiljffhaaGreatDoor
open Go.RowKit
def SlD {α : Type} (S : Nat) (R : World → Nat → Nat → α → Prop) (w : World) (v : Value) (xs : List α) : Prop :=
  ∃ ad cap, v = .slice ad xs.length cap ∧ (xs.length ≤ cap ∧ (ad = none → cap = 0)) ∧ cap ≤ 9223372036854775807 ∧ ∀ i, (hi : i < xs.length) → ∃ b off, ad = some ⟨b, off, none⟩ ∧ b < w.heap.size ∧ R w b (off + i * S) xs[i]
theorem SlD.mono {α : Type} {S : Nat} {R : World → Nat → Nat → α → Prop} {w w' : World} {v : Value} {xs : List α} (h : SlD S R w v xs) (hb : w.heap.size ≤ w'.heap.size) (hR : ∀ b off x, b < w.heap.size → R w b off x → R w' b off x) : SlD S R w' v xs := by
  obtain ⟨ad, cap, hv, h1, h2, hc⟩ := h
  refine ⟨ad, cap, hv, h1, h2, fun i hi => ?_⟩
  obtain ⟨b, off, ha, hl, g1⟩ := hc i hi
  exact ⟨b, off, ha, Nat.lt_of_lt_of_le hl hb, hR _ _ _ hl g1⟩
theorem SlD.shape {α : Type} {S : Nat} {R : World → Nat → Nat → α → Prop} {w : World} {v : Value} {xs : List α} (h : SlD S R w v xs) : ∃ ad cap, v = .slice ad xs.length cap := by
  obtain ⟨ad, cap, hv, _⟩ := h; exact ⟨ad, cap, hv⟩
theorem SlD.nil {α : Type} {S : Nat} {R : World → Nat → Nat → α → Prop} {w : World} : SlD S R w (.slice none 0 0) [] := ⟨none, 0, rfl, ⟨Nat.le_refl _, fun _ => rfl⟩, by omega, fun i hi => absurd hi (Nat.not_lt_zero _)⟩
def StrAt (w : World) (b off : Nat) (x : ByteArray) : Prop := w.cell? ⟨b, off, none⟩ = some (.string x)
def VrAt (w : World) (b off : Nat) (x : Vr) : Prop := w.cell? ⟨b, off, none⟩ = some (.string x.nm) ∧ w.cell? ⟨b, off + 1, none⟩ = some (.int .i64 x.n) ∧ w.cell? ⟨b, off + 2, none⟩ = some (.int .i64 x.pl)
abbrev StrsD := SlD 1 StrAt
abbrev VrsD := SlD 3 VrAt
def ThAt (w : World) (b off : Nat) (t : TI) : Prop := (w.cell? ⟨b, off, none⟩ = some (.string t.1.nm) ∧ w.cell? ⟨b, off + 1, none⟩ = some t.2.1 ∧ w.cell? ⟨b, off + 2, none⟩ = some t.2.2 ∧ w.cell? ⟨b, off + 3, none⟩ = some (.int .i64 t.1.pl)) ∧
  StrsD w t.2.1 t.1.regs ∧ ∃ ss : List SI, ss.map (·.1) = t.1.body ∧ StsD w t.2.2 ss
def ClAt (w : World) (b off : Nat) (t : CI) : Prop := (w.cell? ⟨b, off, none⟩ = some (.int .i64 t.1.kind) ∧ w.cell? ⟨b, off + 1, none⟩ = some t.2 ∧ w.cell? ⟨b, off + 2, none⟩ = some (.int .i64 t.1.pl)) ∧ NdsC w t.2 t.1.e
abbrev ThsD := SlD 4 ThAt
abbrev ClsD := SlD 3 ClAt
section
variable {w w' : World} {v : Value}
theorem StrsD.below {xs : List ByteArray} (h : StrsD w v xs) (hb : Below w.heap.size w w') : StrsD w' v xs := h.mono hb.size fun _ _ _ hl h => (hb.cell (p := ⟨_, _, none⟩) hl).trans h
theorem VrsD.below {xs : List Vr} (h : VrsD w v xs) (hb : Below w.heap.size w w') : VrsD w' v xs := h.mono hb.size fun _ _ _ hl h => ⟨(hb.cell (p := ⟨_, _, none⟩) hl).trans h.1, (hb.cell (p := ⟨_, _, none⟩) hl).trans h.2.1, (hb.cell (p := ⟨_, _, none⟩) hl).trans h.2.2⟩
theorem ThAt.below {b off : Nat} {t : TI} (h : ThAt w b off t) (hb : Below w.heap.size w w') (hl : b < w.heap.size) : ThAt w' b off t := by
  obtain ⟨⟨h0, h1, h2, h3⟩, h4, ss, h5, h6⟩ := h
  exact ⟨⟨(hb.cell (p := ⟨b, _, none⟩) hl).trans h0, (hb.cell (p := ⟨b, _, none⟩) hl).trans h1, (hb.cell (p := ⟨b, _, none⟩) hl).trans h2, (hb.cell (p := ⟨b, _, none⟩) hl).trans h3⟩, StrsD.below h4 hb, ss, h5, h6.below hb⟩
theorem ClAt.below {b off : Nat} {t : CI} (h : ClAt w b off t) (hb : Below w.heap.size w w') (hl : b < w.heap.size) : ClAt w' b off t := by
  obtain ⟨⟨h0, h1, h2⟩, h4⟩ := h
  exact ⟨⟨(hb.cell (p := ⟨b, _, none⟩) hl).trans h0, (hb.cell (p := ⟨b, _, none⟩) hl).trans h1, (hb.cell (p := ⟨b, _, none⟩) hl).trans h2⟩, h4.below hb⟩
theorem ThsD.below {xs : List TI} (h : ThsD w v xs) (hb : Below w.heap.size w w') : ThsD w' v xs := h.mono hb.size fun _ _ _ hl h => h.below hb hl
theorem ClsD.below {xs : List CI} (h : ClsD w v xs) (hb : Below w.heap.size w w') : ClsD w' v xs := h.mono hb.size fun _ _ _ hl h => h.below hb hl
end
theorem flat_at {α : Type} (f : α → List Value) (S : Nat) (hS : ∀ x, (f x).length = S) (l : List α) : ∀ i, (h : i < l.length) → ∀ k, (hk : k < S) → (l.flatMap f)[i * S + k]? = some ((f l[i])[k]'(by rw [hS]; exact hk)) := by
  induction l with
  | nil => intro i h; exact absurd h (Nat.not_lt_zero _)
  | cons a l ih =>
    intro i h k hk
    cases i with
    | zero =>
      rw [List.flatMap_cons, Nat.zero_mul, Nat.zero_add, List.getElem?_append_left (by rw [hS]; exact hk), List.getElem?_eq_getElem (by rw [hS]; exact hk)]
      rfl
    | succ i =>
      rw [List.flatMap_cons, List.getElem?_append_right (by rw [hS, Nat.succ_mul]; omega), hS, show (i + 1) * S + k - S = i * S + k by rw [Nat.succ_mul]; omega]
      exact ih i (by simpa using h) k hk
theorem slD_of_row {α : Type} (f : α → List Value) (S : Nat) (hS : ∀ x, (f x).length = S) {R : World → Nat → Nat → α → Prop} {w : World} {B e : Nat} {v : Value} {xs : List α} (h : w.ownsRow B e S v xs.length (xs.flatMap f))
    (hR : ∀ b off i, (hi : i < xs.length) → (∀ k, (hk : k < S) → w.cell? ⟨b, off + k, none⟩ = some ((f xs[i])[k]'(by rw [hS]; exact hk))) → R w b off xs[i]) : SlD S R w v xs := by
  have hc := @World.ownsRow.cells _ _ _ _ _ _ _ h
  have hl := h.lt
  rcases h.2 with ⟨rfl, hn⟩ | ⟨g, cap, cur, rfl, _, hh, hle, hcm, _⟩
  · obtain rfl := List.eq_nil_of_length_eq_zero hn
    exact SlD.nil
  · refine ⟨_, cap, rfl, ⟨hle, fun h => by cases h⟩, by unfold maxLen at hcm; omega, fun i hi => ?_⟩
    refine ⟨g, 0, rfl, (hl g rfl).2, hR _ _ i hi fun k hk => ?_⟩
    have r := hc (g := g) rfl _ _ (flat_at f S hS xs i hi k hk)
    rw [addr_add] at r
    rw [Nat.zero_add]
    exact r
theorem strsD_of_own {w : World} {B : Nat} {v : Value} {xs : List ByteArray} (h : w.ownsRow B 9 1 v xs.length (rowB xs)) : StrsD w v xs := by
  have e : rowB xs = xs.flatMap fun x => [Value.string x] := by unfold rowB; exact (List.map_eq_flatMap ..)
  rw [e] at h
  exact slD_of_row (fun x => [Value.string x]) 1 (fun _ => rfl) h fun b off i hi hk => hk 0 (by decide)
theorem vrsD_of_own {w : World} {B : Nat} {v : Value} {xs : List Vr} (h : VOwn w B v xs) : VrsD w v xs :=
  slD_of_row cellsV 3 (fun _ => rfl) h fun b off i hi hk => ⟨hk 0 (by decide), hk 1 (by decide), hk 2 (by decide)⟩
theorem thsD_of_own {w : World} {B : Nat} {v : Value} {xs : List Th} (h : TOwn w B v xs) : ∃ ts : List TI, ts.map (·.1) = xs ∧ ThsD w v ts := by
  obtain ⟨ts, h1, h2, h3⟩ := h
  refine ⟨ts, h1, slD_of_row cellsT 4 (fun _ => rfl) h2 fun b off i hi hk => ?_⟩
  have hm := h3 ts[i] (List.getElem_mem hi)
  exact ⟨⟨hk 0 (by decide), hk 1 (by decide), hk 2 (by decide), hk 3 (by decide)⟩, strsD_of_own hm.1, stsD_of_own hm.2⟩
theorem clsD_of_own {w : World} {B : Nat} {v : Value} {xs : List Cl} (h : COwn w B v xs) : ∃ ts : List CI, ts.map (·.1) = xs ∧ ClsD w v ts := by
  obtain ⟨ts, h1, h2, h3⟩ := h
  refine ⟨ts, h1, slD_of_row cellsC 3 (fun _ => rfl) h2 fun b off i hi hk => ?_⟩
  exact ⟨⟨hk 0 (by decide), hk 1 (by decide), hk 2 (by decide)⟩, ndsC_of_own (h3 ts[i] (List.getElem_mem hi))⟩
def PgD (w : World) (a b c : Value) (g : Pg) : Prop := VrsD w a g.locs ∧ (∃ ts, ts.map (·.1) = g.ths ∧ ThsD w b ts) ∧ ∃ cs, cs.map (·.1) = g.cls ∧ ClsD w c cs
theorem PgD.below {w w' : World} {a b c : Value} {g : Pg} (h : PgD w a b c g) (hb : Below w.heap.size w w') : PgD w' a b c g := by
  obtain ⟨h1, ⟨ts, h2, h3⟩, cs, h4, h5⟩ := h
  exact ⟨VrsD.below h1 hb, ⟨ts, h2, ThsD.below h3 hb⟩, cs, h4, ClsD.below h5 hb⟩
theorem pgD_of_own {w : World} {B : Nat} {a b c : Value} {g : Pg} (h : POwn w B a b c g) : PgD w a b c g := ⟨vrsD_of_own h.l, thsD_of_own h.t, clsD_of_own h.c⟩
set_option maxRecDepth 100000 in
set_option maxHeartbeats 2000000 in
theorem pvidx_any (xs : List Vr) (v : Value) (w : World) (hv : VrsD w v xs) (hn : xs.length ≤ 100000) (FL : Vr → Bool)
    (hF : ∀ w' i, (hi : i < xs.length) → Below w.heap.size w w' → Calls Tryz.prog 37 #[.agg (cellsV xs[i]).toArray] w' fun e w'' => e = .returned (.bool (FL xs[i])) ∧ Below w'.heap.size w' w'') :
    Calls Tryz.prog 67 #[v, .func (.func 37) #[] #[]] w (IdxAns (!(xs.all fun x => !FL x)) w) := by
  obtain ⟨B, hB⟩ : ∃ B, ((xs.drop 0).all fun x => !FL x) = B := ⟨_, rfl⟩
  rw [show (xs.all fun x => !FL x) = B from hB]
  have HB0 := Lib.hid hB
  obtain ⟨ad, cap, rfl, hcap1, hcap2, hc⟩ := hv
  have HC := Lib.hid hc
  have HF := Lib.hid hF
  obtain ⟨n, hN⟩ : ∃ n, n = xs.length := ⟨_, rfl⟩
  rw [← hN] at hn ⊢
  have HN := Lib.hid hN
  clear hN hB hc hF hcap1 hcap2
  go_enter Tryz.func67, Tryz.ntmps67
  go_wp2_with fail
  go_loopg [8] n (fun fuel i' wr => ∃ k : Nat, i' = .int .i64 k ∧ k ≤ n ∧ n - k ≤ fuel ∧ ((xs.drop k).all fun x => !FL x) = B ∧ Below w.heap.size w wr)
  case atStart => exact ⟨0, rfl, Nat.zero_le _, Nat.le_refl _, HB0.out, Below.refl _ _⟩
  case round =>
    obtain ⟨k, rfl, hk, hf, ha, hb⟩ := hrel
    have HA := Lib.hid ha
    have HB := Lib.hid hb
    have hww := hb.size
    clear ha hb
    by_cases hlt : k < n
    · have hk' : k < xs.length := by have := HN.out; omega
      have HD := Lib.hid (List.drop_eq_getElem_cons hk')
      obtain ⟨b, off, rfl, hbl, x0, x1, x2⟩ := HC.out k hk'
      have HFL := Lib.hid (HF.out wr k hk' HB.out)
      obtain ⟨q, hq⟩ : ∃ q, FL xs[k] = q := ⟨_, rfl⟩
      rw [hq] at HFL
      have HQ := Lib.hid hq
      obtain ⟨⟨xn, xv, xp⟩, hx⟩ : ∃ x, x = xs[k] := ⟨_, rfl⟩
      rw [← hx] at x0 x1 x2 HFL
      simp only [cellsV, List.toArray] at x0 x1 x2 HFL
      have c0 : wr.cell? ⟨b, off + k * 3, none⟩ = some (.string xn) := (HB.out.cell (p := ⟨b, _, none⟩) hbl).trans x0
      have c1 : wr.cell? ⟨b, off + k * 3 + 1, none⟩ = some (.int .i64 xv) := (HB.out.cell (p := ⟨b, _, none⟩) hbl).trans x1
      have c2 : wr.cell? ⟨b, off + k * 3 + 2, none⟩ = some (.int .i64 xp) := (HB.out.cell (p := ⟨b, _, none⟩) hbl).trans x2
      clear x0 x1 x2 hx hq
      go_wp2_with fail
      refine HFL.out.mono ?_
      rintro e w2 ⟨rfl, hb2⟩
      have HB2 := Lib.hid (HB.out.trans (hb2.mono hww))
      clear hb2 c0 c1 c2
      cases q with
      | false =>
        go_wp2
        go_roundg (gk - 1)
        case measure => omega
        case rel =>
          refine ⟨k + 1, by go_num, by omega, by omega, ?_, HB2.out⟩
          have h2 := HA.out
          rw [HD.out, List.all_cons, HQ.out] at h2
          simpa using h2
      | true =>
        go_wp2
        go_ret
        refine ⟨k, rfl, ?_, HB2.out⟩
        have h2 := HA.out
        rw [HD.out, List.all_cons, HQ.out] at h2
        rw [← h2]; simp
    · have HE := Lib.hid (drop_over xs k (by have := HN.out; omega))
      go_wp2
      go_ret
      refine ⟨-1, rfl, ?_, HB.out⟩
      have := HA.out
      rw [HE.out] at this
      rw [← this]; rfl
set_option maxRecDepth 100000 in
set_option maxHeartbeats 400000 in
theorem pvcont_any (xs : List Vr) (v : Value) (w : World) (hv : VrsD w v xs) (hn : xs.length ≤ 100000) (FL : Vr → Bool)
    (hF : ∀ w' i, (hi : i < xs.length) → Below w.heap.size w w' → Calls Tryz.prog 37 #[.agg (cellsV xs[i]).toArray] w' fun e w'' => e = .returned (.bool (FL xs[i])) ∧ Below w'.heap.size w' w'') (b : Bool) (hb : (xs.all fun x => !FL x) = b) :
    Calls Tryz.prog 36 #[v, .func (.func 37) #[] #[]] w fun e w' => e = .returned (.bool (!b)) ∧ Below w.heap.size w w' := by
  have H := pvidx_any xs v w hv hn FL hF
  rw [hb] at H
  clear hv hn hb hF
  go_enter Tryz.func36, Tryz.ntmps36
  go_wp2_with fail
  refine H.mono ?_
  rintro e w2 ⟨z, rfl, hz, hb2⟩
  have HZ := Lib.hid hz
  clear hz
  go_wp2
  go_ret
  exact ⟨ret_bool HZ.out, hb2⟩
set_option maxRecDepth 100000 in
set_option maxHeartbeats 2000000 in
theorem ptidx_any (xs : List TI) (v : Value) (w : World) (hv : ThsD w v xs) (hn : xs.length ≤ 100000) (FL : TI → Bool)
    (hF : ∀ w' i, (hi : i < xs.length) → Below w.heap.size w w' → Calls Tryz.prog 39 #[.agg (cellsT xs[i]).toArray] w' fun e w'' => e = .returned (.bool (FL xs[i])) ∧ Below w'.heap.size w' w'') :
    Calls Tryz.prog 69 #[v, .func (.func 39) #[] #[]] w (IdxAns (!(xs.all fun x => !FL x)) w) := by
  obtain ⟨B, hB⟩ : ∃ B, ((xs.drop 0).all fun x => !FL x) = B := ⟨_, rfl⟩
  rw [show (xs.all fun x => !FL x) = B from hB]
  have HB0 := Lib.hid hB
  obtain ⟨ad, cap, rfl, hcap1, hcap2, hc⟩ := hv
  have HC := Lib.hid hc
  have HF := Lib.hid hF
  obtain ⟨n, hN⟩ : ∃ n, n = xs.length := ⟨_, rfl⟩
  rw [← hN] at hn ⊢
  have HN := Lib.hid hN
  clear hN hB hc hF hcap1 hcap2
  go_enter Tryz.func69, Tryz.ntmps69
  go_wp2_with fail
  go_loopg [8] n (fun fuel i' wr => ∃ k : Nat, i' = .int .i64 k ∧ k ≤ n ∧ n - k ≤ fuel ∧ ((xs.drop k).all fun x => !FL x) = B ∧ Below w.heap.size w wr)
  case atStart => exact ⟨0, rfl, Nat.zero_le _, Nat.le_refl _, HB0.out, Below.refl _ _⟩
  case round =>
    obtain ⟨k, rfl, hk, hf, ha, hb⟩ := hrel
    have HA := Lib.hid ha
    have HB := Lib.hid hb
    have hww := hb.size
    clear ha hb
    by_cases hlt : k < n
    · have hk' : k < xs.length := by have := HN.out; omega
      have HD := Lib.hid (List.drop_eq_getElem_cons hk')
      obtain ⟨b, off, rfl, hbl, ⟨x0, x1, x2, x3⟩, hR, ss, hs1, hS⟩ := HC.out k hk'
      have HFL := Lib.hid (HF.out wr k hk' HB.out)
      obtain ⟨q, hq⟩ : ∃ q, FL xs[k] = q := ⟨_, rfl⟩
      rw [hq] at HFL
      have HQ := Lib.hid hq
      obtain ⟨⟨⟨xn, xr, xb, xp⟩, v1, v2⟩, hx⟩ : ∃ x, x = xs[k] := ⟨_, rfl⟩
      rw [← hx] at x0 x1 x2 x3 HFL hR hs1 hS
      simp only [cellsT] at x0 x1 x2 x3 HFL hR hs1 hS
      obtain ⟨a1, n1, p1, rfl⟩ : ∃ a n c, v1 = .slice a n c := by obtain ⟨a, c, h⟩ := hR.shape; exact ⟨a, _, c, h⟩
      obtain ⟨a2, n2, p2, rfl⟩ : ∃ a n c, v2 = .slice a n c := by obtain ⟨a, c, h, _⟩ := hS; exact ⟨a, _, c, h⟩
      clear hR hs1 hS
      have c0 : wr.cell? ⟨b, off + k * 4, none⟩ = some (.string xn) := (HB.out.cell (p := ⟨b, _, none⟩) hbl).trans x0
      have c1 : wr.cell? ⟨b, off + k * 4 + 1, none⟩ = some (.slice a1 n1 p1) := (HB.out.cell (p := ⟨b, _, none⟩) hbl).trans x1
      have c2 : wr.cell? ⟨b, off + k * 4 + 2, none⟩ = some (.slice a2 n2 p2) := (HB.out.cell (p := ⟨b, _, none⟩) hbl).trans x2
      have c3 : wr.cell? ⟨b, off + k * 4 + 3, none⟩ = some (.int .i64 xp) := (HB.out.cell (p := ⟨b, _, none⟩) hbl).trans x3
      clear x0 x1 x2 x3 hx hq
      go_wp2_with fail
      refine HFL.out.mono ?_
      rintro e w2 ⟨rfl, hb2⟩
      have HB2 := Lib.hid (HB.out.trans (hb2.mono hww))
      clear hb2 c0 c1 c2 c3
      cases q with
      | false =>
        go_wp2
        go_roundg (gk - 1)
        case measure => omega
        case rel =>
          refine ⟨k + 1, by go_num, by omega, by omega, ?_, HB2.out⟩
          have h2 := HA.out
          rw [HD.out, List.all_cons, HQ.out] at h2
          simpa using h2
      | true =>
        go_wp2
        go_ret
        refine ⟨k, rfl, ?_, HB2.out⟩
        have h2 := HA.out
        rw [HD.out, List.all_cons, HQ.out] at h2
        rw [← h2]; simp
    · have HE := Lib.hid (drop_over xs k (by have := HN.out; omega))
      go_wp2
      go_ret
      refine ⟨-1, rfl, ?_, HB.out⟩
      have := HA.out
      rw [HE.out] at this
      rw [← this]; rfl
set_option maxRecDepth 100000 in
set_option maxHeartbeats 400000 in
theorem ptcont_any (xs : List TI) (v : Value) (w : World) (hv : ThsD w v xs) (hn : xs.length ≤ 100000) (FL : TI → Bool)
    (hF : ∀ w' i, (hi : i < xs.length) → Below w.heap.size w w' → Calls Tryz.prog 39 #[.agg (cellsT xs[i]).toArray] w' fun e w'' => e = .returned (.bool (FL xs[i])) ∧ Below w'.heap.size w' w'') (b : Bool) (hb : (xs.all fun x => !FL x) = b) :
    Calls Tryz.prog 38 #[v, .func (.func 39) #[] #[]] w fun e w' => e = .returned (.bool (!b)) ∧ Below w.heap.size w w' := by
  have H := ptidx_any xs v w hv hn FL hF
  rw [hb] at H
  clear hv hn hb hF
  go_enter Tryz.func38, Tryz.ntmps38
  go_wp2_with fail
  refine H.mono ?_
  rintro e w2 ⟨z, rfl, hz, hb2⟩
  have HZ := Lib.hid hz
  clear hz
  go_wp2
  go_ret
  exact ⟨ret_bool HZ.out, hb2⟩
set_option maxRecDepth 100000 in
set_option maxHeartbeats 2000000 in
theorem pcidx_any (xs : List CI) (v : Value) (w : World) (hv : ClsD w v xs) (hn : xs.length ≤ 100000) (FL : CI → Bool)
    (hF : ∀ w' i, (hi : i < xs.length) → Below w.heap.size w w' → Calls Tryz.prog 41 #[.agg (cellsC xs[i]).toArray] w' fun e w'' => e = .returned (.bool (FL xs[i])) ∧ Below w'.heap.size w' w'') :
    Calls Tryz.prog 73 #[v, .func (.func 41) #[] #[]] w (IdxAns (!(xs.all fun x => !FL x)) w) := by
  obtain ⟨B, hB⟩ : ∃ B, ((xs.drop 0).all fun x => !FL x) = B := ⟨_, rfl⟩
  rw [show (xs.all fun x => !FL x) = B from hB]
  have HB0 := Lib.hid hB
  obtain ⟨ad, cap, rfl, hcap1, hcap2, hc⟩ := hv
  have HC := Lib.hid hc
  have HF := Lib.hid hF
  obtain ⟨n, hN⟩ : ∃ n, n = xs.length := ⟨_, rfl⟩
  rw [← hN] at hn ⊢
  have HN := Lib.hid hN
  clear hN hB hc hF hcap1 hcap2
  go_enter Tryz.func73, Tryz.ntmps73
  go_wp2_with fail
  go_loopg [8] n (fun fuel i' wr => ∃ k : Nat, i' = .int .i64 k ∧ k ≤ n ∧ n - k ≤ fuel ∧ ((xs.drop k).all fun x => !FL x) = B ∧ Below w.heap.size w wr)
  case atStart => exact ⟨0, rfl, Nat.zero_le _, Nat.le_refl _, HB0.out, Below.refl _ _⟩
  case round =>
    obtain ⟨k, rfl, hk, hf, ha, hb⟩ := hrel
    have HA := Lib.hid ha
    have HB := Lib.hid hb
    have hww := hb.size
    clear ha hb
    by_cases hlt : k < n
    · have hk' : k < xs.length := by have := HN.out; omega
      have HD := Lib.hid (List.drop_eq_getElem_cons hk')
      obtain ⟨b, off, rfl, hbl, ⟨x0, x1, x2⟩, hE⟩ := HC.out k hk'
      have HFL := Lib.hid (HF.out wr k hk' HB.out)
      obtain ⟨q, hq⟩ : ∃ q, FL xs[k] = q := ⟨_, rfl⟩
      rw [hq] at HFL
      have HQ := Lib.hid hq
      obtain ⟨⟨⟨xk, xe, xp⟩, v1⟩, hx⟩ : ∃ x, x = xs[k] := ⟨_, rfl⟩
      rw [← hx] at x0 x1 x2 HFL hE
      simp only [cellsC] at x0 x1 x2 HFL hE
      obtain ⟨a1, n1, p1, rfl⟩ : ∃ a n c, v1 = .slice a n c := by obtain ⟨a, c, h, _⟩ := hE; exact ⟨a, _, c, h⟩
      clear hE
      have c0 : wr.cell? ⟨b, off + k * 3, none⟩ = some (.int .i64 xk) := (HB.out.cell (p := ⟨b, _, none⟩) hbl).trans x0
      have c1 : wr.cell? ⟨b, off + k * 3 + 1, none⟩ = some (.slice a1 n1 p1) := (HB.out.cell (p := ⟨b, _, none⟩) hbl).trans x1
      have c2 : wr.cell? ⟨b, off + k * 3 + 2, none⟩ = some (.int .i64 xp) := (HB.out.cell (p := ⟨b, _, none⟩) hbl).trans x2
      clear x0 x1 x2 hx hq
      go_wp2_with fail
      refine HFL.out.mono ?_
      rintro e w2 ⟨rfl, hb2⟩
      have HB2 := Lib.hid (HB.out.trans (hb2.mono hww))
      clear hb2 c0 c1 c2
      cases q with
      | false =>
        go_wp2
        go_roundg (gk - 1)
        case measure => omega
        case rel =>
          refine ⟨k + 1, by go_num, by omega, by omega, ?_, HB2.out⟩
          have h2 := HA.out
          rw [HD.out, List.all_cons, HQ.out] at h2
          simpa using h2
      | true =>
        go_wp2
        go_ret
        refine ⟨k, rfl, ?_, HB2.out⟩
        have h2 := HA.out
        rw [HD.out, List.all_cons, HQ.out] at h2
        rw [← h2]; simp
    · have HE := Lib.hid (drop_over xs k (by have := HN.out; omega))
      go_wp2
      go_ret
      refine ⟨-1, rfl, ?_, HB.out⟩
      have := HA.out
      rw [HE.out] at this
      rw [← this]; rfl
set_option maxRecDepth 100000 in
set_option maxHeartbeats 400000 in
theorem pccont_any (xs : List CI) (v : Value) (w : World) (hv : ClsD w v xs) (hn : xs.length ≤ 100000) (FL : CI → Bool)
    (hF : ∀ w' i, (hi : i < xs.length) → Below w.heap.size w w' → Calls Tryz.prog 41 #[.agg (cellsC xs[i]).toArray] w' fun e w'' => e = .returned (.bool (FL xs[i])) ∧ Below w'.heap.size w' w'') (b : Bool) (hb : (xs.all fun x => !FL x) = b) :
    Calls Tryz.prog 40 #[v, .func (.func 41) #[] #[]] w fun e w' => e = .returned (.bool (!b)) ∧ Below w.heap.size w w' := by
  have H := pcidx_any xs v w hv hn FL hF
  rw [hb] at H
  clear hv hn hb hF
  go_enter Tryz.func40, Tryz.ntmps40
  go_wp2_with fail
  refine H.mono ?_
  rintro e w2 ⟨z, rfl, hz, hb2⟩
  have HZ := Lib.hid hz
  clear hz
  go_wp2
  go_ret
  exact ⟨ret_bool HZ.out, hb2⟩
set_option maxRecDepth 100000 in
set_option maxHeartbeats 2000000 in
theorem psidx_any (xs : List ByteArray) (v : Value) (w : World) (hv : StrsD w v xs) (hn : xs.length ≤ 100000) (FL : ByteArray → Bool)
    (hF : ∀ w' i, (hi : i < xs.length) → Below w.heap.size w w' → Calls Tryz.prog 70 #[.string xs[i]] w' fun e w'' => e = .returned (.bool (FL xs[i])) ∧ Below w'.heap.size w' w'') :
    Calls Tryz.prog 102 #[v, .func (.func 70) #[] #[]] w (IdxAns (!(xs.all fun x => !FL x)) w) := by
  obtain ⟨B, hB⟩ : ∃ B, ((xs.drop 0).all fun x => !FL x) = B := ⟨_, rfl⟩
  rw [show (xs.all fun x => !FL x) = B from hB]
  have HB0 := Lib.hid hB
  obtain ⟨ad, cap, rfl, hcap1, hcap2, hc⟩ := hv
  have HC := Lib.hid hc
  have HF := Lib.hid hF
  obtain ⟨n, hN⟩ : ∃ n, n = xs.length := ⟨_, rfl⟩
  rw [← hN] at hn ⊢
  have HN := Lib.hid hN
  clear hN hB hc hF hcap1 hcap2
  go_enter Tryz.func102, Tryz.ntmps102
  go_wp2_with fail
  go_loopg [8] n (fun fuel i' wr => ∃ k : Nat, i' = .int .i64 k ∧ k ≤ n ∧ n - k ≤ fuel ∧ ((xs.drop k).all fun x => !FL x) = B ∧ Below w.heap.size w wr)
  case atStart => exact ⟨0, rfl, Nat.zero_le _, Nat.le_refl _, HB0.out, Below.refl _ _⟩
  case round =>
    obtain ⟨k, rfl, hk, hf, ha, hb⟩ := hrel
    have HA := Lib.hid ha
    have HB := Lib.hid hb
    have hww := hb.size
    clear ha hb
    by_cases hlt : k < n
    · have hk' : k < xs.length := by have := HN.out; omega
      have HD := Lib.hid (List.drop_eq_getElem_cons hk')
      obtain ⟨b, off, rfl, hbl, x0⟩ := HC.out k hk'
      have HFL := Lib.hid (HF.out wr k hk' HB.out)
      obtain ⟨q, hq⟩ : ∃ q, FL xs[k] = q := ⟨_, rfl⟩
      rw [hq] at HFL
      have HQ := Lib.hid hq
      obtain ⟨xn, hx⟩ : ∃ x, x = xs[k] := ⟨_, rfl⟩
      rw [← hx] at x0 HFL
      simp only [StrAt, Nat.mul_one] at x0 HFL
      have c0 : wr.cell? ⟨b, off + k, none⟩ = some (.string xn) := (HB.out.cell (p := ⟨b, _, none⟩) hbl).trans x0
      clear x0 hx hq
      go_wp2_with fail
      refine HFL.out.mono ?_
      rintro e w2 ⟨rfl, hb2⟩
      have HB2 := Lib.hid (HB.out.trans (hb2.mono hww))
      clear hb2 c0
      cases q with
      | false =>
        go_wp2
        go_roundg (gk - 1)
        case measure => omega
        case rel =>
          refine ⟨k + 1, by go_num, by omega, by omega, ?_, HB2.out⟩
          have h2 := HA.out
          rw [HD.out, List.all_cons, HQ.out] at h2
          simpa using h2
      | true =>
        go_wp2
        go_ret
        refine ⟨k, rfl, ?_, HB2.out⟩
        have h2 := HA.out
        rw [HD.out, List.all_cons, HQ.out] at h2
        rw [← h2]; simp
    · have HE := Lib.hid (drop_over xs k (by have := HN.out; omega))
      go_wp2
      go_ret
      refine ⟨-1, rfl, ?_, HB.out⟩
      have := HA.out
      rw [HE.out] at this
      rw [← this]; rfl
set_option maxRecDepth 100000 in
set_option maxHeartbeats 400000 in
theorem pscont_any (xs : List ByteArray) (v : Value) (w : World) (hv : StrsD w v xs) (hn : xs.length ≤ 100000) (FL : ByteArray → Bool)
    (hF : ∀ w' i, (hi : i < xs.length) → Below w.heap.size w w' → Calls Tryz.prog 70 #[.string xs[i]] w' fun e w'' => e = .returned (.bool (FL xs[i])) ∧ Below w'.heap.size w' w'') (b : Bool) (hb : (xs.all fun x => !FL x) = b) :
    Calls Tryz.prog 71 #[v, .func (.func 70) #[] #[]] w fun e w' => e = .returned (.bool (!b)) ∧ Below w.heap.size w w' := by
  have H := psidx_any xs v w hv hn FL hF
  rw [hb] at H
  clear hv hn hb hF
  go_enter Tryz.func71, Tryz.ntmps71
  go_wp2_with fail
  refine H.mono ?_
  rintro e w2 ⟨z, rfl, hz, hb2⟩
  have HZ := Lib.hid hz
  clear hz
  go_wp2
  go_ret
  exact ⟨ret_bool HZ.out, hb2⟩
set_option maxRecDepth 100000 in
set_option maxHeartbeats 2000000 in
theorem pnidx_any (xs : List Nd) (v : Value) (w : World) (hv : NdsC w v xs) (hn : xs.length ≤ 100000) (FL : Nd → Bool)
    (hF : ∀ w' i, (hi : i < xs.length) → Below w.heap.size w w' → Calls Tryz.prog 74 #[.agg xs[i].cells.toArray] w' fun e w'' => e = .returned (.bool (FL xs[i])) ∧ Below w'.heap.size w' w'') :
    Calls Tryz.prog 110 #[v, .func (.func 74) #[] #[]] w (IdxAns (!(xs.all fun x => !FL x)) w) := by
  obtain ⟨B, hB⟩ : ∃ B, ((xs.drop 0).all fun x => !FL x) = B := ⟨_, rfl⟩
  rw [show (xs.all fun x => !FL x) = B from hB]
  have HB0 := Lib.hid hB
  obtain ⟨ad, cap, rfl, hcap1, hcap2, hc⟩ := hv
  have HC := Lib.hid hc
  have HF := Lib.hid hF
  obtain ⟨n, hN⟩ : ∃ n, n = xs.length := ⟨_, rfl⟩
  rw [← hN] at hn ⊢
  have HN := Lib.hid hN
  clear hN hB hc hF hcap1 hcap2
  go_enter Tryz.func110, Tryz.ntmps110
  go_wp2_with fail
  go_loopg [8] n (fun fuel i' wr => ∃ k : Nat, i' = .int .i64 k ∧ k ≤ n ∧ n - k ≤ fuel ∧ ((xs.drop k).all fun x => !FL x) = B ∧ Below w.heap.size w wr)
  case atStart => exact ⟨0, rfl, Nat.zero_le _, Nat.le_refl _, HB0.out, Below.refl _ _⟩
  case round =>
    obtain ⟨k, rfl, hk, hf, ha, hb⟩ := hrel
    have HA := Lib.hid ha
    have HB := Lib.hid hb
    have hww := hb.size
    clear ha hb
    by_cases hlt : k < n
    · have hk' : k < xs.length := by have := HN.out; omega
      have HD := Lib.hid (List.drop_eq_getElem_cons hk')
      obtain ⟨b, off, rfl, hbl, x0, x1, x2, x3, x4⟩ := HC.out k hk'
      have HFL := Lib.hid (HF.out wr k hk' HB.out)
      obtain ⟨q, hq⟩ : ∃ q, FL xs[k] = q := ⟨_, rfl⟩
      rw [hq] at HFL
      have HQ := Lib.hid hq
      obtain ⟨⟨xo, xn, xm, xi, xp⟩, hx⟩ : ∃ x, x = xs[k] := ⟨_, rfl⟩
      rw [← hx] at x0 x1 x2 x3 x4 HFL
      simp only [Nd.cells] at x0 x1 x2 x3 x4 HFL
      have c0 : wr.cell? ⟨b, off + k * 5, none⟩ = some (.int .i64 xo) := (HB.out.cell (p := ⟨b, _, none⟩) hbl).trans x0
      have c1 : wr.cell? ⟨b, off + k * 5 + 1, none⟩ = some (.int .i64 xn) := (HB.out.cell (p := ⟨b, _, none⟩) hbl).trans x1
      have c2 : wr.cell? ⟨b, off + k * 5 + 2, none⟩ = some (.string xm) := (HB.out.cell (p := ⟨b, _, none⟩) hbl).trans x2
      have c3 : wr.cell? ⟨b, off + k * 5 + 3, none⟩ = some (.string xi) := (HB.out.cell (p := ⟨b, _, none⟩) hbl).trans x3
      have c4 : wr.cell? ⟨b, off + k * 5 + 4, none⟩ = some (.int .i64 xp) := (HB.out.cell (p := ⟨b, _, none⟩) hbl).trans x4
      clear x0 x1 x2 x3 x4 hx hq
      go_wp2_with fail
      refine HFL.out.mono ?_
      rintro e w2 ⟨rfl, hb2⟩
      have HB2 := Lib.hid (HB.out.trans (hb2.mono hww))
      clear hb2 c0 c1 c2 c3 c4
      cases q with
      | false =>
        go_wp2
        go_roundg (gk - 1)
        case measure => omega
        case rel =>
          refine ⟨k + 1, by go_num, by omega, by omega, ?_, HB2.out⟩
          have h2 := HA.out
          rw [HD.out, List.all_cons, HQ.out] at h2
          simpa using h2
      | true =>
        go_wp2
        go_ret
        refine ⟨k, rfl, ?_, HB2.out⟩
        have h2 := HA.out
        rw [HD.out, List.all_cons, HQ.out] at h2
        rw [← h2]; simp
    · have HE := Lib.hid (drop_over xs k (by have := HN.out; omega))
      go_wp2
      go_ret
      refine ⟨-1, rfl, ?_, HB.out⟩
      have := HA.out
      rw [HE.out] at this
      rw [← this]; rfl
set_option maxRecDepth 100000 in
set_option maxHeartbeats 400000 in
theorem pncont_any (xs : List Nd) (v : Value) (w : World) (hv : NdsC w v xs) (hn : xs.length ≤ 100000) (FL : Nd → Bool)
    (hF : ∀ w' i, (hi : i < xs.length) → Below w.heap.size w w' → Calls Tryz.prog 74 #[.agg xs[i].cells.toArray] w' fun e w'' => e = .returned (.bool (FL xs[i])) ∧ Below w'.heap.size w' w'') (b : Bool) (hb : (xs.all fun x => !FL x) = b) :
    Calls Tryz.prog 76 #[v, .func (.func 74) #[] #[]] w fun e w' => e = .returned (.bool (!b)) ∧ Below w.heap.size w w' := by
  have H := pnidx_any xs v w hv hn FL hF
  rw [hb] at H
  clear hv hn hb hF
  go_enter Tryz.func76, Tryz.ntmps76
  go_wp2_with fail
  refine H.mono ?_
  rintro e w2 ⟨z, rfl, hz, hb2⟩
  have HZ := Lib.hid hz
  clear hz
  go_wp2
  go_ret
  exact ⟨ret_bool HZ.out, hb2⟩
end Go.Proofs.YtlpgafgiljffhaaGreatDoor
