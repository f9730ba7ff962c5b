/- What Parse does. -/
import Derived.Test.YtifbhlgingaahaaDoorRh
namespace Go.Proofs.YtifbhlgingaahaaDoor
open Go.RowKit

/-- What Parse makes of what was read from token i on. -/
def finR (l : List Tok) (i : Nat) : Res → Res
  | .err k a => .err k a
  | .ok e j => if 30 < e.depth then .err 7 (plc l i) else if 200 < e.size then .err 2 (plc l i) else .ok e j

theorem finR_ok (l : List Tok) (i : Nat) (e : Ex) (j : Nat) : finR l i (.ok e j) = if 30 < e.depth then .err 7 (plc l i) else if 200 < e.size then .err 2 (plc l i) else .ok e j := rfl

def ParseAns (B : Nat) (r : Res) (w : World) (e : Ending) (w' : World) : Prop := match r with
  | .err k a => e = .returned (.tuple #[.slice none 0 0, .int .i64 0, .int .i64 k, .int .i64 a]) ∧ Below w.heap.size w w'
  | .ok x j => ∃ v, e = .returned (.tuple #[v, .int .i64 j, .int .i64 0, .int .i64 0]) ∧ w'.ownsRow B 32 5 v x.flat.length (rowN x.flat) ∧ Below w.heap.size w w'

theorem rowOf_length (l : List Tok) : (rowOf l).length = l.length * 4 := by
  unfold rowOf
  induction l with
  | nil => rfl
  | cons a l ih => simp only [List.flatMap_cons, List.length_append, ih, List.length_cons, cellsOf, List.length_nil]; omega

theorem rowOf_at (l : List Tok) : ∀ i, (h : i < l.length) → (rowOf l)[i * 4]? = some (.int .i64 (l[i]).1) ∧ (rowOf l)[i * 4 + 1]? = some (.string ⟨(l[i]).2.1.toArray⟩) ∧ (rowOf l)[i * 4 + 2]? = some (.int .i64 (l[i]).2.2.1) ∧ (rowOf l)[i * 4 + 3]? = some (.int .i64 (l[i]).2.2.2) := by
  induction l with
  | nil => intro i h; exact absurd h (Nat.not_lt_zero _)
  | cons a l ih =>
    intro i h
    cases i with
    | zero => exact ⟨rfl, rfl, rfl, rfl⟩
    | succ i =>
      have e : ∀ j, (rowOf (a :: l))[(i + 1) * 4 + j]? = (rowOf l)[i * 4 + j]? := by
        intro j
        show (cellsOf a ++ rowOf l)[(i + 1) * 4 + j]? = _
        rw [List.getElem?_append_right (by simp only [cellsOf, List.length_cons, List.length_nil]; omega)]
        congr 1
        simp only [cellsOf, List.length_cons, List.length_nil]; omega
      have := ih i (by simpa using h)
      refine ⟨(e 0).trans this.1, (e 1).trans this.2.1, (e 2).trans this.2.2.1, (e 3).trans this.2.2.2⟩

theorem addr_add (g j : Nat) : (⟨g, 0, none⟩ : Addr).add j = ⟨g, j, none⟩ := by unfold Addr.add; split <;> simp_all

theorem Ex.size_pos (e : Ex) : 1 ≤ e.size := by cases e <;> simp [Ex.size]

theorem toks_of_own {w : World} {B : Nat} {v : Value} {l : List Tok} (h : w.ownsRow B 51 4 v l.length (rowOf l)) (b : Nat) (hb : ∀ g, v.ownBlock = some g → g ≠ b) : TokS w b v l := by
  have hl := h.lt
  have hc := @World.ownsRow.cells _ _ _ _ _ _ _ h
  rcases h.2 with ⟨rfl, h0⟩ | ⟨g, cap, cur, rfl, _, hg, _⟩
  · exact ⟨none, 0, by rw [h0], fun i hi => absurd hi (by omega)⟩
  · refine ⟨_, cap, rfl, fun i hi => ?_⟩
    obtain ⟨r0, r1, r2, r3⟩ := rowOf_at l i hi
    have k0 := hc (g := g) rfl _ _ r0
    have k1 := hc (g := g) rfl _ _ r1
    have k2 := hc (g := g) rfl _ _ r2
    have k3 := hc (g := g) rfl _ _ r3
    rw [addr_add] at k0 k1 k2 k3
    exact ⟨g, rfl, (hl g rfl).2, hb g rfl, k0, k1, k2, k3⟩

set_option maxHeartbeats 2000000 in
theorem parse_run (l : List Tok) (lv : Value) (i f : Nat) (r : Res) (w : World) (ht : TokS w w.heap.size lv l) (hs : Sgn w) (hn : l.length ≤ 100000) (hok : TokOK l) (hi : i ≤ l.length) (hrun : run l f (.lv 0) 0 i = some r) :
    Calls Tryd.prog 20 #[lv, .int .i64 i] w (ParseAns (w.heap.size + 1) (finR l i r) w) := by
  have HT := Lib.hid ht
  have HS := Lib.hid hs
  obtain ⟨ad, cap, hlv, hct⟩ := ht
  subst hlv
  have HCT := Lib.hid hct
  have HRUN := Lib.hid hrun
  have h0 : 0 < w.heap.size := hs.1
  clear hs hct hrun
  obtain ⟨n, hN⟩ : ∃ n, n = l.length := ⟨_, rfl⟩
  have HN := Lib.hid hN
  obtain ⟨lv, hlv⟩ : ∃ lv : Value, lv = .slice ad l.length cap := ⟨_, rfl⟩
  rw [← hN]
  clear hN
  obtain ⟨R, hR⟩ : ∃ R, R = finR l i r := ⟨_, rfl⟩
  rw [← hR]
  have HRR := Lib.hid hR
  clear hR
  go_enter Tryd.func20, Tryd.ntmps20
  go_wp2_with fail
  rw [HN.out]
  have hK1 : Below w.heap.size w (w.alloc (.cells #[.slice ad l.length cap, .int .i64 i, .int .i64 0, .int .i64 0, .int .i64 0] 46)) := (Below.refl _ _).alloc (Nat.le_refl _) _
  have hP1 : Pst (w.alloc (.cells #[.slice ad l.length cap, .int .i64 i, .int .i64 0, .int .i64 0, .int .i64 0] 46)) w.heap.size (.slice ad l.length cap) i ((0 : Nat) : Int) 0 0 := heap_alloc_new w _
  have hX1 : PCtx l w.heap.size (.slice ad l.length cap) (w.alloc (.cells #[.slice ad l.length cap, .int .i64 i, .int .i64 0, .int .i64 0, .int .i64 0] 46)) := ⟨HT.out.keep (Below.keep hK1), HS.out.below hK1, h0, hn, hok⟩
  generalize (w.alloc (.cells #[.slice ad l.length cap, .int .i64 i, .int .i64 0, .int .i64 0, .int .i64 0] 46)) = w1 at hK1 hP1 hX1 ⊢
  refine (run_any l w.heap.size (.slice ad l.length cap) f 0 0 i r (by omega) (by omega) hi HRUN.out w1 hP1 hX1).mono ?_
  rintro e w2 ⟨⟨pad, pcap, ps, pd, pxs⟩, j, er, pl, rfl, hp2, hin, hij, hjl, hk2, hres, hz⟩
  have HB2 : Hid (Below w.heap.size w w2) := hK1.trans (hk2.under (Nat.le_of_lt hP1.lt))
  have HP2 := Lib.hid hp2
  have HIN := Lib.hid hin
  have HRES := Lib.hid hres
  have hb2 : w.heap.size < w2.heap.size := hp2.lt
  obtain ⟨⟨c0, c1, c2, c3, c4⟩, f1, f2, f3, f4⟩ := hp2.facts
  clear hp2 hin hk2 hres hz hP1 hX1 hK1
  simp only [PtR.nv]
  cases r with
  | err k a =>
    obtain ⟨rfl, rfl, hk⟩ := HRES.out
    have q1 : ((k : Int) != 0) = true := by simp; omega
    have hRe : R = .err k a := HRR.out
    subst hRe
    go_wp2
    go_quiet (fail)
    go_wp2
    refine bodyPost_ret (v := .tuple #[.slice none 0 0, .int .i64 0, .int .i64 k, .int .i64 a]) (by simp [results, Tryd.results20, go_sem]) rfl ⟨rfl, ?_⟩
    exact below_drewN (HB2.out.alloc (Nat.le_of_lt hb2) _) _
  | ok x j0 =>
    obtain ⟨rfl, rfl, rfl, h4, h5, h6⟩ := HRES.out
    obtain ⟨ho, hi1, hi2, hi3, hi4, hi5⟩ := HIN.out
    have hsp := x.size_pos
    have hz : slack 0 = 0 := rfl
    simp only [] at h4 h5 h6 ho hi1 hi2 hi3 hi4 hi5
    have hlt : i < l.length := by omega
    obtain ⟨g, hg0, hg1, hg2, _, _, _, k3⟩ := HCT.out i hlt
    subst hg0
    obtain ⟨tp, htp⟩ : ∃ t, t = l[i].2.2.2 := ⟨_, rfl⟩
    have HTP : Hid (tp = plc l i) := by rw [plc_in l i hlt]; exact htp
    rw [← htp] at k3
    have k3' : w2.cell? ⟨g, i * 4 + 3, none⟩ = some (.int .i64 tp) := (HB2.out.cell (p := ⟨g, _, none⟩) hg1).trans k3
    have hg2' : g < w2.heap.size := Nat.lt_of_lt_of_le hg1 HB2.out.size
    have HO := Lib.hid ho
    have H6 := Lib.hid h6
    have hb3 : w.heap.size ≤ w2.heap.size := Nat.le_of_lt hb2
    have hlt2 : i < l.length := hlt
    clear htp k3 ho h6 HP2 hz
    by_cases hd : 30 < pd
    · have hRe : R = .err 7 tp := by rw [HRR.out, finR_ok, if_pos (by omega), HTP.out]
      subst hRe
      go_wp2
      go_quiet (fail)
      go_wp2
      refine bodyPost_ret (v := .tuple #[.slice none 0 0, .int .i64 0, .int .i64 7, .int .i64 tp]) (by simp [results, Tryd.results20, go_sem]) rfl ⟨rfl, ?_⟩
      exact below_drewN (HB2.out.alloc hb3 _) _
    · by_cases hsz : 200 < ps
      · have hRe : R = .err 2 tp := by rw [HRR.out, finR_ok, if_neg (by omega), if_pos (by omega), HTP.out]
        subst hRe
        go_wp2
        go_quiet (fail)
        go_wp2
        refine bodyPost_ret (v := .tuple #[.slice none 0 0, .int .i64 0, .int .i64 2, .int .i64 tp]) (by simp [results, Tryd.results20, go_sem]) rfl ⟨rfl, ?_⟩
        exact below_drewN (HB2.out.alloc hb3 _) _
      · have hRe : R = .ok x j := by rw [HRR.out, finR_ok, if_neg (by omega), if_neg (by omega)]
        subst hRe
        have hxs := H6.out ⟨by omega, by omega⟩
        subst hxs
        obtain ⟨m, hm⟩ : ∃ m, m = x.flat.length := ⟨_, rfl⟩
        rw [← hm]
        have HM := Lib.hid hm
        clear hm
        go_wp2
        go_quiet (fail)
        go_wp2
        refine bodyPost_ret (v := .tuple #[.slice pad m pcap, .int .i64 j, .int .i64 0, .int .i64 0]) (by simp [results, Tryd.results20, go_sem]) rfl ⟨.slice pad m pcap, rfl, ?_, ?_⟩
        · rw [HM.out]
          exact own_below HO.out (below_drewN ((Below.refl _ _).alloc (Nat.le_refl _) _) _)
        · exact below_drewN (HB2.out.alloc hb3 _) _

/-- How much is needed to read. -/
def need (L : Nat) : Cmd → Nat → Nat
  | .lv n, i => 7 * (L - i) + (6 - n)
  | .more _ _, i => 7 * (L - i) + 1

/-- How far reading leads. -/
def farR (L i : Nat) : Cmd → Res → Prop
  | _, .err _ _ => True
  | .lv _, .ok _ j => i < j ∧ j ≤ L
  | .more _ _, .ok _ j => i ≤ j ∧ j ≤ L

theorem refR_far (l : List Tok) (i k : Nat) (c : Cmd) : farR l.length k c (refR l i) := by cases c <;> exact trivial

theorem run_total (l : List Tok) : ∀ (f : Nat) (c : Cmd) (d i : Nat), i ≤ l.length → (∀ n, c = .lv n → n ≤ 5) → (∀ n e, c = .more n e → n < 5) → need l.length c i ≤ f → ∃ r, run l f c d i = some r ∧ farR l.length i c r := by
  intro f
  induction f with
  | zero =>
    intro c d i _ hc1 _ h
    cases c with
    | lv n => have := hc1 n rfl; simp only [need] at h; omega
    | more n e => simp only [need] at h; omega
  | succ f ih =>
    intro c d i hi hc1 hc2 hneed
    cases c with
    | lv n =>
      have hn := hc1 n rfl
      simp only [need] at hneed
      unfold run
      by_cases h5 : n = 5
      · rw [if_pos h5]
        subst h5
        cases h33 : sgAt l i [33] with
        | true =>
          rw [if_pos rfl]
          have hlt := sgAt_lt h33
          by_cases hd : d = 30
          · rw [if_pos hd]; exact ⟨_, rfl, trivial⟩
          · rw [if_neg hd]
            obtain ⟨r, hr, hf⟩ := ih (.lv 5) (d + 1) (i + 1) (by omega) (fun n h => by cases h; omega) (fun n e h => by cases h) (by simp only [need]; omega)
            rw [hr]
            cases r with
            | err k a => exact ⟨_, rfl, trivial⟩
            | ok e j => exact ⟨_, rfl, by have := hf.1; omega, hf.2⟩
        | false =>
          rw [if_neg (by simp)]
          cases h40 : sgAt l i [40] with
          | true =>
            rw [if_pos rfl]
            have hlt := sgAt_lt h40
            by_cases hd : d = 30
            · rw [if_pos hd]; exact ⟨_, rfl, trivial⟩
            · rw [if_neg hd]
              obtain ⟨r, hr, hf⟩ := ih (.lv 0) (d + 1) (i + 1) (by omega) (fun n h => by cases h; omega) (fun n e h => by cases h) (by simp only [need]; omega)
              rw [hr]
              cases r with
              | err k a => exact ⟨_, rfl, trivial⟩
              | ok e j =>
                simp only []
                by_cases hc : sgAt l j [41] = true
                · rw [if_pos hc]
                  have := sgAt_lt hc
                  exact ⟨_, rfl, by have := hf.1; omega, by omega⟩
                · rw [if_neg hc]
                  exact ⟨_, rfl, refR_far _ _ _ _⟩
          | false =>
            rw [if_neg (by simp)]
            cases hnm : nmAt l i with
            | true =>
              rw [if_pos rfl]
              have hlt := nmAt_lt hnm
              refine ⟨_, rfl, ?_⟩
              unfold namedR
              by_cases h46 : sgAt l (i + 1) [46] = true
              · rw [if_pos h46]
                by_cases h2 : nmAt l (i + 2) = true
                · rw [if_pos h2]
                  have := nmAt_lt h2
                  exact ⟨by omega, by omega⟩
                · rw [if_neg h2]; exact refR_far _ _ _ _
              · rw [if_neg h46]; exact ⟨by omega, by omega⟩
            | false =>
              rw [if_neg (by simp)]
              cases hnu : nuAt l i with
              | true =>
                rw [if_pos rfl]
                have := nuAt_lt hnu
                exact ⟨_, rfl, by omega, by omega⟩
              | false =>
                rw [if_neg (by simp)]
                exact ⟨_, rfl, refR_far _ _ _ _⟩
      · rw [if_neg h5]
        obtain ⟨r, hr, hf⟩ := ih (.lv (n + 1)) d i hi (fun m h => by cases h; omega) (fun n e h => by cases h) (by simp only [need]; omega)
        rw [hr]
        cases r with
        | err k a => exact ⟨_, rfl, trivial⟩
        | ok e j =>
          have h1 := hf.1
          have h2 := hf.2
          obtain ⟨r2, hr2, hf2⟩ := ih (.more n e) d j h2 (fun m h => by cases h) (fun m e h => by cases h; omega) (by simp only [need]; omega)
          refine ⟨r2, hr2, ?_⟩
          cases r2 with
          | err k a => trivial
          | ok e2 j2 => exact ⟨by have := hf2.1; omega, hf2.2⟩
    | more n e =>
      have hn := hc2 n e rfl
      simp only [need] at hneed
      unfold run
      by_cases hw : which l i (opsOf n) = 0
      · rw [if_pos hw]; exact ⟨_, rfl, Nat.le_refl _, hi⟩
      · rw [if_neg hw]
        have hlt := which_lt hw
        obtain ⟨r, hr, hf⟩ := ih (.lv (n + 1)) d (i + 1) (by omega) (fun m h => by cases h; omega) (fun n e h => by cases h) (by simp only [need]; omega)
        rw [hr]
        cases r with
        | err k a => exact ⟨_, rfl, trivial⟩
        | ok y j =>
          have h1 := hf.1
          have h2 := hf.2
          simp only []
          by_cases h22 : n = 2
          · rw [if_pos h22]; exact ⟨_, rfl, by omega, h2⟩
          · rw [if_neg h22]
            obtain ⟨r2, hr2, hf2⟩ := ih (.more n (.bin (opN (which l i (opsOf n)) (plc l i)) e y)) d j h2 (fun m h => by cases h) (fun m e h => by cases h; omega) (by simp only [need]; omega)
            refine ⟨r2, hr2, ?_⟩
            cases r2 with
            | err k a => trivial
            | ok e2 j2 => exact ⟨by have := hf2.1; omega, hf2.2⟩

theorem run_more (l : List Tok) : ∀ (f g : Nat) (c : Cmd) (d i : Nat) (r : Res), f ≤ g → run l f c d i = some r → run l g c d i = some r := by
  intro f
  induction f with
  | zero => intro g c d i r _ h; cases h
  | succ f ih =>
    intro g c d i r hfg h
    obtain ⟨g, rfl⟩ : ∃ g', g = g' + 1 := ⟨g - 1, by omega⟩
    have hfg' : f ≤ g := by omega
    cases c with
    | lv n =>
      unfold run at h ⊢
      by_cases h5 : n = 5
      · rw [if_pos h5] at h ⊢
        by_cases h33 : sgAt l i [33] = true
        · rw [if_pos h33] at h ⊢
          by_cases hd : d = 30
          · rw [if_pos hd] at h ⊢; exact h
          · rw [if_neg hd] at h ⊢
            cases h1 : run l f (.lv 5) (d + 1) (i + 1) with
            | none => rw [h1] at h; cases h
            | some r1 => rw [h1] at h; rw [ih g _ _ _ _ hfg' h1]; exact h
        · rw [if_neg h33] at h ⊢
          by_cases h40 : sgAt l i [40] = true
          · rw [if_pos h40] at h ⊢
            by_cases hd : d = 30
            · rw [if_pos hd] at h ⊢; exact h
            · rw [if_neg hd] at h ⊢
              cases h1 : run l f (.lv 0) (d + 1) (i + 1) with
              | none => rw [h1] at h; cases h
              | some r1 => rw [h1] at h; rw [ih g _ _ _ _ hfg' h1]; exact h
          · rw [if_neg h40] at h ⊢; exact h
      · rw [if_neg h5] at h ⊢
        cases h1 : run l f (.lv (n + 1)) d i with
        | none => rw [h1] at h; cases h
        | some r1 =>
          rw [h1] at h; rw [ih g _ _ _ _ hfg' h1]
          cases r1 with
          | err k a => exact h
          | ok e j => exact ih g _ _ _ _ hfg' h
    | more n e =>
      unfold run at h ⊢
      by_cases hw : which l i (opsOf n) = 0
      · rw [if_pos hw] at h ⊢; exact h
      · rw [if_neg hw] at h ⊢
        cases h1 : run l f (.lv (n + 1)) d (i + 1) with
        | none => rw [h1] at h; cases h
        | some r1 =>
          rw [h1] at h; rw [ih g _ _ _ _ hfg' h1]
          cases r1 with
          | err k a => exact h
          | ok y j =>
            simp only [] at h ⊢
            by_cases h2 : n = 2
            · rw [if_pos h2] at h ⊢; exact h
            · rw [if_neg h2] at h ⊢; exact ih g _ _ _ _ hfg' h

/-- What Parse reads from a token on. -/
noncomputable def parseR (l : List Tok) (i : Nat) : Res := finR l i ((run l (7 * l.length + 6) (.lv 0) 0 i).getD (.err 0 0))

theorem parse_of (l : List Tok) (i f : Nat) (r : Res) (hi : i ≤ l.length) (h : run l f (.lv 0) 0 i = some r) : parseR l i = finR l i r := by
  obtain ⟨r2, hr2, _⟩ := run_total l (7 * l.length + 6) (.lv 0) 0 i hi (fun n h => by cases h; omega) (fun n e h => by cases h) (by simp only [need]; omega)
  have e1 := run_more l _ (max f (7 * l.length + 6)) _ _ _ _ (Nat.le_max_left _ _) h
  have e2 := run_more l _ (max f (7 * l.length + 6)) _ _ _ _ (Nat.le_max_right _ _) hr2
  rw [e1] at e2
  cases e2
  unfold parseR
  rw [hr2]; rfl

theorem parse_any (l : List Tok) (lv : Value) (i : Nat) (w : World) (ht : TokS w w.heap.size lv l) (hs : Sgn w) (hn : l.length ≤ 100000) (hok : TokOK l) (hi : i ≤ l.length) :
    Calls Tryd.prog 20 #[lv, .int .i64 i] w (ParseAns w.heap.size (parseR l i) w) := by
  obtain ⟨r, hr, _⟩ := run_total l (7 * l.length + 6) (.lv 0) 0 i hi (fun n h => by cases h; omega) (fun n e h => by cases h) (by simp only [need]; omega)
  rw [parse_of l i _ r hi hr]
  refine (parse_run l lv i _ r w ht hs hn hok hi hr).mono fun e w' h => ?_
  revert h
  cases finR l i r with
  | err k a => exact id
  | ok x j =>
    rintro ⟨v, h1, h2, h3⟩
    exact ⟨v, h1, own_mono h2 (Nat.le_succ _), h3⟩

end Go.Proofs.YtifbhlgingaahaaDoor
