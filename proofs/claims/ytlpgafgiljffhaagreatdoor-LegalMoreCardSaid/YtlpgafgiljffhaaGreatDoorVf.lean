/- The reference's small functions on statements' tokens. -/
import Derived.Test.YtlpgafgiljffhaaGreatDoorVe
namespace Go.Proofs.YtlpgafgiljffhaaGreatDoor
open Go.RowKit
set_option maxRecDepth 100000 in
set_option maxHeartbeats 1000000 in
theorem rwrong_any (l : List Tok) (v : Value) (i : Nat) (w : World) (hx : RCtx l v w) :
    Calls Tryz.prog 82 #[v, .int .i64 i] w fun e w' => e = .returned (.tuple #[.int .i64 (refK l i).1, .int .i64 (refK l i).2]) ∧ Below w.heap.size w w' := by
  have HP : Hid (Calls Tryz.prog 112 #[v, .int .i64 i] w fun e w'' => e = .returned (.int .i64 (refK l i).2) ∧ Below w.heap.size w w'') := rplace_any l v i w hx.ht hx.hn hx.hok
  obtain ⟨ad, cap, rfl, _⟩ := hx.ht
  have hn := hx.hn
  have hk : (refK l i).1 = if i < l.length then 5 else 6 := by unfold refK; split <;> rfl
  rw [hk]
  obtain ⟨n, hN⟩ : ∃ n, n = l.length := ⟨_, rfl⟩
  rw [← hN] at hn HP ⊢
  obtain ⟨a, ha⟩ : ∃ a, a = (refK l i).2 := ⟨_, rfl⟩
  rw [← ha] at HP ⊢
  clear hx hk hN ha
  by_cases hlt : i < n
  · rw [if_pos hlt]
    go_enter Tryz.func82, Tryz.ntmps82
    go_wp2_with (go_at_call 112; refine HP.out.mono ?_; rintro e w2 ⟨rfl, hb2⟩)
    refine bodyPost_ret (v := .tuple #[.int .i64 5, .int .i64 a]) (by simp [results, Tryz.results82, go_sem]) rfl ⟨rfl, hb2⟩
  · rw [if_neg hlt]
    have hle : n ≤ i := by omega
    go_enter Tryz.func82, Tryz.ntmps82
    go_wp2_with (go_at_call 112; refine HP.out.mono ?_; rintro e w2 ⟨rfl, hb2⟩)
    refine bodyPost_ret (v := .tuple #[.int .i64 6, .int .i64 a]) (by simp [results, Tryz.results82, go_sem]) rfl ⟨rfl, hb2⟩
theorem txt_size {l : List Tok} {v : Value} {w : World} (hx : RCtx l v w) (i : Nat) : (txt l i).size ≤ 100000 := by
  have h1 := (hx.hok i).2.1
  unfold txt
  rw [Lib.size_eq]
  exact h1
set_option maxRecDepth 100000 in
set_option maxHeartbeats 1000000 in
theorem rnameAt_any (l : List Tok) (v : Value) (i : Nat) (w : World) (hx : RCtx l v w) (r : Bool) (hr : nmAt l i = r) :
    Calls Tryz.prog 84 #[v, .int .i64 i] w fun e w' => e = .returned (.bool r) ∧ Below w.heap.size w w' := by
  have hsz := txt_size hx i
  have hn := hx.hn
  have HX := Lib.hid hx
  obtain ⟨ad, cap, rfl, hc⟩ := hx.ht
  by_cases hlt : i < l.length
  · obtain ⟨g, rfl, hg, k0, k1, k2, k3⟩ := hc i hlt
    obtain ⟨c0, c1, _, _⟩ := tok_cells hlt k0 k1 k2 k3
    have hr' : (decide ((tokO l i).1 = 1) && nameB (txt l i)) = r := hr
    obtain ⟨tk, htk⟩ : ∃ t, t = (tokO l i).1 := ⟨_, rfl⟩
    obtain ⟨tx, htx⟩ : ∃ t, t = txt l i := ⟨_, rfl⟩
    rw [← htk] at c0 hr'
    rw [← htx] at c1 hr' hsz
    obtain ⟨n, hN⟩ : ∃ n, n = l.length := ⟨_, rfl⟩
    rw [← hN] at hn hlt ⊢
    clear hx hc k0 k1 k2 k3 htk htx hN hr HX
    by_cases h1 : tk = 1
    · have q1 : ((tk : Int) == 1) = true := by rw [h1]; rfl
      have HNM : Hid (nameB tx = r) := by rw [h1] at hr'; exact hr'
      clear hr' h1
      go_enter Tryz.func84, Tryz.ntmps84
      go_wp2_with (go_at_call 32; refine (rname_is2 tx _ hsz r HNM.out).mono ?_; rintro e w2 ⟨rfl, hb2⟩)
      go_ret
      exact ⟨rfl, hb2⟩
    · have q1 : ((tk : Int) == 1) = false := by simp; omega
      have hre : r = false := by rw [← hr']; simp [h1]
      subst hre
      clear hr' h1
      go_enter Tryz.func84, Tryz.ntmps84
      go_wp2
      go_ret
      exact ⟨rfl, Below.refl _ _⟩
  · have hre : r = false := by
      rw [← hr]
      cases h : nmAt l i with
      | true => exact absurd (nmAt_lt h) hlt
      | false => rfl
    subst hre
    obtain ⟨n, hN⟩ : ∃ n, n = l.length := ⟨_, rfl⟩
    rw [← hN] at hn hlt ⊢
    have hle : n ≤ i := by omega
    clear hx hc hr HX hsz hN hlt
    go_enter Tryz.func84, Tryz.ntmps84
    go_wp2
    go_ret
    exact ⟨rfl, Below.refl _ _⟩
def blkB (k : Nat) : Bool := decide (k = 10 ∨ k = 11 ∨ k = 12)
theorem rblock_any (k : Nat) (w : World) : Calls Tryz.prog 94 #[.int .i64 k] w fun e w' => e = .returned (.bool (blkB k)) ∧ w = w' := by
  by_cases h0 : k = 10
  · subst h0
    go_enter Tryz.func94, Tryz.ntmps94
    go_wp2
    go_ret
    exact ⟨rfl, rfl⟩
  · by_cases h1 : k = 11
    · subst h1
      go_enter Tryz.func94, Tryz.ntmps94
      go_wp2
      go_ret
      exact ⟨rfl, rfl⟩
    · by_cases h2 : k = 12
      · subst h2
        go_enter Tryz.func94, Tryz.ntmps94
        go_wp2
        go_ret
        exact ⟨rfl, rfl⟩
      · have hb : blkB k = false := by simp [blkB, h0, h1, h2]
        rw [hb]
        have q0 : ((k : Int) == 10) = false := by simp; omega
        have q1 : ((k : Int) == 11) = false := by simp; omega
        have q2 : ((k : Int) == 12) = false := by simp; omega
        clear hb h0 h1 h2
        go_enter Tryz.func94, Tryz.ntmps94
        go_wp2
        go_ret
        exact ⟨rfl, rfl⟩
def formL (k : Nat) : List UInt8 :=
  if k = 2 then [114, 61, 101, 59] else if k = 3 then [114, 61, 108, 59] else if k = 4 then [108, 61, 101, 59] else if k = 5 then [114, 61, 108, 44, 101, 44, 102, 59]
  else if k = 6 ∨ k = 7 then [114, 61, 108, 44, 101, 59] else if k = 9 then [108, 113, 101, 59] else if k = 10 ∨ k = 11 then [101] else if k = 12 then [] else [59]
set_option maxRecDepth 100000 in
set_option maxHeartbeats 1000000 in
theorem rform_any (k : Nat) (w : World) (h1 : 1 ≤ k) (h13 : k ≤ 13) : Calls Tryz.prog 133 #[.int .i64 k] w fun e w' => e = .returned (.string ⟨(formL k).toArray⟩) ∧ w = w' := by
  have hk : k = 1 ∨ k = 2 ∨ k = 3 ∨ k = 4 ∨ k = 5 ∨ k = 6 ∨ k = 7 ∨ k = 8 ∨ k = 9 ∨ k = 10 ∨ k = 11 ∨ k = 12 ∨ k = 13 := by omega
  rcases hk with rfl | rfl | rfl | rfl | rfl | rfl | rfl | rfl | rfl | rfl | rfl | rfl | rfl
  all_goals
    go_enter Tryz.func133, Tryz.ntmps133
    go_wp2
    go_ret
    exact ⟨rfl, rfl⟩
def kwds : List (List UInt8) := [[], [115, 107, 105, 112], [115, 101, 116], [108, 111, 97, 100], [115, 116, 111, 114, 101], [99, 97, 115], [102, 97, 100, 100], [120, 99, 104, 103], [102, 101, 110, 99, 101], [97, 119, 97, 105, 116], [105, 102], [119, 104, 105, 108, 101], [108, 111, 111, 112], [98, 114, 101, 97, 107]]
set_option maxRecDepth 100000 in
set_option maxHeartbeats 1000000 in
theorem rwords_any (w : World) :
    Calls Tryz.prog 132 #[] w fun e w' => e = .returned (.slice (some ⟨w.heap.size, 0, none⟩) 14 14) ∧ w' = w.alloc (.cells (cellsS kwds) 9) := by
  go_enter Tryz.func132, Tryz.ntmps132
  go_wp2
  go_ret
  exact ⟨rfl, rfl⟩
theorem kwd_cell (w : World) (k : Nat) (h : k < 14) : (w.alloc (.cells (cellsS kwds) 9)).cell? ⟨w.heap.size, k, none⟩ = some (.string ⟨(kwds.getD k []).toArray⟩) := by
  have h0 : (w.alloc (.cells (cellsS kwds) 9)).heap[w.heap.size]? = _ := heap_alloc_new w _
  unfold World.cell?
  simp only [h0]
  have hl : kwds.length = 14 := rfl
  simp only [cellsS, List.getElem?_toArray, List.getElem?_map, List.getElem?_eq_getElem (show k < kwds.length by omega), Option.map_some, List.getD_eq_getElem?_getD, Option.getD_some]
  rfl
theorem rwords_in (w : World) : Calls Tryz.prog 132 #[] w fun e w' => ∃ B, e = .returned (.slice (some ⟨B, 0, none⟩) 14 14) ∧ Below w.heap.size w w' ∧ ∀ k, k < 14 → w'.cell? ⟨B, k, none⟩ = some (.string ⟨(kwds.getD k []).toArray⟩) :=
  (rwords_any w).mono fun e w' ⟨h1, h2⟩ => ⟨w.heap.size, h1, by rw [h2]; exact (Below.refl _ _).alloc (Nat.le_refl _) _, fun k hk => by rw [h2]; exact kwd_cell w k hk⟩
def kindF (t : List UInt8) (k : Nat) : Nat → Nat
  | 0 => 0
  | f + 1 => if t = kwds.getD k [] then k else kindF t (k + 1) f
def kindL (l : List Tok) (i : Nat) : Nat := if i < l.length ∧ (tokO l i).1 = 1 then kindF (tokO l i).2.1 1 13 else 0
theorem kindF_le (t : List UInt8) : ∀ f k, kindF t k f = 0 ∨ (k ≤ kindF t k f ∧ kindF t k f < k + f) := by
  intro f
  induction f with
  | zero => intro k; exact .inl rfl
  | succ f ih =>
    intro k
    rw [kindF]
    split
    · exact .inr ⟨Nat.le_refl _, by omega⟩
    · rcases ih (k + 1) with h | h
      · exact .inl h
      · exact .inr ⟨by omega, by omega⟩
theorem kindL_le (l : List Tok) (i : Nat) : kindL l i ≤ 13 := by
  unfold kindL
  split
  · rcases kindF_le (tokO l i).2.1 13 1 with h | h <;> omega
  · omega
theorem ba_eq_iff (a : ByteArray) (x : List UInt8) : (a.toList == (⟨x.toArray⟩ : ByteArray).toList) = decide (a.data.toList = x) := by
  rw [Lib.toList_data, Lib.toList_data, Bool.eq_iff_iff]
  simp
set_option maxRecDepth 100000 in
set_option maxHeartbeats 4000000 in
theorem rkind_other (l : List Tok) (v : Value) (i : Nat) (w : World) (hx : RCtx l v w) (hlt : i < l.length) (hk : (tokO l i).1 ≠ 1) :
    Calls Tryz.prog 125 #[v, .int .i64 i] w fun e w' => e = .returned (.int .i64 0) ∧ Below w.heap.size w w' := by
  have hn := hx.hn
  obtain ⟨ad, cap, rfl, hc⟩ := hx.ht
  obtain ⟨g, rfl, hg, k0, k1, k2, k3⟩ := hc i hlt
  obtain ⟨c0, _, _, _⟩ := tok_cells hlt k0 k1 k2 k3
  obtain ⟨tk, htk⟩ : ∃ t, t = (tokO l i).1 := ⟨_, rfl⟩
  rw [← htk] at c0 hk
  obtain ⟨n, hN⟩ : ∃ n, n = l.length := ⟨_, rfl⟩
  rw [← hN] at hn hlt ⊢
  have q1 : ((tk : Int) == 1) = false := by simp; omega
  clear hx hN hc k0 k1 k2 k3 htk hk
  go_enter Tryz.func125, Tryz.ntmps125
  go_wp2
  go_loopg [5] 14 (fun fuel i' wr => ∃ k : Nat, i' = .int .i64 k ∧ 1 ≤ k ∧ k ≤ 14 ∧ 14 - k ≤ fuel ∧ Below w.heap.size w wr)
  case atStart => exact ⟨1, rfl, by omega, by omega, by omega, Below.refl _ _⟩
  case round =>
    obtain ⟨k, rfl, h1, h14, hf, hb⟩ := hrel
    have HB := Lib.hid hb
    clear hb
    have HB2 : Hid (Below w.heap.size w (wr.alloc (.cells (cellsS kwds) 9))) := HB.out.alloc HB.out.size _
    by_cases hk : k < 14
    · have d0 : (wr.alloc (.cells (cellsS kwds) 9)).cell? ⟨g, i * 4, none⟩ = some (.int .i64 tk) := (HB2.out.cell (p := ⟨g, _, none⟩) hg).trans c0
      have hgl : g < (wr.alloc (.cells (cellsS kwds) 9)).heap.size := Nat.lt_of_lt_of_le hg HB2.out.size
      go_wp2_with (go_at_call 132; refine (rwords_any _).mono ?_; rintro e w2 ⟨rfl, rfl⟩)
      generalize (wr.alloc (.cells (cellsS kwds) 9)) = w3 at HB2 d0 hgl ⊢
      go_quiet (fail)
      go_wp2
      go_roundg (gk - 1)
      case measure => omega
      case rel => exact ⟨k + 1, by go_num, by omega, by omega, by omega, below_drewN HB2.out _⟩
    · have hk' : k = 14 := by omega
      subst hk'
      go_wp2_with (go_at_call 132; refine (rwords_any _).mono ?_; rintro e w2 ⟨rfl, rfl⟩)
      go_ret
      exact ⟨rfl, HB2.out⟩
set_option maxRecDepth 100000 in
set_option maxHeartbeats 4000000 in
theorem rkind_word (l : List Tok) (v : Value) (i : Nat) (w : World) (hx : RCtx l v w) (hlt : i < l.length) (hk : (tokO l i).1 = 1) :
    Calls Tryz.prog 125 #[v, .int .i64 i] w fun e w' => e = .returned (.int .i64 (kindL l i)) ∧ Below w.heap.size w w' := by
  have hR : kindF (tokO l i).2.1 1 13 = kindL l i := by unfold kindL; rw [if_pos ⟨hlt, hk⟩]
  have hn := hx.hn
  obtain ⟨ad, cap, rfl, hc⟩ := hx.ht
  obtain ⟨g, rfl, hg, k0, k1, k2, k3⟩ := hc i hlt
  obtain ⟨c0, c1, _, _⟩ := tok_cells hlt k0 k1 k2 k3
  obtain ⟨tk, htk⟩ : ∃ t, t = (tokO l i).1 := ⟨_, rfl⟩
  rw [← htk] at c0 hk
  have hR' : kindF (txt l i).data.toList 1 13 = kindL l i := hR
  obtain ⟨tx, htx⟩ : ∃ t, t = txt l i := ⟨_, rfl⟩
  rw [← htx] at c1 hR'
  obtain ⟨R, hRR⟩ : ∃ R, R = kindL l i := ⟨_, rfl⟩
  rw [← hRR] at hR' ⊢
  have HR := Lib.hid hR'
  obtain ⟨n, hN⟩ : ∃ n, n = l.length := ⟨_, rfl⟩
  rw [← hN] at hn hlt ⊢
  have q1 : ((tk : Int) == 1) = true := by rw [hk]; rfl
  clear hx hN hc k0 k1 k2 k3 htk hk htx hR hR' hRR
  go_enter Tryz.func125, Tryz.ntmps125
  go_wp2
  go_loopg [5] 14 (fun fuel i' wr => ∃ k : Nat, i' = .int .i64 k ∧ 1 ≤ k ∧ k ≤ 14 ∧ 14 - k ≤ fuel ∧ kindF tx.data.toList k (14 - k) = R ∧ Below w.heap.size w wr)
  case atStart => exact ⟨1, rfl, by omega, by omega, by omega, HR.out, Below.refl _ _⟩
  case round =>
    obtain ⟨k, rfl, h1, h14, hf, hr, hb⟩ := hrel
    have HB := Lib.hid hb
    have HR2 := Lib.hid hr
    clear hb hr
    have HB2 : Hid (Below w.heap.size w (wr.alloc (.cells (cellsS kwds) 9))) := HB.out.alloc HB.out.size _
    by_cases hk : k < 14
    · have d0 : (wr.alloc (.cells (cellsS kwds) 9)).cell? ⟨g, i * 4, none⟩ = some (.int .i64 tk) := (HB2.out.cell (p := ⟨g, _, none⟩) hg).trans c0
      have d1 : (wr.alloc (.cells (cellsS kwds) 9)).cell? ⟨g, i * 4 + 1, none⟩ = some (.string tx) := (HB2.out.cell (p := ⟨g, _, none⟩) hg).trans c1
      have hgl : g < (wr.alloc (.cells (cellsS kwds) 9)).heap.size := Nat.lt_of_lt_of_le hg HB2.out.size
      obtain ⟨y, hy⟩ : ∃ y : ByteArray, y = ⟨(kwds.getD k []).toArray⟩ := ⟨_, rfl⟩
      obtain ⟨r, hr⟩ : ∃ r, (tx.toList == y.toList) = r := ⟨_, rfl⟩
      have hr2 : decide (tx.data.toList = kwds.getD k []) = r := by rw [← hr, hy, ba_eq_iff]
      have HY := Lib.hid hy
      have HRR := Lib.hid hr2
      have HF : Hid (kindF tx.data.toList k (14 - k) = if tx.data.toList = kwds.getD k [] then k else kindF tx.data.toList (k + 1) (14 - (k + 1))) := by
        rw [show 14 - k = (14 - (k + 1)) + 1 by omega, kindF]
        rfl
      clear hy hr2
      cases r with
      | true =>
        go_wp2_with (go_at_call 132; refine (rwords_any _).mono ?_; rintro e w2 ⟨rfl, rfl⟩)
        generalize (wr.alloc (.cells (cellsS kwds) 9)) = w3 at HB2 d0 d1 hgl ⊢
        have d0' : w3.drew.cell? ⟨g, i * 4, none⟩ = some (.int .i64 tk) := d0
        have d1' : w3.drew.cell? ⟨g, i * 4 + 1, none⟩ = some (.string tx) := d1
        go_region_with (go_at_call 132; refine (rwords_in _).mono ?_; rintro e w4 ⟨B, rfl, hbk, hck⟩; have hb4 : Below w3.heap.size w3 w4 := (Below.refl _ w3).drew.trans hbk; have d2 : w4.cell? ⟨g, i * 4 + 1, none⟩ = some (.string tx) := (hb4.cell (p := ⟨g, _, none⟩) hgl).trans d1; have d3 : w4.cell? ⟨B, k, none⟩ = some (.string y) := HY.out ▸ hck k hk; clear hck; have HB4 := Lib.hid (HB2.out.trans (hb4.mono HB2.out.size)))
        all_goals
          go_wp2
          go_ret
          refine ⟨ret_int ?_, HB4.out⟩
          have h := HR2.out
          rw [HF.out, if_pos (of_decide_eq_true HRR.out)] at h
          rw [h]
      | false =>
        go_wp2_with (go_at_call 132; refine (rwords_any _).mono ?_; rintro e w2 ⟨rfl, rfl⟩)
        generalize (wr.alloc (.cells (cellsS kwds) 9)) = w3 at HB2 d0 d1 hgl ⊢
        have d0' : w3.drew.cell? ⟨g, i * 4, none⟩ = some (.int .i64 tk) := d0
        have d1' : w3.drew.cell? ⟨g, i * 4 + 1, none⟩ = some (.string tx) := d1
        go_region_with (go_at_call 132; refine (rwords_in _).mono ?_; rintro e w4 ⟨B, rfl, hbk, hck⟩; have hb4 : Below w3.heap.size w3 w4 := (Below.refl _ w3).drew.trans hbk; have d2 : w4.cell? ⟨g, i * 4 + 1, none⟩ = some (.string tx) := (hb4.cell (p := ⟨g, _, none⟩) hgl).trans d1; have d3 : w4.cell? ⟨B, k, none⟩ = some (.string y) := HY.out ▸ hck k hk; clear hck; have HB4 := Lib.hid (HB2.out.trans (hb4.mono HB2.out.size)))
        all_goals
          go_wp2
          go_roundg (gk - 1)
          case measure => omega
          case rel =>
            refine ⟨k + 1, by go_num, by omega, by omega, by omega, ?_, HB4.out⟩
            have h := HR2.out
            rw [HF.out, if_neg (of_decide_eq_false HRR.out)] at h
            exact h
    · have hk' : k = 14 := by omega
      subst hk'
      have hre : R = 0 := HR2.out.symm
      subst hre
      go_wp2_with (go_at_call 132; refine (rwords_any _).mono ?_; rintro e w2 ⟨rfl, rfl⟩)
      go_ret
      exact ⟨rfl, HB2.out⟩
end Go.Proofs.YtlpgafgiljffhaaGreatDoor
