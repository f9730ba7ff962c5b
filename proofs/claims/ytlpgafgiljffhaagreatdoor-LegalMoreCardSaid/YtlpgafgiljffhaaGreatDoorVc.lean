/- The reference's floors: which operator of a floor stands at a place. -/
import Derived.Test.YtlpgafgiljffhaaGreatDoorVb
namespace Go.Proofs.YtlpgafgiljffhaaGreatDoor
open Go.RowKit
set_option maxRecDepth 100000 in
set_option maxHeartbeats 2000000 in
theorem rsgn_any (k : Nat) (w : World) (h5 : 5 ≤ k) (h15 : k < 15) : Calls Tryz.prog 136 #[.int .i64 k] w fun e w' => e = .returned (.string (sgV k)) ∧ Below w.heap.size w w' := by
  have hk : k = 5 ∨ k = 6 ∨ k = 7 ∨ k = 8 ∨ k = 9 ∨ k = 10 ∨ k = 11 ∨ k = 12 ∨ k = 13 ∨ k = 14 := by omega
  rcases hk with rfl | rfl | rfl | rfl | rfl | rfl | rfl | rfl | rfl | rfl
  all_goals
    go_enter Tryz.func136, Tryz.ntmps136
    go_wp2
    go_ret
    exact ⟨rfl, ((Below.refl _ _).alloc (Nat.le_refl _) _)⟩
set_option maxRecDepth 100000 in
set_option maxHeartbeats 1000000 in
theorem rwhich_any (l : List Tok) (v : Value) (i : Nat) (ov : Value) (os : List Nat) (w : World) (hx : RCtx l v w) (hv : Ints w ov os) (hos : ∀ o ∈ os, 5 ≤ o ∧ o < 15) (hol : os.length ≤ 4) :
    Calls Tryz.prog 129 #[v, .int .i64 i, ov] w fun e w' => e = .returned (.int .i64 (which l i os)) ∧ Below w.heap.size w w' := by
  obtain ⟨R, hR⟩ : ∃ R, which l i os = R := ⟨_, rfl⟩
  rw [hR]
  have HR := Lib.hid hR
  obtain ⟨g, cap, rfl, hg, hc⟩ := hv
  have HX := Lib.hid hx
  obtain ⟨ad, cap2, rfl, _⟩ := hx.ht
  obtain ⟨n, hN⟩ : ∃ n, n = os.length := ⟨_, rfl⟩
  rw [← hN] at hol ⊢
  have HN := Lib.hid hN
  have HC := Lib.hid hc
  have HOS := Lib.hid hos
  clear hR hc hN hos hx
  go_enter Tryz.func129, Tryz.ntmps129
  go_wp2
  go_loopg [7] n (fun fuel i' wr => ∃ k : Nat, i' = .int .i64 k ∧ k ≤ n ∧ n - k ≤ fuel ∧ which l i (os.drop k) = R ∧ Below w.heap.size w wr)
  case atStart => exact ⟨0, rfl, Nat.zero_le _, Nat.le_refl _, HR.out, Below.refl _ _⟩
  case round =>
    obtain ⟨k, rfl, hk, hf, hr, hb⟩ := hrel
    have HR2 := Lib.hid hr
    have HB := Lib.hid hb
    clear hr hb
    by_cases hlt : k < n
    · have hk' : k < os.length := by have := HN.out; omega
      have HE := Lib.hid (which_at l i os k hk')
      have c0 := HC.out k hk'
      obtain ⟨ho5, ho15⟩ := HOS.out _ (List.getElem_mem hk')
      obtain ⟨o, hoo⟩ : ∃ o, o = os[k] := ⟨_, rfl⟩
      have HO := Lib.hid hoo
      rw [← hoo] at c0 ho5 ho15
      clear hoo
      have g0 : wr.cell? ⟨g, k, none⟩ = some (.int .i64 o) := (HB.out.cell (p := ⟨g, k, none⟩) hg).trans c0
      have hgr : g < wr.heap.size := Nat.lt_of_lt_of_le hg HB.out.size
      obtain ⟨r, hr⟩ : ∃ r, sgAt l i (sgO o) = r := ⟨_, rfl⟩
      have HRR := Lib.hid hr
      obtain ⟨x, hx⟩ : ∃ x, x = sgV o := ⟨_, rfl⟩
      have HSG := Lib.hid (rsgn_any o wr ho5 ho15)
      rw [← hx] at HSG
      have hxl : sgAt l i x.data.toList = r := by rw [hx]; exact hr
      have HXL := Lib.hid hxl
      clear c0 hx hxl hr
      cases r with
      | true =>
        go_wp2_with fail
        refine HSG.out.mono ?_
        rintro e w2 ⟨rfl, hb2⟩
        have HB2 := Lib.hid (HB.out.trans (hb2.mono HB.out.size))
        have g2 : w2.cell? ⟨g, k, none⟩ = some (.int .i64 o) := (hb2.cell (p := ⟨g, k, none⟩) hgr).trans g0
        clear hb2
        go_wp2_with fail
        refine (HX.out.is HB2.out i x true HXL.out).mono ?_
        rintro e w3 ⟨rfl, rfl⟩
        go_wp2
        go_ret
        refine ⟨ret_int ?_, HB2.out⟩
        have := HR2.out
        rw [HE.out, ← HO.out, HRR.out, if_pos rfl] at this
        rw [this]
      | false =>
        go_wp2_with fail
        refine HSG.out.mono ?_
        rintro e w2 ⟨rfl, hb2⟩
        have HB2 := Lib.hid (HB.out.trans (hb2.mono HB.out.size))
        clear hb2
        go_wp2_with fail
        refine (HX.out.is HB2.out i x false HXL.out).mono ?_
        rintro e w3 ⟨rfl, rfl⟩
        go_wp2
        go_roundg (gk - 1)
        case measure => omega
        case rel =>
          refine ⟨k + 1, by go_num, by omega, by omega, ?_, HB2.out⟩
          have := HR2.out
          rw [HE.out, ← HO.out, HRR.out, if_neg (by simp)] at this
          exact this
    · have hk2 : ¬ k < os.length := by have := HN.out; omega
      have HE := Lib.hid (drop_over os k hk2)
      go_wp2
      go_ret
      exact ⟨ret_int (by rw [← HR2.out, HE.out]; rfl), HB.out⟩
def FlAns (w : World) (e : Ending) (w' : World) : Prop :=
  ∃ g, e = .returned (.slice (some ⟨g, 0, none⟩) 5 5) ∧ Below w.heap.size w w' ∧ g < w'.heap.size ∧ ∀ n, n < 5 → ∃ ov, w'.cell? ⟨g, n, none⟩ = some ov ∧ Ints w' ov (opsOf n)
theorem ints_at {w : World} {b : Nat} {cs : Array Value} {T : Nat} {os : List Nat} (h : w.heap[b]? = some (.cells cs T (0, 0))) (hc : cs = (os.map fun o => Value.int .i64 (o : Nat)).toArray) (k : Nat) (hk : k = os.length) : Ints w (.slice (some ⟨b, 0, none⟩) k k) os := by
  subst hk
  refine ⟨b, os.length, rfl, (Array.getElem?_eq_some_iff.1 h).1, fun i hi => ?_⟩
  unfold World.cell?
  simp only [h]
  subst hc
  simp [hi]
theorem six_new (w : World) (o1 o2 o3 o4 o5 o6 : Obj) :
    (((((((w.alloc o1).alloc o2).alloc o3).alloc o4).alloc o5).alloc o6).heap[w.heap.size]? = some o1 ∧ ((((((w.alloc o1).alloc o2).alloc o3).alloc o4).alloc o5).alloc o6).heap[w.heap.size + 1]? = some o2 ∧
    ((((((w.alloc o1).alloc o2).alloc o3).alloc o4).alloc o5).alloc o6).heap[w.heap.size + 1 + 1]? = some o3 ∧ ((((((w.alloc o1).alloc o2).alloc o3).alloc o4).alloc o5).alloc o6).heap[w.heap.size + 1 + 1 + 1]? = some o4 ∧
    ((((((w.alloc o1).alloc o2).alloc o3).alloc o4).alloc o5).alloc o6).heap[w.heap.size + 1 + 1 + 1 + 1]? = some o5 ∧ ((((((w.alloc o1).alloc o2).alloc o3).alloc o4).alloc o5).alloc o6).heap[w.heap.size + 1 + 1 + 1 + 1 + 1]? = some o6) ∧
    Below w.heap.size w ((((((w.alloc o1).alloc o2).alloc o3).alloc o4).alloc o5).alloc o6) := by
  have up : ∀ (w : World) (b : Nat) (x o : Obj), w.heap[b]? = some x → (w.alloc o).heap[b]? = some x := fun w b x o h => (((Below.refl w.heap.size w).alloc (Nat.le_refl _) o).block b (Array.getElem?_eq_some_iff.1 h).1).trans h
  have nw : ∀ (w : World) (b : Nat) (o : Obj), b = w.heap.size → (w.alloc o).heap[b]? = some o := fun w b o h => by subst h; exact heap_alloc_new w o
  refine ⟨⟨up _ _ _ _ (up _ _ _ _ (up _ _ _ _ (up _ _ _ _ (up _ _ _ _ (nw w _ o1 rfl))))), up _ _ _ _ (up _ _ _ _ (up _ _ _ _ (up _ _ _ _ (nw _ _ o2 (by simp))))), up _ _ _ _ (up _ _ _ _ (up _ _ _ _ (nw _ _ o3 (by simp)))), up _ _ _ _ (up _ _ _ _ (nw _ _ o4 (by simp))), up _ _ _ _ (nw _ _ o5 (by simp)), nw _ _ o6 (by simp)⟩, ?_⟩
  exact ((((((Below.refl _ _).alloc (Nat.le_refl _) _).alloc (by simp) _).alloc (by simp; omega) _).alloc (by simp; omega) _).alloc (by simp; omega) _).alloc (by simp; omega) _
set_option maxRecDepth 100000 in
set_option maxHeartbeats 1000000 in
theorem floors_any (w : World) : Calls Tryz.prog 130 #[] w (FlAns w) := by
  go_enter Tryz.func130, Tryz.ntmps130
  go_wp2
  obtain ⟨⟨h1, h2, h3, h4, h5, h6⟩, hb⟩ := six_new w (.cells #[.int .i64 14] 3) (.cells #[.int .i64 13] 3) (.cells #[.int .i64 9, .int .i64 10, .int .i64 11, .int .i64 12] 3) (.cells #[.int .i64 6, .int .i64 7] 3) (.cells #[.int .i64 8] 3)
    (.cells #[.slice (some ⟨w.heap.size, 0, none⟩) 1 1, .slice (some ⟨w.heap.size + 1, 0, none⟩) 1 1, .slice (some ⟨w.heap.size + 1 + 1, 0, none⟩) 4 4, .slice (some ⟨w.heap.size + 1 + 1 + 1, 0, none⟩) 2 2, .slice (some ⟨w.heap.size + 1 + 1 + 1 + 1, 0, none⟩) 1 1] 122)
  generalize ((((((w.alloc (.cells #[.int .i64 14] 3)).alloc (.cells #[.int .i64 13] 3)).alloc (.cells #[.int .i64 9, .int .i64 10, .int .i64 11, .int .i64 12] 3)).alloc (.cells #[.int .i64 6, .int .i64 7] 3)).alloc (.cells #[.int .i64 8] 3)).alloc
    (.cells #[.slice (some ⟨w.heap.size, 0, none⟩) 1 1, .slice (some ⟨w.heap.size + 1, 0, none⟩) 1 1, .slice (some ⟨w.heap.size + 1 + 1, 0, none⟩) 4 4, .slice (some ⟨w.heap.size + 1 + 1 + 1, 0, none⟩) 2 2, .slice (some ⟨w.heap.size + 1 + 1 + 1 + 1, 0, none⟩) 1 1] 122)) = W at h1 h2 h3 h4 h5 h6 hb ⊢
  refine bodyPost_ret (v := .slice (some ⟨w.heap.size + 1 + 1 + 1 + 1 + 1, 0, none⟩) 5 5) (by simp [results, Tryz.results130, go_sem]) rfl ⟨_, rfl, hb, (Array.getElem?_eq_some_iff.1 h6).1, ?_⟩
  have hc : ∀ n v, (#[.slice (some ⟨w.heap.size, 0, none⟩) 1 1, .slice (some ⟨w.heap.size + 1, 0, none⟩) 1 1, .slice (some ⟨w.heap.size + 1 + 1, 0, none⟩) 4 4, .slice (some ⟨w.heap.size + 1 + 1 + 1, 0, none⟩) 2 2, .slice (some ⟨w.heap.size + 1 + 1 + 1 + 1, 0, none⟩) 1 1] : Array Value)[n]? = some v → W.cell? ⟨w.heap.size + 1 + 1 + 1 + 1 + 1, n, none⟩ = some v := by
    intro n v hv
    unfold World.cell?
    simp only [h6]
    exact hv
  intro n hn
  match n, hn with
  | 0, _ => exact ⟨_, hc 0 _ rfl, ints_at h1 rfl 1 rfl⟩
  | 1, _ => exact ⟨_, hc 1 _ rfl, ints_at h2 rfl 1 rfl⟩
  | 2, _ => exact ⟨_, hc 2 _ rfl, ints_at h3 rfl 4 rfl⟩
  | 3, _ => exact ⟨_, hc 3 _ rfl, ints_at h4 rfl 2 rfl⟩
  | 4, _ => exact ⟨_, hc 4 _ rfl, ints_at h5 rfl 1 rfl⟩
end Go.Proofs.YtlpgafgiljffhaaGreatDoor
