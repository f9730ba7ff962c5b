/- The reference's floors: which operator of a floor stands at a place. The reference's floor. What the reference's Parse of expressions does. The reference's small functions on statements' tokens. -/
import Derived.Test.YtmlcdnfejebhoaaGreatDoorVb
import Derived.Deep.RegionWith
import Derived.Deep.DeepCutAuto
import Derived.Test.YtmlcdnfejebhoaaGreatDoorNk
namespace Go.Proofs.YtmlcdnfejebhoaaGreatDoor
open Go.RowKit
set_option maxRecDepth 100000 in
set_option maxHeartbeats 2000000 in
theorem rsgn_any (k : Nat) (w : World) (h5 : 5 ≤ k) (h15 : k < 15) : Calls Tryz.prog 214 #[.int .i64 k] w fun e w' => e = .returned (.string (sgV k)) ∧ Below w.heap.size w w' := by
  have hk : k = 5 ∨ k = 6 ∨ k = 7 ∨ k = 8 ∨ k = 9 ∨ k = 10 ∨ k = 11 ∨ k = 12 ∨ k = 13 ∨ k = 14 := by omega
  rcases hk with rfl | rfl | rfl | rfl | rfl | rfl | rfl | rfl | rfl | rfl
  all_goals
    go_enter Tryz.func214, Tryz.ntmps214
    go_wp2
    go_ret
    exact ⟨rfl, ((Below.refl _ _).alloc (Nat.le_refl _) _)⟩
set_option maxRecDepth 100000 in
set_option maxHeartbeats 1000000 in
theorem rwhich_any (l : List Tok) (v : Value) (i : Nat) (ov : Value) (os : List Nat) (w : World) (hx : RCtx l v w) (hv : Ints w ov os) (hos : ∀ o ∈ os, 5 ≤ o ∧ o < 15) (hol : os.length ≤ 4) :
    Calls Tryz.prog 224 #[v, .int .i64 i, ov] w fun e w' => e = .returned (.int .i64 (which l i os)) ∧ Below w.heap.size w w' := by
  obtain ⟨R, hR⟩ : ∃ R, which l i os = R := ⟨_, rfl⟩
  rw [hR]
  have HR := Lib.hid hR
  obtain ⟨g, cap, rfl, hg, hc⟩ := hv
  have HX := Lib.hid hx
  obtain ⟨ad, cap2, rfl, _⟩ := hx.ht
  obtain ⟨n, hN⟩ : ∃ n, n = os.length := ⟨_, rfl⟩
  rw [← hN] at hol ⊢
  have HN := Lib.hid hN
  have HC := Lib.hid hc
  have HOS := Lib.hid hos
  clear hR hc hN hos hx
  go_enter Tryz.func224, Tryz.ntmps224
  go_wp2
  go_loopg [7] n (fun fuel i' wr => ∃ k : Nat, i' = .int .i64 k ∧ k ≤ n ∧ n - k ≤ fuel ∧ which l i (os.drop k) = R ∧ Below w.heap.size w wr)
  case atStart => exact ⟨0, rfl, Nat.zero_le _, Nat.le_refl _, HR.out, Below.refl _ _⟩
  case round =>
    obtain ⟨k, rfl, hk, hf, hr, hb⟩ := hrel
    have HR2 := Lib.hid hr
    have HB := Lib.hid hb
    clear hr hb
    by_cases hlt : k < n
    · have hk' : k < os.length := by have := HN.out; omega
      have HE := Lib.hid (which_at l i os k hk')
      have c0 := HC.out k hk'
      obtain ⟨ho5, ho15⟩ := HOS.out _ (List.getElem_mem hk')
      obtain ⟨o, hoo⟩ : ∃ o, o = os[k] := ⟨_, rfl⟩
      have HO := Lib.hid hoo
      rw [← hoo] at c0 ho5 ho15
      clear hoo
      have g0 : wr.cell? ⟨g, k, none⟩ = some (.int .i64 o) := (HB.out.cell (p := ⟨g, k, none⟩) hg).trans c0
      have hgr : g < wr.heap.size := Nat.lt_of_lt_of_le hg HB.out.size
      obtain ⟨r, hr⟩ : ∃ r, sgAt l i (sgO o) = r := ⟨_, rfl⟩
      have HRR := Lib.hid hr
      obtain ⟨x, hx⟩ : ∃ x, x = sgV o := ⟨_, rfl⟩
      have HSG := Lib.hid (rsgn_any o wr ho5 ho15)
      rw [← hx] at HSG
      have hxl : sgAt l i x.data.toList = r := by rw [hx]; exact hr
      have HXL := Lib.hid hxl
      clear c0 hx hxl hr
      cases r with
      | true =>
        go_wp2_with fail
        refine HSG.out.mono ?_
        rintro e w2 ⟨rfl, hb2⟩
        have HB2 := Lib.hid (HB.out.trans (hb2.mono HB.out.size))
        have g2 : w2.cell? ⟨g, k, none⟩ = some (.int .i64 o) := (hb2.cell (p := ⟨g, k, none⟩) hgr).trans g0
        clear hb2
        go_wp2_with fail
        refine (HX.out.is HB2.out i x true HXL.out).mono ?_
        rintro e w3 ⟨rfl, rfl⟩
        go_wp2
        go_ret
        refine ⟨ret_int ?_, HB2.out⟩
        have := HR2.out
        rw [HE.out, ← HO.out, HRR.out, if_pos rfl] at this
        rw [this]
      | false =>
        go_wp2_with fail
        refine HSG.out.mono ?_
        rintro e w2 ⟨rfl, hb2⟩
        have HB2 := Lib.hid (HB.out.trans (hb2.mono HB.out.size))
        clear hb2
        go_wp2_with fail
        refine (HX.out.is HB2.out i x false HXL.out).mono ?_
        rintro e w3 ⟨rfl, rfl⟩
        go_wp2
        go_roundg (gk - 1)
        case measure => omega
        case rel =>
          refine ⟨k + 1, by go_num, by omega, by omega, ?_, HB2.out⟩
          have := HR2.out
          rw [HE.out, ← HO.out, HRR.out, if_neg (by simp)] at this
          exact this
    · have hk2 : ¬ k < os.length := by have := HN.out; omega
      have HE := Lib.hid (drop_over os k hk2)
      go_wp2
      go_ret
      exact ⟨ret_int (by rw [← HR2.out, HE.out]; rfl), HB.out⟩
def FlAns (w : World) (e : Ending) (w' : World) : Prop :=
  ∃ g, e = .returned (.slice (some ⟨g, 0, none⟩) 5 5) ∧ Below w.heap.size w w' ∧ g < w'.heap.size ∧ ∀ n, n < 5 → ∃ ov, w'.cell? ⟨g, n, none⟩ = some ov ∧ Ints w' ov (opsOf n)
theorem ints_at {w : World} {b : Nat} {cs : Array Value} {T : Nat} {os : List Nat} (h : w.heap[b]? = some (.cells cs T (0, 0))) (hc : cs = (os.map fun o => Value.int .i64 (o : Nat)).toArray) (k : Nat) (hk : k = os.length) : Ints w (.slice (some ⟨b, 0, none⟩) k k) os := by
  subst hk
  refine ⟨b, os.length, rfl, (Array.getElem?_eq_some_iff.1 h).1, fun i hi => ?_⟩
  unfold World.cell?
  simp only [h]
  subst hc
  simp [hi]
theorem six_new (w : World) (o1 o2 o3 o4 o5 o6 : Obj) :
    (((((((w.alloc o1).alloc o2).alloc o3).alloc o4).alloc o5).alloc o6).heap[w.heap.size]? = some o1 ∧ ((((((w.alloc o1).alloc o2).alloc o3).alloc o4).alloc o5).alloc o6).heap[w.heap.size + 1]? = some o2 ∧
    ((((((w.alloc o1).alloc o2).alloc o3).alloc o4).alloc o5).alloc o6).heap[w.heap.size + 1 + 1]? = some o3 ∧ ((((((w.alloc o1).alloc o2).alloc o3).alloc o4).alloc o5).alloc o6).heap[w.heap.size + 1 + 1 + 1]? = some o4 ∧
    ((((((w.alloc o1).alloc o2).alloc o3).alloc o4).alloc o5).alloc o6).heap[w.heap.size + 1 + 1 + 1 + 1]? = some o5 ∧ ((((((w.alloc o1).alloc o2).alloc o3).alloc o4).alloc o5).alloc o6).heap[w.heap.size + 1 + 1 + 1 + 1 + 1]? = some o6) ∧
    Below w.heap.size w ((((((w.alloc o1).alloc o2).alloc o3).alloc o4).alloc o5).alloc o6) := by
  have up : ∀ (w : World) (b : Nat) (x o : Obj), w.heap[b]? = some x → (w.alloc o).heap[b]? = some x := fun w b x o h => (((Below.refl w.heap.size w).alloc (Nat.le_refl _) o).block b (Array.getElem?_eq_some_iff.1 h).1).trans h
  have nw : ∀ (w : World) (b : Nat) (o : Obj), b = w.heap.size → (w.alloc o).heap[b]? = some o := fun w b o h => by subst h; exact heap_alloc_new w o
  refine ⟨⟨up _ _ _ _ (up _ _ _ _ (up _ _ _ _ (up _ _ _ _ (up _ _ _ _ (nw w _ o1 rfl))))), up _ _ _ _ (up _ _ _ _ (up _ _ _ _ (up _ _ _ _ (nw _ _ o2 (by simp))))), up _ _ _ _ (up _ _ _ _ (up _ _ _ _ (nw _ _ o3 (by simp)))), up _ _ _ _ (up _ _ _ _ (nw _ _ o4 (by simp))), up _ _ _ _ (nw _ _ o5 (by simp)), nw _ _ o6 (by simp)⟩, ?_⟩
  exact ((((((Below.refl _ _).alloc (Nat.le_refl _) _).alloc (by simp) _).alloc (by simp; omega) _).alloc (by simp; omega) _).alloc (by simp; omega) _).alloc (by simp; omega) _
set_option maxRecDepth 100000 in
set_option maxHeartbeats 1000000 in
theorem floors_any (w : World) : Calls Tryz.prog 225 #[] w (FlAns w) := by
  go_enter Tryz.func225, Tryz.ntmps225
  go_wp2
  obtain ⟨⟨h1, h2, h3, h4, h5, h6⟩, hb⟩ := six_new w (.cells #[.int .i64 14] 3) (.cells #[.int .i64 13] 3) (.cells #[.int .i64 9, .int .i64 10, .int .i64 11, .int .i64 12] 3) (.cells #[.int .i64 6, .int .i64 7] 3) (.cells #[.int .i64 8] 3)
    (.cells #[.slice (some ⟨w.heap.size, 0, none⟩) 1 1, .slice (some ⟨w.heap.size + 1, 0, none⟩) 1 1, .slice (some ⟨w.heap.size + 1 + 1, 0, none⟩) 4 4, .slice (some ⟨w.heap.size + 1 + 1 + 1, 0, none⟩) 2 2, .slice (some ⟨w.heap.size + 1 + 1 + 1 + 1, 0, none⟩) 1 1] 60)
  generalize ((((((w.alloc (.cells #[.int .i64 14] 3)).alloc (.cells #[.int .i64 13] 3)).alloc (.cells #[.int .i64 9, .int .i64 10, .int .i64 11, .int .i64 12] 3)).alloc (.cells #[.int .i64 6, .int .i64 7] 3)).alloc (.cells #[.int .i64 8] 3)).alloc
    (.cells #[.slice (some ⟨w.heap.size, 0, none⟩) 1 1, .slice (some ⟨w.heap.size + 1, 0, none⟩) 1 1, .slice (some ⟨w.heap.size + 1 + 1, 0, none⟩) 4 4, .slice (some ⟨w.heap.size + 1 + 1 + 1, 0, none⟩) 2 2, .slice (some ⟨w.heap.size + 1 + 1 + 1 + 1, 0, none⟩) 1 1] 60)) = W at h1 h2 h3 h4 h5 h6 hb ⊢
  refine bodyPost_ret (v := .slice (some ⟨w.heap.size + 1 + 1 + 1 + 1 + 1, 0, none⟩) 5 5) (by simp [results, Tryz.results225, go_sem]) rfl ⟨_, rfl, hb, (Array.getElem?_eq_some_iff.1 h6).1, ?_⟩
  have hc : ∀ n v, (#[.slice (some ⟨w.heap.size, 0, none⟩) 1 1, .slice (some ⟨w.heap.size + 1, 0, none⟩) 1 1, .slice (some ⟨w.heap.size + 1 + 1, 0, none⟩) 4 4, .slice (some ⟨w.heap.size + 1 + 1 + 1, 0, none⟩) 2 2, .slice (some ⟨w.heap.size + 1 + 1 + 1 + 1, 0, none⟩) 1 1] : Array Value)[n]? = some v → W.cell? ⟨w.heap.size + 1 + 1 + 1 + 1 + 1, n, none⟩ = some v := by
    intro n v hv
    unfold World.cell?
    simp only [h6]
    exact hv
  intro n hn
  match n, hn with
  | 0, _ => exact ⟨_, hc 0 _ rfl, ints_at h1 rfl 1 rfl⟩
  | 1, _ => exact ⟨_, hc 1 _ rfl, ints_at h2 rfl 1 rfl⟩
  | 2, _ => exact ⟨_, hc 2 _ rfl, ints_at h3 rfl 4 rfl⟩
  | 3, _ => exact ⟨_, hc 3 _ rfl, ints_at h4 rfl 2 rfl⟩
  | 4, _ => exact ⟨_, hc 4 _ rfl, ints_at h5 rfl 1 rfl⟩
end Go.Proofs.YtmlcdnfejebhoaaGreatDoor

namespace Go.Proofs.YtmlcdnfejebhoaaGreatDoor
open Go.RowKit
def FlX (d : Nat) (w : World) (b : Nat) (rx : Res) (wr : World) : Prop := match rx with
  | .err k a => k ≠ 0 ∧ ∃ tu : Nat, tu + d ≤ 31 ∧ BlkG wr b (.slice none 0 0) (.int .i64 tu) (.int .i64 k) (.int .i64 a)
  | .ok e j => ∃ ad cap, BlkG wr b (.slice ad e.flat.length cap) (.int .i64 j) (.int .i64 0) (.int .i64 0) ∧ wr.ownsRow w.heap.size 59 5 (.slice ad e.flat.length cap) e.flat.length (rowN e.flat) ∧ ∀ g, ad = some ⟨g, 0, none⟩ → g ≠ b ∧ g ≠ w.heap.size
def FlR (l : List Tok) (n d f : Nat) (r rx : Res) : Prop := match rx with
  | .err k a => r = .err k a
  | .ok e j => run l f (.more n e) d j = some r ∧ j ≤ l.length ∧ e.flat.length ≤ j
theorem own_ne {w : World} {B e size m cap n : Nat} {ad : Option Addr} {xs : List Value} (h : w.ownsRow B e size (.slice ad m cap) n xs) (b : Nat) (hb : b < B ∨ w.heap.size ≤ b) : ∀ g, ad = some ⟨g, 0, none⟩ → g ≠ b := by
  intro g hg
  rcases h.2 with ⟨h1, _⟩ | ⟨g', _, cur, hv, hB, hh, _⟩
  · cases h1; cases hg
  · cases hv
    cases hg
    have := (Array.getElem?_eq_some_iff.1 hh).1
    omega
theorem own_lt {w : World} {B e size m cap n : Nat} {ad : Option Addr} {xs : List Value} (h : w.ownsRow B e size (.slice ad m cap) n xs) : ∀ g, ad = some ⟨g, 0, none⟩ → g < w.heap.size := by
  intro g hg
  rcases h.2 with ⟨h1, _⟩ | ⟨g', _, cur, hv, hB, hh, _⟩
  · cases h1; cases hg
  · cases hv
    cases hg
    exact (Array.getElem?_eq_some_iff.1 hh).1
theorem own_lim {w w' : World} {B C e size m cap n : Nat} {ad : Option Addr} {xs : List Value} (h : w.ownsRow B e size (.slice ad m cap) n xs) (hb : Below C w w') (hlt : ∀ g, ad = some ⟨g, 0, none⟩ → g < C) : w'.ownsRow B e size (.slice ad m cap) n xs := by
  obtain ⟨h1, h2⟩ := h
  refine ⟨h1, ?_⟩
  rcases h2 with h2 | ⟨g, cap', cur, hv, hg, hh, r⟩
  · exact .inl h2
  · refine .inr ⟨g, cap', cur, hv, hg, ?_, r⟩
    cases hv
    rw [hb.block g (hlt g rfl)]; exact hh
theorem opsOf_le (n : Nat) : (opsOf n).length ≤ 4 := by unfold opsOf; split <;> decide
theorem opsOf_in (n o : Nat) (h : o ∈ opsOf n) : 5 ≤ o ∧ o < 15 := by
  unfold opsOf at h
  split at h <;> simp at h <;> omega
set_option maxRecDepth 100000 in
set_option maxHeartbeats 8000000 in
theorem floor_step (l : List Tok) (v : Value) (f n d i : Nat) (r : Res) (w : World) (hx : RCtx l v w) (_hd : d ≤ 30) (hi : i ≤ l.length) (hn5 : n < 5) (hr : run l (f + 1) (.lv n) d i = some r)
    (hL : ∀ f' i' r', f' ≤ f → i' ≤ l.length → run l f' (.lv (n + 1)) d i' = some r' → ∀ W, RCtx l v W → Calls Tryz.prog 192 #[v, .int .i64 i', .int .i64 d, .int .i64 ((n : Int) + 1)] W (RAns d r' W)) :
    Calls Tryz.prog 192 #[v, .int .i64 i, .int .i64 d, .int .i64 n] w (RAns d r w) := by
  rw [run_lv _ _ _ _ _ (by omega)] at hr
  have hlen := hx.hn
  cases h1 : run l f (.lv (n + 1)) d i with
  | none => rw [h1] at hr; cases hr
  | some r1 =>
    rw [h1] at hr
    have hfit := (run_fit f (.lv (n + 1)) d i r1 0 hi (fun n h => rfl) (fun n e h => by cases h) h1).1
    have hrel : FlR l n d f r r1 := by
      cases r1 with
      | err k a => cases hr; rfl
      | ok e j => exact ⟨hr, hfit.2.1, by have := hfit.2.2; have := hfit.1; rw [e.flat_length]; omega⟩
    have hk0 : ∀ k a, r1 = .err k a → k ≠ 0 := by
      intro k a h; subst h; exact hfit
    have HK0 := Lib.hid hk0
    have HREL := Lib.hid hrel
    have HC := Lib.hid (hL f i r1 (Nat.le_refl _) hi h1)
    have HL := Lib.hid hL
    have HX := Lib.hid hx
    clear hfit hk0 hrel hr h1 hL
    obtain ⟨ad0, cap0, rfl, _⟩ := hx.ht
    obtain ⟨N, hN⟩ : ∃ N, N = l.length := ⟨_, rfl⟩
    have HN := Lib.hid hN
    rw [← hN] at HC HL HX hlen ⊢
    clear hx hN hi
    have HB1 : Hid (Below w.heap.size w (w.alloc (.cells #[.slice none 0 0, .int .i64 0, .int .i64 0, .int .i64 0] 182))) := (Below.refl _ _).alloc (Nat.le_refl _) _
    have HG1 : Hid (BlkG (w.alloc (.cells #[.slice none 0 0, .int .i64 0, .int .i64 0, .int .i64 0] 182)) w.heap.size (.slice none 0 0) (.int .i64 0) (.int .i64 0) (.int .i64 0)) := heap_alloc_new w _
    have hne5 : ¬ n = 5 := by omega
    have q0 : ((n : Int) == 5) = false := by simp; omega
    go_enter Tryz.func192, Tryz.ntmps192
    go_wp2_with fail
    refine (HC.out _ (HX.out.below HB1.out)).mono ?_
    intro e w2 hans
    have hu : ∃ (xa : Option Addr) (xm xc : Nat) (z1 z2 z3 : Int), e = .returned (.agg #[.slice xa xm xc, .int .i64 z1, .int .i64 z2, .int .i64 z3]) ∧ Below w.heap.size w w2 ∧ BlkG w2 w.heap.size (.slice none 0 0) (.int .i64 0) (.int .i64 0) (.int .i64 0) ∧ FlX d w w2.heap.size r1 (w2.alloc (.cells #[.slice xa xm xc, .int .i64 z1, .int .i64 z2, .int .i64 z3] 182)) := by
      cases r1 with
      | err k a =>
        obtain ⟨tu, htu, rfl, hb⟩ := hans
        exact ⟨_, _, _, _, _, _, rfl, HB1.out.trans (hb.mono HB1.out.size), HG1.out.under hb, HK0.out k a rfl, tu, htu, BlkG.new w2 _ _ _ _⟩
      | ok x j =>
        obtain ⟨v1, rfl, ho, hb⟩ := hans
        obtain ⟨ad, cap, rfl, _⟩ := own_shape ho
        have hb' := HB1.out.trans (hb.mono HB1.out.size)
        refine ⟨_, _, _, _, _, _, rfl, hb', HG1.out.under hb, ad, cap, BlkG.new w2 _ _ _ _, own_mono (own_below ho ((Below.refl _ _).alloc (Nat.le_refl _) _)) HB1.out.size, fun g hg => ⟨own_ne ho _ (.inr (Nat.le_refl _)) g hg, own_ne ho _ (.inl (by simp)) g hg⟩⟩
    clear hans
    obtain ⟨xa, xm, xc, z1, z2, z3, rfl, hb2, hg2, hfl⟩ := hu
    have HB2 : Hid (Below w.heap.size w (w2.alloc (.cells #[.slice xa xm xc, .int .i64 z1, .int .i64 z2, .int .i64 z3] 182))) := hb2.alloc hb2.size _
    have HG2 : Hid (BlkG (w2.alloc (.cells #[.slice xa xm xc, .int .i64 z1, .int .i64 z2, .int .i64 z3] 182)) w.heap.size (.slice none 0 0) (.int .i64 0) (.int .i64 0) (.int .i64 0)) := hg2.under ((Below.refl _ _).alloc (Nat.le_refl _) _)
    have HF2 := Lib.hid hfl
    have hlb : w.heap.size < w2.heap.size := hg2.lt
    clear hb2 hg2 hfl HB1 HG1
    go_wp2_with fail
    obtain ⟨b, hb⟩ : ∃ b, b = w2.heap.size := ⟨_, rfl⟩
    rw [← hb] at HF2 hlb ⊢
    generalize (w2.alloc (.cells #[.slice xa xm xc, .int .i64 z1, .int .i64 z2, .int .i64 z3] 182)) = w3 at HB2 HG2 HF2 ⊢
    clear hb
    go_loopg [10, 11, 12] f (fun fuel o y z wr => ∃ rx, fuel ≤ f ∧ FlX d w b rx wr ∧ FlR l n d fuel r rx ∧ Below w.heap.size w wr ∧ BlkG wr w.heap.size (.slice none 0 0) (.int .i64 0) (.int .i64 0) (.int .i64 0))
    case atStart => exact ⟨r1, Nat.le_refl _, HF2.out, HREL.out, HB2.out, HG2.out⟩
    case round =>
      obtain ⟨rx, hfu, hfx, hfr, hbr, hgr⟩ := hrel
      clear HF2 HREL HB2 HG2 HK0 HC
      have HB := Lib.hid hbr
      have HG := Lib.hid hgr
      obtain ⟨⟨g0, g1, g2, g3⟩, f0, f1, f2, f3⟩ := hgr.facts
      have hwl : w.heap.size < wr.heap.size := hgr.lt
      clear hbr hgr
      cases rx with
      | err k a =>
        obtain ⟨hk0, tu, htu, hbx⟩ := hfx
        have hre : r = .err k a := hfr
        subst hre
        obtain ⟨⟨b0, b1, b2, b3⟩, _⟩ := hbx.facts
        clear hbx hfr
        have q1 : ((k : Int) == 0) = false := by simp; omega
        go_wp2
        refine bodyPost_ret (v := .agg #[.slice none 0 0, .int .i64 tu, .int .i64 k, .int .i64 a]) (results_got Tryz.results192 _ _ w.heap.size _ _ _ _ rfl (HG.out.set4 _ _ _ _)) rfl ⟨tu, htu, rfl, ?_⟩
        exact below_set4' HB.out (Nat.le_refl _) _ _ _ _
      | ok x j =>
        obtain ⟨ad, cap, hbx, hox, hne⟩ := hfx
        obtain ⟨hrun, hjl, hxl⟩ := hfr
        have HBX := Lib.hid hbx
        have HOX := Lib.hid hox
        have HNE := Lib.hid hne
        obtain ⟨⟨b0, b1, b2, b3⟩, bf0, bf1, bf2, bf3⟩ := hbx.facts
        have hbl : b < wr.heap.size := hbx.lt
        obtain ⟨m, hm⟩ : ∃ m, m = x.flat.length := ⟨_, rfl⟩
        have HM := Lib.hid hm
        rw [← hm] at b0 hxl HBX HOX
        obtain ⟨F, rfl⟩ := run_pos hrun
        rw [run_mo] at hrun
        have HRUN := Lib.hid hrun
        have HJL := Lib.hid hjl
        clear hbx hox hne hm hrun hjl
        have HWH : ∀ w' ov, Below wr.heap.size wr w' → Ints w' ov (opsOf n) → Calls Tryz.prog 224 #[.slice ad0 N cap0, .int .i64 j, ov] w' fun e w'' => e = .returned (.int .i64 (which l j (opsOf n))) ∧ Below w'.heap.size w' w'' := fun w' ov hb hi => rwhich_any l _ j ov (opsOf n) w' (HX.out.below (HB.out.trans (hb.mono HB.out.size))) hi (opsOf_in n) (opsOf_le n)
        obtain ⟨op, hop⟩ : ∃ op, op = which l j (opsOf n) := ⟨_, rfl⟩
        rw [← hop] at HWH
        have HOP := Lib.hid hop
        have HW := Lib.hid HWH
        clear HWH hop
        have hz : (0 : Int) ≤ (n : Int) ∧ (n : Int) < 5 := by omega
        go_wp2_with fail
        go_cut [10] (fun s10 wx => s10 = .int .i64 op ∧ Below wr.heap.size wr wx)
        case first =>
          have b1d : wr.drew.cell? ⟨b, 1, none⟩ = some (.int .i64 j) := b1
          go_region_with (first
            | (go_at_call 225; refine (floors_any _).mono ?_; rintro e w4 ⟨gF, rfl, hbF, hgF, hflF⟩; have hb3 : Below wr.heap.size wr w4 := (Below.refl _ wr).drew.trans hbF; have b1w : w4.cell? ⟨b, 1, none⟩ = some (.int .i64 j) := (hb3.cell (p := ⟨b, 1, none⟩) hbl).trans b1; obtain ⟨ov, hov, hin⟩ := hflF n hn5; obtain ⟨gI, capI, rfl, hI⟩ := id hin)
            | (go_at_call 224; refine (HW.out _ _ hb3 hin).mono ?_; rintro e w5 ⟨rfl, hbW⟩; have hb5 : Below wr.heap.size wr w5 := hb3.trans (hbW.mono hb3.size)))
          all_goals
            go_wp2_with fail
            go_meet
            exact ⟨rfl, hb5⟩
        case rest =>
          obtain ⟨rfl, hb5⟩ := hcut
          have HB5 := Lib.hid (HB.out.trans (hb5.mono HB.out.size))
          have HG5 := Lib.hid (HG.out.under hb5)
          have HBX5 := Lib.hid (HBX.out.under hb5)
          have HOX5 := Lib.hid (own_below HOX.out hb5)
          have HNE5 := HNE
          clear HB HG HBX HOX HNE HW g0 g1 g2 g3 f0 f1 f2 f3 b0 b1 b2 b3 bf0 bf1 bf2 bf3 hb5
          obtain ⟨⟨g0, g1, g2, g3⟩, f0, f1, f2, f3⟩ := HG5.out.facts
          obtain ⟨⟨b0, b1, b2, b3⟩, bf0, bf1, bf2, bf3⟩ := HBX5.out.facts
          have hwl5 : w.heap.size < wc.heap.size := HG5.out.lt
          have hbl5 : b < wc.heap.size := HBX5.out.lt
          have hnb : w.heap.size ≠ b := by omega
          have hnb2 : b ≠ w.heap.size := by omega
          by_cases ho : op = 0
          · have q1 : ((op : Int) == 0) = true := by rw [ho]; rfl
            have hre : r = .ok x j := by
              have h := HRUN.out
              rw [← HOP.out, if_pos ho] at h
              exact (Option.some.inj h).symm
            subst hre
            go_wp2
            refine bodyPost_ret (v := .agg #[.slice ad m cap, .int .i64 j, .int .i64 0, .int .i64 0]) (results_got Tryz.results192 _ _ w.heap.size _ _ _ _ rfl (HG5.out.set4 _ _ _ _)) rfl ⟨.slice ad m cap, rfl, ?_, ?_⟩
            · rw [← HM.out]
              have h1 := own_setB HOX5.out w.heap.size 0 (.slice ad m cap) (fun g h => (HNE5.out g h).2)
              have h2 := own_setB h1 w.heap.size 1 (.int .i64 j) (fun g h => (HNE5.out g h).2)
              have h3 := own_setB h2 w.heap.size 2 (.int .i64 0) (fun g h => (HNE5.out g h).2)
              exact own_setB h3 w.heap.size 3 (.int .i64 0) (fun g h => (HNE5.out g h).2)
            · exact below_set4' HB5.out (Nat.le_refl _) _ _ _ _
          · have q1 : ((op : Int) == 0) = false := by simp; omega
            have h := HRUN.out
            rw [← HOP.out, if_neg ho] at h
            have hjlt : j < l.length := which_lt (by rw [← HOP.out]; exact ho)
            obtain ⟨gt, rfl, hgt⟩ : ∃ gt, ad0 = some ⟨gt, 0, none⟩ ∧ gt < w.heap.size := by
              obtain ⟨ad', cap', hv, hc⟩ := HX.out.ht
              obtain ⟨g', hg', hl', _⟩ := hc j hjlt
              cases hv
              exact ⟨g', hg', hl'⟩
            cases hy : run l F (.lv (n + 1)) d (j + 1) with
            | none => rw [hy] at h; cases h
            | some ry =>
              rw [hy] at h
              have hyf := (run_fit F (.lv (n + 1)) d (j + 1) ry 0 (by omega) (fun n h => rfl) (fun n e h => by cases h) hy).1
              have HY : Calls Tryz.prog 192 #[.slice (some ⟨gt, 0, none⟩) N cap0, .int .i64 ((j : Int) + 1), .int .i64 d, .int .i64 ((n : Int) + 1)] wc (RAns d ry wc) := HL.out F (j + 1) ry (by omega) (by have := HN.out; omega) hy wc (HX.out.below HB5.out)
              have HH := Lib.hid h
              have hjN : j < N := by have := HN.out; omega
              clear h hy HRUN hjlt
              have HY2 := Lib.hid HY
              clear HY
              go_wp2_with fail
              refine HY2.out.mono ?_
              clear HY2
              cases ry with
              | err k a =>
                have hre : r = .err k a := (Option.some.inj HH.out).symm
                subst hre
                rintro e w6 ⟨tu, htu, rfl, hb6⟩
                have HB6 := Lib.hid (HB5.out.trans (hb6.mono HB5.out.size))
                have HG6 := Lib.hid (HG5.out.under hb6)
                clear HB5 HG5 HBX5 HOX5 g0 g1 g2 g3 f0 f1 f2 f3 b0 b1 b2 b3 bf0 bf1 bf2 bf3 hb6
                have HR6 := Lib.hid (BlkG.new w6 (.slice none 0 0) (.int .i64 tu) (.int .i64 k) (.int .i64 a))
                obtain ⟨⟨g0, g1, g2, g3⟩, f0, f1, f2, f3⟩ := HG6.out.facts
                obtain ⟨⟨r0, r1, r2, r3⟩, _⟩ := HR6.out.facts
                have hgb : w.heap.size < w6.heap.size := HG6.out.lt
                have hk0 : k ≠ 0 := hyf
                have q2 : ((k : Int) != 0) = true := by simp; omega
                clear hyf hk0
                go_wp2
                refine bodyPost_ret (v := .agg #[.slice none 0 0, .int .i64 tu, .int .i64 k, .int .i64 a]) (results_got Tryz.results192 _ _ w.heap.size _ _ _ _ rfl ((HG6.out.set4 _ _ _ _).under ((Below.refl _ _).alloc (Nat.le_refl _) _))) rfl ⟨tu, htu, rfl, ?_⟩
                have h := below_set4' HB6.out (Nat.le_refl _) (.slice none 0 0) (.int .i64 tu) (.int .i64 k) (.int .i64 a)
                exact h.alloc h.size _
              | ok y k =>
                obtain ⟨hy1, hy2, hy3⟩ := hyf
                rintro e w6 ⟨vy, rfl, hoy, hb6⟩
                have HB6 := Lib.hid (HB5.out.trans (hb6.mono HB5.out.size))
                have HG6 := Lib.hid (HG5.out.under hb6)
                have HBX6 := Lib.hid (HBX5.out.under hb6)
                have HOX6 := Lib.hid (own_below HOX5.out hb6)
                have HOY6 := Lib.hid hoy
                obtain ⟨ad2, cap2, rfl, _⟩ := own_shape hoy
                have HLTY := Lib.hid (own_lt hoy)
                obtain ⟨m2, hm2⟩ : ∃ m, m = y.flat.length := ⟨_, rfl⟩
                have HM2 := Lib.hid hm2
                have hsum : 1 + m + m2 ≤ k ∧ k ≤ N := by
                  have h1 := y.flat_length
                  have h2 := HN.out
                  omega
                rw [← hm2] at HOY6 ⊢
                obtain ⟨_, _, _, c3⟩ := ((HX.out.below HB6.out).ht.at2 rfl (by have := HN.out; omega : j < l.length) : _ ∧ _ ∧ _ ∧ _)
                obtain ⟨tp, htp⟩ : ∃ t, t = plc l j := ⟨_, rfl⟩
                rw [← htp] at c3
                have HTP := Lib.hid htp
                have hgt6 : gt < w6.heap.size := Nat.lt_of_lt_of_le hgt HB6.out.size
                clear HB5 HG5 HBX5 HOX5 g0 g1 g2 g3 f0 f1 f2 f3 b0 b1 b2 b3 bf0 bf1 bf2 bf3 hb6 hoy hm2 htp hy1 hy2 hy3
                obtain ⟨⟨g0, g1, g2, g3⟩, f0, f1, f2, f3⟩ := HG6.out.facts
                obtain ⟨⟨b0, b1, b2, b3⟩, bf0, bf1, bf2, bf3⟩ := HBX6.out.facts
                have hwl6 : w.heap.size < w6.heap.size := HG6.out.lt
                have hbl6 : b < w6.heap.size := HBX6.out.lt
                have HB7 : Hid (Below w.heap.size w (w6.alloc (.cells #[.slice ad2 m2 cap2, .int .i64 k, .int .i64 0, .int .i64 0] 182))) := HB6.out.alloc HB6.out.size _
                have HR7 := Lib.hid (BlkG.new w6 (.slice ad2 m2 cap2) (.int .i64 k) (.int .i64 0) (.int .i64 0))
                obtain ⟨⟨r0, r1, r2, r3⟩, _⟩ := HR7.out.facts
                have HNEW : Hid (((w6.alloc (.cells #[.slice ad2 m2 cap2, .int .i64 k, .int .i64 0, .int .i64 0] 182)).alloc (.cells #[.int .i64 op, .int .i64 0, .string ⟨#[]⟩, .string ⟨#[]⟩, .int .i64 tp] 59)).ownsRow (w6.heap.size + 1) 59 5 (.slice (some ⟨w6.heap.size + 1, 0, none⟩) 1 1) 1 (rowN [opN op tp])) := by
                  have := own_new (w6.alloc (.cells #[.slice ad2 m2 cap2, .int .i64 k, .int .i64 0, .int .i64 0] 182)) (opN op tp)
                  rw [show (w6.alloc (.cells #[.slice ad2 m2 cap2, .int .i64 k, .int .i64 0, .int .i64 0] 182)).heap.size = w6.heap.size + 1 by simp] at this
                  exact this
                go_wp2_with (at_builtin; refine append_nds rfl (.tmp 51) (.tmp 60) rfl (w6.heap.size + 1) (w6.heap.size + 1) 0 1 _ _ [] [opN op tp] rfl rfl (World.ownsRow_nil _ _ _ _) HNEW.out rfl (by omega) (by simp) ?_)
                intro v8 w8 ho8 hb8
                replace ho8 : w8.ownsRow (w6.heap.size + 1) 59 5 v8 1 (rowN [opN op tp]) := ho8
                have hb68 : Below (w6.heap.size + 1) (w6.alloc (.cells #[.slice ad2 m2 cap2, .int .i64 k, .int .i64 0, .int .i64 0] 182)) w8 := ((Below.refl _ _).alloc (by simp) _).trans hb8
                have hb608 : Below w6.heap.size w6 w8 := ((Below.refl _ _).alloc (Nat.le_refl _) _).trans (hb68.mono (by omega))
                have HB8 := Lib.hid (HB6.out.trans (hb608.mono HB6.out.size))
                have HG8 := Lib.hid (HG6.out.under hb608)
                have HBX8 := Lib.hid (HBX6.out.under hb608)
                have HOX8 := Lib.hid (own_below HOX6.out hb608)
                have HOY8 := Lib.hid (own_below HOY6.out hb608)
                have HR8 := Lib.hid (HR7.out.below hb68 (by omega))
                have hs8 : w6.heap.size + 1 ≤ w8.heap.size := by have := hb68.size; simpa using this
                obtain ⟨ad8, cap8, rfl, _⟩ := own_shape ho8
                have HO8 := Lib.hid ho8
                obtain ⟨N6, hN6⟩ : ∃ x, x = w6.heap.size := ⟨_, rfl⟩
                have hbx8 : b < w8.heap.size := HBX8.out.lt
                rw [← hN6] at HR8 HO8 hs8 hwl6 hbl6 HLTY ⊢
                clear g0 g1 g2 g3 f0 f1 f2 f3 b0 b1 b2 b3 bf0 bf1 bf2 bf3 r0 r1 r2 r3 HB6 HG6 HBX6 HOX6 HOY6 HB7 HR7 HNEW hb8 hb68 hb608 ho8 hN6 c3 hgt6
                obtain ⟨⟨b0, b1, b2, b3⟩, bf0, bf1, bf2, bf3⟩ := HBX8.out.facts
                go_wp2_with (at_builtin; refine append_nds rfl (.tmp 62) (.tmp 64) rfl (N6 + 1) w.heap.size 1 m _ _ (rowN [opN op tp]) x.flat rfl rfl HO8.out HOX8.out HM.out (by omega) hs8 ?_)
                intro v9 w9 ho9 hb9
                have hb89 : Below w8.heap.size w8 w8 := Below.refl _ _
                have HB9 := Lib.hid (HB8.out.trans (hb9.mono (by omega)))
                have HG9 := Lib.hid (HG8.out.below hb9 (by omega))
                have HBX9 := Lib.hid (HBX8.out.below hb9 (by omega))
                have HOY9 := Lib.hid (own_lim HOY8.out hb9 (fun g h => by have := HLTY.out g h; omega))
                have HR9 := Lib.hid (HR8.out.below hb9 (by omega))
                have hs9 : N6 + 1 ≤ w9.heap.size := Nat.le_trans hs8 hb9.size
                obtain ⟨ad9, cap9, rfl, _⟩ := own_shape ho9
                have HO9 := Lib.hid ho9
                clear b0 b1 b2 b3 bf0 bf1 bf2 bf3 HB8 HG8 HBX8 HOX8 HOY8 HR8 HO8 ho9 hb9 hs8 hb89
                obtain ⟨⟨r0, r1, r2, r3⟩, _⟩ := HR9.out.facts
                go_wp2_with (at_builtin; refine append_nds rfl (.tmp 66) (.tmp 68) rfl (N6 + 1) wc.heap.size (1 + m) m2 _ _ (rowN [opN op tp] ++ rowN x.flat) y.flat rfl rfl HO9.out HOY9.out HM2.out (by omega) hs9 ?_)
                intro v10 w10 ho10 hb10
                have HB10 := Lib.hid (HB9.out.trans (hb10.mono (by omega)))
                have HG10 := Lib.hid (HG9.out.below hb10 (by omega))
                have HBX10 := Lib.hid (HBX9.out.below hb10 (by omega))
                have HR10 := Lib.hid (HR9.out.below hb10 (by omega))
                obtain ⟨ad10, cap10, rfl, _⟩ := own_shape ho10
                have HO10 := Lib.hid ho10
                clear r0 r1 r2 r3 HB9 HG9 HBX9 HOY9 HR9 HO9 ho10 hb10 hs9
                obtain ⟨⟨r0, r1, r2, r3⟩, _⟩ := HR10.out.facts
                obtain ⟨⟨b0, b1, b2, b3⟩, bf0, bf1, bf2, bf3⟩ := HBX10.out.facts
                obtain ⟨⟨g0, g1, g2, g3⟩, f0, f1, f2, f3⟩ := HG10.out.facts
                obtain ⟨q, hq⟩ : ∃ q, q = 1 + m + m2 := ⟨_, rfl⟩
                have HQ := Lib.hid hq
                rw [← hq] at HO10 ⊢
                have hnN : N6 ≠ b := by omega
                have hnN2 : b ≠ N6 := by omega
                have HLEN : Hid ((Ex.bin (opN op (plc l j)) x y).flat.length = q) := by
                  show ((opN op (plc l j)) :: (x.flat ++ y.flat)).length = q
                  rw [List.length_cons, List.length_append, hq, ← HM.out, ← HM2.out]; omega
                have HROW : Hid (rowN (Ex.bin (opN op (plc l j)) x y).flat = rowN [opN op tp] ++ rowN x.flat ++ rowN y.flat) := by
                  show rowN ([opN op (plc l j)] ++ (x.flat ++ y.flat)) = _
                  rw [rowN_append, rowN_append, ← HTP.out, List.append_assoc]
                clear hq
                have HSB : Hid (BlkG ((((w10.setCell ⟨b, 0, none⟩ (.slice ad10 q cap10)).setCell ⟨b, 1, none⟩ (.int .i64 k)).setCell ⟨b, 2, none⟩ (.int .i64 0)).setCell ⟨b, 3, none⟩ (.int .i64 0)) b (.slice ad10 q cap10) (.int .i64 k) (.int .i64 0) (.int .i64 0)) := HBX10.out.set4 _ _ _ _
                have HSG : Hid (BlkG ((((w10.setCell ⟨b, 0, none⟩ (.slice ad10 q cap10)).setCell ⟨b, 1, none⟩ (.int .i64 k)).setCell ⟨b, 2, none⟩ (.int .i64 0)).setCell ⟨b, 3, none⟩ (.int .i64 0)) w.heap.size (.slice none 0 0) (.int .i64 0) (.int .i64 0) (.int .i64 0)) := (((HG10.out.other b 0 hnb _).other b 1 hnb _).other b 2 hnb _).other b 3 hnb _
                have HSO : Hid (((((w10.setCell ⟨b, 0, none⟩ (.slice ad10 q cap10)).setCell ⟨b, 1, none⟩ (.int .i64 k)).setCell ⟨b, 2, none⟩ (.int .i64 0)).setCell ⟨b, 3, none⟩ (.int .i64 0)).ownsRow (N6 + 1) 59 5 (.slice ad10 q cap10) q (rowN [opN op tp] ++ rowN x.flat ++ rowN y.flat)) :=
                  ownsRow_setCell_below (ownsRow_setCell_below (ownsRow_setCell_below (ownsRow_setCell_below HO10.out (by show b < N6 + 1; omega) _) (by show b < N6 + 1; omega) _) (by show b < N6 + 1; omega) _) (by show b < N6 + 1; omega) _
                have hwb : w.heap.size ≤ b := by omega
                have HSW : Hid (Below w.heap.size w ((((w10.setCell ⟨b, 0, none⟩ (.slice ad10 q cap10)).setCell ⟨b, 1, none⟩ (.int .i64 k)).setCell ⟨b, 2, none⟩ (.int .i64 0)).setCell ⟨b, 3, none⟩ (.int .i64 0))) := below_set4' HB10.out hwb _ _ _ _
                by_cases hn2 : n = 2
                · have q2 : ((n : Int) == 2) = true := by rw [hn2]; rfl
                  have hre : r = .ok (.bin (opN op (plc l j)) x y) k := by
                    have h := HH.out
                    simp only [if_pos hn2] at h
                    exact (Option.some.inj h).symm
                  subst hre
                  go_wp2
                  refine bodyPost_ret (v := .agg #[.slice ad10 q cap10, .int .i64 k, .int .i64 0, .int .i64 0]) (results_got Tryz.results192 _ _ w.heap.size _ _ _ _ rfl (HSG.out.set4 _ _ _ _)) rfl ⟨.slice ad10 q cap10, rfl, ?_, below_set4' HSW.out (Nat.le_refl _) _ _ _ _⟩
                  rw [HLEN.out, HROW.out]
                  exact own_mono (ownsRow_setCell_below (ownsRow_setCell_below (ownsRow_setCell_below (ownsRow_setCell_below HSO.out (by show w.heap.size < N6 + 1; omega) _) (by show w.heap.size < N6 + 1; omega) _) (by show w.heap.size < N6 + 1; omega) _) (by show w.heap.size < N6 + 1; omega) _) (by omega)
                · have q2 : ((n : Int) == 2) = false := by simp; omega
                  have hrun2 : run l F (.more n (.bin (opN op (plc l j)) x y)) d k = some r := by
                    have h := HH.out
                    simp only [if_neg hn2] at h
                    exact h
                  have HRUN2 := Lib.hid hrun2
                  clear hrun2
                  go_wp2
                  go_roundg F
                  case measure => omega
                  case rel =>
                    refine ⟨.ok (.bin (opN op (plc l j)) x y) k, by omega, ⟨ad10, cap10, ?_, ?_, ?_⟩, ⟨HRUN2.out, by have := HN.out; omega, by rw [HLEN.out, HQ.out]; omega⟩, HSW.out, HSG.out⟩
                    · rw [HLEN.out]; exact HSB.out
                    · rw [HLEN.out, HROW.out]; exact own_mono HSO.out (by omega)
                    · intro g hg
                      exact ⟨own_ne HSO.out b (.inl (by omega)) g hg, own_ne HSO.out w.heap.size (.inl (by omega)) g hg⟩
set_option maxRecDepth 100000 in
set_option maxHeartbeats 1000000 in
theorem floor_prim (l : List Tok) (v : Value) (d i : Nat) (r : Res) (w : World) (hx : RCtx l v w) (hP : ∀ W, RCtx l v W → Calls Tryz.prog 223 #[v, .int .i64 i, .int .i64 d] W (RAns d r W)) :
    Calls Tryz.prog 192 #[v, .int .i64 i, .int .i64 d, .int .i64 5] w (RAns d r w) := by
  have HX := Lib.hid hx
  have HP := Lib.hid hP
  obtain ⟨ad0, cap0, rfl, _⟩ := hx.ht
  obtain ⟨N, hN⟩ : ∃ N, N = l.length := ⟨_, rfl⟩
  rw [← hN] at HX HP ⊢
  clear hx hP hN
  have HB1 : Hid (Below w.heap.size w (w.alloc (.cells #[.slice none 0 0, .int .i64 0, .int .i64 0, .int .i64 0] 182))) := (Below.refl _ _).alloc (Nat.le_refl _) _
  have HG1 : Hid (BlkG (w.alloc (.cells #[.slice none 0 0, .int .i64 0, .int .i64 0, .int .i64 0] 182)) w.heap.size (.slice none 0 0) (.int .i64 0) (.int .i64 0) (.int .i64 0)) := heap_alloc_new w _
  go_enter Tryz.func192, Tryz.ntmps192
  go_wp2_with fail
  refine (HP.out _ (HX.out.below HB1.out)).mono ?_
  intro e w2 hans
  cases r with
  | err k a =>
    obtain ⟨tu, htu, rfl, hb⟩ := hans
    have HB2 := Lib.hid (HB1.out.trans (hb.mono HB1.out.size))
    have HG2 := Lib.hid (HG1.out.under hb)
    obtain ⟨⟨g0, g1, g2, g3⟩, f0, f1, f2, f3⟩ := HG2.out.facts
    clear HP HX HB1 HG1 hb
    go_wp2
    refine bodyPost_ret (v := .agg #[.slice none 0 0, .int .i64 tu, .int .i64 k, .int .i64 a]) (results_got Tryz.results192 _ _ w.heap.size _ _ _ _ rfl (HG2.out.set4 _ _ _ _)) rfl ⟨tu, htu, rfl, ?_⟩
    exact below_set4' HB2.out (Nat.le_refl _) _ _ _ _
  | ok x j =>
    obtain ⟨v1, rfl, ho, hb⟩ := hans
    have HB2 := Lib.hid (HB1.out.trans (hb.mono HB1.out.size))
    have HG2 := Lib.hid (HG1.out.under hb)
    obtain ⟨ad, cap, rfl, _⟩ := own_shape ho
    have HO := Lib.hid ho
    obtain ⟨m, hm⟩ : ∃ m, m = x.flat.length := ⟨_, rfl⟩
    have HM := Lib.hid hm
    rw [← hm] at HO ⊢
    obtain ⟨⟨g0, g1, g2, g3⟩, f0, f1, f2, f3⟩ := HG2.out.facts
    clear HP HX HB1 HG1 hb ho hm
    go_wp2
    refine bodyPost_ret (v := .agg #[.slice ad m cap, .int .i64 j, .int .i64 0, .int .i64 0]) (results_got Tryz.results192 _ _ w.heap.size _ _ _ _ rfl (HG2.out.set4 _ _ _ _)) rfl ⟨.slice ad m cap, rfl, ?_, below_set4' HB2.out (Nat.le_refl _) _ _ _ _⟩
    rw [← HM.out]
    have hlt : w.heap.size < (w.alloc (.cells #[.slice none 0 0, .int .i64 0, .int .i64 0, .int .i64 0] 182)).heap.size := by simp
    exact own_mono (ownsRow_setCell_below (ownsRow_setCell_below (ownsRow_setCell_below (ownsRow_setCell_below HO.out hlt _) hlt _) hlt _) hlt _) (Nat.le_of_lt hlt)
theorem read_any (l : List Tok) (v : Value) : ∀ f n d i r, n ≤ 5 → d ≤ 30 → i ≤ l.length → run l f (.lv n) d i = some r → ∀ w, RCtx l v w →
    Calls Tryz.prog 192 #[v, .int .i64 i, .int .i64 d, .int .i64 n] w (RAns d r w) ∧ (n = 5 → Calls Tryz.prog 223 #[v, .int .i64 i, .int .i64 d] w (RAns d r w)) := by
  intro f
  induction f using Nat.strongRecOn with
  | _ f ih =>
    intro n d i r hn hd hi hr w hx
    obtain ⟨f, rfl⟩ := run_pos hr
    by_cases h5 : n = 5
    · subst h5
      have H : ∀ W, RCtx l v W → Calls Tryz.prog 223 #[v, .int .i64 i, .int .i64 d] W (RAns d r W) := fun W hW =>
        prim_step l v f d i r W hW hd hi hr
          (fun d' i' r' h1 h2 h3 W' hW' => (ih f (by omega) 5 d' i' r' (by omega) h1 h2 h3 W' hW').2 rfl)
          (fun d' i' r' h1 h2 h3 W' hW' => (ih f (by omega) 0 d' i' r' (by omega) h1 h2 h3 W' hW').1)
      exact ⟨floor_prim l v d i r w hx H, fun _ => H w hx⟩
    · refine ⟨floor_step l v f n d i r w hx hd hi (by omega) hr fun f' i' r' h1 h2 h3 W hW => ?_, fun h => absurd h h5⟩
      exact (ih f' (by omega) (n + 1) d i' r' (by omega) hd h2 h3 W hW).1
end Go.Proofs.YtmlcdnfejebhoaaGreatDoor

namespace Go.Proofs.YtmlcdnfejebhoaaGreatDoor
open Go.RowKit
theorem okN_size' {x : Nd} (h : okN x = true) : x.nm.size ≤ 16 ∧ x.inn.size ≤ 16 := by
  by_cases h1 : x.op = 1
  · obtain ⟨_, _, h2, h3⟩ := okN_num h h1
    rw [h2, h3]; exact ⟨by decide, by decide⟩
  · by_cases h4 : x.op = 4
    · obtain ⟨h2, h3, _⟩ := okN_of' h h4
      exact ⟨nameB_size _ h2, nameB_size _ h3⟩
    · unfold okN at h
      rw [if_neg h1] at h
      by_cases h2 : x.op = 2 ∨ x.op = 3
      · rw [if_pos h2] at h
        simp only [Bool.and_eq_true, decide_eq_true_eq] at h
        exact ⟨nameB_size _ h.2.2.1, by have := h.2.2.2; omega⟩
      · rw [if_neg h2, if_neg h4] at h
        simp only [Bool.and_eq_true, decide_eq_true_eq] at h
        exact ⟨by have := h.2.2.1; omega, by have := h.2.2.2; omega⟩
theorem RCtx.plOK {l : List Tok} {v : Value} {w : World} (h : RCtx l v w) : ∀ i, (tokO l i).2.2.2 + (tokO l i).2.1.length ≤ 200000 := fun i => by
  have := h.hok i
  omega
set_option maxRecDepth 100000 in
set_option maxHeartbeats 4000000 in
theorem rparse_run (l : List Tok) (v : Value) (i f : Nat) (r : Res) (w : World) (hx : RCtx l v w) (hi : i ≤ l.length) (hr : run l f (.lv 0) 0 i = some r) (hw : ∀ x j, r = .ok x j → x.wf) :
    Calls Tryz.prog 135 #[v, .int .i64 i] w (ParseAns w.heap.size (finR l i r) w) := by
  have HC := Lib.hid (read_any l v f 0 0 i r (by omega) (by omega) hi hr w hx).1
  have hfit := run_fit f (.lv 0) 0 i r 0 hi (fun n h => rfl) (fun n e h => by cases h) hr
  have HX := Lib.hid hx
  have hlen := hx.hn
  obtain ⟨ad0, cap0, rfl, _⟩ := hx.ht
  obtain ⟨N, hN⟩ : ∃ N, N = l.length := ⟨_, rfl⟩
  have HN := Lib.hid hN
  rw [← hN] at HC HX hlen hi ⊢
  clear hx hN hr
  cases r with
  | err k a =>
    have hk : k ≠ 0 := hfit.1
    have q1 : ((k : Int) != 0) = true := by simp; omega
    clear hfit hw
    go_enter Tryz.func135, Tryz.ntmps135
    go_wp2_with fail
    refine HC.out.mono ?_
    rintro e w2 ⟨tu, htu, rfl, hb⟩
    have HB := Lib.hid hb
    have hs : w.heap.size ≤ w2.heap.size := hb.size
    clear hb HC
    have HR := Lib.hid (BlkG.new w2 (.slice none 0 0) (.int .i64 tu) (.int .i64 k) (.int .i64 a))
    obtain ⟨⟨r0, r1, r2, r3⟩, _⟩ := HR.out.facts
    go_wp2
    go_quiet (fail)
    go_wp2
    refine bodyPost_ret (v := .tuple #[.slice none 0 0, .int .i64 0, .int .i64 k, .int .i64 a]) (by simp [results, Tryz.results135, go_sem]) rfl ⟨rfl, ?_⟩
    exact below_drewN (HB.out.alloc HB.out.size _) _
  | ok x j =>
    have hij : i < j := hfit.2 0 x j rfl rfl
    obtain ⟨_, hjl, hxs⟩ := hfit.1
    have hwx : x.wf := hw x j rfl
    have hil : i < l.length := by omega
    obtain ⟨gt, rfl, hgt⟩ : ∃ gt, ad0 = some ⟨gt, 0, none⟩ ∧ gt < w.heap.size := by
      obtain ⟨ad', cap', hv, hc⟩ := HX.out.ht
      obtain ⟨g', hg', hl', _⟩ := hc i hil
      cases hv
      exact ⟨g', hg', hl'⟩
    have hiN : i < N := by have := HN.out; omega
    obtain ⟨R, hR⟩ : ∃ R, R = finR l i (.ok x j) := ⟨_, rfl⟩
    rw [← hR]
    have HRR := Lib.hid hR
    clear hfit hw hij hR
    go_enter Tryz.func135, Tryz.ntmps135
    go_wp2_with fail
    refine HC.out.mono ?_
    rintro e w2 ⟨v1, rfl, ho, hb⟩
    obtain ⟨ad, cap, rfl, _⟩ := own_shape ho
    have HB3 : Hid (Below w.heap.size w (w2.alloc (.cells #[.slice ad x.flat.length cap, .int .i64 j, .int .i64 0, .int .i64 0] 182))) := hb.alloc hb.size _
    have HO3 : Hid ((w2.alloc (.cells #[.slice ad x.flat.length cap, .int .i64 j, .int .i64 0, .int .i64 0] 182)).ownsRow w.heap.size 59 5 (.slice ad x.flat.length cap) x.flat.length (rowN x.flat)) := own_below ho ((Below.refl _ _).alloc (Nat.le_refl _) _)
    have HR3 := Lib.hid (BlkG.new w2 (.slice ad x.flat.length cap) (.int .i64 j) (.int .i64 0) (.int .i64 0))
    have HD : Hid (Calls Tryz.prog 193 #[.slice ad x.flat.length cap, .int .i64 0] (w2.alloc (.cells #[.slice ad x.flat.length cap, .int .i64 j, .int .i64 0, .int .i64 0] 182)) fun e' w' => e' = .returned (.int .i64 x.depth) ∧ (w2.alloc (.cells #[.slice ad x.flat.length cap, .int .i64 j, .int .i64 0, .int .i64 0] 182)) = w') := (deep_any x.flat (by rw [x.flat_length]; have := HN.out; omega) x.size x 0 [] (.slice ad x.flat.length cap) (w2.alloc (.cells #[.slice ad x.flat.length cap, .int .i64 j, .int .i64 0, .int .i64 0] 182)) (Nat.le_refl _) hwx (by simp) (ndsC_of_own HO3.out).nds)
    obtain ⟨_, _, _, c3⟩ := ((HX.out.below HB3.out).ht.at2 rfl hil : _ ∧ _ ∧ _ ∧ _)
    obtain ⟨tp, htp⟩ : ∃ t, t = plc l i := ⟨_, rfl⟩
    have HFIN : Hid (R = if 30 < x.depth then .err 7 tp else if 200 < x.size then .err 2 tp else .ok x j) := by rw [htp]; exact HRR.out
    rw [← htp] at c3
    have hgt2 : gt < (w2.alloc (.cells #[.slice ad x.flat.length cap, .int .i64 j, .int .i64 0, .int .i64 0] 182)).heap.size := Nat.lt_of_lt_of_le hgt HB3.out.size
    have hmm : x.flat.length = x.size := x.flat_length
    have hm1 : x.flat.length ≤ 100000 := by have := HN.out; omega
    have hdp : x.depth ≤ 100000 := by have := x.depth_le; omega
    obtain ⟨m, hm⟩ : ∃ m, m = x.flat.length := ⟨_, rfl⟩
    have HM := Lib.hid hm
    rw [← hm] at HB3 HO3 HR3 HD hgt2 c3 hmm hm1 ⊢
    obtain ⟨D, hD⟩ : ∃ D, D = x.depth := ⟨_, rfl⟩
    rw [← hD] at HD HFIN hdp
    obtain ⟨S, hS⟩ : ∃ S, S = x.size := ⟨_, rfl⟩
    rw [← hS] at hmm HFIN
    have HMM := Lib.hid hmm
    clear ho hb htp hm hD hS HC hwx HRR hxs hjl hil hmm
    go_wp2_with fail
    generalize (w2.alloc (.cells #[.slice ad m cap, .int .i64 j, .int .i64 0, .int .i64 0] 182)) = w3 at HB3 HO3 HR3 HD c3 hgt2 ⊢
    obtain ⟨⟨r0, r1, r2, r3⟩, _⟩ := HR3.out.facts
    have hb3 : w2.heap.size < w3.heap.size := HR3.out.lt
    refine HD.out.mono ?_
    rintro e w4 ⟨rfl, rfl⟩
    by_cases hd : 30 < D
    · have hRe : R = .err 7 tp := by rw [HFIN.out, if_pos hd]
      subst hRe
      go_wp2
      go_quiet (fail)
      go_wp2
      refine bodyPost_ret (v := .tuple #[.slice none 0 0, .int .i64 0, .int .i64 7, .int .i64 tp]) (by simp [results, Tryz.results135, go_sem]) rfl ⟨rfl, ?_⟩
      exact below_drewN HB3.out _
    · by_cases hs : 200 < S
      · have hRe : R = .err 2 tp := by rw [HFIN.out, if_neg hd, if_pos hs]
        subst hRe
        have hs' : 200 < m := by have := HMM.out; omega
        go_wp2
        go_quiet (fail)
        go_wp2
        refine bodyPost_ret (v := .tuple #[.slice none 0 0, .int .i64 0, .int .i64 2, .int .i64 tp]) (by simp [results, Tryz.results135, go_sem]) rfl ⟨rfl, ?_⟩
        exact below_drewN HB3.out _
      · have hRe : R = .ok x j := by rw [HFIN.out, if_neg hd, if_neg hs]
        subst hRe
        have hs' : ¬ 200 < m := by have := HMM.out; omega
        go_wp2
        go_quiet (fail)
        go_wp2
        refine bodyPost_ret (v := .tuple #[.slice ad m cap, .int .i64 j, .int .i64 0, .int .i64 0]) (by simp [results, Tryz.results135, go_sem]) rfl ⟨.slice ad m cap, rfl, ?_, below_drewN HB3.out _⟩
        rw [← HM.out]
        exact own_below HO3.out (below_drewN (Below.refl _ _) _)
theorem rparse_any (l : List Tok) (v : Value) (i : Nat) (w : World) (hx : RCtx l v w) (hi : i ≤ l.length) :
    Calls Tryz.prog 135 #[v, .int .i64 i] w (ParseAns w.heap.size (parseR l i) w) := by
  obtain ⟨r, hr, _⟩ := run_total l (7 * l.length + 6) (.lv 0) 0 i hi (fun n h => by cases h; omega) (fun n e h => by cases h) (by simp only [need]; omega)
  rw [parse_of l i _ r hi hr]
  refine rparse_run l v i _ r w hx hi hr fun x j h => ?_
  subst h
  exact (run_good (N := 200000) hx.plOK _ _ _ _ _ (fun n e h => by cases h) hr).1
def ParseOut' (L i : Nat) : Res → Prop
  | .ok e j => Fit e ∧ e.depth ≤ 30 ∧ e.size ≤ 200 ∧ i < j ∧ j ≤ L
  | .err k _ => k ≠ 0
theorem parse_out' (l : List Tok) (i : Nat) (hi : i ≤ l.length) (hp : ∀ i, (tokO l i).2.2.2 + (tokO l i).2.1.length ≤ 200000) : ParseOut' l.length i (parseR l i) := by
  obtain ⟨r, hr, _⟩ := run_total l (7 * l.length + 6) (.lv 0) 0 i hi (fun n h => by cases h; omega) (fun n e h => by cases h) (by simp only [need]; omega)
  rw [parse_of l i _ r hi hr]
  have h1 := run_good (N := 200000) hp _ _ _ _ _ (fun n e h => by cases h) hr
  have h2 := run_fit _ (.lv 0) 0 i r 0 hi (fun n h => rfl) (fun n e h => by cases h) hr
  cases r with
  | err k a => exact h1.1
  | ok x j =>
    rw [finR_ok]
    by_cases hd : 30 < x.depth
    · rw [if_pos hd]; show 7 ≠ 0; decide
    · rw [if_neg hd]
      by_cases hs : 200 < x.size
      · rw [if_pos hs]; show 2 ≠ 0; decide
      · rw [if_neg hs]
        exact ⟨h1, by omega, by omega, h2.2 0 x j rfl rfl, h2.1.2.1⟩
def regsB (l : List Nd) : Bool := (namesL l).all fun x => decide (x.op = 2)
noncomputable def plainR (l : List Tok) (i : Nat) : Res := match parseR l i with
  | .err k a => .err k a
  | .ok e j => if regsB e.flat then .ok e j else .err 5 (plc l i)
theorem all_cons_at (p : Nd → Bool) (l : List Nd) (k : Nat) (h : k < l.length) : (l.drop k).all p = (p l[k] && (l.drop (k + 1)).all p) := by
  rw [List.drop_eq_getElem_cons h, List.all_cons]
set_option maxRecDepth 100000 in
set_option maxHeartbeats 2000000 in
theorem rPlain_any (l : List Nd) (v : Value) (w : World) (hv : NdsC w v l) (hn : l.length ≤ 100000) (hz : NmOK l) (hr : rightP l) :
    Calls Tryz.prog 203 #[v] w fun e w' => e = .returned (.bool (regsB l)) ∧ Below w.heap.size w w' := by
  have HN := Lib.hid (rnames_any l v w hv.nds hn)
  have HR : Hid (∀ w', Below w.heap.size w w' → Calls Tryz.prog 156 #[v] w' fun e w'' => e = .returned (.bool true) ∧ Below w'.heap.size w' w'') := fun w' hb => rright_any l v w' (hv.below hb).nds hn hz true (right_yes l hr)
  obtain ⟨R, hR⟩ : ∃ R, regsB l = R := ⟨_, rfl⟩
  rw [hR]
  have HRR : Hid (((namesL l).drop 0).all (fun x => decide (x.op = 2)) = R) := hR
  have hnl : (namesL l).length ≤ 100000 := Nat.le_trans (List.length_filter_le _ _) hn
  obtain ⟨ns, hns⟩ : ∃ ns, ns = namesL l := ⟨_, rfl⟩
  unfold NamesAns at HN
  rw [← hns] at HN HRR hnl
  clear hv hn hz hr hR hns
  go_enter Tryz.func203, Tryz.ntmps203
  go_wp2_with fail
  refine HN.out.mono ?_
  rintro e w1 ⟨nv, rfl, ho, hb⟩
  have HB := Lib.hid hb
  have HNS := ndsC_of_own ho
  obtain ⟨ad, cap, rfl, _, _, hc⟩ := HNS
  have HC := Lib.hid hc
  obtain ⟨n, hN⟩ : ∃ n, n = ns.length := ⟨_, rfl⟩
  have HNN := Lib.hid hN
  rw [← hN] at hnl ⊢
  clear ho hb hc HN hN
  go_wp2
  go_loopg [4] n (fun fuel i' wr => ∃ k : Nat, i' = .int .i64 k ∧ k ≤ n ∧ n - k ≤ fuel ∧ (ns.drop k).all (fun x => decide (x.op = 2)) = R ∧ w1 = wr)
  case atStart => exact ⟨0, rfl, Nat.zero_le _, Nat.le_refl _, HRR.out, rfl⟩
  case round =>
    obtain ⟨k, rfl, hk, hf, ha, rfl⟩ := hrel
    have HA := Lib.hid ha; clear ha
    by_cases hlt : k < n
    · have hk' : k < ns.length := by have := HNN.out; omega
      have HE := Lib.hid (all_cons_at (fun x => decide (x.op = 2)) ns k hk')
      obtain ⟨b, off, rfl, _, c0, _⟩ := HC.out k hk'
      obtain ⟨o, ho⟩ : ∃ o, o = (ns[k]).op := ⟨_, rfl⟩
      have HO := Lib.hid ho
      rw [← ho] at c0
      clear ho
      by_cases h2 : o = 2
      · have q : (o != 2) = false := by simp [h2]
        have HN2 : Hid ((ns.drop (k + 1)).all (fun x => decide (x.op = 2)) = R) := by
          have h := HA.out
          rw [HE.out, ← HO.out, h2] at h
          exact h
        clear h2
        go_wp2
        go_roundg (gk - 1)
        case measure => omega
        case rel => exact ⟨k + 1, by go_num, by omega, by omega, HN2.out, rfl⟩
      · have q : (o != 2) = true := by simp [h2]
        have hre : R = false := by
          rw [← HA.out, HE.out, ← HO.out]; simp [h2]
        subst hre
        clear h2
        go_wp2
        go_ret
        exact ⟨rfl, HB.out⟩
    · have hre : R = true := by
        rw [← HA.out, List.drop_eq_nil_of_le (by have := HNN.out; omega)]; rfl
      subst hre
      go_wp2_with fail
      refine (HR.out _ HB.out).mono ?_
      rintro e w2 ⟨rfl, hb2⟩
      go_wp2
      go_ret
      exact ⟨rfl, HB.out.trans (hb2.mono HB.out.size)⟩
set_option maxRecDepth 100000 in
set_option maxHeartbeats 2000000 in
theorem rplain_any (l : List Tok) (v : Value) (i : Nat) (w : World) (hx : RCtx l v w) (hi : i ≤ l.length) :
    Calls Tryz.prog 172 #[v, .int .i64 i] w (ParseAns w.heap.size (plainR l i) w) := by
  have HP := Lib.hid (rparse_any l v i w hx hi)
  have hout := parse_out' l i hi hx.plOK
  obtain ⟨R, hR⟩ : ∃ R, R = plainR l i := ⟨_, rfl⟩
  rw [← hR]
  unfold plainR at hR
  have HX := Lib.hid hx
  obtain ⟨ad0, cap0, rfl, _⟩ := hx.ht
  obtain ⟨N, hN⟩ : ∃ N, N = l.length := ⟨_, rfl⟩
  have HN := Lib.hid hN
  rw [← hN] at HP HX hi ⊢
  have hlen := HX.out.hn
  rw [← hN] at hlen
  clear hx hN
  cases hp : parseR l i with
  | err k a =>
    rw [hp] at HP hR hout
    have hk : k ≠ 0 := hout
    have q1 : ((k : Int) != 0) = true := by simp; omega
    have hre : R = .err k a := hR
    subst hre
    clear hR hout hp
    go_enter Tryz.func172, Tryz.ntmps172
    go_wp2_with fail
    refine HP.out.mono ?_
    rintro e w2 ⟨rfl, hb⟩
    go_wp2
    refine bodyPost_ret (v := .tuple #[.slice none 0 0, .int .i64 0, .int .i64 k, .int .i64 a]) (by simp [results, Tryz.results172, go_sem]) rfl ⟨rfl, hb⟩
  | ok x j =>
    rw [hp] at HP hR hout
    obtain ⟨hfit, hd, hs, hij, hjl⟩ := hout
    have hil : i < l.length := by omega
    obtain ⟨gt, rfl, hgt⟩ : ∃ gt, ad0 = some ⟨gt, 0, none⟩ ∧ gt < w.heap.size := by
      obtain ⟨ad', cap', hv, hc⟩ := HX.out.ht
      obtain ⟨g', hg', hl', _⟩ := hc i hil
      cases hv
      exact ⟨g', hg', hl'⟩
    have hiN : i < N := by have := HN.out; omega
    have HPL : Hid (∀ v w, NdsC w v x.flat → Calls Tryz.prog 203 #[v] w fun e w' => e = .returned (.bool (regsB x.flat)) ∧ Below w.heap.size w w') := fun v w hv => rPlain_any x.flat v w hv (by rw [x.flat_length]; omega) (fun k hk => by
      have h := okN_size' (hfit.2 _ (List.getElem_mem hk)).1
      omega) (fit_right hfit hd hs)
    replace hR : R = if regsB x.flat then .ok x j else .err 5 (plc l i) := hR
    obtain ⟨b, hb⟩ : ∃ b, b = regsB x.flat := ⟨_, rfl⟩
    rw [← hb] at HPL hR
    have hxl : x.flat.length ≤ 200 := by rw [x.flat_length]; exact hs
    have HRR : Hid (R = if b then .ok x j else .err 5 (plc l i)) := hR
    clear hR hp hfit hd hs hij hb hjl
    go_enter Tryz.func172, Tryz.ntmps172
    go_wp2_with fail
    refine HP.out.mono ?_
    rintro e w2 ⟨v1, rfl, ho, hb2⟩
    obtain ⟨ad, cap, rfl, _⟩ := own_shape ho
    have HO := Lib.hid ho
    have HB := Lib.hid hb2
    go_wp2_with fail
    refine (HPL.out _ _ (ndsC_of_own HO.out)).mono ?_
    rintro e w3 ⟨rfl, hb3⟩
    have HB3 := Lib.hid (HB.out.trans (hb3.mono HB.out.size))
    have HO3 := Lib.hid (own_below HO.out hb3)
    obtain ⟨_, _, _, c3⟩ := ((HX.out.below HB3.out).ht.at2 rfl hil : _ ∧ _ ∧ _ ∧ _)
    obtain ⟨tp, htp⟩ : ∃ t, t = plc l i := ⟨_, rfl⟩
    rw [← htp] at HRR c3
    have hgt3 : gt < w3.heap.size := Nat.lt_of_lt_of_le hgt HB3.out.size
    clear ho hb2 hb3 HO HB HP HPL htp hil
    cases b with
    | true =>
      have hre : R = .ok x j := HRR.out
      subst hre
      obtain ⟨m, hm⟩ : ∃ m, m = x.flat.length := ⟨_, rfl⟩
      have HM := Lib.hid hm
      rw [← hm] at HO3 ⊢
      clear hm
      go_wp2
      refine bodyPost_ret (v := .tuple #[.slice ad m cap, .int .i64 j, .int .i64 0, .int .i64 0]) (by simp [results, Tryz.results172, go_sem]) rfl ⟨.slice ad m cap, rfl, ?_, HB3.out⟩
      rw [← HM.out]; exact HO3.out
    | false =>
      have hre : R = .err 5 tp := HRR.out
      subst hre
      go_wp2
      go_quiet (fail)
      go_wp2
      refine bodyPost_ret (v := .tuple #[.slice none 0 0, .int .i64 0, .int .i64 5, .int .i64 tp]) (by simp [results, Tryz.results172, go_sem]) rfl ⟨rfl, below_drewN HB3.out _⟩
end Go.Proofs.YtmlcdnfejebhoaaGreatDoor

namespace Go.Proofs.YtmlcdnfejebhoaaGreatDoor
open Go.RowKit
set_option maxRecDepth 100000 in
set_option maxHeartbeats 1000000 in
theorem rwrong_any (l : List Tok) (v : Value) (i : Nat) (w : World) (hx : RCtx l v w) :
    Calls Tryz.prog 132 #[v, .int .i64 i] w fun e w' => e = .returned (.tuple #[.int .i64 (refK l i).1, .int .i64 (refK l i).2]) ∧ Below w.heap.size w w' := by
  have HP : Hid (Calls Tryz.prog 37 #[v, .int .i64 i] w fun e w'' => e = .returned (.int .i64 (refK l i).2) ∧ Below w.heap.size w w'') := rplace_any l v i w hx.ht hx.hn hx.hok
  obtain ⟨ad, cap, rfl, _⟩ := hx.ht
  have hn := hx.hn
  have hk : (refK l i).1 = if i < l.length then 5 else 6 := by unfold refK; split <;> rfl
  rw [hk]
  obtain ⟨n, hN⟩ : ∃ n, n = l.length := ⟨_, rfl⟩
  rw [← hN] at hn HP ⊢
  obtain ⟨a, ha⟩ : ∃ a, a = (refK l i).2 := ⟨_, rfl⟩
  rw [← ha] at HP ⊢
  clear hx hk hN ha
  by_cases hlt : i < n
  · rw [if_pos hlt]
    go_enter Tryz.func132, Tryz.ntmps132
    go_wp2_with (go_at_call 37; refine HP.out.mono ?_; rintro e w2 ⟨rfl, hb2⟩)
    refine bodyPost_ret (v := .tuple #[.int .i64 5, .int .i64 a]) (by simp [results, Tryz.results132, go_sem]) rfl ⟨rfl, hb2⟩
  · rw [if_neg hlt]
    have hle : n ≤ i := by omega
    go_enter Tryz.func132, Tryz.ntmps132
    go_wp2_with (go_at_call 37; refine HP.out.mono ?_; rintro e w2 ⟨rfl, hb2⟩)
    refine bodyPost_ret (v := .tuple #[.int .i64 6, .int .i64 a]) (by simp [results, Tryz.results132, go_sem]) rfl ⟨rfl, hb2⟩
theorem txt_size {l : List Tok} {v : Value} {w : World} (hx : RCtx l v w) (i : Nat) : (txt l i).size ≤ 100000 := by
  have h1 := (hx.hok i).2.1
  unfold txt
  rw [Lib.size_eq]
  exact h1
set_option maxRecDepth 100000 in
set_option maxHeartbeats 1000000 in
theorem rnameAt_any (l : List Tok) (v : Value) (i : Nat) (w : World) (hx : RCtx l v w) (r : Bool) (hr : nmAt l i = r) :
    Calls Tryz.prog 133 #[v, .int .i64 i] w fun e w' => e = .returned (.bool r) ∧ Below w.heap.size w w' := by
  have hsz := txt_size hx i
  have hn := hx.hn
  have HX := Lib.hid hx
  obtain ⟨ad, cap, rfl, hc⟩ := hx.ht
  by_cases hlt : i < l.length
  · obtain ⟨g, rfl, hg, k0, k1, k2, k3⟩ := hc i hlt
    obtain ⟨c0, c1, _, _⟩ := tok_cells hlt k0 k1 k2 k3
    have hr' : (decide ((tokO l i).1 = 1) && nameB (txt l i)) = r := hr
    obtain ⟨tk, htk⟩ : ∃ t, t = (tokO l i).1 := ⟨_, rfl⟩
    obtain ⟨tx, htx⟩ : ∃ t, t = txt l i := ⟨_, rfl⟩
    rw [← htk] at c0 hr'
    rw [← htx] at c1 hr' hsz
    obtain ⟨n, hN⟩ : ∃ n, n = l.length := ⟨_, rfl⟩
    rw [← hN] at hn hlt ⊢
    clear hx hc k0 k1 k2 k3 htk htx hN hr HX
    by_cases h1 : tk = 1
    · have q1 : ((tk : Int) == 1) = true := by rw [h1]; rfl
      have HNM : Hid (nameB tx = r) := by rw [h1] at hr'; exact hr'
      clear hr' h1
      go_enter Tryz.func133, Tryz.ntmps133
      go_wp2_with (go_at_call 71; refine (rname_is2 tx _ hsz r HNM.out).mono ?_; rintro e w2 ⟨rfl, hb2⟩)
      go_ret
      exact ⟨rfl, hb2⟩
    · have q1 : ((tk : Int) == 1) = false := by simp; omega
      have hre : r = false := by rw [← hr']; simp [h1]
      subst hre
      clear hr' h1
      go_enter Tryz.func133, Tryz.ntmps133
      go_wp2
      go_ret
      exact ⟨rfl, Below.refl _ _⟩
  · have hre : r = false := by
      rw [← hr]
      cases h : nmAt l i with
      | true => exact absurd (nmAt_lt h) hlt
      | false => rfl
    subst hre
    obtain ⟨n, hN⟩ : ∃ n, n = l.length := ⟨_, rfl⟩
    rw [← hN] at hn hlt ⊢
    have hle : n ≤ i := by omega
    clear hx hc hr HX hsz hN hlt
    go_enter Tryz.func133, Tryz.ntmps133
    go_wp2
    go_ret
    exact ⟨rfl, Below.refl _ _⟩
def blkB (k : Nat) : Bool := decide (k = 10 ∨ k = 11 ∨ k = 12)
theorem rblock_any (k : Nat) (w : World) : Calls Tryz.prog 108 #[.int .i64 k] w fun e w' => e = .returned (.bool (blkB k)) ∧ w = w' := by
  by_cases h0 : k = 10
  · subst h0
    go_enter Tryz.func108, Tryz.ntmps108
    go_wp2
    go_ret
    exact ⟨rfl, rfl⟩
  · by_cases h1 : k = 11
    · subst h1
      go_enter Tryz.func108, Tryz.ntmps108
      go_wp2
      go_ret
      exact ⟨rfl, rfl⟩
    · by_cases h2 : k = 12
      · subst h2
        go_enter Tryz.func108, Tryz.ntmps108
        go_wp2
        go_ret
        exact ⟨rfl, rfl⟩
      · have hb : blkB k = false := by simp [blkB, h0, h1, h2]
        rw [hb]
        have q0 : ((k : Int) == 10) = false := by simp; omega
        have q1 : ((k : Int) == 11) = false := by simp; omega
        have q2 : ((k : Int) == 12) = false := by simp; omega
        clear hb h0 h1 h2
        go_enter Tryz.func108, Tryz.ntmps108
        go_wp2
        go_ret
        exact ⟨rfl, rfl⟩
def formL (k : Nat) : List UInt8 :=
  if k = 2 then [114, 61, 101, 59] else if k = 3 then [114, 61, 108, 59] else if k = 4 then [108, 61, 101, 59] else if k = 5 then [114, 61, 108, 44, 101, 44, 102, 59]
  else if k = 6 ∨ k = 7 then [114, 61, 108, 44, 101, 59] else if k = 9 then [108, 113, 101, 59] else if k = 10 ∨ k = 11 then [101] else if k = 12 then [] else [59]
set_option maxRecDepth 100000 in
set_option maxHeartbeats 1000000 in
theorem rform_any (k : Nat) (w : World) (h1 : 1 ≤ k) (h13 : k ≤ 13) : Calls Tryz.prog 171 #[.int .i64 k] w fun e w' => e = .returned (.string ⟨(formL k).toArray⟩) ∧ w = w' := by
  have hk : k = 1 ∨ k = 2 ∨ k = 3 ∨ k = 4 ∨ k = 5 ∨ k = 6 ∨ k = 7 ∨ k = 8 ∨ k = 9 ∨ k = 10 ∨ k = 11 ∨ k = 12 ∨ k = 13 := by omega
  rcases hk with rfl | rfl | rfl | rfl | rfl | rfl | rfl | rfl | rfl | rfl | rfl | rfl | rfl
  all_goals
    go_enter Tryz.func171, Tryz.ntmps171
    go_wp2
    go_ret
    exact ⟨rfl, rfl⟩
def kwds : List (List UInt8) := [[], [115, 107, 105, 112], [115, 101, 116], [108, 111, 97, 100], [115, 116, 111, 114, 101], [99, 97, 115], [102, 97, 100, 100], [120, 99, 104, 103], [102, 101, 110, 99, 101], [97, 119, 97, 105, 116], [105, 102], [119, 104, 105, 108, 101], [108, 111, 111, 112], [98, 114, 101, 97, 107]]
set_option maxRecDepth 100000 in
set_option maxHeartbeats 1000000 in
theorem rwords_any (w : World) :
    Calls Tryz.prog 170 #[] w fun e w' => e = .returned (.slice (some ⟨w.heap.size, 0, none⟩) 14 14) ∧ w' = w.alloc (.cells (cellsS kwds) 9) := by
  go_enter Tryz.func170, Tryz.ntmps170
  go_wp2
  go_ret
  exact ⟨rfl, rfl⟩
theorem kwd_cell (w : World) (k : Nat) (h : k < 14) : (w.alloc (.cells (cellsS kwds) 9)).cell? ⟨w.heap.size, k, none⟩ = some (.string ⟨(kwds.getD k []).toArray⟩) := by
  have h0 : (w.alloc (.cells (cellsS kwds) 9)).heap[w.heap.size]? = _ := heap_alloc_new w _
  unfold World.cell?
  simp only [h0]
  have hl : kwds.length = 14 := rfl
  simp only [cellsS, List.getElem?_toArray, List.getElem?_map, List.getElem?_eq_getElem (show k < kwds.length by omega), Option.map_some, List.getD_eq_getElem?_getD, Option.getD_some]
  rfl
theorem rwords_in (w : World) : Calls Tryz.prog 170 #[] w fun e w' => ∃ B, e = .returned (.slice (some ⟨B, 0, none⟩) 14 14) ∧ Below w.heap.size w w' ∧ ∀ k, k < 14 → w'.cell? ⟨B, k, none⟩ = some (.string ⟨(kwds.getD k []).toArray⟩) :=
  (rwords_any w).mono fun e w' ⟨h1, h2⟩ => ⟨w.heap.size, h1, by rw [h2]; exact (Below.refl _ _).alloc (Nat.le_refl _) _, fun k hk => by rw [h2]; exact kwd_cell w k hk⟩
def kindF (t : List UInt8) (k : Nat) : Nat → Nat
  | 0 => 0
  | f + 1 => if t = kwds.getD k [] then k else kindF t (k + 1) f
def kindL (l : List Tok) (i : Nat) : Nat := if i < l.length ∧ (tokO l i).1 = 1 then kindF (tokO l i).2.1 1 13 else 0
theorem kindF_le (t : List UInt8) : ∀ f k, kindF t k f = 0 ∨ (k ≤ kindF t k f ∧ kindF t k f < k + f) := by
  intro f
  induction f with
  | zero => intro k; exact .inl rfl
  | succ f ih =>
    intro k
    rw [kindF]
    split
    · exact .inr ⟨Nat.le_refl _, by omega⟩
    · rcases ih (k + 1) with h | h
      · exact .inl h
      · exact .inr ⟨by omega, by omega⟩
theorem kindL_le (l : List Tok) (i : Nat) : kindL l i ≤ 13 := by
  unfold kindL
  split
  · rcases kindF_le (tokO l i).2.1 13 1 with h | h <;> omega
  · omega
theorem ba_eq_iff (a : ByteArray) (x : List UInt8) : (a.toList == (⟨x.toArray⟩ : ByteArray).toList) = decide (a.data.toList = x) := by
  rw [Lib.toList_data, Lib.toList_data, Bool.eq_iff_iff]
  simp
set_option maxRecDepth 100000 in
set_option maxHeartbeats 4000000 in
theorem rkind_other (l : List Tok) (v : Value) (i : Nat) (w : World) (hx : RCtx l v w) (hlt : i < l.length) (hk : (tokO l i).1 ≠ 1) :
    Calls Tryz.prog 106 #[v, .int .i64 i] w fun e w' => e = .returned (.int .i64 0) ∧ Below w.heap.size w w' := by
  have hn := hx.hn
  obtain ⟨ad, cap, rfl, hc⟩ := hx.ht
  obtain ⟨g, rfl, hg, k0, k1, k2, k3⟩ := hc i hlt
  obtain ⟨c0, _, _, _⟩ := tok_cells hlt k0 k1 k2 k3
  obtain ⟨tk, htk⟩ : ∃ t, t = (tokO l i).1 := ⟨_, rfl⟩
  rw [← htk] at c0 hk
  obtain ⟨n, hN⟩ : ∃ n, n = l.length := ⟨_, rfl⟩
  rw [← hN] at hn hlt ⊢
  have q1 : ((tk : Int) == 1) = false := by simp; omega
  clear hx hN hc k0 k1 k2 k3 htk hk
  go_enter Tryz.func106, Tryz.ntmps106
  go_wp2
  go_loopg [5] 14 (fun fuel i' wr => ∃ k : Nat, i' = .int .i64 k ∧ 1 ≤ k ∧ k ≤ 14 ∧ 14 - k ≤ fuel ∧ Below w.heap.size w wr)
  case atStart => exact ⟨1, rfl, by omega, by omega, by omega, Below.refl _ _⟩
  case round =>
    obtain ⟨k, rfl, h1, h14, hf, hb⟩ := hrel
    have HB := Lib.hid hb
    clear hb
    have HB2 : Hid (Below w.heap.size w (wr.alloc (.cells (cellsS kwds) 9))) := HB.out.alloc HB.out.size _
    by_cases hk : k < 14
    · have d0 : (wr.alloc (.cells (cellsS kwds) 9)).cell? ⟨g, i * 4, none⟩ = some (.int .i64 tk) := (HB2.out.cell (p := ⟨g, _, none⟩) hg).trans c0
      have hgl : g < (wr.alloc (.cells (cellsS kwds) 9)).heap.size := Nat.lt_of_lt_of_le hg HB2.out.size
      go_wp2_with (go_at_call 170; refine (rwords_any _).mono ?_; rintro e w2 ⟨rfl, rfl⟩)
      generalize (wr.alloc (.cells (cellsS kwds) 9)) = w3 at HB2 d0 hgl ⊢
      go_quiet (fail)
      go_wp2
      go_roundg (gk - 1)
      case measure => omega
      case rel => exact ⟨k + 1, by go_num, by omega, by omega, by omega, below_drewN HB2.out _⟩
    · have hk' : k = 14 := by omega
      subst hk'
      go_wp2_with (go_at_call 170; refine (rwords_any _).mono ?_; rintro e w2 ⟨rfl, rfl⟩)
      go_ret
      exact ⟨rfl, HB2.out⟩
set_option maxRecDepth 100000 in
set_option maxHeartbeats 4000000 in
theorem rkind_word (l : List Tok) (v : Value) (i : Nat) (w : World) (hx : RCtx l v w) (hlt : i < l.length) (hk : (tokO l i).1 = 1) :
    Calls Tryz.prog 106 #[v, .int .i64 i] w fun e w' => e = .returned (.int .i64 (kindL l i)) ∧ Below w.heap.size w w' := by
  have hR : kindF (tokO l i).2.1 1 13 = kindL l i := by unfold kindL; rw [if_pos ⟨hlt, hk⟩]
  have hn := hx.hn
  obtain ⟨ad, cap, rfl, hc⟩ := hx.ht
  obtain ⟨g, rfl, hg, k0, k1, k2, k3⟩ := hc i hlt
  obtain ⟨c0, c1, _, _⟩ := tok_cells hlt k0 k1 k2 k3
  obtain ⟨tk, htk⟩ : ∃ t, t = (tokO l i).1 := ⟨_, rfl⟩
  rw [← htk] at c0 hk
  have hR' : kindF (txt l i).data.toList 1 13 = kindL l i := hR
  obtain ⟨tx, htx⟩ : ∃ t, t = txt l i := ⟨_, rfl⟩
  rw [← htx] at c1 hR'
  obtain ⟨R, hRR⟩ : ∃ R, R = kindL l i := ⟨_, rfl⟩
  rw [← hRR] at hR' ⊢
  have HR := Lib.hid hR'
  obtain ⟨n, hN⟩ : ∃ n, n = l.length := ⟨_, rfl⟩
  rw [← hN] at hn hlt ⊢
  have q1 : ((tk : Int) == 1) = true := by rw [hk]; rfl
  clear hx hN hc k0 k1 k2 k3 htk hk htx hR hR' hRR
  go_enter Tryz.func106, Tryz.ntmps106
  go_wp2
  go_loopg [5] 14 (fun fuel i' wr => ∃ k : Nat, i' = .int .i64 k ∧ 1 ≤ k ∧ k ≤ 14 ∧ 14 - k ≤ fuel ∧ kindF tx.data.toList k (14 - k) = R ∧ Below w.heap.size w wr)
  case atStart => exact ⟨1, rfl, by omega, by omega, by omega, HR.out, Below.refl _ _⟩
  case round =>
    obtain ⟨k, rfl, h1, h14, hf, hr, hb⟩ := hrel
    have HB := Lib.hid hb
    have HR2 := Lib.hid hr
    clear hb hr
    have HB2 : Hid (Below w.heap.size w (wr.alloc (.cells (cellsS kwds) 9))) := HB.out.alloc HB.out.size _
    by_cases hk : k < 14
    · have d0 : (wr.alloc (.cells (cellsS kwds) 9)).cell? ⟨g, i * 4, none⟩ = some (.int .i64 tk) := (HB2.out.cell (p := ⟨g, _, none⟩) hg).trans c0
      have d1 : (wr.alloc (.cells (cellsS kwds) 9)).cell? ⟨g, i * 4 + 1, none⟩ = some (.string tx) := (HB2.out.cell (p := ⟨g, _, none⟩) hg).trans c1
      have hgl : g < (wr.alloc (.cells (cellsS kwds) 9)).heap.size := Nat.lt_of_lt_of_le hg HB2.out.size
      obtain ⟨y, hy⟩ : ∃ y : ByteArray, y = ⟨(kwds.getD k []).toArray⟩ := ⟨_, rfl⟩
      obtain ⟨r, hr⟩ : ∃ r, (tx.toList == y.toList) = r := ⟨_, rfl⟩
      have hr2 : decide (tx.data.toList = kwds.getD k []) = r := by rw [← hr, hy, ba_eq_iff]
      have HY := Lib.hid hy
      have HRR := Lib.hid hr2
      have HF : Hid (kindF tx.data.toList k (14 - k) = if tx.data.toList = kwds.getD k [] then k else kindF tx.data.toList (k + 1) (14 - (k + 1))) := by
        rw [show 14 - k = (14 - (k + 1)) + 1 by omega, kindF]
        rfl
      clear hy hr2
      cases r with
      | true =>
        go_wp2_with (go_at_call 170; refine (rwords_any _).mono ?_; rintro e w2 ⟨rfl, rfl⟩)
        generalize (wr.alloc (.cells (cellsS kwds) 9)) = w3 at HB2 d0 d1 hgl ⊢
        have d0' : w3.drew.cell? ⟨g, i * 4, none⟩ = some (.int .i64 tk) := d0
        have d1' : w3.drew.cell? ⟨g, i * 4 + 1, none⟩ = some (.string tx) := d1
        go_region_with (go_at_call 170; refine (rwords_in _).mono ?_; rintro e w4 ⟨B, rfl, hbk, hck⟩; have hb4 : Below w3.heap.size w3 w4 := (Below.refl _ w3).drew.trans hbk; have d2 : w4.cell? ⟨g, i * 4 + 1, none⟩ = some (.string tx) := (hb4.cell (p := ⟨g, _, none⟩) hgl).trans d1; have d3 : w4.cell? ⟨B, k, none⟩ = some (.string y) := HY.out ▸ hck k hk; clear hck; have HB4 := Lib.hid (HB2.out.trans (hb4.mono HB2.out.size)))
        all_goals
          go_wp2
          go_ret
          refine ⟨ret_int ?_, HB4.out⟩
          have h := HR2.out
          rw [HF.out, if_pos (of_decide_eq_true HRR.out)] at h
          rw [h]
      | false =>
        go_wp2_with (go_at_call 170; refine (rwords_any _).mono ?_; rintro e w2 ⟨rfl, rfl⟩)
        generalize (wr.alloc (.cells (cellsS kwds) 9)) = w3 at HB2 d0 d1 hgl ⊢
        have d0' : w3.drew.cell? ⟨g, i * 4, none⟩ = some (.int .i64 tk) := d0
        have d1' : w3.drew.cell? ⟨g, i * 4 + 1, none⟩ = some (.string tx) := d1
        go_region_with (go_at_call 170; refine (rwords_in _).mono ?_; rintro e w4 ⟨B, rfl, hbk, hck⟩; have hb4 : Below w3.heap.size w3 w4 := (Below.refl _ w3).drew.trans hbk; have d2 : w4.cell? ⟨g, i * 4 + 1, none⟩ = some (.string tx) := (hb4.cell (p := ⟨g, _, none⟩) hgl).trans d1; have d3 : w4.cell? ⟨B, k, none⟩ = some (.string y) := HY.out ▸ hck k hk; clear hck; have HB4 := Lib.hid (HB2.out.trans (hb4.mono HB2.out.size)))
        all_goals
          go_wp2
          go_roundg (gk - 1)
          case measure => omega
          case rel =>
            refine ⟨k + 1, by go_num, by omega, by omega, by omega, ?_, HB4.out⟩
            have h := HR2.out
            rw [HF.out, if_neg (of_decide_eq_false HRR.out)] at h
            exact h
    · have hk' : k = 14 := by omega
      subst hk'
      have hre : R = 0 := HR2.out.symm
      subst hre
      go_wp2_with (go_at_call 170; refine (rwords_any _).mono ?_; rintro e w2 ⟨rfl, rfl⟩)
      go_ret
      exact ⟨rfl, HB2.out⟩
end Go.Proofs.YtmlcdnfejebhoaaGreatDoor
