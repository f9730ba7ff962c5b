/- What height does. -/
import Derived.Test.YtifbhlgingaahaaDoorNg
namespace Go.Proofs.YtifbhlgingaahaaDoor
open Go.RowKit

theorem dF_ge (ps : List (Nat × Ex)) (g : Nat) : g ≤ dF ps g := by
  induction ps generalizing g with
  | nil => exact Nat.le_refl _
  | cons p r ih => exact Nat.le_trans (Nat.le_max_left _ _) (ih _)

/-- Where height stands. -/
def HtS (l : List Nd) (k : Nat) (ds : List Nat) (g D : Nat) : Prop :=
  ∃ ps : List (Nat × Ex), (∀ p ∈ ps, p.2.wf) ∧ l.drop k = ps.flatMap (fun p => p.2.flat) ∧ ds = (ps.map Prod.fst).reverse ∧ dF ps g = D

theorem HtS.over {l : List Nd} {k : Nat} {ds : List Nat} {g D : Nat} (h : HtS l k ds g D) (hk : ¬ k < l.length) : g = D := by
  obtain ⟨ps, h1, h2, h3, h4⟩ := h
  rw [drop_over l k hk] at h2
  cases ps with
  | nil => exact h4
  | cons p r =>
    exfalso
    have := congrArg List.length h2
    simp [Ex.flat_length] at this
    have := p.2.size_pos'
    omega

/-- A step: the last depth goes, and as many come as the operator has operands. -/
theorem HtS.step {l : List Nd} {k : Nat} {ds : List Nat} {g D : Nat} (h : HtS l k ds g D) (hk : k < l.length) :
    ∃ (zs : List Nat) (d n : Nat), ds = zs ++ [d] ∧ ar l[k].op = (n : Int) ∧ n ≤ 2 ∧ d ≤ D ∧ HtS l (k + 1) (zs ++ List.replicate n (d + 1)) (max g d) D := by
  obtain ⟨ps, h1, h2, h3, h4⟩ := h
  rw [List.drop_eq_getElem_cons hk] at h2
  cases ps with
  | nil => cases h2
  | cons p r =>
    obtain ⟨d, e⟩ := p
    have hw := h1 (d, e) (by simp)
    have hr : ∀ p ∈ r, p.2.wf := fun p hp => h1 p (List.mem_cons_of_mem _ hp)
    have hd : d ≤ D := by
      rw [← h4]
      exact Nat.le_trans (Nat.le_trans (Nat.le_add_right _ _) (Nat.le_max_right _ _)) (dF_ge r _)
    refine ⟨(r.map Prod.fst).reverse, d, ?_⟩
    cases e with
    | leaf x =>
      have hx : l[k] = x := by have := (List.cons.inj h2).1; exact this
      have ht : l.drop (k + 1) = r.flatMap (fun p => p.2.flat) := (List.cons.inj h2).2
      refine ⟨0, by rw [h3]; simp, by rw [hx]; exact hw, by omega, hd, r, hr, ht, by simp, ?_⟩
      rw [← h4]; rfl
    | un x a =>
      have hx : l[k] = x := by have := (List.cons.inj h2).1; exact this
      have ht : l.drop (k + 1) = a.flat ++ r.flatMap (fun p => p.2.flat) := (List.cons.inj h2).2
      refine ⟨1, by rw [h3]; simp, by rw [hx]; exact hw.1, by omega, hd, (d + 1, a) :: r, ?_, ?_, by simp, ?_⟩
      · intro p hp
        rcases List.mem_cons.1 hp with rfl | hp
        · exact hw.2
        · exact hr p hp
      · rw [ht]; rfl
      · rw [← h4]
        show dF r (max (max g d) (d + 1 + a.depth)) = dF r (max g (d + (a.depth + 1)))
        congr 1; omega
    | bin x a b =>
      have hx : l[k] = x := by have := (List.cons.inj h2).1; exact this
      have ht : l.drop (k + 1) = (a.flat ++ b.flat) ++ r.flatMap (fun p => p.2.flat) := (List.cons.inj h2).2
      refine ⟨2, by rw [h3]; simp, by rw [hx]; exact hw.1, by omega, hd, (d + 1, a) :: (d + 1, b) :: r, ?_, ?_, ?_, ?_⟩
      · intro p hp
        rcases List.mem_cons.1 hp with rfl | hp
        · exact hw.2.1
        · rcases List.mem_cons.1 hp with rfl | hp
          · exact hw.2.2
          · exact hr p hp
      · rw [ht]; simp
      · simp [List.replicate]
      · rw [← h4]
        show dF r (max (max (max g d) (d + 1 + a.depth)) (d + 1 + b.depth)) = dF r (max g (d + (max a.depth b.depth + 1)))
        congr 1; omega

theorem HtS.length_le {l : List Nd} {k : Nat} {ds : List Nat} {g D : Nat} (h : HtS l k ds g D) : ds.length ≤ l.length := by
  obtain ⟨ps, h1, h2, h3, h4⟩ := h
  have e : (l.drop k).length ≤ l.length := by simp
  rw [h2] at e
  rw [h3, List.length_reverse, List.length_map]
  refine Nat.le_trans ?_ e
  clear h1 h2 h3 h4 e
  induction ps with
  | nil => simp
  | cons p r ih =>
    have := p.2.size_pos'
    simp only [List.flatMap_cons, List.length_append, Ex.flat_length, List.length_cons]; omega

theorem own_shape' {w : World} {B n e size : Nat} {v : Value} {xs : List Value} (h : w.ownsRow B e size v n xs) : ∃ ad cap, v = .slice ad n cap ∧ True := by
  rcases h.2 with ⟨rfl, rfl⟩ | ⟨g, cap', cur, rfl, hb, hg, _⟩
  · exact ⟨none, 0, rfl, trivial⟩
  · exact ⟨_, cap', rfl, trivial⟩

set_option maxHeartbeats 4000000 in
theorem height_any (e : Ex) (v : Value) (w : World) (hv : Nds w v e.flat) (hwf : e.wf) (hn : e.flat.length ≤ 1000) (hd : e.depth ≤ 100000) :
    Calls Tryd.prog 23 #[v] w fun e' w' => e' = .returned (.int .i64 e.depth) ∧ Below w.heap.size w w' := by
  obtain ⟨l, hl⟩ : ∃ l, l = e.flat := ⟨_, rfl⟩
  obtain ⟨D, hD⟩ : ∃ D, D = e.depth := ⟨_, rfl⟩
  have HH : Hid (HtS l 0 [0] 0 D) := ⟨[(0, e)], fun p hp => by rw [List.mem_singleton.1 hp]; exact hwf, by rw [hl]; simp, rfl, by rw [hD]; simp [dF]⟩
  rw [← hl] at hv hn
  rw [← hD] at hd ⊢
  obtain ⟨ad, cap, rfl, hc⟩ := hv.cases
  obtain ⟨n, hN⟩ : ∃ n, n = l.length := ⟨_, rfl⟩
  rw [← hN] at hn ⊢
  have HC := Lib.hid hc
  have HN := Lib.hid hN
  clear hc hN hv hl hD hwf
  have hO : Hid ((w.alloc (.cells #[.int .i64 0] 3)).ownsRow w.heap.size 3 1 (.slice (some ⟨w.heap.size, 0, none⟩) 1 1) 1 (intsV [0])) :=
    ⟨rfl, .inr ⟨w.heap.size, 1, _, rfl, Nat.le_refl _, heap_alloc_new w _, Nat.le_refl _, by unfold maxLen; decide, rfl, rfl⟩⟩
  go_enter Tryd.func23, Tryd.ntmps23
  go_wp2_with fail
  go_loopg [3, 4, 12] n (fun fuel g' v' i' wr => ∃ (k g cap2 : Nat) (ad2 : Option Addr) (ds : List Nat), i' = .int .i64 k ∧ k ≤ n ∧ n - k ≤ fuel ∧ g' = .int .i64 g ∧ g ≤ D ∧ v' = .slice ad2 ds.length cap2 ∧ HtS l k ds g D ∧ wr.ownsRow w.heap.size 3 1 (.slice ad2 ds.length cap2) ds.length (intsV ds) ∧ Below w.heap.size w wr)
  case atStart => exact ⟨0, 0, 1, _, [0], rfl, Nat.zero_le _, Nat.le_refl _, rfl, Nat.zero_le _, rfl, HH.out, hO.out, (Below.refl _ _).alloc (Nat.le_refl _) _⟩
  case round =>
    obtain ⟨k, g, cap2, ad2, ds, rfl, hk, hf, rfl, hg, rfl, hh, ho, hb⟩ := hrel
    have HB := Lib.hid hb
    have hww := hb.size
    have hds := hh.length_le
    by_cases hlt : k < n
    · have hk' : k < l.length := by have := HN.out; omega
      obtain ⟨zs, d, m, rfl, ham, hm2, hdD, hstep⟩ := hh.step hk'
      obtain ⟨b, off, rfl, hbl, x0, x1, x2, x3, x4⟩ := HC.out k hk'
      obtain ⟨⟨xo, xn, xm, xi, xp⟩, hx⟩ : ∃ x, x = l[k] := ⟨_, rfl⟩
      rw [← hx] at x0 x1 x2 x3 x4 ham
      simp only [] at x0 x1 x2 x3 x4 ham
      clear hx
      have c0 : wr.cell? ⟨b, off + k * 5, none⟩ = some (.int .i64 xo) := (HB.out.cell (p := ⟨b, _, none⟩) hbl).trans x0
      have c1 : wr.cell? ⟨b, off + k * 5 + 1, none⟩ = some (.int .i64 xn) := (HB.out.cell (p := ⟨b, _, none⟩) hbl).trans x1
      have c2 : wr.cell? ⟨b, off + k * 5 + 2, none⟩ = some (.string xm) := (HB.out.cell (p := ⟨b, _, none⟩) hbl).trans x2
      have c3 : wr.cell? ⟨b, off + k * 5 + 3, none⟩ = some (.string xi) := (HB.out.cell (p := ⟨b, _, none⟩) hbl).trans x3
      have c4 : wr.cell? ⟨b, off + k * 5 + 4, none⟩ = some (.int .i64 xp) := (HB.out.cell (p := ⟨b, _, none⟩) hbl).trans x4
      have hz : (zs ++ [d]).length = zs.length + 1 := by simp
      have hiv : intsV (zs ++ [d]) = intsV zs ++ [.int .i64 d] := by simp [intsV]
      rw [hz, hiv] at ho
      rw [hz] at hds ⊢
      obtain ⟨q, hq⟩ : ∃ q, q = zs.length := ⟨_, rfl⟩
      rw [← hq] at ho hds ⊢
      have HQ := Lib.hid hq
      have hq1 : q ≤ 1001 := by have := HN.out; omega
      rcases ho.2 with ⟨h0, _⟩ | ⟨gb, cap3, cur, hvv, hgb, hhg, hcc, _, _, _⟩
      · simp at h0
      · simp only [Value.slice.injEq] at hvv
        obtain ⟨rfl, _, rfl⟩ := hvv
        have hlast : wr.cell? ⟨gb, q, none⟩ = some (.int .i64 d) := by
          have := ho.cells (g := gb) rfl q (.int .i64 d) (by simp [intsV, HQ.out])
          rwa [addr_add'] at this
        have HPOP := Lib.hid (own_pop ho)
        have HST := Lib.hid hstep
        have hgl : gb < wr.heap.size := (Array.getElem?_eq_some_iff.1 hhg).1
        have HAR : ∀ w, Calls Tryd.prog 26 #[.int .i64 xo] w fun e w' => e = .returned (.int .i64 m) ∧ w = w' := fun w => ham ▸ operands_any xo w
        clear x0 x1 x2 x3 x4 ham hz hiv hq ho hhg hh hstep hb
        have e1 : IntKind.i64.wrap (((q + 1 : Nat) : Int) - 1) = (q : Int) := by rw [IntWalk.i64_in _ (by omega)]; omega
        have e2 : (((q + 1 : Nat)) : Int) - 1 = (q : Int) := by omega
        go_wp2_with (go_at_call 26; refine (HAR _).mono ?_; rintro e w2 ⟨rfl, rfl⟩)
        all_goals
          obtain ⟨go, rfl⟩ : ∃ go : Nat, go = gk := ⟨_, rfl⟩
          go_loopg [4, 32] m (fun fuel v'' c' w2 => ∃ (c cap3 : Nat) (ad3 : Option Addr), c' = .int .i64 c ∧ c ≤ m ∧ m - c ≤ fuel ∧ v'' = .slice ad3 (q + c) cap3 ∧ w2.ownsRow w.heap.size 3 1 (.slice ad3 (q + c) cap3) (q + c) (intsV zs ++ List.replicate c (.int .i64 ((d : Int) + 1))) ∧ Below w.heap.size w w2)
          case atStart => exact ⟨0, cap2, _, rfl, Nat.zero_le _, Nat.le_refl _, rfl, by rw [List.replicate_zero, List.append_nil]; exact own_below HPOP.out ((Below.refl _ _).alloc (Nat.le_refl _) _), HB.out.alloc hww _⟩
          case round =>
            obtain ⟨c, cap3, ad3, rfl, hc, hf2, rfl, ho2, hb2⟩ := hrel
            have HB2 := Lib.hid hb2
            have hw2 := hb2.size
            have HO2 := Lib.hid ho2
            clear hb2 ho2
            by_cases hcm : c < m
            · go_wp2_with (at_builtin; refine append_int rfl (.tmp 34) (.tmp 37) rfl w.heap.size (q + c) _ _ ((d : Int) + 1) rfl _ rfl (own_below HO2.out ((Below.refl _ _).alloc (Nat.le_refl _) _)) ?cc (by omega) (by simp; omega) ?_)
              case cc => simp
              intro v3 w3 hown3 hb3
              obtain ⟨ad4, cap4, rfl, _⟩ := own_shape' hown3
              have HB3 := Lib.hid ((HB2.out.alloc hw2 (.cells #[.int .i64 ((d : Int) + 1)] 3)).trans hb3)
              have HO3 := Lib.hid hown3
              clear hown3 hb3
              go_wp2_with fail
              go_roundg (gk - 1)
              case measure => omega
              case rel =>
                refine ⟨c + 1, cap4, ad4, by go_num, by omega, by omega, rfl, ?_, HB3.out⟩
                have h := HO3.out
                rw [List.replicate_succ']
                first | exact h | (rw [List.append_assoc] at h; exact h)
            · obtain rfl : c = m := by omega
              have hrep : intsV zs ++ List.replicate c (.int .i64 ((d : Int) + 1)) = intsV (zs ++ List.replicate c (d + 1)) := by simp [intsV]
              have HO3 := HO2.out
              rw [hrep] at HO3
              have hlen : q + c = (zs ++ List.replicate c (d + 1)).length := by rw [HQ.out]; simp
              rw [hlen] at HO3
              have HO4 := Lib.hid HO3
              have HLEN := Lib.hid hlen
              clear HO3 hlen hrep
              go_wp2
              go_roundg (go - 1)
              case measure => omega
              case rel =>
                refine ⟨k + 1, max g d, cap3, ad3, zs ++ List.replicate c (d + 1), by go_num, by omega, by omega, ?_, by omega, by rw [HLEN.out], HST.out, HO4.out, HB2.out⟩
                congr 1; omega
    · have := hh.over (by have := HN.out; omega)
      subst this
      go_wp2
      go_ret
      exact ⟨rfl, HB.out⟩

end Go.Proofs.YtifbhlgingaahaaDoor
