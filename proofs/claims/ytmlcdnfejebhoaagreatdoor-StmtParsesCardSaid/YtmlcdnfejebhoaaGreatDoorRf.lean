/- What chain does. -/
import Derived.Test.YtmlcdnfejebhoaaGreatDoorRe
import Derived.Deep.DeepCutAuto
namespace Go.Proofs.YtmlcdnfejebhoaaGreatDoor
open Go.RowKit
def ChS (l : List Tok) (n f d : Nat) (r : Res) (p : PtR) (j c : Nat) (er pl : Int) : Prop :=
  (er ≠ 0 ∧ ResOK r p j er pl) ∨
  (er = 0 ∧ pl = 0 ∧ (n = 2 → c = 0) ∧ ∃ f' e, f' ≤ f ∧ run l f' (.more n e) d j = some r ∧ ResOK (.ok e j) p j 0 0) ∨
  (er = 0 ∧ pl = 0 ∧ n = 2 ∧ c = 1 ∧ ResOK r p j 0 0)
def IntsB (w : World) (b : Nat) (v : Value) (os : List Nat) : Prop :=
  ∃ g cap, v = .slice (some ⟨g, 0, none⟩) os.length cap ∧ g < w.heap.size ∧ g ≠ b ∧ ∀ i, (hi : i < os.length) → w.cell? ⟨g, i, none⟩ = some (.int .i64 os[i])
theorem IntsB.ints {w : World} {b : Nat} {v : Value} {os : List Nat} (h : IntsB w b v os) : Ints w v os := by
  obtain ⟨g, cap, hv, hg, _, hc⟩ := h
  exact ⟨g, cap, hv, hg, hc⟩
theorem IntsB.keep {w w' : World} {b : Nat} {v : Value} {os : List Nat} (h : IntsB w b v os) (hb : Keep b w w') : IntsB w' b v os := by
  obtain ⟨g, cap, hv, hg, hn, hc⟩ := h
  exact ⟨g, cap, hv, Nat.lt_of_lt_of_le hg hb.size, hn, fun i hi => (hb.cell (p := ⟨g, i, none⟩) hg hn).trans (hc i hi)⟩
theorem IntsB.below {w w' : World} {b : Nat} {v : Value} {os : List Nat} (h : IntsB w b v os) (hb : Below w.heap.size w w') : IntsB w' b v os := h.keep (Below.keep hb)
theorem Blk5.keepB {W W' : World} {b g : Nat} {x : Nd} (h : Blk5 W g x) (hb : Keep b W W') (hg : g ≠ b) : Blk5 W' g x := by
  have := Blk5.lt h
  unfold Blk5 at *; rw [hb.block g this hg]; exact h
theorem which_lt {l : List Tok} {j : Nat} {os : List Nat} (h : which l j os ≠ 0) : j < l.length := by
  induction os with
  | nil => exact absurd rfl h
  | cons o os ih =>
    unfold which at h
    by_cases hs : sgAt l j (sgO o) = true
    · exact sgAt_lt hs
    · rw [if_neg hs] at h; exact ih h
theorem opsOf_small (n : Nat) : (∀ o ∈ opsOf n, o < 15) ∧ (opsOf n).length ≤ 4 := by
  match n with
  | 0 => decide
  | 1 => decide
  | 2 => decide
  | 3 => decide
  | n + 4 => exact (show (∀ o ∈ [8], o < 15) ∧ [8].length ≤ 4 by decide)
theorem which_mem {l : List Tok} {j : Nat} {os : List Nat} (h : which l j os ≠ 0) : which l j os ∈ os := by
  induction os with
  | nil => exact absurd rfl h
  | cons o os ih =>
    unfold which at h ⊢
    by_cases hs : sgAt l j (sgO o) = true
    · rw [if_pos hs]; simp
    · rw [if_neg hs] at h ⊢; exact List.mem_cons_of_mem _ (ih h)
theorem ChS.done {l : List Tok} {n f d : Nat} {r : Res} {p : PtR} {j c : Nat} {er pl : Int} (h : ChS l n f d r p j c er pl) (hw : er = 0 → n = 2 ∧ c = 1 ∨ which l j (opsOf n) = 0) : ResOK r p j er pl := by
  rcases h with ⟨_, h⟩ | ⟨rfl, rfl, h2, f', e, _, hr, h⟩ | ⟨rfl, rfl, _, _, h⟩
  · exact h
  · rcases hw rfl with ⟨h3, h4⟩ | hw
    · exact absurd (h2 h3) (by omega)
    · cases f' with
      | zero => cases hr
      | succ f' =>
        unfold run at hr
        rw [if_pos hw] at hr
        cases hr
        exact h
  · exact h
theorem ChS.step {l : List Tok} {n f d : Nat} {r : Res} {p : PtR} {j c : Nat} (h : ChS l n f d r p j c 0 0) (hw : which l j (opsOf n) ≠ 0) (hc : n = 2 → c = 0) :
    ∃ f' e r2, f' ≤ f ∧ run l f' (.lv (n + 1)) d (j + 1) = some r2 ∧ ResOK (.ok e j) p j 0 0 ∧ (∀ (p2 : PtR) (j2 : Nat) (er pl : Int) (p3 : PtR), ResOK r2 p2 j2 er pl → 0 ≤ p.d → 0 ≤ p2.d → (p2.xs.length : Int) ≤ p2.s → p3.s = p.s + p2.s + 1 → p3.d = max p.d p2.d + 1 →
      (p3.s ≤ 200 ∧ p3.d ≤ 30 → p3.xs = opN (which l j (opsOf n)) (plc l j) :: (p.xs ++ p2.xs)) → ChS l n f d r p3 j2 (c + 1) er pl) := by
  rcases h with ⟨h, _⟩ | ⟨_, _, h2, f', e, hf, hr, h⟩ | ⟨_, _, h3, h4, h⟩
  · exact absurd rfl h
  · cases f' with
    | zero => cases hr
    | succ f' =>
      unfold run at hr
      rw [if_neg hw] at hr
      obtain ⟨h1, h2', h3, h4, h5, h6⟩ := h
      cases h7 : run l f' (.lv (n + 1)) d (j + 1) with
      | none => rw [h7] at hr; cases hr
      | some r2 =>
        rw [h7] at hr
        refine ⟨f', e, r2, by omega, h7, ⟨h1, h2', h3, h4, h5, h6⟩, fun p2 j2 er pl p3 hp2 hpd hp2d hxl hs hd hx => ?_⟩
        cases r2 with
        | err k a =>
          simp only [] at hr
          cases hr
          obtain ⟨rfl, rfl, hk⟩ := hp2
          exact .inl ⟨by omega, rfl, rfl, hk⟩
        | ok y j2' =>
          simp only [] at hr
          obtain ⟨rfl, rfl, rfl, g4, g5, g6⟩ := hp2
          have hok : ResOK (.ok (.bin (opN (which l j (opsOf n)) (plc l j)) e y) j2) p3 j2 0 0 := by
            refine ⟨rfl, rfl, rfl, ?_, ?_, fun hh => ?_⟩
            · rw [hs, h4, g4]; simp [Ex.size]
            · rw [hd, h5, g5]; simp [Ex.depth]; omega
            · rw [hx hh, h6 ⟨by omega, by omega⟩, g6 ⟨by omega, by omega⟩]; rfl
          by_cases hn : n = 2
          · rw [if_pos hn] at hr
            cases hr
            exact .inr (.inr ⟨rfl, rfl, hn, by rw [hc hn], hok⟩)
          · rw [if_neg hn] at hr
            exact .inr (.inl ⟨rfl, rfl, fun h => absurd h hn, f', _, by omega, hr, hok⟩)
  · exact absurd (hc h3) (by omega)
theorem chain_end {l : List Tok} {b d i j j2 c f n br bl o tp : Nat} {lv v x0 x1 x2 : Value} {r r2' : Res} {w w7 w8 w9 : World} {p q t : PtR} {er2 pl2 : Int}
    (hlb : bl ≠ b) (hrl : br ≠ bl) (hrb : br ≠ b) (hwl : w.heap.size ≤ bl) (hv : IntsB w b v (opsOf n))
    (hk7 : Keep b w w7) (hk8 : Keep b w7 w8) (hb9 : Below w8.heap.size w8 w9) (hr7 : Blk3 w7 br (.slice none 0 0) (.int .i64 0) (.int .i64 0)) (hl9 : Blk3 w9 bl x0 x1 x2) (hp8 : Pst w8 b lv j2 d er2 pl2)
    (hi7 : PtIn w7 (b + 1) p (j - i + slack 0)) (hi8 : PtIn w8 (b + 1) q (j2 - (j + 1) + slack er2)) (hres : ResOK r2' q j2 er2 pl2) (htp : tp = plc l j) (ho : o = which l j (opsOf n))
    (hstep : ∀ (p2 : PtR) (j2 : Nat) (er pl : Int) (p3 : PtR), ResOK r2' p2 j2 er pl → 0 ≤ p.d → 0 ≤ p2.d → (p2.xs.length : Int) ≤ p2.s → p3.s = p.s + p2.s + 1 → p3.d = max p.d p2.d + 1 →
      (p3.s ≤ 200 ∧ p3.d ≤ 30 → p3.xs = opN (which l j (opsOf n)) (plc l j) :: (p.xs ++ p2.xs)) → ChS l n f d r p3 j2 (c + 1) er pl)
    (ho9 : w9.ownsRow (b + 1) 59 5 t.nv t.xs.length (rowN t.xs)) (hl1 : t.xs.length ≤ 200) (hl2 : (t.xs.length : Int) ≤ t.s) (hs : t.s = p.s + q.s + 1) (hd : t.d = max p.d q.d + 1)
    (hx9 : t.s ≤ 200 ∧ t.d ≤ 30 → t.xs = ⟨o, 0, ⟨#[]⟩, ⟨#[]⟩, tp⟩ :: (p.xs ++ q.xs)) (hij : i ≤ j) (hij8 : j + 1 ≤ j2) :
    Blk3 (fill3 w9 bl t.nv (.int .i64 t.s) (.int .i64 t.d)) bl t.nv (.int .i64 t.s) (.int .i64 t.d) ∧ Blk3 (fill3 w9 bl t.nv (.int .i64 t.s) (.int .i64 t.d)) br (.slice none 0 0) (.int .i64 0) (.int .i64 0) ∧
    Pst (fill3 w9 bl t.nv (.int .i64 t.s) (.int .i64 t.d)) b lv j2 d er2 pl2 ∧ PtIn (fill3 w9 bl t.nv (.int .i64 t.s) (.int .i64 t.d)) (b + 1) t (j2 - i + slack er2) ∧ IntsB (fill3 w9 bl t.nv (.int .i64 t.s) (.int .i64 t.d)) b v (opsOf n) ∧
    Keep b w (fill3 w9 bl t.nv (.int .i64 t.s) (.int .i64 t.d)) ∧ ChS l n f d r t j2 (c + 1) er2 pl2 := by
  obtain ⟨_, p2, p3, p4, p5, p6⟩ := hi7
  obtain ⟨_, q2, q3, q4, q5, q6⟩ := hi8
  have h0 : slack 0 = 0 := rfl
  have hI : PtIn w9 (b + 1) t (j2 - i + slack er2) := ⟨ho9, hl1, hl2, by rw [hs]; omega, by rw [hd]; omega, by rw [hs, hd]; omega⟩
  obtain ⟨z1, z2, z3, z4⟩ := fin_part (hp8.below hb9) hl9 hlb hI ((hk7.trans hk8).below hb9) hwl t.nv (.int .i64 t.s) (.int .i64 t.d)
  have hr9 := (hr7.keep hk8 hrb).below hb9
  refine ⟨z4, ((hr9.other _ _ hrl _).other _ _ hrl _).other _ _ hrl _, z1, z2, hv.keep z3, z3, hstep q j2 er2 pl2 t hres p5 q5 q3 hs hd fun h => ?_⟩
  rw [hx9 h, htp, ho]; rfl
theorem ChS.slack {l : List Tok} {n f d : Nat} {r : Res} {p : PtR} {j c : Nat} {er pl : Int} (h : ChS l n f d r p j c er pl) : er = 0 → pl = 0 := by
  rcases h with ⟨h, _⟩ | ⟨_, h, _⟩ | ⟨_, h, _⟩
  · exact fun e => absurd e h
  · exact fun _ => h
  · exact fun _ => h
theorem which_none {l : List Tok} {j : Nat} {os : List Nat} (h : l.length ≤ j) : which l j os = 0 := by
  by_cases h1 : which l j os = 0
  · exact h1
  · exact absurd (which_lt h1) (by omega)
end Go.Proofs.YtmlcdnfejebhoaaGreatDoor
