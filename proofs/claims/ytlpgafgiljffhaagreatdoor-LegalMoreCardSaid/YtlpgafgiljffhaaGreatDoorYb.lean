/- The parser of statements: refuse, sign, signs, name. What height does. What Right and Depth do, the program's and the reference's. What Depth does, and the reference's deep, Right, Depth. The parser of statements: foreign, signs, name, differs. Plain facts of the plain scanner: what is shown has the same tokens; two texts, one behind the other's line; names. -/
import Derived.Test.YtlpgafgiljffhaaGreatDoorNa
import Derived.Test.YtlpgafgiljffhaaGreatDoorNf
import Derived.Lib.QuietBelow
import Derived.Test.YtlpgafgiljffhaaGreatDoorE
namespace Go.Proofs.YtlpgafgiljffhaaGreatDoor
open Go.RowKit
structure Pq where
  n : Nat
  k : Nat
  a : Nat
def Pq.ok (q : Pq) (L : Nat) : Prop := q.n ≤ L ∧ (q.k = 0 → q.a = 0) ∧ (q.k ≠ 0 → q.n = L)
def failP (L : Nat) (q : Pq) (k a : Nat) : Pq := if q.k = 0 then ⟨L, k, a⟩ else ⟨L, q.k, q.a⟩
def refP (l : List Tok) (q : Pq) : Pq := failP l.length q (refK l q.n).1 (refK l q.n).2

theorem Pq.step {l : List Tok} {q : Pq} (h : q.ok l.length) (hl : q.n < l.length) : Pq.ok ⟨q.n + 1, q.k, q.a⟩ l.length :=
  ⟨hl, h.2.1, fun hk => by have := h.2.2 hk; omega⟩
structure Tx (w0 : World) (l : List Tok) (lv : Value) : Prop where
  ht : TokC w0 lv l
  hn : l.length ≤ 100000
  ok : TokOK l
  pos : 0 < l.length
section
variable {w0 w w' : World} {r : Nat} {l : List Tok} {lv dv mv : Value} {q : Pq} {o : Nat}
end
end Go.Proofs.YtlpgafgiljffhaaGreatDoor

namespace Go.Proofs.YtlpgafgiljffhaaGreatDoor
open Go.RowKit
theorem dF_ge (ps : List (Nat × Ex)) (g : Nat) : g ≤ dF ps g := by
  induction ps generalizing g with
  | nil => exact Nat.le_refl _
  | cons p r ih => exact Nat.le_trans (Nat.le_max_left _ _) (ih _)
def HtS (l : List Nd) (k : Nat) (ds : List Nat) (g D : Nat) : Prop :=
  ∃ ps : List (Nat × Ex), (∀ p ∈ ps, p.2.wf) ∧ l.drop k = ps.flatMap (fun p => p.2.flat) ∧ ds = (ps.map Prod.fst).reverse ∧ dF ps g = D
theorem HtS.over {l : List Nd} {k : Nat} {ds : List Nat} {g D : Nat} (h : HtS l k ds g D) (hk : ¬ k < l.length) : g = D := by
  obtain ⟨ps, h1, h2, h3, h4⟩ := h
  rw [drop_over l k hk] at h2
  cases ps with
  | nil => exact h4
  | cons p r =>
    exfalso
    have := congrArg List.length h2
    simp [Ex.flat_length] at this
    have := p.2.size_pos'
    omega
theorem HtS.step {l : List Nd} {k : Nat} {ds : List Nat} {g D : Nat} (h : HtS l k ds g D) (hk : k < l.length) :
    ∃ (zs : List Nat) (d n : Nat), ds = zs ++ [d] ∧ ar l[k].op = (n : Int) ∧ n ≤ 2 ∧ d ≤ D ∧ HtS l (k + 1) (zs ++ List.replicate n (d + 1)) (max g d) D := by
  obtain ⟨ps, h1, h2, h3, h4⟩ := h
  rw [List.drop_eq_getElem_cons hk] at h2
  cases ps with
  | nil => cases h2
  | cons p r =>
    obtain ⟨d, e⟩ := p
    have hw := h1 (d, e) (by simp)
    have hr : ∀ p ∈ r, p.2.wf := fun p hp => h1 p (List.mem_cons_of_mem _ hp)
    have hd : d ≤ D := by
      rw [← h4]
      exact Nat.le_trans (Nat.le_trans (Nat.le_add_right _ _) (Nat.le_max_right _ _)) (dF_ge r _)
    refine ⟨(r.map Prod.fst).reverse, d, ?_⟩
    cases e with
    | leaf x =>
      have hx : l[k] = x := by have := (List.cons.inj h2).1; exact this
      have ht : l.drop (k + 1) = r.flatMap (fun p => p.2.flat) := (List.cons.inj h2).2
      refine ⟨0, by rw [h3]; simp, by rw [hx]; exact hw, by omega, hd, r, hr, ht, by simp, ?_⟩
      rw [← h4]; rfl
    | un x a =>
      have hx : l[k] = x := by have := (List.cons.inj h2).1; exact this
      have ht : l.drop (k + 1) = a.flat ++ r.flatMap (fun p => p.2.flat) := (List.cons.inj h2).2
      refine ⟨1, by rw [h3]; simp, by rw [hx]; exact hw.1, by omega, hd, (d + 1, a) :: r, ?_, ?_, by simp, ?_⟩
      · intro p hp
        rcases List.mem_cons.1 hp with rfl | hp
        · exact hw.2
        · exact hr p hp
      · rw [ht]; rfl
      · rw [← h4]
        show dF r (max (max g d) (d + 1 + a.depth)) = dF r (max g (d + (a.depth + 1)))
        congr 1; omega
    | bin x a b =>
      have hx : l[k] = x := by have := (List.cons.inj h2).1; exact this
      have ht : l.drop (k + 1) = (a.flat ++ b.flat) ++ r.flatMap (fun p => p.2.flat) := (List.cons.inj h2).2
      refine ⟨2, by rw [h3]; simp, by rw [hx]; exact hw.1, by omega, hd, (d + 1, a) :: (d + 1, b) :: r, ?_, ?_, ?_, ?_⟩
      · intro p hp
        rcases List.mem_cons.1 hp with rfl | hp
        · exact hw.2.1
        · rcases List.mem_cons.1 hp with rfl | hp
          · exact hw.2.2
          · exact hr p hp
      · rw [ht]; simp
      · simp [List.replicate]
      · rw [← h4]
        show dF r (max (max (max g d) (d + 1 + a.depth)) (d + 1 + b.depth)) = dF r (max g (d + (max a.depth b.depth + 1)))
        congr 1; omega
theorem HtS.length_le {l : List Nd} {k : Nat} {ds : List Nat} {g D : Nat} (h : HtS l k ds g D) : ds.length ≤ l.length := by
  obtain ⟨ps, h1, h2, h3, h4⟩ := h
  have e : (l.drop k).length ≤ l.length := by simp
  rw [h2] at e
  rw [h3, List.length_reverse, List.length_map]
  refine Nat.le_trans ?_ e
  clear h1 h2 h3 h4 e
  induction ps with
  | nil => simp
  | cons p r ih =>
    have := p.2.size_pos'
    simp only [List.flatMap_cons, List.length_append, Ex.flat_length, List.length_cons]; omega
theorem own_shape' {w : World} {B n e size : Nat} {v : Value} {xs : List Value} (h : w.ownsRow B e size v n xs) : ∃ ad cap, v = .slice ad n cap ∧ True := by
  rcases h.2 with ⟨rfl, rfl⟩ | ⟨g, cap', cur, rfl, hb, hg, _⟩
  · exact ⟨none, 0, rfl, trivial⟩
  · exact ⟨_, cap', rfl, trivial⟩
set_option maxRecDepth 100000 in
set_option maxHeartbeats 4000000 in
theorem height_any (e : Ex) (v : Value) (w : World) (hv : Nds w v e.flat) (hwf : e.wf) (hn : e.flat.length ≤ 1000) (hd : e.depth ≤ 100000) :
    Calls Tryz.prog 109 #[v] w fun e' w' => e' = .returned (.int .i64 e.depth) ∧ Below w.heap.size w w' := by
  obtain ⟨l, hl⟩ : ∃ l, l = e.flat := ⟨_, rfl⟩
  obtain ⟨D, hD⟩ : ∃ D, D = e.depth := ⟨_, rfl⟩
  have HH : Hid (HtS l 0 [0] 0 D) := ⟨[(0, e)], fun p hp => by rw [List.mem_singleton.1 hp]; exact hwf, by rw [hl]; simp, rfl, by rw [hD]; simp [dF]⟩
  rw [← hl] at hv hn
  rw [← hD] at hd ⊢
  obtain ⟨ad, cap, rfl, hc⟩ := hv.cases
  obtain ⟨n, hN⟩ : ∃ n, n = l.length := ⟨_, rfl⟩
  rw [← hN] at hn ⊢
  have HC := Lib.hid hc
  have HN := Lib.hid hN
  clear hc hN hv hl hD hwf
  have hO : Hid ((w.alloc (.cells #[.int .i64 0] 3)).ownsRow w.heap.size 3 1 (.slice (some ⟨w.heap.size, 0, none⟩) 1 1) 1 (intsV [0])) :=
    ⟨rfl, .inr ⟨w.heap.size, 1, _, rfl, Nat.le_refl _, heap_alloc_new w _, Nat.le_refl _, by unfold maxLen; decide, rfl, rfl⟩⟩
  go_enter Tryz.func109, Tryz.ntmps109
  go_wp2_with fail
  go_loopg [3, 4, 12] n (fun fuel g' v' i' wr => ∃ (k g cap2 : Nat) (ad2 : Option Addr) (ds : List Nat), i' = .int .i64 k ∧ k ≤ n ∧ n - k ≤ fuel ∧ g' = .int .i64 g ∧ g ≤ D ∧ v' = .slice ad2 ds.length cap2 ∧ HtS l k ds g D ∧ wr.ownsRow w.heap.size 3 1 (.slice ad2 ds.length cap2) ds.length (intsV ds) ∧ Below w.heap.size w wr)
  case atStart => exact ⟨0, 0, 1, _, [0], rfl, Nat.zero_le _, Nat.le_refl _, rfl, Nat.zero_le _, rfl, HH.out, hO.out, (Below.refl _ _).alloc (Nat.le_refl _) _⟩
  case round =>
    obtain ⟨k, g, cap2, ad2, ds, rfl, hk, hf, rfl, hg, rfl, hh, ho, hb⟩ := hrel
    have HB := Lib.hid hb
    have hww := hb.size
    have hds := hh.length_le
    by_cases hlt : k < n
    · have hk' : k < l.length := by have := HN.out; omega
      obtain ⟨zs, d, m, rfl, ham, hm2, hdD, hstep⟩ := hh.step hk'
      obtain ⟨b, off, rfl, hbl, x0, x1, x2, x3, x4⟩ := HC.out k hk'
      obtain ⟨⟨xo, xn, xm, xi, xp⟩, hx⟩ : ∃ x, x = l[k] := ⟨_, rfl⟩
      rw [← hx] at x0 x1 x2 x3 x4 ham
      simp only [] at x0 x1 x2 x3 x4 ham
      clear hx
      have c0 : wr.cell? ⟨b, off + k * 5, none⟩ = some (.int .i64 xo) := (HB.out.cell (p := ⟨b, _, none⟩) hbl).trans x0
      have c1 : wr.cell? ⟨b, off + k * 5 + 1, none⟩ = some (.int .i64 xn) := (HB.out.cell (p := ⟨b, _, none⟩) hbl).trans x1
      have c2 : wr.cell? ⟨b, off + k * 5 + 2, none⟩ = some (.string xm) := (HB.out.cell (p := ⟨b, _, none⟩) hbl).trans x2
      have c3 : wr.cell? ⟨b, off + k * 5 + 3, none⟩ = some (.string xi) := (HB.out.cell (p := ⟨b, _, none⟩) hbl).trans x3
      have c4 : wr.cell? ⟨b, off + k * 5 + 4, none⟩ = some (.int .i64 xp) := (HB.out.cell (p := ⟨b, _, none⟩) hbl).trans x4
      have hz : (zs ++ [d]).length = zs.length + 1 := by simp
      have hiv : intsV (zs ++ [d]) = intsV zs ++ [.int .i64 d] := by simp [intsV]
      rw [hz, hiv] at ho
      rw [hz] at hds ⊢
      obtain ⟨q, hq⟩ : ∃ q, q = zs.length := ⟨_, rfl⟩
      rw [← hq] at ho hds ⊢
      have HQ := Lib.hid hq
      have hq1 : q ≤ 1001 := by have := HN.out; omega
      rcases ho.2 with ⟨h0, _⟩ | ⟨gb, cap3, cur, hvv, hgb, hhg, hcc, _, _, _⟩
      · simp at h0
      · simp only [Value.slice.injEq] at hvv
        obtain ⟨rfl, _, rfl⟩ := hvv
        have hlast : wr.cell? ⟨gb, q, none⟩ = some (.int .i64 d) := by
          have := ho.cells (g := gb) rfl q (.int .i64 d) (by simp [intsV, HQ.out])
          rwa [addr_add'] at this
        have HPOP := Lib.hid (own_pop ho)
        have HST := Lib.hid hstep
        have hgl : gb < wr.heap.size := (Array.getElem?_eq_some_iff.1 hhg).1
        have HAR : ∀ w, Calls Tryz.prog 123 #[.int .i64 xo] w fun e w' => e = .returned (.int .i64 m) ∧ w = w' := fun w => ham ▸ operands_any xo w
        clear x0 x1 x2 x3 x4 ham hz hiv hq ho hhg hh hstep hb
        have e1 : IntKind.i64.wrap (((q + 1 : Nat) : Int) - 1) = (q : Int) := by rw [IntWalk.i64_in _ (by omega)]; omega
        have e2 : (((q + 1 : Nat)) : Int) - 1 = (q : Int) := by omega
        go_wp2_with (go_at_call 123; refine (HAR _).mono ?_; rintro e w2 ⟨rfl, rfl⟩)
        all_goals
          obtain ⟨go, rfl⟩ : ∃ go : Nat, go = gk := ⟨_, rfl⟩
          go_loopg [4, 32] m (fun fuel v'' c' w2 => ∃ (c cap3 : Nat) (ad3 : Option Addr), c' = .int .i64 c ∧ c ≤ m ∧ m - c ≤ fuel ∧ v'' = .slice ad3 (q + c) cap3 ∧ w2.ownsRow w.heap.size 3 1 (.slice ad3 (q + c) cap3) (q + c) (intsV zs ++ List.replicate c (.int .i64 ((d : Int) + 1))) ∧ Below w.heap.size w w2)
          case atStart => exact ⟨0, cap2, _, rfl, Nat.zero_le _, Nat.le_refl _, rfl, by rw [List.replicate_zero, List.append_nil]; exact own_below HPOP.out ((Below.refl _ _).alloc (Nat.le_refl _) _), HB.out.alloc hww _⟩
          case round =>
            obtain ⟨c, cap3, ad3, rfl, hc, hf2, rfl, ho2, hb2⟩ := hrel
            have HB2 := Lib.hid hb2
            have hw2 := hb2.size
            have HO2 := Lib.hid ho2
            clear hb2 ho2
            by_cases hcm : c < m
            · go_wp2_with (at_builtin; refine append_int rfl (.tmp 34) (.tmp 37) rfl w.heap.size (q + c) _ _ ((d : Int) + 1) rfl _ rfl (own_below HO2.out ((Below.refl _ _).alloc (Nat.le_refl _) _)) ?cc (by omega) (by simp; omega) ?_)
              case cc => simp
              intro v3 w3 hown3 hb3
              obtain ⟨ad4, cap4, rfl, _⟩ := own_shape' hown3
              have HB3 := Lib.hid ((HB2.out.alloc hw2 (.cells #[.int .i64 ((d : Int) + 1)] 3)).trans hb3)
              have HO3 := Lib.hid hown3
              clear hown3 hb3
              go_wp2_with fail
              go_roundg (gk - 1)
              case measure => omega
              case rel =>
                refine ⟨c + 1, cap4, ad4, by go_num, by omega, by omega, rfl, ?_, HB3.out⟩
                have h := HO3.out
                rw [List.replicate_succ']
                first | exact h | (rw [List.append_assoc] at h; exact h)
            · obtain rfl : c = m := by omega
              have hrep : intsV zs ++ List.replicate c (.int .i64 ((d : Int) + 1)) = intsV (zs ++ List.replicate c (d + 1)) := by simp [intsV]
              have HO3 := HO2.out
              rw [hrep] at HO3
              have hlen : q + c = (zs ++ List.replicate c (d + 1)).length := by rw [HQ.out]; simp
              rw [hlen] at HO3
              have HO4 := Lib.hid HO3
              have HLEN := Lib.hid hlen
              clear HO3 hlen hrep
              go_wp2
              go_roundg (go - 1)
              case measure => omega
              case rel =>
                refine ⟨k + 1, max g d, cap3, ad3, zs ++ List.replicate c (d + 1), by go_num, by omega, by omega, ?_, by omega, by rw [HLEN.out], HST.out, HO4.out, HB2.out⟩
                congr 1; omega
    · have := hh.over (by have := HN.out; omega)
      subst this
      go_wp2
      go_ret
      exact ⟨rfl, HB.out⟩
end Go.Proofs.YtlpgafgiljffhaaGreatDoor
namespace Go.Proofs.YtlpgafgiljffhaaGreatDoor
open Go.RowKit
def rightP (l : List Nd) : Prop := ∃ e : Ex, e.wf ∧ e.flat = l ∧ l.length ≤ 200 ∧ l.all okN = true ∧ e.depth ≤ 30
def NmOK (l : List Nd) : Prop := ∀ i, (h : i < l.length) → l[i].nm.size ≤ 100000 ∧ l[i].inn.size ≤ 100000
def IdxAns (b : Bool) (w : World) (e : Ending) (w' : World) : Prop := ∃ z : Int, e = .returned (.int .i64 z) ∧ decide (0 ≤ z) = b ∧ Below w.heap.size w w'
set_option maxRecDepth 100000 in
set_option maxHeartbeats 2000000 in
theorem idx_any (l : List Nd) (v : Value) (w : World) (hv : Nds w v l) (hn : l.length ≤ 100000) (hz : NmOK l) :
    Calls Tryz.prog 110 #[v, .func (.func 108) #[] #[]] w (IdxAns (!l.all okN) w) := by
  obtain ⟨B, hB⟩ : ∃ B, (l.drop 0).all okN = B := ⟨_, rfl⟩
  rw [show l.all okN = B from hB]
  have HB0 := Lib.hid hB
  obtain ⟨ad, cap, rfl, hc⟩ := hv.cases
  obtain ⟨n, hN⟩ : ∃ n, n = l.length := ⟨_, rfl⟩
  rw [← hN] at hn ⊢
  have HC := Lib.hid hc
  have HN := Lib.hid hN
  have HZ := Lib.hid hz
  clear hc hN hv hz hB
  go_enter Tryz.func110, Tryz.ntmps110
  go_wp2_with fail
  go_loopg [8] n (fun fuel i' wr => ∃ k : Nat, i' = .int .i64 k ∧ k ≤ n ∧ n - k ≤ fuel ∧ (l.drop k).all okN = B ∧ Below w.heap.size w wr)
  case atStart => exact ⟨0, rfl, Nat.zero_le _, Nat.le_refl _, HB0.out, Below.refl _ _⟩
  case round =>
    obtain ⟨k, rfl, hk, hf, ha, hb⟩ := hrel
    have HA := Lib.hid ha
    have HB := Lib.hid hb
    have hww := hb.size
    clear ha hb
    by_cases hlt : k < n
    · have hk' : k < l.length := by have := HN.out; omega
      have HE := Lib.hid (List.all_cons (f := okN) (a := l[k]) (l := l.drop (k + 1)))
      have HD := Lib.hid (List.drop_eq_getElem_cons hk')
      obtain ⟨b, off, rfl, hbl, x0, x1, x2, x3, x4⟩ := HC.out k hk'
      have hnm := HZ.out k hk'
      obtain ⟨⟨xo, xn, xm, xi, xp⟩, hx⟩ : ∃ x, x = l[k] := ⟨_, rfl⟩
      have HX := Lib.hid hx
      rw [← hx] at x0 x1 x2 x3 x4 hnm
      simp only [] at x0 x1 x2 x3 x4 hnm
      clear hx
      have c0 : wr.cell? ⟨b, off + k * 5, none⟩ = some (.int .i64 xo) := (HB.out.cell (p := ⟨b, _, none⟩) hbl).trans x0
      have c1 : wr.cell? ⟨b, off + k * 5 + 1, none⟩ = some (.int .i64 xn) := (HB.out.cell (p := ⟨b, _, none⟩) hbl).trans x1
      have c2 : wr.cell? ⟨b, off + k * 5 + 2, none⟩ = some (.string xm) := (HB.out.cell (p := ⟨b, _, none⟩) hbl).trans x2
      have c3 : wr.cell? ⟨b, off + k * 5 + 3, none⟩ = some (.string xi) := (HB.out.cell (p := ⟨b, _, none⟩) hbl).trans x3
      have c4 : wr.cell? ⟨b, off + k * 5 + 4, none⟩ = some (.int .i64 xp) := (HB.out.cell (p := ⟨b, _, none⟩) hbl).trans x4
      obtain ⟨q, hq⟩ : ∃ q, okN ⟨xo, xn, xm, xi, xp⟩ = q := ⟨_, rfl⟩
      have HFL : ∀ w, Calls Tryz.prog 108 #[.agg #[.int .i64 xo, .int .i64 xn, .string xm, .string xi, .int .i64 xp]] w fun e w' => e = .returned (.bool (!q)) ∧ Below w.heap.size w w' := fun w => by
        rw [← hq]; exact flawed_any ⟨xo, xn, xm, xi, xp⟩ w hnm
      have HQ := Lib.hid hq
      clear x0 x1 x2 x3 x4 hq
      go_wp2_with fail
      refine (HFL _).mono ?_
      rintro e w2 ⟨rfl, hb2⟩
      have HB2 := Lib.hid (HB.out.trans (hb2.mono hww))
      clear hb2 c0 c1 c2 c3 c4
      cases q with
      | true =>
        go_wp2
        go_roundg (gk - 1)
        case measure => omega
        case rel =>
          refine ⟨k + 1, by go_num, by omega, by omega, ?_, HB2.out⟩
          have := HA.out
          rw [HD.out, HE.out, ← HX.out, HQ.out] at this
          simpa using this
      | false =>
        go_wp2
        go_ret
        refine ⟨k, rfl, ?_, HB2.out⟩
        have := HA.out
        rw [HD.out, HE.out, ← HX.out, HQ.out] at this
        rw [← this]; simp
    · have HE := Lib.hid (drop_over l k (by have := HN.out; omega))
      go_wp2
      go_ret
      refine ⟨-1, rfl, ?_, HB.out⟩
      have := HA.out
      rw [HE.out] at this
      rw [← this]; rfl
set_option maxRecDepth 100000 in
set_option maxHeartbeats 400000 in
theorem contains_any (l : List Nd) (v : Value) (w : World) (hv : Nds w v l) (hn : l.length ≤ 100000) (hz : NmOK l) (b : Bool) (hb : l.all okN = b) :
    Calls Tryz.prog 76 #[v, .func (.func 108) #[] #[]] w fun e w' => e = .returned (.bool (!b)) ∧ Below w.heap.size w w' := by
  have H := idx_any l v w hv hn hz
  rw [hb] at H
  clear hv hn hz hb
  go_enter Tryz.func76, Tryz.ntmps76
  go_wp2_with fail
  refine H.mono ?_
  rintro e w2 ⟨z, rfl, hz, hb2⟩
  have HZ := Lib.hid hz
  clear hz
  go_wp2
  go_ret
  exact ⟨ret_bool HZ.out, hb2⟩
open Classical in
noncomputable def rightB (l : List Nd) : Bool := decide (rightP l)
open Classical in
theorem right_no (l : List Nd) (h : ¬ rightP l) : rightB l = false := by unfold rightB; exact decide_eq_false h
open Classical in
theorem right_yes (l : List Nd) (h : rightP l) : rightB l = true := by unfold rightB; exact decide_eq_true h
theorem right_cases (l : List Nd) : (¬ rightP l ∧ (200 < l.length ∨ endL l 0 ≠ l.length)) ∨ ∃ e : Ex, e.wf ∧ e.flat = l ∧ l.length ≤ 200 ∧ endL l 0 = l.length ∧ rightB l = (l.all okN && decide (e.depth ≤ 30)) := by
  by_cases h : 200 < l.length
  · exact .inl ⟨fun ⟨e, _, _, h3, _⟩ => by omega, .inl h⟩
  · by_cases h2 : endL l 0 = l.length
    · right
      obtain ⟨e, h3, h4⟩ := tree_of_end l h2 (fun h0 => by rw [h0] at h2; simp [endL, endF, endI] at h2)
      refine ⟨e, h3, h4, by omega, h2, ?_⟩
      by_cases h5 : l.all okN = true ∧ e.depth ≤ 30
      · rw [right_yes l ⟨e, h3, h4, by omega, h5.1, h5.2⟩, h5.1, decide_eq_true h5.2]; rfl
      · rw [right_no l]
        · cases h6 : l.all okN with
          | false => rfl
          | true => rw [decide_eq_false (fun h7 => h5 ⟨h6, h7⟩)]; rfl
        · rintro ⟨e', g1, g2, g3, g4, g5⟩
          refine h5 ⟨g4, ?_⟩
          have := Ex.flat_inj e e' h3 g1 (h4.trans g2.symm)
          rw [this]; exact g5
    · exact .inl ⟨fun ⟨e, g1, g2, _⟩ => h2 (by rw [← g2]; exact end_of_tree e g1), .inr h2⟩
set_option maxRecDepth 100000 in
set_option maxHeartbeats 2000000 in
theorem right_any (l : List Nd) (v : Value) (w : World) (hv : Nds w v l) (hn : l.length ≤ 100000) (hz : NmOK l) (b : Bool) (hb : rightB l = b) :
    Calls Tryz.prog 75 #[v] w fun e w' => e = .returned (.bool b) ∧ Below w.heap.size w w' := by
  have HEND := fun w hv => end_any l v 0 w hv hn
  obtain ⟨ad, cap, hv0, _⟩ := hv.cases
  rcases right_cases l with ⟨h1, h2⟩ | ⟨e, h1, h2, h3, h4, h5⟩
  · rw [right_no l h1] at hb
    subst hb
    by_cases hl : 200 < l.length
    · subst hv0
      have HL := Lib.hid hl
      obtain ⟨n, hN⟩ : ∃ n, n = l.length := ⟨_, rfl⟩
      rw [← hN] at hl hn ⊢
      clear h2 h1 hN hv HEND hz HL
      go_enter Tryz.func75, Tryz.ntmps75
      go_wp2_with fail
      go_ret
      exact ⟨rfl, Below.refl _ _⟩
    · have h2' : endL l 0 ≠ l.length := by rcases h2 with h | h; exact absurd h hl; exact h
      have HE := HEND w hv
      obtain ⟨z, hz2⟩ : ∃ z, z = endL l 0 := ⟨_, rfl⟩
      rw [← hz2] at HE h2'
      subst hv0
      obtain ⟨n, hN⟩ : ∃ n, n = l.length := ⟨_, rfl⟩
      rw [← hN] at hl hn h2' HE ⊢
      have q : (z != (n : Int)) = true := by simpa using h2'
      clear h2 h1 hN hv HEND hz hz2 h2'
      go_enter Tryz.func75, Tryz.ntmps75
      go_wp2_with fail
      refine HE.mono ?_
      rintro e w1 ⟨rfl, rfl⟩
      go_wp2
      go_ret
      exact ⟨rfl, Below.refl _ _⟩
  · rw [h5] at hb
    have HE := HEND w hv
    rw [h4] at HE
    obtain ⟨a, ha⟩ : ∃ a, l.all okN = a := ⟨_, rfl⟩
    have HCO := Lib.hid (contains_any l v w hv hn hz a ha)
    rw [ha] at hb
    have HHE : Hid (∀ w', Below w.heap.size w w' → Calls Tryz.prog 109 #[v] w' fun e' w'' => e' = .returned (.int .i64 e.depth) ∧ Below w'.heap.size w' w'') := fun w' h => height_any e v w' (by rw [h2]; exact hv.below h) h1 (by rw [h2]; omega) (by have := e.depth_le; rw [← e.flat_length, h2] at this; omega)
    obtain ⟨dp, hdp⟩ : ∃ dp, dp = e.depth := ⟨_, rfl⟩
    rw [← hdp] at HHE hb
    have hdl : dp ≤ 200 := by have := e.depth_le; rw [← e.flat_length, h2] at this; omega
    subst hv0
    obtain ⟨n, hN⟩ : ∃ n, n = l.length := ⟨_, rfl⟩
    rw [← hN] at h3 hn HE HCO HHE ⊢
    have q : (((n : Int)) != (n : Int)) = false := by simp
    have HBB := Lib.hid hb
    clear h5 h4 HEND hz hv hN hdp ha hb h2 h1
    go_enter Tryz.func75, Tryz.ntmps75
    go_wp2_with fail
    refine HE.mono ?_
    rintro e w1 ⟨rfl, rfl⟩
    go_wp2_with fail
    refine HCO.out.mono ?_
    rintro e w1 ⟨rfl, hb1⟩
    cases a with
    | false =>
      have : b = false := by rw [← HBB.out]; rfl
      subst this
      go_wp2
      go_ret
      exact ⟨rfl, hb1⟩
    | true =>
      go_wp2_with fail
      refine (HHE.out _ hb1).mono ?_
      rintro e w2 ⟨rfl, hb2⟩
      go_wp2
      go_ret
      exact ⟨ret_bool (by rw [← HBB.out, Bool.eq_iff_iff]; simp; try omega), hb1.trans (hb2.mono hb1.size)⟩
end Go.Proofs.YtlpgafgiljffhaaGreatDoor
namespace Go.Proofs.YtlpgafgiljffhaaGreatDoor
open Go.RowKit
def DepthIs (l : List Nd) (z : Int) : Prop := (∃ e : Ex, e.wf ∧ e.flat = l ∧ rightP l ∧ z = e.depth) ∨ (¬ rightP l ∧ z = -1)
def kidsL : Ex → List Ex
  | .leaf _ => []
  | .un _ a => [a]
  | .bin _ a b => [a, b]
def hdN : Ex → Nd
  | .leaf x => x
  | .un x _ => x
  | .bin x _ _ => x
theorem flat_kids (e : Ex) : e.flat = hdN e :: (kidsL e).flatMap Ex.flat := by cases e <;> simp [Ex.flat, kidsL, hdN]
theorem ar_kids (e : Ex) (h : e.wf) : ar (hdN e).op = ((kidsL e).length : Int) := by
  cases e with
  | leaf x => exact h
  | un x a => exact h.1
  | bin x a b => exact h.1
def dK : List Ex → Nat → Nat
  | [], g => g
  | a :: r, g => dK r (max g (1 + a.depth))
theorem dK_kids (e : Ex) : dK (kidsL e) 0 = e.depth := by cases e <;> simp [dK, kidsL, Ex.depth] <;> omega
theorem wf_kids (e : Ex) (h : e.wf) : ∀ a ∈ kidsL e, a.wf := by
  cases e with
  | leaf x => intro a ha; cases ha
  | un x b => intro a ha; rw [List.mem_singleton.1 ha]; exact h.2
  | bin x b c =>
    intro a ha
    rcases List.mem_cons.1 ha with rfl | ha
    · exact h.2.1
    · rw [List.mem_singleton.1 ha]; exact h.2.2
theorem size_kids (e : Ex) : ∀ a ∈ kidsL e, a.size < e.size := by
  cases e with
  | leaf x => intro a ha; cases ha
  | un x b => intro a ha; rw [List.mem_singleton.1 ha]; simp [Ex.size]
  | bin x b c =>
    intro a ha
    rcases List.mem_cons.1 ha with rfl | ha
    · simp [Ex.size]; omega
    · rw [List.mem_singleton.1 ha]; simp [Ex.size]; omega
theorem kids_len (e : Ex) : (kidsL e).length ≤ 2 := by cases e <;> simp [kidsL]
theorem endL_at (l : List Nd) (e : Ex) (r : List Nd) (i : Nat) (hw : e.wf) (h : l.drop i = e.flat ++ r) : endL l i = ((i + e.size : Nat) : Int) := by
  rw [endL_nat, h]
  have := endF_flat e hw r 1 i (Nat.le_refl _)
  rw [if_pos rfl] at this
  rw [show (1 : Int) = ((1 : Nat) : Int) from rfl, this]; rfl
theorem dK_ge (cs : List Ex) (g : Nat) : g ≤ dK cs g := by
  induction cs generalizing g with
  | nil => exact Nat.le_refl _
  | cons a r ih => exact Nat.le_trans (Nat.le_max_left _ _) (ih _)
set_option maxRecDepth 100000 in
set_option maxHeartbeats 4000000 in
theorem deep_any (l : List Nd) (hn : l.length ≤ 100000) : ∀ (s : Nat) (e : Ex) (i : Nat) (r : List Nd) (v : Value) (w : World), e.size ≤ s → e.wf → l.drop i = e.flat ++ r → Nds w v l →
    Calls Tryz.prog 97 #[v, .int .i64 i] w fun e' w' => e' = .returned (.int .i64 e.depth) ∧ w = w' := by
  intro s
  induction s with
  | zero => intro e i r v w hs; have := e.size_pos'; omega
  | succ s ih =>
    intro e i r v w hs hw hd hv
    have hil : i < l.length := by
      have h1 := congrArg List.length hd
      have h2 := e.size_pos'
      rw [List.length_drop, List.length_append, e.flat_length] at h1
      omega
    have hx : l[i] = hdN e := by
      rw [List.drop_eq_getElem_cons hil, flat_kids] at hd
      exact (List.cons.inj hd).1
    have ht : l.drop (i + 1) = (kidsL e).flatMap Ex.flat ++ r := by
      rw [List.drop_eq_getElem_cons hil, flat_kids] at hd
      exact (List.cons.inj hd).2
    have hk := ar_kids e hw
    have hkl := kids_len e
    have hdep := e.depth_le
    have hsz : e.size ≤ 100000 := by
      have h1 := congrArg List.length hd
      rw [List.length_drop, List.length_append, e.flat_length] at h1
      omega
    have HIH : Hid (∀ a ∈ kidsL e, ∀ (j : Nat) (r : List Nd), l.drop j = a.flat ++ r → Calls Tryz.prog 97 #[v, .int .i64 j] w fun e' w' => e' = .returned (.int .i64 a.depth) ∧ w = w') := fun a ha j r hj => ih a j r v w (by have := size_kids e a ha; omega) (wf_kids e hw a ha) hj hv
    have HEND : Hid (∀ a ∈ kidsL e, ∀ (j : Nat) (r : List Nd), l.drop j = a.flat ++ r → Calls Tryz.prog 95 #[v, .int .i64 j] w fun e' w' => e' = .returned (.int .i64 ((j + a.size : Nat) : Int)) ∧ w = w') := fun a ha j r hj => by
      rw [← endL_at l a r j (wf_kids e hw a ha) hj]
      exact rend_any l v j w hv (by omega)
    obtain ⟨D, hD⟩ : ∃ D, D = e.depth := ⟨_, rfl⟩
    obtain ⟨cs, hcs⟩ : ∃ cs, cs = kidsL e := ⟨_, rfl⟩
    have HDK : Hid (dK cs 0 = D) := by rw [hcs, hD]; exact dK_kids e
    rw [← hD] at hdep ⊢
    rw [← hcs] at hk hkl ht HIH HEND
    obtain ⟨ad, cap, rfl, hc⟩ := hv.cases
    obtain ⟨b, off, rfl, _, x0, _⟩ := hc i hil
    rw [hx] at x0
    obtain ⟨o, ho⟩ : ∃ o, o = (hdN e).op := ⟨_, rfl⟩
    rw [← ho] at x0 hk
    have HAR : ∀ w, Calls Tryz.prog 115 #[.int .i64 o] w fun e w' => e = .returned (.int .i64 (cs.length : Int)) ∧ w = w' := fun w => hk ▸ kids_any o w
    obtain ⟨n, hN⟩ : ∃ n, n = l.length := ⟨_, rfl⟩
    obtain ⟨m, hm⟩ : ∃ m, m = cs.length := ⟨_, rfl⟩
    rw [← hN] at hil HIH HEND hn ⊢
    rw [← hm] at hkl HAR
    have HT := Lib.hid ht
    have HM := Lib.hid hm
    have HN := Lib.hid hN
    clear ih hd hv hc hx hk hs hw ho hcs hD ht hm hN
    have hd1000 : D ≤ 100000 := by omega
    go_enter Tryz.func97, Tryz.ntmps97
    go_wp2
    go_loopg [5, 6, 7] m (fun fuel g' at' k' wr => ∃ k g j : Nat, k' = .int .i64 k ∧ k ≤ m ∧ m - k ≤ fuel ∧ g' = .int .i64 g ∧ g ≤ D ∧ at' = .int .i64 j ∧ j ≤ n ∧ l.drop j = (cs.drop k).flatMap Ex.flat ++ r ∧ dK (cs.drop k) g = D ∧ w = wr)
    case atStart => exact ⟨0, 0, i + 1, rfl, Nat.zero_le _, Nat.le_refl _, rfl, Nat.zero_le _, by go_num, by omega, HT.out, HDK.out, rfl⟩
    case round =>
      obtain ⟨k, g, j, rfl, hk, hf, rfl, hg, rfl, hj, hl, hdk, rfl⟩ := hrel
      by_cases hlt : k < m
      · have hk' : k < cs.length := by have := HM.out; omega
        rw [List.drop_eq_getElem_cons hk', List.flatMap_cons, List.append_assoc] at hl
        rw [List.drop_eq_getElem_cons hk', dK] at hdk
        have HC1 := Lib.hid (HIH.out _ (List.getElem_mem hk') j _ hl)
        have HC2 := Lib.hid (HEND.out _ (List.getElem_mem hk') j _ hl)
        have hjs : j + cs[k].size ≤ n := by
          have h1 := congrArg List.length hl
          rw [List.length_drop, List.length_append, Ex.flat_length] at h1
          have := HN.out
          omega
        have hnext : l.drop (j + cs[k].size) = (cs.drop (k + 1)).flatMap Ex.flat ++ r := by
          rw [← List.drop_drop, hl, ← Ex.flat_length, List.drop_left]
        obtain ⟨a, haa⟩ : ∃ a, a = cs[k] := ⟨_, rfl⟩
        rw [← haa] at HC1 HC2 hjs hnext hdk
        obtain ⟨da, hda⟩ : ∃ d, d = a.depth := ⟨_, rfl⟩
        obtain ⟨sa, hsa⟩ : ∃ d, d = a.size := ⟨_, rfl⟩
        rw [← hda] at HC1 hdk
        rw [← hsa] at HC2 hjs hnext
        have hda2 : max g (1 + da) ≤ D := by rw [← hdk]; exact dK_ge _ _
        have HNX := Lib.hid hnext
        have HDK2 := Lib.hid hdk
        clear hl hnext hdk haa hda hsa
        go_wp2_with (first
          | (go_at_call 115; refine (HAR _).mono ?_; rintro e w2 ⟨rfl, rfl⟩)
          | (go_at_call 97; refine HC1.out.mono ?_; rintro e w2 ⟨rfl, rfl⟩)
          | (go_at_call 95; refine HC2.out.mono ?_; rintro e w2 ⟨rfl, rfl⟩))
        all_goals
          go_roundg (gk - 1)
          case measure => omega
          case rel => exact ⟨k + 1, max g (1 + da), j + sa, by go_num, by omega, by omega, by congr 1; omega, hda2, rfl, hjs, HNX.out, HDK2.out, rfl⟩
      · have HE := Lib.hid (drop_over cs k (by have := HM.out; omega))
        have hgD : g = D := by have := hdk; rw [HE.out] at this; exact this
        clear hl hdk
        subst hgD
        go_wp2_with (go_at_call 115; refine (HAR _).mono ?_; rintro e w2 ⟨rfl, rfl⟩)
        go_ret
        exact ⟨rfl, rfl⟩
end Go.Proofs.YtlpgafgiljffhaaGreatDoor

namespace Go.Proofs.YtlpgafgiljffhaaGreatDoor
open Go.RowKit
def forN (x : Nd) : Bool := decide (x.op = 3 ∨ x.op = 4)
def regsO (l : List Nd) : Bool := l.all fun x => !forN x
set_option maxRecDepth 100000 in
set_option maxHeartbeats 1000000 in
theorem foreign_any (x : Nd) (w : World) : Calls Tryz.prog 131 #[.agg x.cells.toArray] w fun e w' => e = .returned (.bool (forN x)) ∧ Below w.heap.size w w' := by
  obtain ⟨xo, xn, xm, xi, xp⟩ := x
  have hc : (Nd.cells ⟨xo, xn, xm, xi, xp⟩).toArray = #[.int .i64 xo, .int .i64 xn, .string xm, .string xi, .int .i64 xp] := rfl
  rw [hc]
  unfold forN
  simp only []
  by_cases h3 : xo = 3
  · subst h3
    go_enter Tryz.func131, Tryz.ntmps131
    go_wp2
    go_ret
    exact ⟨rfl, (Below.refl _ _).alloc (Nat.le_refl _) _⟩
  · by_cases h4 : xo = 4
    · subst h4
      go_enter Tryz.func131, Tryz.ntmps131
      go_wp2
      go_ret
      exact ⟨rfl, (Below.refl _ _).alloc (Nat.le_refl _) _⟩
    · rw [decide_eq_false (by omega : ¬ (xo = 3 ∨ xo = 4))]
      have q3 : (xo == 3) = false := by simp; omega
      have q4 : (xo == 4) = false := by simp; omega
      clear h3 h4
      go_enter Tryz.func131, Tryz.ntmps131
      go_wp2
      go_ret
      exact ⟨rfl, (Below.refl _ _).alloc (Nat.le_refl _) _⟩
set_option maxRecDepth 100000 in
set_option maxHeartbeats 2000000 in
theorem fidx_any (l : List Nd) (v : Value) (w : World) (hv : Nds w v l) (hn : l.length ≤ 100000) :
    Calls Tryz.prog 110 #[v, .func (.func 131) #[] #[]] w (IdxAns (!regsO l) w) := by
  obtain ⟨B, hB⟩ : ∃ B, regsO (l.drop 0) = B := ⟨_, rfl⟩
  rw [show regsO l = B from hB]
  have HB0 := Lib.hid hB
  obtain ⟨ad, cap, rfl, hc⟩ := hv.cases
  obtain ⟨n, hN⟩ : ∃ n, n = l.length := ⟨_, rfl⟩
  rw [← hN] at hn ⊢
  have HC := Lib.hid hc
  have HN := Lib.hid hN
  clear hc hN hv hB
  go_enter Tryz.func110, Tryz.ntmps110
  go_wp2_with fail
  go_loopg [8] n (fun fuel i' wr => ∃ k : Nat, i' = .int .i64 k ∧ k ≤ n ∧ n - k ≤ fuel ∧ regsO (l.drop k) = B ∧ Below w.heap.size w wr)
  case atStart => exact ⟨0, rfl, Nat.zero_le _, Nat.le_refl _, HB0.out, Below.refl _ _⟩
  case round =>
    obtain ⟨k, rfl, hk, hf, ha, hb⟩ := hrel
    have HA := Lib.hid ha
    have HB := Lib.hid hb
    have hww := hb.size
    clear ha hb
    by_cases hlt : k < n
    · have hk' : k < l.length := by have := HN.out; omega
      have HE := Lib.hid (List.all_cons (f := fun x => !forN x) (a := l[k]) (l := l.drop (k + 1)))
      have HD := Lib.hid (List.drop_eq_getElem_cons hk')
      obtain ⟨b, off, rfl, hbl, x0, x1, x2, x3, x4⟩ := HC.out k hk'
      obtain ⟨⟨xo, xn, xm, xi, xp⟩, hx⟩ : ∃ x, x = l[k] := ⟨_, rfl⟩
      have HX := Lib.hid hx
      rw [← hx] at x0 x1 x2 x3 x4
      simp only [] at x0 x1 x2 x3 x4
      clear hx
      have c0 : wr.cell? ⟨b, off + k * 5, none⟩ = some (.int .i64 xo) := (HB.out.cell (p := ⟨b, _, none⟩) hbl).trans x0
      have c1 : wr.cell? ⟨b, off + k * 5 + 1, none⟩ = some (.int .i64 xn) := (HB.out.cell (p := ⟨b, _, none⟩) hbl).trans x1
      have c2 : wr.cell? ⟨b, off + k * 5 + 2, none⟩ = some (.string xm) := (HB.out.cell (p := ⟨b, _, none⟩) hbl).trans x2
      have c3 : wr.cell? ⟨b, off + k * 5 + 3, none⟩ = some (.string xi) := (HB.out.cell (p := ⟨b, _, none⟩) hbl).trans x3
      have c4 : wr.cell? ⟨b, off + k * 5 + 4, none⟩ = some (.int .i64 xp) := (HB.out.cell (p := ⟨b, _, none⟩) hbl).trans x4
      obtain ⟨q, hq⟩ : ∃ q, forN ⟨xo, xn, xm, xi, xp⟩ = q := ⟨_, rfl⟩
      have HFL : Hid (∀ w, Calls Tryz.prog 131 #[.agg #[.int .i64 xo, .int .i64 xn, .string xm, .string xi, .int .i64 xp]] w fun e w' => e = .returned (.bool q) ∧ Below w.heap.size w w') := fun w => by
        rw [← hq]; exact foreign_any ⟨xo, xn, xm, xi, xp⟩ w
      have HQ := Lib.hid hq
      clear x0 x1 x2 x3 x4 hq
      go_wp2_with fail
      refine (HFL.out _).mono ?_
      rintro e w2 ⟨rfl, hb2⟩
      have HB2 := Lib.hid (HB.out.trans (hb2.mono hww))
      clear hb2 c0 c1 c2 c3 c4
      cases q with
      | false =>
        go_wp2
        go_roundg (gk - 1)
        case measure => omega
        case rel =>
          refine ⟨k + 1, by go_num, by omega, by omega, ?_, HB2.out⟩
          have := HA.out
          unfold regsO at this ⊢
          rw [HD.out, HE.out, ← HX.out, HQ.out] at this
          simpa using this
      | true =>
        go_wp2
        go_ret
        refine ⟨k, rfl, ?_, HB2.out⟩
        have := HA.out
        unfold regsO at this
        rw [HD.out, HE.out, ← HX.out, HQ.out] at this
        rw [← this]; simp
    · have HE := Lib.hid (drop_over l k (by have := HN.out; omega))
      go_wp2
      go_ret
      refine ⟨-1, rfl, ?_, HB.out⟩
      have := HA.out
      rw [HE.out] at this
      rw [← this]; rfl
set_option maxRecDepth 100000 in
set_option maxHeartbeats 400000 in
theorem fcontains_any (l : List Nd) (v : Value) (w : World) (hv : Nds w v l) (hn : l.length ≤ 100000) (b : Bool) (hb : regsO l = b) :
    Calls Tryz.prog 76 #[v, .func (.func 131) #[] #[]] w fun e w' => e = .returned (.bool (!b)) ∧ Below w.heap.size w w' := by
  have H := fidx_any l v w hv hn
  rw [hb] at H
  clear hv hn hb
  go_enter Tryz.func76, Tryz.ntmps76
  go_wp2_with fail
  refine H.mono ?_
  rintro e w2 ⟨z, rfl, hz, hb2⟩
  have HZ := Lib.hid hz
  clear hz
  go_wp2
  go_ret
  exact ⟨ret_bool HZ.out, hb2⟩
def StrR (w : World) (g : Nat) (s : ByteArray) : Prop := w.heap[g]? = some (.cells #[.string s] 9 (0, 0))
theorem StrR.lt {w : World} {g : Nat} {s : ByteArray} (h : StrR w g s) : g < w.heap.size := (Array.getElem?_eq_some_iff.1 h).1
theorem StrR.keep {w w' : World} {g r : Nat} {s : ByteArray} (h : StrR w g s) (hk : Keep r w w') (hg : g ≠ r) : StrR w' g s := by
  unfold StrR at *; rw [hk.block g (StrR.lt h) hg]; exact h
theorem StrR.below {w w' : World} {g : Nat} {s : ByteArray} (h : StrR w g s) (hb : Below w.heap.size w w') : StrR w' g s := by
  unfold StrR at *; rw [hb.block g (StrR.lt h)]; exact h
theorem StrR.cell {w : World} {g : Nat} {s : ByteArray} (h : StrR w g s) : w.cell? ⟨g, 0, none⟩ = some (.string s) := by
  unfold StrR at h; simp [World.cell?, h]
end Go.Proofs.YtlpgafgiljffhaaGreatDoor

namespace Go.Proofs.YtlpgafgiljffhaaGreatDoor
def Sep (c : UInt8) : Prop := wrd (c.toNat : Int) = false ∧ c ≠ 61 ∧ c ≠ 38 ∧ c ≠ 124
theorem spanN_take (p : Int → Bool) : ∀ l : List UInt8, spanN p (l.take (spanN p l)) = spanN p l
  | [] => rfl
  | c :: l => by
    have ih := spanN_take p l
    unfold spanN at *
    rcases h : p (c.toNat : Int) with _ | _
    · simp [h]
    · simp only [List.takeWhile_cons, h, if_true, List.length_cons, List.take_succ_cons, ih]
theorem sgnN_take (c : UInt8) (r : List UInt8) : sgnN ((c :: r).take (sgnN (c :: r))) = sgnN (c :: r) := by
  have e : sgnN (c :: r) = if [[61, 61], [33, 61], [60, 61], [38, 38], [124, 124]].contains ((c :: r).take 2) then 2 else if sgn1 (c.toNat : Int) then 1 else 0 := rfl
  by_cases h : [[61, 61], [33, 61], [60, 61], [38, 38], [124, 124]].contains ((c :: r).take 2) = true
  · rw [if_pos h] at e
    rw [e]
    unfold sgnN
    rw [List.take_take, Nat.min_self, if_pos h]
  · rw [if_neg h] at e
    rcases h1 : sgn1 (c.toNat : Int) with _ | _
    · rw [h1] at e
      rw [e]; rfl
    · rw [h1] at e
      rw [e]
      show sgnN [c] = 1
      have e2 : [[61, 61], [33, 61], [60, 61], [38, 38], [124, 124]].contains (([c] : List UInt8).take 2) = false := by simp
      unfold sgnN
      rw [e2]
      show (if sgn1 (c.toNat : Int) = true then 1 else 0) = 1
      rw [h1]; rfl
theorem tk_take (l : List UInt8) (h : (tk l).1 = 0) : tk (l.take (tk l).2.2.1) = (0, (tk l).2.1, (l.take (tk l).2.2.1).length, (tk l).2.2.2) := by
  cases l with
  | nil => cases h
  | cons c r =>
    have hl := tk_len (c :: r) h
    have hlen : ((c :: r).take (tk (c :: r)).2.2.1).length = (tk (c :: r)).2.2.1 := by rw [List.length_take]; omega
    rw [hlen]
    have hw1 : ltr (c.toNat : Int) = true → 0 < spanN wrd (c :: r) := fun h => by simp [spanN, wrd, h]
    have hd1 : dig (c.toNat : Int) = true → 0 < spanN dig (c :: r) := fun h => by simp [spanN, h]
    have e : tk (c :: r) = if ltr (c.toNat : Int) then (if 16 < spanN wrd (c :: r) then (2, 0, 0, 0) else (0, 1, spanN wrd (c :: r), 0))
      else if dig (c.toNat : Int) then (if 9999 < numV ((c :: r).take (spanN dig (c :: r))) then (4, 0, 0, 0) else (0, 2, spanN dig (c :: r), numV ((c :: r).take (spanN dig (c :: r)))))
      else if 0 < sgnN (c :: r) then (0, 3, sgnN (c :: r), 0) else (3, 0, 0, 0) := rfl
    have key : ∀ n, 0 < n → tk ((c :: r).take n) = if ltr (c.toNat : Int) then (if 16 < spanN wrd ((c :: r).take n) then (2, 0, 0, 0) else (0, 1, spanN wrd ((c :: r).take n), 0))
      else if dig (c.toNat : Int) then (if 9999 < numV (((c :: r).take n).take (spanN dig ((c :: r).take n))) then (4, 0, 0, 0) else (0, 2, spanN dig ((c :: r).take n), numV (((c :: r).take n).take (spanN dig ((c :: r).take n)))))
      else if 0 < sgnN ((c :: r).take n) then (0, 3, sgnN ((c :: r).take n), 0) else (3, 0, 0, 0) := by
      intro n hn
      obtain ⟨m, rfl⟩ : ∃ m, n = m + 1 := ⟨n - 1, by omega⟩
      rw [List.take_succ_cons]; rfl
    rcases h1 : ltr (c.toNat : Int) with _ | _
    · rcases h2 : dig (c.toNat : Int) with _ | _
      · by_cases h3 : 0 < sgnN (c :: r)
        · rw [h1, h2, if_pos h3] at e
          simp only [Bool.false_eq_true, if_false] at e
          rw [e]
          show tk ((c :: r).take (sgnN (c :: r))) = _
          rw [key _ h3, sgnN_take, h1, h2, if_pos h3]; rfl
        · rw [h1, h2, if_neg h3] at e
          rw [e] at h; cases h
      · by_cases h3 : 9999 < numV ((c :: r).take (spanN dig (c :: r)))
        · rw [h1, h2, if_pos h3] at e
          rw [e] at h; cases h
        · rw [h1, h2, if_neg h3] at e
          simp only [Bool.false_eq_true, if_false, if_true] at e
          rw [e]
          show tk ((c :: r).take (spanN dig (c :: r))) = _
          rw [key _ (hd1 h2), spanN_take, List.take_take, Nat.min_self, h1, h2, if_neg h3]; rfl
    · by_cases h3 : 16 < spanN wrd (c :: r)
      · rw [h1, if_pos h3] at e
        rw [e] at h; cases h
      · rw [h1, if_neg h3] at e
        simp only [if_true] at e
        rw [e]
        show tk ((c :: r).take (spanN wrd (c :: r))) = _
        rw [key _ (hw1 h1), spanN_take, h1, if_neg h3]; rfl
theorem sc_cons (f : Nat) (c : UInt8) (r : List UInt8) (p : Nat) (acc : List Tok) : sc (f + 1) (c :: r) p acc =
    if blank (c.toNat : Int) then sc f r (p + 1) acc
    else if (c.toNat : Int) = 35 then sc f ((c :: r).drop (spanN noNl (c :: r))) (p + spanN noNl (c :: r)) acc
    else if (tk (c :: r)).1 ≠ 0 then ([], (tk (c :: r)).1, p)
    else sc f ((c :: r).drop (tk (c :: r)).2.2.1) (p + (tk (c :: r)).2.2.1) (acc ++ [((tk (c :: r)).2.1, (c :: r).take (tk (c :: r)).2.2.1, (tk (c :: r)).2.2.2, p)]) := rfl
def Good (t : Tok) : Prop := tk t.2.1 = (0, t.1, t.2.1.length, t.2.2.1)
theorem sc_good : ∀ (f : Nat) (l : List UInt8) (p : Nat) (acc : List Tok), ∀ t ∈ (sc f l p acc).1, t ∈ acc ∨ Good t := by
  intro f
  induction f with
  | zero => intro l p acc t ht; exact .inl ht
  | succ f ih =>
    intro l p acc t ht
    cases l with
    | nil => exact .inl ht
    | cons c r =>
      unfold sc at ht
      by_cases hb : blank (c.toNat : Int) = true
      · rw [if_pos hb] at ht; exact ih _ _ _ t ht
      · rw [if_neg hb] at ht
        by_cases hc : (c.toNat : Int) = 35
        · rw [if_pos hc] at ht; exact ih _ _ _ t ht
        · rw [if_neg hc] at ht
          by_cases he : (tk (c :: r)).1 ≠ 0
          · rw [if_pos he] at ht; simp at ht
          · rw [if_neg he] at ht
            rcases ih _ _ _ t ht with h | h
            · rw [List.mem_append, List.mem_singleton] at h
              rcases h with h | rfl
              · exact .inl h
              · exact .inr (tk_take (c :: r) (by simpa using he))
            · exact .inr h
theorem scanL_good (l : List UInt8) : ∀ t ∈ (scanL l).1, Good t := by
  intro t ht
  unfold scanL at ht
  split at ht
  · simp at ht
  · rcases sc_good _ _ _ _ t ht with h | h
    · simp at h
    · exact h
def strip (t : Tok) : Nat × List UInt8 × Nat := (t.1, t.2.1, t.2.2.1)
theorem sgnN_head (c : UInt8) (r : List UInt8) (h : 0 < sgnN (c :: r)) : sgn1 (c.toNat : Int) = true ∨ c = 38 ∨ c = 124 := by
  have e : sgnN (c :: r) = if [[61, 61], [33, 61], [60, 61], [38, 38], [124, 124]].contains ((c :: r).take 2) then 2 else if sgn1 (c.toNat : Int) then 1 else 0 := rfl
  by_cases h2 : [[61, 61], [33, 61], [60, 61], [38, 38], [124, 124]].contains ((c :: r).take 2) = true
  · have h3 : c = 61 ∨ c = 33 ∨ c = 60 ∨ c = 38 ∨ c = 124 := by
      cases r with
      | nil => simp at h2
      | cons d r =>
        simp at h2
        rcases h2 with h | h | h | h | h <;> simp [h.1]
    rcases h3 with rfl | rfl | rfl | rfl | rfl
    · exact .inl (by decide)
    · exact .inl (by decide)
    · exact .inl (by decide)
    · exact .inr (.inl rfl)
    · exact .inr (.inr rfl)
  · rw [if_neg h2] at e
    rcases h1 : sgn1 (c.toNat : Int) with _ | _
    · rw [h1] at e; rw [e] at h; exact absurd h (by decide)
    · exact .inl rfl
theorem tk_head (c : UInt8) (r : List UInt8) (h : (tk (c :: r)).1 = 0) : blank (c.toNat : Int) = false ∧ (c.toNat : Int) ≠ 35 := by
  have key : ltr (c.toNat : Int) = true ∨ dig (c.toNat : Int) = true ∨ 0 < sgnN (c :: r) := by
    rcases h1 : ltr (c.toNat : Int) with _ | _
    · rcases h2 : dig (c.toNat : Int) with _ | _
      · by_cases h3 : 0 < sgnN (c :: r)
        · exact .inr (.inr h3)
        · simp [tk, h1, h2, h3] at h
      · exact .inr (.inl rfl)
    · exact .inl rfl
  rcases key with h1 | h1 | h1
  · simp [ltr] at h1; simp [blank]; omega
  · simp [dig] at h1; simp [blank]; omega
  · rcases sgnN_head c r h1 with h1 | rfl | rfl
    · simp [sgn1] at h1; simp [blank]; omega
    · decide
    · decide
def lenS (ts : List Tok) : Nat := (ts.map fun t => t.2.1.length + 1).sum
theorem lenS_app (a b : List Tok) : lenS (a ++ b) = lenS a + lenS b := by simp [lenS]
theorem length_le_lenS (ts : List Tok) : ts.length ≤ lenS ts := by
  induction ts with
  | nil => simp
  | cons t r ih => simp only [lenS, List.map_cons, List.sum_cons, List.length_cons] at *; omega
theorem sc_lenS : ∀ (f : Nat) (l : List UInt8) (p : Nat) (acc : List Tok), lenS (sc f l p acc).1 ≤ lenS acc + 2 * l.length := by
  intro f
  induction f with
  | zero => intro l p acc; simp [sc]
  | succ f ih =>
    intro l p acc
    cases l with
    | nil => simp [sc]
    | cons c r =>
      rw [sc_cons]
      by_cases hb : blank (c.toNat : Int) = true
      · rw [if_pos hb]; have := ih r (p + 1) acc; simp only [List.length_cons]; omega
      · rw [if_neg hb]
        by_cases hc : (c.toNat : Int) = 35
        · rw [if_pos hc]
          have := ih ((c :: r).drop (spanN noNl (c :: r))) (p + spanN noNl (c :: r)) acc
          rw [List.length_drop] at this; omega
        · rw [if_neg hc]
          by_cases he : (tk (c :: r)).1 ≠ 0
          · rw [if_pos he]; simp [lenS]
          · rw [if_neg he]
            have h1 := ih ((c :: r).drop (tk (c :: r)).2.2.1) (p + (tk (c :: r)).2.2.1) (acc ++ [((tk (c :: r)).2.1, (c :: r).take (tk (c :: r)).2.2.1, (tk (c :: r)).2.2.2, p)])
            obtain ⟨h2, h3⟩ := tk_len (c :: r) (by simpa using he)
            rw [lenS_app, List.length_drop] at h1
            have e : lenS [((tk (c :: r)).2.1, (c :: r).take (tk (c :: r)).2.2.1, (tk (c :: r)).2.2.2, p)] = (tk (c :: r)).2.2.1 + 1 := by
              simp only [lenS, List.map_cons, List.map_nil, List.sum_cons, List.sum_nil, List.length_take]; omega
            rw [e] at h1; omega
theorem scanL_lenS (l : List UInt8) : lenS (scanL l).1 ≤ 2 * l.length := by
  unfold scanL
  split
  · simp [lenS]
  · have := sc_lenS l.length l 0 []
    simp only [lenS, List.map_nil, List.sum_nil] at this ⊢; omega
def Pl (L : List UInt8) (t : Tok) : Prop := t.2.2.2 + t.2.1.length ≤ L.length ∧ (L.drop t.2.2.2).take t.2.1.length = t.2.1
theorem sc_place (L : List UInt8) : ∀ (f p : Nat) (acc : List Tok), p ≤ L.length → (∀ t ∈ acc, Pl L t ∧ t.2.2.2 < p) → acc.Pairwise (fun a b => a.2.2.2 < b.2.2.2) →
    (∀ t ∈ (sc f (L.drop p) p acc).1, Pl L t) ∧ (sc f (L.drop p) p acc).1.Pairwise (fun a b => a.2.2.2 < b.2.2.2) ∧ (sc f (L.drop p) p acc).2.2 ≤ L.length ∧ ((sc f (L.drop p) p acc).2.1 ≠ 0 → (sc f (L.drop p) p acc).1 = []) := by
  intro f
  induction f with
  | zero => intro p acc _ h1 h2; exact ⟨fun t ht => (h1 t ht).1, h2, Nat.zero_le _, fun h => absurd rfl h⟩
  | succ f ih =>
    intro p acc hp h1 h2
    have hl : (L.drop p).length = L.length - p := List.length_drop
    cases hd : L.drop p with
    | nil => exact ⟨fun t ht => (h1 t ht).1, h2, Nat.zero_le _, fun h => absurd rfl h⟩
    | cons c r =>
      have hlt : p < L.length := by rw [hd, List.length_cons] at hl; omega
      have hr : r = L.drop (p + 1) := by rw [← List.drop_drop, hd]; rfl
      have hk : ∀ k, (c :: r).drop k = L.drop (p + k) := by intro k; rw [← hd, List.drop_drop]
      rw [sc_cons]
      by_cases hb : blank (c.toNat : Int) = true
      · rw [if_pos hb, hr]
        exact ih (p + 1) acc (by omega) (fun t ht => ⟨(h1 t ht).1, by have := (h1 t ht).2; omega⟩) h2
      · rw [if_neg hb]
        by_cases hc : (c.toNat : Int) = 35
        · rw [if_pos hc, hk]
          have hs := spanN_le noNl (c :: r)
          rw [← hd, hl] at hs
          rw [← hd]
          exact ih _ acc (by omega) (fun t ht => ⟨(h1 t ht).1, by have := (h1 t ht).2; omega⟩) h2
        · rw [if_neg hc]
          by_cases he : (tk (c :: r)).1 ≠ 0
          · rw [if_pos he]; exact ⟨fun t ht => by simp at ht, List.Pairwise.nil, hp, fun _ => rfl⟩
          · rw [if_neg he, hk]
            obtain ⟨h3, h4⟩ := tk_len (c :: r) (by simpa using he)
            rw [← hd] at h3 h4 ⊢
            rw [hl] at h4
            have hlen : ((L.drop p).take (tk (L.drop p)).2.2.1).length = (tk (L.drop p)).2.2.1 := by rw [List.length_take]; omega
            refine ih _ _ (by omega) ?_ ?_
            · intro t ht
              rw [List.mem_append, List.mem_singleton] at ht
              rcases ht with ht | rfl
              · exact ⟨(h1 t ht).1, by have := (h1 t ht).2; omega⟩
              · refine ⟨⟨?_, ?_⟩, by simp; omega⟩
                · show p + _ ≤ _
                  rw [hlen]; omega
                · show (L.drop p).take _ = _
                  rw [hlen]
            · rw [List.pairwise_append]
              refine ⟨h2, by simp, fun a ha b hb => ?_⟩
              rw [List.mem_singleton] at hb
              subst hb
              exact (h1 a ha).2
theorem scanL_place (L : List UInt8) (h : L.length ≤ 20000) : (∀ t ∈ (scanL L).1, Pl L t) ∧ (scanL L).1.Pairwise (fun a b => a.2.2.2 < b.2.2.2) ∧ (scanL L).2.2 ≤ L.length ∧ ((scanL L).2.1 ≠ 0 → (scanL L).1 = []) := by
  unfold scanL
  rw [if_neg (by omega)]
  have := sc_place L L.length 0 [] (Nat.zero_le _) (fun t ht => by simp at ht) List.Pairwise.nil
  rw [List.drop_zero] at this
  exact this
end Go.Proofs.YtlpgafgiljffhaaGreatDoor
