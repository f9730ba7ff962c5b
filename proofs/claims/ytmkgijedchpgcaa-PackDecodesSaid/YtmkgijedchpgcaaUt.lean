/- Layer 8: Right of a buffer, whatever the bounds; the reference's, plainly. -/
import Derived.Test.YtmkgijedchpgcaaUs
namespace Go.Proofs.Ytmkgijedchpgcaa
set_option linter.unusedSimpArgs false
set_option linter.unusedVariables false
open Go.RowKit

set_option maxRecDepth 100000 in
set_option maxHeartbeats 2000000 in
theorem sright_all (l : List Ent) (v : Value) (model room mod locs : Int) (w : World) (hv : EntsD w v l) (hn : l.length ≤ 100000) (z : Bool) (hz : rightL l model room mod locs = z) :
    Calls Try.prog 38 #[v, .int .i64 model, .int .i64 room, .int .i64 mod, .int .i64 locs] w fun e w' => e = .returned (.bool z) ∧ Below w.heap.size w w' := by
  by_cases hP : 1 ≤ room ∧ room ≤ 4 ∧ 2 ≤ mod ∧ mod ≤ 16
  · exact sright_any l v model room mod locs w hv hn ⟨hP.1, hP.2.1⟩ ⟨hP.2.2.1, hP.2.2.2⟩ z hz
  · have HBF : Hid (z = false) := Lib.hid (by rw [← hz]; unfold rightL; rw [if_pos (by omega)])
    obtain ⟨ad, cap, rfl⟩ := hv.shape0
    generalize l.length = n at hv hn
    clear hv hn hz
    go_enter Try.func38, Try.ntmps38
    go_wp2_with fail
    all_goals first
      | (go_ret
         exact ⟨ret_bool HBF.out.symm, by first | exact Below.refl _ _ | exact (two_new w _ _ _ _).1⟩)
      | (exfalso; omega)

/-- How many entries a location has. -/
def cntL : List Ent → Int → Nat
  | [], _ => 0
  | e :: r, k => (if e.1 = k then 1 else 0) + cntL r k
theorem cntL_at (l : List Ent) (k : Int) (i : Nat) (h : i < l.length) : cntL (l.drop i) k = (if l[i].1 = k then 1 else 0) + cntL (l.drop (i + 1)) k := by
  rw [List.drop_eq_getElem_cons h]; rfl
theorem cntL_app (a b : List Ent) (k : Int) : cntL (a ++ b) k = cntL a k + cntL b k := by
  induction a with
  | nil => simp [cntL]
  | cons x r ih => simp only [List.cons_append, cntL, ih]; omega
theorem cntL_none (a : List Ent) (k : Int) (h : ∀ x ∈ a, x.1 ≠ k) : cntL a k = 0 := by
  induction a with
  | nil => rfl
  | cons x r ih => simp only [cntL]; rw [if_neg (h x (List.mem_cons_self ..)), ih (fun y hy => h y (List.mem_cons_of_mem _ hy))]
theorem cntL_all (a : List Ent) (k : Int) (h : ∀ x ∈ a, x.1 = k) : cntL a k = a.length := by
  induction a with
  | nil => rfl
  | cons x r ih => simp only [cntL, List.length_cons]; rw [if_pos (h x (List.mem_cons_self ..)), ih (fun y hy => h y (List.mem_cons_of_mem _ hy))]; omega

abbrev SrtE (l : List Ent) : Prop := l.Pairwise fun a b => a.1 ≤ b.1
/-- A sorted row parts into what is less than a location, it, and what is greater. -/
theorem srt_parts (l : List Ent) (k : Int) (h : SrtE l) : ∃ a b c, l = a ++ (b ++ c) ∧ (∀ x ∈ a, x.1 < k) ∧ (∀ x ∈ b, x.1 = k) ∧ (∀ x ∈ c, k < x.1) := by
  induction l with
  | nil => exact ⟨[], [], [], rfl, fun _ h => (by cases h), fun _ h => (by cases h), fun _ h => (by cases h)⟩
  | cons e r ih =>
    obtain ⟨h1, h2⟩ := List.pairwise_cons.1 h
    obtain ⟨a, b, c, rfl, ha, hb, hc⟩ := ih h2
    by_cases g1 : e.1 < k
    · exact ⟨e :: a, b, c, rfl, fun x hx => by rcases List.mem_cons.1 hx with rfl | hx; exact g1; exact ha x hx, hb, hc⟩
    · have ha0 : a = [] := by
        cases a with
        | nil => rfl
        | cons x s => exact absurd (ha x (List.mem_cons_self ..)) (by have := h1 x (by simp); omega)
      subst ha0
      by_cases g2 : e.1 = k
      · exact ⟨[], e :: b, c, rfl, fun _ h => (by cases h), fun x hx => by rcases List.mem_cons.1 hx with rfl | hx; exact g2; exact hb x hx, hc⟩
      · have hb0 : b = [] := by
          cases b with
          | nil => rfl
          | cons x s => exact absurd (hb x (List.mem_cons_self ..)) (by have := h1 x (by simp); omega)
        subst hb0
        exact ⟨[], [], e :: c, rfl, fun _ h => (by cases h), fun _ h => (by cases h), fun x hx => by rcases List.mem_cons.1 hx with rfl | hx; omega; exact hc x hx⟩

theorem cnt_parts (l a b c : List Ent) (k : Int) (hl : l = a ++ (b ++ c)) (ha : ∀ x ∈ a, x.1 < k) (hb : ∀ x ∈ b, x.1 = k) (hc : ∀ x ∈ c, k < x.1) : cntL l k = b.length := by
  rw [hl, cntL_app, cntL_app, cntL_none a _ (fun x hx => by have := ha x hx; omega), cntL_all b _ hb, cntL_none c _ (fun x hx => by have := hc x hx; omega)]
  omega

/-- In a sorted row no location has more than r entries just if none stands r places behind another of it. -/
theorem srt_count (l : List Ent) (r : Nat) (h : SrtE l) (h1 : 1 ≤ r) : (∀ i, (hi : i < l.length) → cntL l l[i].1 ≤ r) ↔ ∀ i, (hi : i < l.length) → (hr : r ≤ i) → l[i].1 ≠ (l[i - r]'(by omega)).1 := by
  constructor
  · intro hc i hi hr he
    obtain ⟨a, b, c, hl, ha, hb, hcc⟩ := srt_parts l l[i].1 h
    have h2 := hc i hi
    have hcnt : cntL l l[i].1 = b.length := cnt_parts l a b c _ hl ha hb hcc
    have g1 : a.length ≤ i - r := by
      rcases Nat.lt_or_ge (i - r) a.length with g | g
      · have : l[i - r]? = some a[i - r] := by rw [hl, List.getElem?_append_left g, List.getElem?_eq_getElem g]
        rw [List.getElem?_eq_getElem (by omega)] at this
        have e2 := ha _ (List.getElem_mem g)
        rw [← Option.some.inj this] at e2
        omega
      · exact g
    have g2 : i < a.length + b.length := by
      rcases Nat.lt_or_ge i (a.length + b.length) with g | g
      · exact g
      · exfalso
        have hic : i - a.length - b.length < c.length := by
          have : l.length = a.length + (b.length + c.length) := by rw [hl]; simp
          omega
        have : l[i]? = some c[i - a.length - b.length] := by
          rw [hl, List.getElem?_append_right (by omega), List.getElem?_append_right (by omega), List.getElem?_eq_getElem hic]
        rw [List.getElem?_eq_getElem hi] at this
        have e2 := hcc _ (List.getElem_mem hic)
        rw [← Option.some.inj this] at e2
        omega
    omega
  · intro hn i hi
    obtain ⟨a, b, c, hl, ha, hb, hcc⟩ := srt_parts l l[i].1 h
    have hcnt : cntL l l[i].1 = b.length := cnt_parts l a b c _ hl ha hb hcc
    rw [hcnt]
    rcases Nat.lt_or_ge r b.length with g | g
    · exfalso
      have hlen : l.length = a.length + (b.length + c.length) := by rw [hl]; simp
      have hgb : ∀ j, (hj : j < b.length) → l[a.length + j]? = some b[j] := by
        intro j hj
        rw [hl, List.getElem?_append_right (by omega), List.getElem?_append_left (by omega), Nat.add_sub_cancel_left, List.getElem?_eq_getElem hj]
      have e1 := hgb r g
      have e2 := hgb 0 (by omega)
      rw [List.getElem?_eq_getElem (by omega)] at e1 e2
      refine hn (a.length + r) (by omega) (by omega) ?_
      have e3 := Option.some.inj e1
      have e4 := Option.some.inj e2
      have e5 : l[a.length + r - r]'(by omega) = b[0] := by
        rw [← e4]; congr 1; omega
      rw [e3, e5, hb _ (List.getElem_mem g), hb _ (List.getElem_mem (by omega))]
    · exact g

end Go.Proofs.Ytmkgijedchpgcaa
