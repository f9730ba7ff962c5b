/- What both Names do. -/
import Derived.Test.YtifbhlgingaahaaDoorKa
namespace Go.Proofs.YtifbhlgingaahaaDoor
open Go.RowKit

def isNm (x : Nd) : Bool := decide (x.op = 2 ∨ x.op = 3 ∨ x.op = 4)
def namesL (l : List Nd) : List Nd := l.filter isNm

def NamesAns (l : List Nd) (w : World) (e : Ending) (w' : World) : Prop :=
  ∃ v, e = .returned v ∧ w'.ownsRow w.heap.size 32 5 v (namesL l).length (rowN (namesL l)) ∧ Below w.heap.size w w'

theorem names_at (l : List Nd) (k : Nat) (h : k < l.length) : namesL (l.take (k + 1)) = namesL (l.take k) ++ (if isNm l[k] then [l[k]] else []) := by
  unfold namesL
  rw [List.take_succ_eq_append_getElem h, List.filter_append]
  cases hn : isNm l[k] <;> simp [hn]
theorem names_le (l : List Nd) (k : Nat) : (namesL (l.take k)).length ≤ k := Nat.le_trans (List.length_filter_le _ _) (List.length_take_le _ _)

set_option maxHeartbeats 4000000 in
theorem names_any (l : List Nd) (v : Value) (w : World) (hv : Nds w v l) (hn : l.length ≤ 100000) :
    Calls Tryd.prog 17 #[v] w (NamesAns l w) := by
  obtain ⟨ad, cap, rfl, hc⟩ := hv.cases
  obtain ⟨n, hN⟩ : ∃ n, n = l.length := ⟨_, rfl⟩
  rw [← hN] at hn ⊢
  have HC := Lib.hid hc
  have HN := Lib.hid hN
  clear hc hN hv
  go_enter Tryd.func17, Tryd.ntmps17
  go_wp2_with fail
  go_loopg [3, 8] n (fun fuel v' i' wr => ∃ (k m cap2 : Nat) (ad2 : Option Addr), i' = .int .i64 k ∧ k ≤ n ∧ n - k ≤ fuel ∧ v' = .slice ad2 m cap2 ∧ m = (namesL (l.take k)).length ∧ wr.ownsRow w.heap.size 32 5 (.slice ad2 m cap2) m (rowN (namesL (l.take k))) ∧ Below w.heap.size w wr)
  case atStart => exact ⟨0, 0, 0, none, rfl, Nat.zero_le _, Nat.le_refl _, rfl, rfl, World.ownsRow_nil _ _ _ _, Below.refl _ _⟩
  case round =>
    obtain ⟨k, m, cap2, ad2, rfl, hk, hf, rfl, hm, ho, hb⟩ := hrel
    have HO := Lib.hid ho
    have HM := Lib.hid hm
    have HB := Lib.hid hb
    have hww := hb.size
    have hmk : m ≤ k := by rw [hm]; exact names_le l k
    clear ho hm hb
    by_cases hlt : k < n
    · have hk' : k < l.length := by have := HN.out; omega
      have HE := Lib.hid (names_at l k hk')
      obtain ⟨b, off, rfl, hbl, x0, x1, x2, x3, x4⟩ := HC.out k hk'
      obtain ⟨⟨xo, xn, xm, xi, xp⟩, hx⟩ : ∃ x, x = l[k] := ⟨_, rfl⟩
      have HX := Lib.hid hx
      rw [← hx] at x0 x1 x2 x3 x4
      simp only [] at x0 x1 x2 x3 x4
      clear hx
      have c0 : wr.cell? ⟨b, off + k * 5, none⟩ = some (.int .i64 xo) := (HB.out.cell (p := ⟨b, _, none⟩) hbl).trans x0
      have c1 : wr.cell? ⟨b, off + k * 5 + 1, none⟩ = some (.int .i64 xn) := (HB.out.cell (p := ⟨b, _, none⟩) hbl).trans x1
      have c2 : wr.cell? ⟨b, off + k * 5 + 2, none⟩ = some (.string xm) := (HB.out.cell (p := ⟨b, _, none⟩) hbl).trans x2
      have c3 : wr.cell? ⟨b, off + k * 5 + 3, none⟩ = some (.string xi) := (HB.out.cell (p := ⟨b, _, none⟩) hbl).trans x3
      have c4 : wr.cell? ⟨b, off + k * 5 + 4, none⟩ = some (.int .i64 xp) := (HB.out.cell (p := ⟨b, _, none⟩) hbl).trans x4
      clear x0 x1 x2 x3 x4
      by_cases hop : xo = 2 ∨ xo = 3 ∨ xo = 4
      · have HI : Hid (isNm ⟨xo, xn, xm, xi, xp⟩ = true) := decide_eq_true hop
        have HNEW := Lib.hid (own_new (wr.alloc (.cells #[.int .i64 xo, .int .i64 xn, .string xm, .string xi, .int .i64 xp] 32)) ⟨xo, xn, xm, xi, xp⟩)
        simp only [] at HNEW
        have hsz : (wr.alloc (.cells #[.int .i64 xo, .int .i64 xn, .string xm, .string xi, .int .i64 xp] 32)).heap.size = wr.heap.size + 1 := by simp
        rw [hsz] at HNEW
        clear hsz
        rcases hop with rfl | rfl | rfl
        all_goals
          go_wp2_with (at_builtin; refine append_nds rfl (.tmp 18) (.tmp 20) rfl w.heap.size _ m 1 _ _ (rowN (namesL (l.take k))) [⟨_, xn, xm, xi, xp⟩] rfl rfl (own_below HO.out (((Below.refl _ _).alloc (Nat.le_refl _) _).alloc (by simp) _)) HNEW.out rfl (by omega) (by simp; omega) ?_)
          intro v3 w3 hown3 hb3
          obtain ⟨ad4, cap4, rfl, _⟩ := own_shape hown3
          have HB3 := Lib.hid (((HB.out.alloc hww (.cells #[.int .i64 _, .int .i64 xn, .string xm, .string xi, .int .i64 xp] 32)).alloc (by simp; omega) (.cells #[.int .i64 _, .int .i64 xn, .string xm, .string xi, .int .i64 xp] 32)).trans hb3)
          have HO3 := Lib.hid hown3
          clear hown3 hb3
          go_wp2_with fail
          go_roundg (gk - 1)
          case measure => omega
          case rel =>
            refine ⟨k + 1, m + 1, cap4, ad4, by go_num, hlt, (by rw [Nat.sub_add_eq]; exact Nat.sub_le_sub_right hf 1), rfl, ?_, ?_, HB3.out⟩
            · rw [HE.out, ← HX.out, HI.out, HM.out]; simp
            · rw [HE.out, ← HX.out, HI.out]
              have h := HO3.out
              rw [if_pos rfl, rowN_append]
              exact h
      · have HI : Hid (isNm ⟨xo, xn, xm, xi, xp⟩ = false) := decide_eq_false hop
        have q2 : (xo == 2) = false := by simp; omega
        have q3 : (xo == 3) = false := by simp; omega
        have q4 : (xo == 4) = false := by simp; omega
        clear hop
        go_wp2_with fail
        go_roundg (gk - 1)
        case measure => omega
        case rel =>
          refine ⟨k + 1, m, cap2, ad2, by go_num, by omega, by omega, rfl, ?_, ?_, HB.out.alloc hww _⟩
          · rw [HE.out, ← HX.out, HI.out, HM.out]; simp
          · rw [HE.out, ← HX.out, HI.out]
            rw [if_neg (by simp), List.append_nil]
            exact own_below HO.out ((Below.refl _ _).alloc (Nat.le_refl _) _)
    · have hkn : k = l.length := by have := HN.out; omega
      have hall : l.take k = l := by rw [hkn, List.take_length]
      have HO2 := HO.out
      have HM2 := HM.out
      rw [hall] at HO2 HM2
      have HO3 := Lib.hid HO2
      have HM3 := Lib.hid HM2
      clear HO2 HM2 hall
      go_wp2
      go_ret
      exact ⟨_, rfl, by rw [← HM3.out]; exact HO3.out, HB.out⟩

set_option maxHeartbeats 4000000 in
theorem rnames_any (l : List Nd) (v : Value) (w : World) (hv : Nds w v l) (hn : l.length ≤ 100000) :
    Calls Tryd.prog 18 #[v] w (NamesAns l w) := by
  obtain ⟨ad, cap, rfl, hc⟩ := hv.cases
  obtain ⟨n, hN⟩ : ∃ n, n = l.length := ⟨_, rfl⟩
  rw [← hN] at hn ⊢
  have HC := Lib.hid hc
  have HN := Lib.hid hN
  clear hc hN hv
  go_enter Tryd.func18, Tryd.ntmps18
  go_wp2_with fail
  go_loopg [3, 4] n (fun fuel v' i' wr => ∃ (k m cap2 : Nat) (ad2 : Option Addr), i' = .int .i64 k ∧ k ≤ n ∧ n - k ≤ fuel ∧ v' = .slice ad2 m cap2 ∧ m = (namesL (l.take k)).length ∧ wr.ownsRow w.heap.size 32 5 (.slice ad2 m cap2) m (rowN (namesL (l.take k))) ∧ Below w.heap.size w wr)
  case atStart => exact ⟨0, 0, 0, none, rfl, Nat.zero_le _, Nat.le_refl _, rfl, rfl, World.ownsRow_nil _ _ _ _, Below.refl _ _⟩
  case round =>
    obtain ⟨k, m, cap2, ad2, rfl, hk, hf, rfl, hm, ho, hb⟩ := hrel
    have HO := Lib.hid ho
    have HM := Lib.hid hm
    have HB := Lib.hid hb
    have hww := hb.size
    have hmk : m ≤ k := by rw [hm]; exact names_le l k
    clear ho hm hb
    by_cases hlt : k < n
    · have hk' : k < l.length := by have := HN.out; omega
      have HE := Lib.hid (names_at l k hk')
      obtain ⟨b, off, rfl, hbl, x0, x1, x2, x3, x4⟩ := HC.out k hk'
      obtain ⟨⟨xo, xn, xm, xi, xp⟩, hx⟩ : ∃ x, x = l[k] := ⟨_, rfl⟩
      have HX := Lib.hid hx
      rw [← hx] at x0 x1 x2 x3 x4
      simp only [] at x0 x1 x2 x3 x4
      clear hx
      have c0 : wr.cell? ⟨b, off + k * 5, none⟩ = some (.int .i64 xo) := (HB.out.cell (p := ⟨b, _, none⟩) hbl).trans x0
      have c1 : wr.cell? ⟨b, off + k * 5 + 1, none⟩ = some (.int .i64 xn) := (HB.out.cell (p := ⟨b, _, none⟩) hbl).trans x1
      have c2 : wr.cell? ⟨b, off + k * 5 + 2, none⟩ = some (.string xm) := (HB.out.cell (p := ⟨b, _, none⟩) hbl).trans x2
      have c3 : wr.cell? ⟨b, off + k * 5 + 3, none⟩ = some (.string xi) := (HB.out.cell (p := ⟨b, _, none⟩) hbl).trans x3
      have c4 : wr.cell? ⟨b, off + k * 5 + 4, none⟩ = some (.int .i64 xp) := (HB.out.cell (p := ⟨b, _, none⟩) hbl).trans x4
      clear x0 x1 x2 x3 x4
      by_cases hop : xo = 2 ∨ xo = 3 ∨ xo = 4
      · have HI : Hid (isNm ⟨xo, xn, xm, xi, xp⟩ = true) := decide_eq_true hop
        have HNEW := Lib.hid (own_new wr ⟨xo, xn, xm, xi, xp⟩)
        simp only [] at HNEW
        rcases hop with rfl | rfl | rfl
        all_goals
          go_wp2_with (at_builtin; refine append_nds rfl (.tmp 33) (.tmp 38) rfl w.heap.size _ m 1 _ _ (rowN (namesL (l.take k))) [⟨_, xn, xm, xi, xp⟩] rfl rfl (own_below HO.out ((Below.refl _ _).alloc (Nat.le_refl _) _)) HNEW.out rfl (by omega) (by simp; omega) ?_)
          intro v3 w3 hown3 hb3
          obtain ⟨ad4, cap4, rfl, _⟩ := own_shape hown3
          have HB3 := Lib.hid ((HB.out.alloc hww (.cells #[.int .i64 _, .int .i64 xn, .string xm, .string xi, .int .i64 xp] 32)).trans hb3)
          have HO3 := Lib.hid hown3
          clear hown3 hb3
          go_wp2_with fail
          go_roundg (gk - 1)
          case measure => omega
          case rel =>
            refine ⟨k + 1, m + 1, cap4, ad4, by go_num, hlt, (by rw [Nat.sub_add_eq]; exact Nat.sub_le_sub_right hf 1), rfl, ?_, ?_, HB3.out⟩
            · rw [HE.out, ← HX.out, HI.out, HM.out]; simp
            · rw [HE.out, ← HX.out, HI.out]
              have h := HO3.out
              rw [if_pos rfl, rowN_append]
              exact h
      · have HI : Hid (isNm ⟨xo, xn, xm, xi, xp⟩ = false) := decide_eq_false hop
        have q2 : (xo == 2) = false := by simp; omega
        have q3 : (xo == 3) = false := by simp; omega
        have q4 : (xo == 4) = false := by simp; omega
        clear hop
        go_wp2_with fail
        go_roundg (gk - 1)
        case measure => omega
        case rel =>
          refine ⟨k + 1, m, cap2, ad2, by go_num, by omega, by omega, rfl, ?_, ?_, HB.out⟩
          · rw [HE.out, ← HX.out, HI.out, HM.out]; simp
          · rw [HE.out, ← HX.out, HI.out]
            rw [if_neg (by simp), List.append_nil]
            exact HO.out
    · have hkn : k = l.length := by have := HN.out; omega
      have hall : l.take k = l := by rw [hkn, List.take_length]
      have HO2 := HO.out
      have HM2 := HM.out
      rw [hall] at HO2 HM2
      have HO3 := Lib.hid HO2
      have HM3 := Lib.hid HM2
      clear HO2 HM2 hall
      go_wp2
      go_ret
      exact ⟨_, rfl, by rw [← HM3.out]; exact HO3.out, HB.out⟩

end Go.Proofs.YtifbhlgingaahaaDoor
