/- Nodes as they lie in memory; what operands, kids, number and both End do. What both End do. What Light tells of nodes, and Same of nodes that are alike. The parser's block, what is kept beside it, and what token, sign, name, fail and refuse do. What fail and refuse do. What join does. What operator does. The reference's small functions on tokens. The parser as a plain function, and what its parts are. -/
import Derived.Test.YtlpgafgiljffhaaGreatDoorJ
import Derived.Deep.QuietTactic
import Derived.BigQuiet
import Derived.IntWalk
import Derived.StillTailTactics
import Derived.Deep.RegionHeld3
import Derived.Deep.RegionWith
import Derived.BigRegion
import Derived.Laws.AppendOwnNone
namespace Go.Proofs.YtlpgafgiljffhaaGreatDoor
open Go.RowKit
structure Nd where
  op : Int
  n : Int
  nm : ByteArray
  inn : ByteArray
  pl : Int
def Nd.cells (x : Nd) : List Value := [.int .i64 x.op, .int .i64 x.n, .string x.nm, .string x.inn, .int .i64 x.pl]
def rowN (l : List Nd) : List Value := l.flatMap Nd.cells
def NdAt (w : World) (b o : Nat) (x : Nd) : Prop :=
  w.cell? ⟨b, o, none⟩ = some (.int .i64 x.op) ∧ w.cell? ⟨b, o + 1, none⟩ = some (.int .i64 x.n) ∧ w.cell? ⟨b, o + 2, none⟩ = some (.string x.nm) ∧ w.cell? ⟨b, o + 3, none⟩ = some (.string x.inn) ∧ w.cell? ⟨b, o + 4, none⟩ = some (.int .i64 x.pl)
def Nds (w : World) (v : Value) (l : List Nd) : Prop :=
  (l = [] ∧ ∃ ad cap, v = .slice ad 0 cap) ∨
  ∃ b off cap, v = .slice (some ⟨b, off, none⟩) l.length cap ∧ b < w.heap.size ∧ ∀ i, (h : i < l.length) → NdAt w b (off + i * 5) l[i]
theorem NdAt.below {w w' : World} {B b o : Nat} {x : Nd} (h : NdAt w b o x) (hb : Below B w w') (hlt : b < B) : NdAt w' b o x := by
  obtain ⟨k0, k1, k2, k3, k4⟩ := h
  exact ⟨(hb.cell (p := ⟨b, _, none⟩) hlt).trans k0, (hb.cell (p := ⟨b, _, none⟩) hlt).trans k1, (hb.cell (p := ⟨b, _, none⟩) hlt).trans k2, (hb.cell (p := ⟨b, _, none⟩) hlt).trans k3, (hb.cell (p := ⟨b, _, none⟩) hlt).trans k4⟩
theorem Nds.below {w w' : World} {v : Value} {l : List Nd} (h : Nds w v l) (hb : Below w.heap.size w w') : Nds w' v l := by
  rcases h with h | ⟨b, off, cap, hv, hlt, hc⟩
  · exact .inl h
  · exact .inr ⟨b, off, cap, hv, Nat.lt_of_lt_of_le hlt hb.size, fun i hi => (hc i hi).below hb hlt⟩
theorem Nds.cases {w : World} {v : Value} {l : List Nd} (h : Nds w v l) : ∃ ad cap, v = .slice ad l.length cap ∧ ∀ i, (hi : i < l.length) → ∃ b off, ad = some ⟨b, off, none⟩ ∧ b < w.heap.size ∧ NdAt w b (off + i * 5) l[i] := by
  rcases h with ⟨rfl, ad, cap, rfl⟩ | ⟨b, off, cap, hv, hlt, hc⟩
  · exact ⟨ad, cap, rfl, fun i hi => absurd hi (Nat.not_lt_zero _)⟩
  · exact ⟨_, cap, hv, fun i hi => ⟨b, off, rfl, hlt, hc i hi⟩⟩
def ar (op : Int) : Int := if 1 ≤ op ∧ op ≤ 4 then 0 else if op = 5 then 1 else if 6 ≤ op ∧ op ≤ 14 then 2 else -1
theorem ar_cases (op : Int) : ar op = -1 ∨ ar op = 0 ∨ ar op = 1 ∨ ar op = 2 := by
  unfold ar; repeat' split
  all_goals omega
set_option maxRecDepth 100000 in
set_option maxHeartbeats 400000 in
theorem operands_any (op : Int) (w : World) :
    Calls Tryz.prog 123 #[.int .i64 op] w fun e w' => e = .returned (.int .i64 (ar op)) ∧ w = w' := by
  go_enter Tryz.func123, Tryz.ntmps123
  go_wp2
  all_goals
    go_ret
    exact ⟨ret_int (by simp_all [ar]; try omega), rfl⟩
set_option maxRecDepth 100000 in
set_option maxHeartbeats 400000 in
theorem kids_any (op : Int) (w : World) :
    Calls Tryz.prog 115 #[.int .i64 op] w fun e w' => e = .returned (.int .i64 (ar op)) ∧ w = w' := by
  go_enter Tryz.func115, Tryz.ntmps115
  go_wp2
  all_goals
    go_ret
    exact ⟨ret_int (by unfold ar; repeat' split
                       all_goals first | omega | (simp_all; try omega)), rfl⟩
def numB (n : Int) : Bool := decide (0 ≤ n ∧ n ≤ 9999)
set_option maxRecDepth 100000 in
set_option maxHeartbeats 400000 in
theorem number_any (n : Int) (w : World) :
    Calls Tryz.prog 124 #[.int .i64 n] w fun e w' => e = .returned (.bool (numB n)) ∧ w = w' := by
  go_enter Tryz.func124, Tryz.ntmps124
  go_wp2
  all_goals
    go_ret
    exact ⟨ret_bool (by rw [Bool.eq_iff_iff]; simp [numB]; try omega), rfl⟩
end Go.Proofs.YtlpgafgiljffhaaGreatDoor
namespace Go.Proofs.YtlpgafgiljffhaaGreatDoor
open Go.RowKit
def endF : List Nd → Int → Nat → Option Nat
  | [], _, _ => none
  | x :: r, m, k => if ar x.op < 0 then none else if m + (ar x.op - 1) = 0 then some (k + 1) else endF r (m + (ar x.op - 1)) (k + 1)
def endI (o : Option Nat) : Int := match o with | none => -1 | some j => j
def endL (l : List Nd) (i : Int) : Int := if i < 0 then -1 else endI (endF (l.drop i.toNat) 1 i.toNat)
theorem endF_at (l : List Nd) (k : Nat) (h : k < l.length) (m : Int) : endF (l.drop k) m k = if ar l[k].op < 0 then none else if m + (ar l[k].op - 1) = 0 then some (k + 1) else endF (l.drop (k + 1)) (m + (ar l[k].op - 1)) (k + 1) := by
  rw [List.drop_eq_getElem_cons h, endF]
theorem endF_over (l : List Nd) (k : Nat) (h : ¬ k < l.length) (m : Int) : endF (l.drop k) m k = none := by
  rw [List.drop_eq_nil_of_le (by omega), endF]
theorem endL_neg (l : List Nd) (i : Int) (h : i < 0) : endL l i = -1 := by unfold endL; rw [if_pos h]
theorem endL_nat (l : List Nd) (k : Nat) : endL l (k : Int) = endI (endF (l.drop k) 1 k) := by
  unfold endL; rw [if_neg (by omega)]; rfl
set_option maxRecDepth 100000 in
set_option maxHeartbeats 1000000 in
theorem end_nat (l : List Nd) (v : Value) (i : Nat) (w : World) (hv : Nds w v l) (hn : l.length ≤ 100000) :
    Calls Tryz.prog 107 #[v, .int .i64 i] w fun e w' => e = .returned (.int .i64 (endL l i)) ∧ w = w' := by
  rw [endL_nat]

  obtain ⟨ad, cap, rfl, hc⟩ := hv.cases
  obtain ⟨n, hN⟩ : ∃ n, n = l.length := ⟨_, rfl⟩
  rw [← hN] at hn ⊢
  have HC := Lib.hid hc
  have HN := Lib.hid hN
  clear hc hN hv
  obtain ⟨R, hR⟩ : ∃ R, endF (l.drop i) 1 i = R := ⟨_, rfl⟩
  rw [hR]
  have HR := Lib.hid hR; clear hR
  go_enter Tryz.func107, Tryz.ntmps107
  go_wp2
  go_loopg [1, 5] (n - i) (fun fuel i' m' wr => ∃ (k : Nat) (m : Int), i' = .int .i64 k ∧ m' = .int .i64 m ∧ n - k ≤ fuel ∧ 0 < m ∧ m ≤ 1 + k ∧ endF (l.drop k) m k = R ∧ w = wr)
  case atStart => exact ⟨i, 1, rfl, rfl, Nat.le_refl _, by omega, by omega, HR.out, rfl⟩
  case round =>
    obtain ⟨k, m, rfl, rfl, hf, hm0, hm1, hr, rfl⟩ := hrel
    have HR2 := Lib.hid hr; clear hr
    by_cases hlt : k < n
    · have hk' : k < l.length := by have := HN.out; omega
      have HE := Lib.hid (endF_at l k hk' m)
      obtain ⟨b, off, rfl, _, c0, _⟩ := HC.out k hk'
      obtain ⟨o, ho⟩ : ∃ o, o = l[k].op := ⟨_, rfl⟩
      have HO := Lib.hid ho
      rw [← ho] at c0
      clear ho
      obtain ⟨a, ha⟩ : ∃ a, a = ar o := ⟨_, rfl⟩
      have hab : -1 ≤ a ∧ a ≤ 2 := by have := ar_cases o; omega
      obtain ⟨hab1, hab2⟩ := hab
      have HA : ∀ w, Calls Tryz.prog 123 #[.int .i64 o] w fun e w' => e = .returned (.int .i64 a) ∧ w = w' := fun w => ha ▸ operands_any o w
      have HAA := Lib.hid ha
      clear ha
      have HL := Lib.hid hlt
      have hm2 : m ≤ 1000000000000000 := by omega
      have hm3 : -1 ≤ m + (a - 1) := by omega
      have hm4 : m + (a - 1) ≤ 1000000000000000 := by omega
      by_cases h1 : a < 0
      · go_wp2_with (go_at_call 123; refine (HA _).mono ?_; rintro e w2 ⟨rfl, rfl⟩)
        go_ret
        refine ⟨ret_int ?_, rfl⟩
        have := HR2.out
        rw [HE.out, ← HO.out, ← HAA.out, if_pos h1] at this
        subst this; rfl
      · by_cases h2 : m + (a - 1) = 0
        · have q2 : ((m + (a - 1)) == 0) = true := by simpa using h2
          have H2 := Lib.hid h2; clear h2
          go_wp2_with (go_at_call 123; refine (HA _).mono ?_; rintro e w2 ⟨rfl, rfl⟩)
          go_ret
          refine ⟨ret_int ?_, rfl⟩
          have := HR2.out
          rw [HE.out, ← HO.out, ← HAA.out, if_neg (by omega), if_pos H2.out] at this
          subst this; simp [endI]
        · have q2 : ((m + (a - 1)) == 0) = false := by simpa using h2
          have H2 := Lib.hid h2; clear h2
          go_wp2_with (go_at_call 123; refine (HA _).mono ?_; rintro e w2 ⟨rfl, rfl⟩)
          go_roundg (gk - 1)
          case measure => have := HL.out; omega
          case rel =>
            have h2 := H2.out
            refine ⟨k + 1, m + (a - 1), by go_num, rfl, by omega, by omega, by omega, ?_, rfl⟩
            have := HR2.out
            rw [HE.out, ← HO.out, ← HAA.out, if_neg (by omega), if_neg h2] at this
            exact this
    · have HE := Lib.hid (endF_over l k (by have := HN.out; omega) m)
      go_wp2
      go_ret
      exact ⟨ret_int (by rw [← HR2.out, HE.out]; rfl), rfl⟩
set_option maxRecDepth 100000 in
set_option maxHeartbeats 400000 in
theorem end_neg (v : Value) (i : Int) (w : World) (h : i < 0) :
    Calls Tryz.prog 107 #[v, .int .i64 i] w fun e w' => e = .returned (.int .i64 (-1)) ∧ w = w' := by
  go_enter Tryz.func107, Tryz.ntmps107
  go_wp2
  go_ret
  exact ⟨rfl, rfl⟩
theorem end_any (l : List Nd) (v : Value) (i : Int) (w : World) (hv : Nds w v l) (hn : l.length ≤ 100000) :
    Calls Tryz.prog 107 #[v, .int .i64 i] w fun e w' => e = .returned (.int .i64 (endL l i)) ∧ w = w' := by
  by_cases h : i < 0
  · rw [endL_neg l i h]; exact end_neg v i w h
  · obtain ⟨k, rfl⟩ : ∃ k : Nat, i = k := ⟨i.toNat, by omega⟩
    exact end_nat l v k w hv hn
set_option maxRecDepth 100000 in
set_option maxHeartbeats 1000000 in
theorem rend_nat (l : List Nd) (v : Value) (i : Nat) (w : World) (hv : Nds w v l) (hn : l.length ≤ 100000) :
    Calls Tryz.prog 95 #[v, .int .i64 i] w fun e w' => e = .returned (.int .i64 (endL l i)) ∧ w = w' := by
  rw [endL_nat]

  obtain ⟨ad, cap, rfl, hc⟩ := hv.cases
  obtain ⟨n, hN⟩ : ∃ n, n = l.length := ⟨_, rfl⟩
  rw [← hN] at hn ⊢
  have HC := Lib.hid hc
  have HN := Lib.hid hN
  clear hc hN hv
  obtain ⟨R, hR⟩ : ∃ R, endF (l.drop i) 1 i = R := ⟨_, rfl⟩
  rw [hR]
  have HR := Lib.hid hR; clear hR
  go_enter Tryz.func95, Tryz.ntmps95
  go_wp2
  go_loopg [5, 6] (n - i) (fun fuel m' i' wr => ∃ (k : Nat) (m : Int), i' = .int .i64 k ∧ m' = .int .i64 m ∧ n - k ≤ fuel ∧ 0 < m ∧ m ≤ 1 + k ∧ endF (l.drop k) m k = R ∧ w = wr)
  case atStart => exact ⟨i, 1, rfl, rfl, Nat.le_refl _, by omega, by omega, HR.out, rfl⟩
  case round =>
    obtain ⟨k, m, rfl, rfl, hf, hm0, hm1, hr, rfl⟩ := hrel
    have HR2 := Lib.hid hr; clear hr
    by_cases hlt : k < n
    · have hk' : k < l.length := by have := HN.out; omega
      have HE := Lib.hid (endF_at l k hk' m)
      obtain ⟨b, off, rfl, _, c0, _⟩ := HC.out k hk'
      obtain ⟨o, ho⟩ : ∃ o, o = l[k].op := ⟨_, rfl⟩
      have HO := Lib.hid ho
      rw [← ho] at c0
      clear ho
      obtain ⟨a, ha⟩ : ∃ a, a = ar o := ⟨_, rfl⟩
      have hab : -1 ≤ a ∧ a ≤ 2 := by have := ar_cases o; omega
      obtain ⟨hab1, hab2⟩ := hab
      have HA : ∀ w, Calls Tryz.prog 115 #[.int .i64 o] w fun e w' => e = .returned (.int .i64 a) ∧ w = w' := fun w => ha ▸ kids_any o w
      have HAA := Lib.hid ha
      clear ha
      have HL := Lib.hid hlt
      have hm2 : m ≤ 1000000000000000 := by omega
      have hm3 : -1 ≤ m - 1 + a := by omega
      have hm4 : m - 1 + a ≤ 1000000000000000 := by omega
      by_cases h1 : a < 0
      · go_wp2_with (go_at_call 115; refine (HA _).mono ?_; rintro e w2 ⟨rfl, rfl⟩)
        go_ret
        refine ⟨ret_int ?_, rfl⟩
        have := HR2.out
        rw [HE.out, ← HO.out, ← HAA.out, if_pos h1] at this
        subst this; rfl
      · by_cases h2 : m + (a - 1) = 0
        · have q2 : ((m - 1 + a) == 0) = true := by simp; omega
          have H2 := Lib.hid h2; clear h2
          go_wp2_with (go_at_call 115; refine (HA _).mono ?_; rintro e w2 ⟨rfl, rfl⟩)
          go_ret
          refine ⟨ret_int ?_, rfl⟩
          have := HR2.out
          rw [HE.out, ← HO.out, ← HAA.out, if_neg (by omega), if_pos H2.out] at this
          subst this; simp [endI]
        · have q2 : ((m - 1 + a) == 0) = false := by simp; omega
          have H2 := Lib.hid h2; clear h2
          go_wp2_with (go_at_call 115; refine (HA _).mono ?_; rintro e w2 ⟨rfl, rfl⟩)
          go_roundg (gk - 1)
          case measure => have := HL.out; omega
          case rel =>
            have h2 := H2.out
            refine ⟨k + 1, m + (a - 1), by go_num, by rw [show m + (a - 1) = m - 1 + a by omega], by omega, by omega, by omega, ?_, rfl⟩
            have := HR2.out
            rw [HE.out, ← HO.out, ← HAA.out, if_neg (by omega), if_neg h2] at this
            exact this
    · have HE := Lib.hid (endF_over l k (by have := HN.out; omega) m)
      go_wp2
      go_ret
      exact ⟨ret_int (by rw [← HR2.out, HE.out]; rfl), rfl⟩
set_option maxRecDepth 100000 in
set_option maxHeartbeats 400000 in
theorem rend_neg (v : Value) (i : Int) (w : World) (h : i < 0) :
    Calls Tryz.prog 95 #[v, .int .i64 i] w fun e w' => e = .returned (.int .i64 (-1)) ∧ w = w' := by
  go_enter Tryz.func95, Tryz.ntmps95
  go_wp2
  go_ret
  exact ⟨rfl, rfl⟩
theorem rend_any (l : List Nd) (v : Value) (i : Int) (w : World) (hv : Nds w v l) (hn : l.length ≤ 100000) :
    Calls Tryz.prog 95 #[v, .int .i64 i] w fun e w' => e = .returned (.int .i64 (endL l i)) ∧ w = w' := by
  by_cases h : i < 0
  · rw [endL_neg l i h]; exact rend_neg v i w h
  · obtain ⟨k, rfl⟩ : ∃ k : Nat, i = k := ⟨i.toNat, by omega⟩
    exact rend_nat l v k w hv hn
end Go.Proofs.YtlpgafgiljffhaaGreatDoor
namespace Go.Proofs.YtlpgafgiljffhaaGreatDoor
open Go.RowKit
def lightN (x : Nd) : Bool := decide (x.nm.size ≤ 100 ∧ x.inn.size ≤ 100)
def lightB (l : List Nd) : Bool := decide (l.length ≤ 250) && l.all lightN
theorem all_at (p : Nd → Bool) (l : List Nd) (k : Nat) (h : k < l.length) : (l.drop k).all p = (p l[k] && (l.drop (k + 1)).all p) := by
  rw [List.drop_eq_getElem_cons h, List.all_cons]
theorem all_over (p : Nd → Bool) (l : List Nd) (k : Nat) (h : ¬ k < l.length) : (l.drop k).all p = true := by
  rw [List.drop_eq_nil_of_le (by omega)]; rfl
set_option maxRecDepth 100000 in
set_option maxHeartbeats 400000 in
theorem light_big (l : List Nd) (v : Value) (w : World) (hv : Nds w v l) (hn : l.length ≤ maxLen) (h : 250 < l.length) :
    Calls Tryz.prog 20 #[v] w fun e w' => e = .returned (.bool (lightB l)) ∧ w = w' := by
  have hb : lightB l = false := by simp [lightB]; omega
  rw [hb]
  obtain ⟨ad, cap, rfl, _⟩ := hv.cases
  unfold maxLen at hn
  clear hv hb
  go_enter Tryz.func20, Tryz.ntmps20
  go_wp2
  go_ret
  exact ⟨rfl, rfl⟩
set_option maxRecDepth 100000 in
set_option maxHeartbeats 1000000 in
theorem light_small (l : List Nd) (v : Value) (w : World) (hv : Nds w v l) (h : l.length ≤ 250) :
    Calls Tryz.prog 20 #[v] w fun e w' => e = .returned (.bool (lightB l)) ∧ w = w' := by
  have hb : lightB l = (l.drop 0).all lightN := by simp [lightB, h]
  rw [hb]
  obtain ⟨R, hR⟩ : ∃ R, (l.drop 0).all lightN = R := ⟨_, rfl⟩
  rw [hR]
  have HR := Lib.hid hR
  clear hR
  obtain ⟨ad, cap, rfl, hc⟩ := hv.cases
  obtain ⟨n, hN⟩ : ∃ n, n = l.length := ⟨_, rfl⟩
  rw [← hN] at h ⊢
  have HC := Lib.hid hc
  have HN := Lib.hid hN
  clear hc hN hv hb
  go_enter Tryz.func20, Tryz.ntmps20
  go_wp2
  go_loopg [3] n (fun fuel i' wr => ∃ k : Nat, i' = .int .i64 k ∧ k ≤ n ∧ n - k ≤ fuel ∧ R = (l.drop k).all lightN ∧ w = wr)
  case atStart => exact ⟨0, rfl, Nat.zero_le _, Nat.le_refl _, HR.out.symm, rfl⟩
  case round =>
    obtain ⟨k, rfl, hk, hf, ha, rfl⟩ := hrel
    have HA := Lib.hid ha; clear ha
    by_cases hlt : k < n
    · have hk' : k < l.length := by have := HN.out; omega
      have HE := Lib.hid (all_at lightN l k hk')
      obtain ⟨b, off, rfl, _, _, _, c2, c3, _⟩ := HC.out k hk'
      obtain ⟨x, hx⟩ : ∃ x, x = l[k] := ⟨_, rfl⟩
      have HX := Lib.hid hx
      rw [← hx] at c2 c3
      clear hx
      obtain ⟨xo, xn, xnm, xin, xp⟩ := x
      simp only [] at c2 c3
      by_cases h1 : 100 < xnm.size
      · go_wp2
        go_ret
        exact ⟨ret_bool (by rw [HA.out, HE.out, ← HX.out]; simp [lightN]; omega), rfl⟩
      · by_cases h2 : 100 < xin.size
        · go_wp2
          go_ret
          exact ⟨ret_bool (by rw [HA.out, HE.out, ← HX.out]; simp [lightN]; omega), rfl⟩
        · go_wp2
          go_roundg (gk - 1)
          case measure => omega
          case rel => exact ⟨k + 1, by go_num, by omega, by omega, by rw [HA.out, HE.out, ← HX.out]; simp [lightN]; omega, rfl⟩
    · have HE := Lib.hid (all_over lightN l k (by have := HN.out; omega))
      go_wp2
      go_ret
      exact ⟨ret_bool (by rw [HA.out, HE.out]), rfl⟩
theorem light_any (l : List Nd) (v : Value) (w : World) (hv : Nds w v l) (hn : l.length ≤ maxLen) (b : Bool) (hb : lightB l = b) :
    Calls Tryz.prog 20 #[v] w fun e w' => e = .returned (.bool b) ∧ w = w' := by
  subst hb
  by_cases h : 250 < l.length
  · exact light_big l v w hv hn h
  · exact light_small l v w hv (by omega)
def alikeN (p : Bool) (a b : Nd) : Prop := a.op = b.op ∧ a.n = b.n ∧ a.nm = b.nm ∧ a.inn = b.inn ∧ (p = true → a.pl = b.pl)
end Go.Proofs.YtlpgafgiljffhaaGreatDoor

namespace Go.Proofs.YtlpgafgiljffhaaGreatDoor
open Go.RowKit
structure Keep (b : Nat) (w w' : World) : Prop where
  os : w'.os = w.os
  tape : w'.tape = w.tape
  output : w'.output = w.output
  size : w.heap.size ≤ w'.heap.size
  block : ∀ k, k < w.heap.size → k ≠ b → w'.heap[k]? = w.heap[k]?
theorem Keep.refl (b : Nat) (w : World) : Keep b w w := ⟨rfl, rfl, rfl, Nat.le_refl _, fun _ _ _ => rfl⟩
theorem Keep.trans {b : Nat} {x y z : World} (h : Keep b x y) (k : Keep b y z) : Keep b x z :=
  ⟨k.os.trans h.os, k.tape.trans h.tape, k.output.trans h.output, Nat.le_trans h.size k.size, fun i hi hb => (k.block i (Nat.lt_of_lt_of_le hi h.size) hb).trans (h.block i hi hb)⟩
theorem Below.keep {b : Nat} {w w' : World} (h : Below w.heap.size w w') : Keep b w w' := ⟨h.os, h.tape, h.output, h.size, fun k hk _ => h.block k hk⟩
theorem Keep.below {b : Nat} {x w w' : World} (h : Keep b x w) (k : Below w.heap.size w w') : Keep b x w' := h.trans (Below.keep k)
theorem Keep.setCell {b : Nat} {x w : World} (h : Keep b x w) (o : Nat) (u : Value) : Keep b x (w.setCell ⟨b, o, none⟩ u) :=
  h.trans ⟨rfl, rfl, rfl, by simp [World.setCell], fun k _ hb => Below.heap_setCell _ _ _ _ hb⟩
theorem Keep.under {b : Nat} {w w' : World} (h : Keep b w w') (hb : b ≤ w.heap.size) : Below b w w' :=
  ⟨h.os, h.tape, h.output, h.size, fun k hk => h.block k (by omega) (by omega)⟩
theorem Keep.cell {b : Nat} {w w' : World} (h : Keep b w w') {p : Addr} (h1 : p.block < w.heap.size) (h2 : p.block ≠ b) : w'.cell? p = w.cell? p := World.cell?_of_block (w := w) (h.block p.block h1 h2)
theorem own_keep {w w' : World} {B e size n b : Nat} {v : Value} {xs : List Value} (h : w.ownsRow B e size v n xs) (hb : Keep b w w') (hB : b < B) : w'.ownsRow B e size v n xs := by
  obtain ⟨h1, h2⟩ := h
  refine ⟨h1, ?_⟩
  rcases h2 with h2 | ⟨g, cap, cur, hv, hg, hh, r⟩
  · exact .inl h2
  · exact .inr ⟨g, cap, cur, hv, hg, by rw [hb.block g (Array.getElem?_eq_some_iff.1 hh).1 (by omega)]; exact hh, r⟩
def TokS (w : World) (b : Nat) (v : Value) (l : List Tok) : Prop :=
  ∃ ad cap, v = .slice ad l.length cap ∧ ∀ i, (hi : i < l.length) → ∃ g, ad = some ⟨g, 0, none⟩ ∧ g < w.heap.size ∧ g ≠ b ∧
    w.cell? ⟨g, i * 4, none⟩ = some (.int .i64 l[i].1) ∧ w.cell? ⟨g, i * 4 + 1, none⟩ = some (.string ⟨l[i].2.1.toArray⟩) ∧ w.cell? ⟨g, i * 4 + 2, none⟩ = some (.int .i64 l[i].2.2.1) ∧ w.cell? ⟨g, i * 4 + 3, none⟩ = some (.int .i64 l[i].2.2.2)
theorem TokS.keep {w w' : World} {b : Nat} {v : Value} {l : List Tok} (h : TokS w b v l) (hb : Keep b w w') : TokS w' b v l := by
  obtain ⟨ad, cap, hv, hc⟩ := h
  refine ⟨ad, cap, hv, fun i hi => ?_⟩
  obtain ⟨g, hg, h1, h2, k0, k1, k2, k3⟩ := hc i hi
  exact ⟨g, hg, Nat.lt_of_lt_of_le h1 hb.size, h2, (hb.cell (p := ⟨g, _, none⟩) h1 h2).trans k0, (hb.cell (p := ⟨g, _, none⟩) h1 h2).trans k1, (hb.cell (p := ⟨g, _, none⟩) h1 h2).trans k2, (hb.cell (p := ⟨g, _, none⟩) h1 h2).trans k3⟩
def tokO (l : List Tok) (i : Nat) : Tok := (l[i]?).getD (0, [], 0, 0)
def sgAt (l : List Tok) (i : Nat) (x : List UInt8) : Bool := decide ((tokO l i).1 = 3) && ((tokO l i).2.1 == x)
def nmAt (l : List Tok) (i : Nat) : Bool := decide ((tokO l i).1 = 1) && nameB ⟨(tokO l i).2.1.toArray⟩
end Go.Proofs.YtlpgafgiljffhaaGreatDoor
namespace Go.Proofs.YtlpgafgiljffhaaGreatDoor
open Go.RowKit
theorem Keep.alloc {b : Nat} {x w : World} (h : Keep b x w) (o : Obj) : Keep b x (w.alloc o) := h.below ((Below.refl _ _).alloc (Nat.le_refl _) _)
theorem Keep.drewN {b : Nat} {x w : World} (h : Keep b x w) (n : Nat) : Keep b x (w.drewN n) := h.trans ⟨rfl, rfl, rfl, Nat.le_refl _, fun _ _ _ => rfl⟩
def refK (l : List Tok) (i : Nat) : Nat × Nat := if i < l.length then (5, (tokO l i).2.2.2) else (6, if l.length = 0 then 0 else (tokO l (l.length - 1)).2.2.2 + (tokO l (l.length - 1)).2.1.length)
theorem tokO_in (l : List Tok) (i : Nat) (h : i < l.length) : tokO l i = l[i] := by unfold tokO; rw [List.getElem?_eq_getElem h]; rfl
def TokOK (l : List Tok) : Prop := ∀ i, (tokO l i).2.2.2 ≤ 100000 ∧ (tokO l i).2.1.length ≤ 100000 ∧ (tokO l i).2.2.1 ≤ 100000
end Go.Proofs.YtlpgafgiljffhaaGreatDoor
namespace Go.Proofs.YtlpgafgiljffhaaGreatDoor
open Go.RowKit
structure PtR where
  ad : Option Addr
  cap : Nat
  s : Int
  d : Int
  xs : List Nd
def PtR.nv (p : PtR) : Value := .slice p.ad p.xs.length p.cap
theorem drop_over {α : Type} (l : List α) (k : Nat) (h : ¬ k < l.length) : l.drop k = [] := List.drop_eq_nil_of_le (by omega)
def Blk5 (W : World) (b : Nat) (x : Nd) : Prop := W.heap[b]? = some (.cells #[.int .i64 x.op, .int .i64 x.n, .string x.nm, .string x.inn, .int .i64 x.pl] 65 (0, 0))
theorem Blk5.lt {W : World} {b : Nat} {x : Nd} (h : Blk5 W b x) : b < W.heap.size := (Array.getElem?_eq_some_iff.1 h).1
theorem Blk5.below {W W' : World} {b : Nat} {x : Nd} (h : Blk5 W b x) (hb : Below W.heap.size W W') : Blk5 W' b x := by
  have := Blk5.lt h
  unfold Blk5 at *; rw [hb.block b this]; exact h
theorem Blk5.facts {W : World} {b : Nat} {x : Nd} (h : Blk5 W b x) :
    (W.cell? ⟨b, 0, none⟩ = some (.int .i64 x.op) ∧ W.cell? ⟨b, 1, none⟩ = some (.int .i64 x.n) ∧ W.cell? ⟨b, 2, none⟩ = some (.string x.nm) ∧ W.cell? ⟨b, 3, none⟩ = some (.string x.inn) ∧ W.cell? ⟨b, 4, none⟩ = some (.int .i64 x.pl)) ∧
    W.frozen? ⟨b, 0, none⟩ = false ∧ W.frozen? ⟨b, 1, none⟩ = false ∧ W.frozen? ⟨b, 2, none⟩ = false ∧ W.frozen? ⟨b, 3, none⟩ = false ∧ W.frozen? ⟨b, 4, none⟩ = false := by
  unfold Blk5 at h
  simp [World.cell?, World.frozen?, h]
def PtsAt (w : World) (v : Value) (ps : List PtR) : Prop :=
  ∃ ad cap, v = .slice ad ps.length cap ∧ ∀ i, (hi : i < ps.length) → ∃ g, ad = some ⟨g, 0, none⟩ ∧ g < w.heap.size ∧
    w.cell? ⟨g, i * 3, none⟩ = some ps[i].nv ∧ w.cell? ⟨g, i * 3 + 1, none⟩ = some (.int .i64 ps[i].s) ∧ w.cell? ⟨g, i * 3 + 2, none⟩ = some (.int .i64 ps[i].d)
theorem PtsAt.below {w w' : World} {v : Value} {ps : List PtR} (h : PtsAt w v ps) (hb : Below w.heap.size w w') : PtsAt w' v ps := by
  obtain ⟨ad, cap, hv, hc⟩ := h
  refine ⟨ad, cap, hv, fun i hi => ?_⟩
  obtain ⟨g, hg, h1, k0, k1, k2⟩ := hc i hi
  exact ⟨g, hg, Nat.lt_of_lt_of_le h1 hb.size, (hb.cell (p := ⟨g, _, none⟩) h1).trans k0, (hb.cell (p := ⟨g, _, none⟩) h1).trans k1, (hb.cell (p := ⟨g, _, none⟩) h1).trans k2⟩
theorem Blk5.other {w : World} {b : Nat} {x : Nd} (h : Blk5 w b x) (g o : Nat) (hg : b ≠ g) (u : Value) : Blk5 (w.setCell ⟨g, o, none⟩ u) b x := by
  unfold Blk5 at *; rw [Below.heap_setCell _ _ _ _ (by exact hg)]; exact h
theorem Blk5.alloc {w : World} {b : Nat} {x : Nd} (h : Blk5 w b x) (o : Obj) : Blk5 (w.alloc o) b x := h.below ((Below.refl _ _).alloc (Nat.le_refl _) _)
theorem info32 : (Tryz.prog.info? 65).map (fun i => (i.zero, i.size, i.bytes)) = some (some (.agg #[.int .i64 0, .int .i64 0, .string ⟨#[]⟩, .string ⟨#[]⟩, .int .i64 0]), 5, 56) := by kernel_rfl
theorem rowN_length (l : List Nd) : (rowN l).length = l.length * 5 := by
  unfold rowN
  induction l with
  | nil => rfl
  | cons a l ih => simp only [List.flatMap_cons, List.length_append, ih, List.length_cons, Nd.cells, List.length_nil]; omega
theorem rowN_one (l : List Nd) : ∀ u ∈ rowN l, u.oneCell' = true := by
  intro u h
  unfold rowN at h
  rw [List.mem_flatMap] at h
  obtain ⟨t, _, h⟩ := h
  simp [Nd.cells] at h
  rcases h with rfl | rfl | rfl | rfl | rfl <;> rfl
theorem rowN_append (a b : List Nd) : rowN (a ++ b) = rowN a ++ rowN b := by simp [rowN]
theorem own_mono {w : World} {B B' e size n : Nat} {v : Value} {xs : List Value} (h : w.ownsRow B e size v n xs) (hB : B' ≤ B) : w.ownsRow B' e size v n xs := by
  obtain ⟨h1, h2⟩ := h
  refine ⟨h1, ?_⟩
  rcases h2 with h2 | ⟨g, cap, cur, hv, hg, hh, r⟩
  · exact .inl h2
  · exact .inr ⟨g, cap, cur, hv, Nat.le_trans hB hg, hh, r⟩
theorem own_shape {w : World} {B n e size : Nat} {v : Value} {xs : List Value} (h : w.ownsRow B e size v n xs) : ∃ ad cap, v = .slice ad n cap ∧ ((ad = none ∧ n = 0 ∧ cap = 0) ∨ ∃ g, ad = some ⟨g, 0, none⟩ ∧ B ≤ g ∧ g < w.heap.size) := by
  have hl := h.lt
  rcases h.2 with ⟨rfl, rfl⟩ | ⟨g, cap', cur, rfl, hb, hg, _⟩
  · exact ⟨none, 0, rfl, .inl ⟨rfl, rfl, rfl⟩⟩
  · exact ⟨_, cap', rfl, .inr ⟨g, rfl, hl g rfl⟩⟩
theorem append_nds {w : World} {ops : Array Oper} {rest : List Oper} {o : Oper} {a : Act} {Q : Exit → Act → World → Prop} (hgd : o.guard = none) (s x : Operand)
    (ho : o.op = .call { callee := .builtin .append, args := #[s, x], argTypes := #[47, 47] }) (base B n m : Nat) (v u : Value) (xs : List Value) (l : List Nd) (hs : a.eval s = v) (hx : a.eval x = u)
    (hown : w.ownsRow base 65 5 v n xs) (hu : w.ownsRow B 65 5 u m (rowN l)) (hm : m = l.length) (hn : n + m ≤ 1000000) (hbase : base ≤ w.heap.size)
    (h : ∀ v' w', w'.ownsRow base 65 5 v' (n + m) (xs ++ rowN l) → Below base w w' → wpList Tryz.prog ops Q rest (a.put o.dst v') w') : wpList Tryz.prog ops Q (o :: rest) a w := by
  obtain ⟨i0, hi, hz0, hz1, hz2⟩ := info_parts info32
  have hc := @World.ownsRow.cells _ _ _ _ _ _ _ hu
  subst hm
  rcases hu.2 with ⟨rfl, h0⟩ | ⟨g, cap, cur, rfl, _⟩
  · obtain rfl := List.eq_nil_of_length_eq_zero h0
    refine wpList_append_own_none hgd s x 47 ho base 65 i0 5 Tryz.underlying47 hi v n xs hs hown hx ?_
    have := h v w
    rw [show rowN [] = [] from rfl, List.append_nil] at this
    exact this hown (Below.refl _ _)
  · refine wpList_append_own _ hgd s x 47 ho base 65 i0 (.agg #[.int .i64 0, .int .i64 0, .string ⟨#[]⟩, .string ⟨#[]⟩, .int .i64 0]) 5 56 Tryz.underlying47 hi hz0 hz1 hz2 rfl (by decide) v n xs hs hown ⟨g, 0, none⟩ l.length cap (rowN l) hx
      (by rw [rowN_length]) (hc rfl) (rowN_one l) (by unfold maxLen; omega) (by omega) hbase ?_
    intro v' w' h1 h2 _
    exact h v' w' h1 ((Below.refl base w).grown h2 hbase (fun k hk => (hown.lt k hk).1))
theorem own_new (w : World) (x : Nd) : (w.alloc (.cells #[.int .i64 x.op, .int .i64 x.n, .string x.nm, .string x.inn, .int .i64 x.pl] 65)).ownsRow w.heap.size 65 5 (.slice (some ⟨w.heap.size, 0, none⟩) 1 1) 1 (rowN [x]) :=
  ⟨rfl, .inr ⟨w.heap.size, 1, _, rfl, Nat.le_refl _, heap_alloc_new w _, Nat.le_refl _, by unfold maxLen; decide, rfl, rfl⟩⟩
end Go.Proofs.YtlpgafgiljffhaaGreatDoor
namespace Go.Proofs.YtlpgafgiljffhaaGreatDoor
open Go.RowKit
def sgT : List (List UInt8) := [[], [], [], [], [], [33], [43], [45], [42], [61, 61], [33, 61], [60], [60, 61], [38, 38], [124, 124]]
def sgO (op : Nat) : List UInt8 := sgT.getD op []
def sgV (op : Nat) : ByteArray := ⟨(sgO op).toArray⟩
def which (l : List Tok) (i : Nat) : List Nat → Nat
  | [] => 0
  | o :: r => if sgAt l i (sgO o) then o else which l i r
def Ints (w : World) (v : Value) (os : List Nat) : Prop :=
  ∃ g cap, v = .slice (some ⟨g, 0, none⟩) os.length cap ∧ g < w.heap.size ∧ ∀ i, (hi : i < os.length) → w.cell? ⟨g, i, none⟩ = some (.int .i64 os[i])
theorem Ints.below {w w' : World} {v : Value} {os : List Nat} (h : Ints w v os) (hb : Below w.heap.size w w') : Ints w' v os := by
  obtain ⟨g, cap, hv, hg, hc⟩ := h
  exact ⟨g, cap, hv, Nat.lt_of_lt_of_le hg hb.size, fun i hi => (hb.cell (p := ⟨g, i, none⟩) hg).trans (hc i hi)⟩
theorem which_at (l : List Tok) (i : Nat) (os : List Nat) (k : Nat) (h : k < os.length) : which l i (os.drop k) = if sgAt l i (sgO os[k]) then os[k] else which l i (os.drop (k + 1)) := by
  rw [List.drop_eq_getElem_cons h, which]
end Go.Proofs.YtlpgafgiljffhaaGreatDoor

namespace Go.Proofs.YtlpgafgiljffhaaGreatDoor
open Go.RowKit
def TokC (w : World) (v : Value) (l : List Tok) : Prop :=
  ∃ ad cap, v = .slice ad l.length cap ∧ ∀ i, (hi : i < l.length) → ∃ g, ad = some ⟨g, 0, none⟩ ∧ g < w.heap.size ∧
    w.cell? ⟨g, i * 4, none⟩ = some (.int .i64 l[i].1) ∧ w.cell? ⟨g, i * 4 + 1, none⟩ = some (.string ⟨l[i].2.1.toArray⟩) ∧ w.cell? ⟨g, i * 4 + 2, none⟩ = some (.int .i64 l[i].2.2.1) ∧ w.cell? ⟨g, i * 4 + 3, none⟩ = some (.int .i64 l[i].2.2.2)
theorem TokC.below {w w' : World} {v : Value} {l : List Tok} (h : TokC w v l) (hb : Below w.heap.size w w') : TokC w' v l := by
  obtain ⟨ad, cap, hv, hc⟩ := h
  refine ⟨ad, cap, hv, fun i hi => ?_⟩
  obtain ⟨g, hg, h1, k0, k1, k2, k3⟩ := hc i hi
  exact ⟨g, hg, Nat.lt_of_lt_of_le h1 hb.size, (hb.cell (p := ⟨g, _, none⟩) h1).trans k0, (hb.cell (p := ⟨g, _, none⟩) h1).trans k1, (hb.cell (p := ⟨g, _, none⟩) h1).trans k2, (hb.cell (p := ⟨g, _, none⟩) h1).trans k3⟩
theorem refK_in (l : List Tok) (i : Nat) (h : i < l.length) : refK l i = (5, l[i].2.2.2) := by unfold refK; rw [if_pos h, tokO_in l i h]
set_option maxRecDepth 100000 in
set_option maxHeartbeats 1000000 in
theorem rplace_any (l : List Tok) (v : Value) (i : Nat) (w : World) (ht : TokC w v l) (hn : l.length ≤ 100000) (hok : TokOK l) :
    Calls Tryz.prog 112 #[v, .int .i64 i] w fun e w' => e = .returned (.int .i64 (refK l i).2) ∧ Below w.heap.size w w' := by
  obtain ⟨ad, cap, rfl, hc⟩ := ht
  by_cases hlt : i < l.length
  · obtain ⟨g, rfl, hg, k0, k1, k2, k3⟩ := hc i hlt
    rw [refK_in l i hlt]
    obtain ⟨p, hp⟩ : ∃ p, p = l[i].2.2.2 := ⟨_, rfl⟩
    rw [← hp] at k3 ⊢
    obtain ⟨n, hN⟩ : ∃ n, n = l.length := ⟨_, rfl⟩
    rw [← hN]
    have hlt' : i < n := by omega
    clear hc hok k0 k1 k2 hp hN hlt
    go_enter Tryz.func112, Tryz.ntmps112
    go_wp2
    go_ret
    exact ⟨rfl, Below.refl _ _⟩
  · by_cases h0 : l.length = 0
    · have hr : refK l i = (6, 0) := by unfold refK; rw [if_neg hlt, if_pos h0]
      rw [hr, h0]
      clear hc hok hlt hr
      go_enter Tryz.func112, Tryz.ntmps112
      go_wp2
      go_ret
      exact ⟨rfl, Below.refl _ _⟩
    · have hl : l.length - 1 < l.length := by omega
      have hr : refK l i = (6, l[l.length - 1].2.2.2 + l[l.length - 1].2.1.length) := by unfold refK; rw [if_neg hlt, if_neg h0, tokO_in l _ hl]
      obtain ⟨g, rfl, hg, k0, k1, k2, k3⟩ := hc _ hl
      have h1 := hok (l.length - 1)
      rw [tokO_in l _ hl] at h1
      rw [hr]
      obtain ⟨⟨tk, tx, tn, tp⟩, htk⟩ : ∃ t, t = l[l.length - 1] := ⟨_, rfl⟩
      rw [← htk] at k1 k3 h1 ⊢
      simp only [] at k1 k3 h1 ⊢
      obtain ⟨m, hm⟩ : ∃ m, l.length = m + 1 := ⟨l.length - 1, by omega⟩
      rw [hm] at k1 k3 ⊢
      simp only [Nat.add_sub_cancel] at k1 k3
      obtain ⟨y, hy⟩ : ∃ y : ByteArray, y = ⟨tx.toArray⟩ := ⟨_, rfl⟩
      have hys : tx.length = y.size := by rw [hy, Lib.size_eq]
      rw [← hy] at k1
      rw [hys] at h1 ⊢
      have hm1 : m ≤ 100000 := by omega
      have hi : m + 1 ≤ i := by omega
      clear hc hok k0 k2 hlt h0 hl hr htk hm hn hy hys
      go_enter Tryz.func112, Tryz.ntmps112
      go_wp2
      go_region
      go_wp2
      go_ret
      exact ⟨rfl, (Below.refl _ _).drew⟩
set_option maxRecDepth 100000 in
set_option maxHeartbeats 1000000 in
theorem ris_any (l : List Tok) (v : Value) (i : Nat) (x : ByteArray) (w : World) (ht : TokC w v l) (_hn : l.length ≤ 100000) (r : Bool) (hr : sgAt l i x.data.toList = r) :
    Calls Tryz.prog 83 #[v, .int .i64 i, .string x] w fun e w' => e = .returned (.bool r) ∧ w = w' := by
  obtain ⟨ad, cap, rfl, hc⟩ := ht
  by_cases hlt : i < l.length
  · obtain ⟨g, rfl, hg, k0, k1, k2, k3⟩ := hc i hlt
    unfold sgAt at hr
    rw [tokO_in l i hlt] at hr
    obtain ⟨⟨tk, tx, tn, tp⟩, htk⟩ : ∃ t, t = l[i] := ⟨_, rfl⟩
    rw [← htk] at k0 k1 hr
    simp only [] at k0 k1 hr
    obtain ⟨n, hN⟩ : ∃ n, n = l.length := ⟨_, rfl⟩
    rw [← hN] at _hn ⊢
    have hlt' : i < n := by omega
    clear hc k2 k3 htk hN hlt
    by_cases h3 : tk = 3
    · subst h3
      obtain ⟨y, hy⟩ : ∃ y : ByteArray, y = ⟨tx.toArray⟩ := ⟨_, rfl⟩
      have hyx : (y.toList == x.toList) = r := by rw [← hr, Lib.toList_data, Lib.toList_data, hy]; simp
      rw [← hy] at k1
      clear hr hy
      cases r <;>
      · go_enter Tryz.func83, Tryz.ntmps83
        go_wp2
        go_ret
        exact ⟨rfl, rfl⟩
    · have q : ((tk : Int) == 3) = false := by simp; omega
      have hr' : r = false := by rw [← hr]; simp [h3]
      subst hr'
      clear hr h3
      go_enter Tryz.func83, Tryz.ntmps83
      go_wp2
      go_ret
      exact ⟨rfl, rfl⟩
  · have hr' : r = false := by
      rw [← hr]
      unfold sgAt tokO
      rw [List.getElem?_eq_none (by omega)]
      rfl
    subst hr'
    obtain ⟨n, hN⟩ : ∃ n, n = l.length := ⟨_, rfl⟩
    rw [← hN] at _hn ⊢
    have hlt' : n ≤ i := by omega
    clear hc hr hN hlt
    go_enter Tryz.func83, Tryz.ntmps83
    go_wp2
    go_ret
    exact ⟨rfl, rfl⟩
end Go.Proofs.YtlpgafgiljffhaaGreatDoor

namespace Go.Proofs.YtlpgafgiljffhaaGreatDoor
open Go.RowKit
inductive Ex where
  | leaf (x : Nd)
  | un (x : Nd) (a : Ex)
  | bin (x : Nd) (a b : Ex)
def Ex.flat : Ex → List Nd
  | .leaf x => [x]
  | .un x a => x :: a.flat
  | .bin x a b => x :: (a.flat ++ b.flat)
def Ex.size : Ex → Nat
  | .leaf _ => 1
  | .un _ a => a.size + 1
  | .bin _ a b => a.size + b.size + 1
def Ex.depth : Ex → Nat
  | .leaf _ => 0
  | .un _ a => a.depth + 1
  | .bin _ a b => max a.depth b.depth + 1
theorem Ex.flat_length (e : Ex) : e.flat.length = e.size := by
  induction e with
  | leaf x => rfl
  | un x a ih => simp [flat, size, ih]
  | bin x a b iha ihb => simp [flat, size, iha, ihb]
inductive Res where
  | ok (e : Ex) (j : Nat)
  | err (k a : Nat)
inductive Cmd where
  | lv (n : Nat)
  | more (n : Nat) (e : Ex)
def opsOf : Nat → List Nat
  | 0 => [14]
  | 1 => [13]
  | 2 => [9, 10, 11, 12]
  | 3 => [6, 7]
  | _ => [8]
def plc (l : List Tok) (i : Nat) : Nat := (tokO l i).2.2.2
def txt (l : List Tok) (i : Nat) : ByteArray := ⟨(tokO l i).2.1.toArray⟩
def opN (op pl : Nat) : Nd := ⟨op, 0, ⟨#[]⟩, ⟨#[]⟩, pl⟩
def nuAt (l : List Tok) (i : Nat) : Bool := decide ((tokO l i).1 = 2) && numB ((tokO l i).2.2.1 : Int)
def refR (l : List Tok) (i : Nat) : Res := .err (refK l i).1 (refK l i).2
def namedR (l : List Tok) (i : Nat) : Res :=
  if sgAt l (i + 1) [46] then
    if nmAt l (i + 2) then .ok (.leaf ⟨4, 0, txt l (i + 2), txt l i, plc l i⟩) (i + 3) else refR l (i + 2)
  else .ok (.leaf ⟨2, 0, txt l i, ⟨#[]⟩, plc l i⟩) (i + 1)
def run (l : List Tok) : Nat → Cmd → Nat → Nat → Option Res
  | 0, _, _, _ => none
  | f + 1, .lv n, d, i =>
    if n = 5 then
      if sgAt l i [33] then
        if d = 30 then some (.err 7 (plc l i)) else
        match run l f (.lv 5) (d + 1) (i + 1) with
        | none => none
        | some (.err k a) => some (.err k a)
        | some (.ok e j) => some (.ok (.un (opN 5 (plc l i)) e) j)
      else if sgAt l i [40] then
        if d = 30 then some (.err 7 (plc l i)) else
        match run l f (.lv 0) (d + 1) (i + 1) with
        | none => none
        | some (.err k a) => some (.err k a)
        | some (.ok e j) => if sgAt l j [41] then some (.ok e (j + 1)) else some (refR l j)
      else if nmAt l i then some (namedR l i)
      else if nuAt l i then some (.ok (.leaf ⟨1, (tokO l i).2.2.1, ⟨#[]⟩, ⟨#[]⟩, plc l i⟩) (i + 1))
      else some (refR l i)
    else match run l f (.lv (n + 1)) d i with
      | none => none
      | some (.err k a) => some (.err k a)
      | some (.ok e j) => run l f (.more n e) d j
  | f + 1, .more n e, d, i =>
    if which l i (opsOf n) = 0 then some (.ok e i) else
    match run l f (.lv (n + 1)) d (i + 1) with
    | none => none
    | some (.err k a) => some (.err k a)
    | some (.ok y j) => if n = 2 then some (.ok (.bin (opN (which l i (opsOf n)) (plc l i)) e y) j) else run l f (.more n (.bin (opN (which l i (opsOf n)) (plc l i)) e y)) d j
def ResOK (r : Res) (p : PtR) (j : Nat) (er pl : Int) : Prop := match r with
  | .ok e j0 => j = j0 ∧ er = 0 ∧ pl = 0 ∧ p.s = e.size ∧ p.d = e.depth ∧ (p.s ≤ 200 ∧ p.d ≤ 30 → p.xs = e.flat)
  | .err k a => er = k ∧ pl = a ∧ k ≠ 0
def PtIn (w : World) (B : Nat) (p : PtR) (c : Nat) : Prop := w.ownsRow B 65 5 p.nv p.xs.length (rowN p.xs) ∧ p.xs.length ≤ 200 ∧ (p.xs.length : Int) ≤ p.s ∧ p.s ≤ c ∧ 0 ≤ p.d ∧ p.d ≤ p.s
end Go.Proofs.YtlpgafgiljffhaaGreatDoor
