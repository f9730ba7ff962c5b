/- What Light tells of nodes, and Same of nodes that are alike. -/
import Derived.Test.YtifbhlgingaahaaDoorNb
namespace Go.Proofs.YtifbhlgingaahaaDoor
open Go.RowKit

def lightN (x : Nd) : Bool := decide (x.nm.size ≤ 100 ∧ x.inn.size ≤ 100)
def lightB (l : List Nd) : Bool := decide (l.length ≤ 250) && l.all lightN

theorem all_at (p : Nd → Bool) (l : List Nd) (k : Nat) (h : k < l.length) : (l.drop k).all p = (p l[k] && (l.drop (k + 1)).all p) := by
  rw [List.drop_eq_getElem_cons h, List.all_cons]
theorem all_over (p : Nd → Bool) (l : List Nd) (k : Nat) (h : ¬ k < l.length) : (l.drop k).all p = true := by
  rw [List.drop_eq_nil_of_le (by omega)]; rfl

set_option maxHeartbeats 400000 in
theorem light_big (l : List Nd) (v : Value) (w : World) (hv : Nds w v l) (hn : l.length ≤ maxLen) (h : 250 < l.length) :
    Calls Tryd.prog 6 #[v] w fun e w' => e = .returned (.bool (lightB l)) ∧ w = w' := by
  have hb : lightB l = false := by simp [lightB]; omega
  rw [hb]
  obtain ⟨ad, cap, rfl, _⟩ := hv.cases
  unfold maxLen at hn
  clear hv hb
  go_enter Tryd.func6, Tryd.ntmps6
  go_wp2
  go_ret
  exact ⟨rfl, rfl⟩

set_option maxHeartbeats 1000000 in
theorem light_small (l : List Nd) (v : Value) (w : World) (hv : Nds w v l) (h : l.length ≤ 250) :
    Calls Tryd.prog 6 #[v] w fun e w' => e = .returned (.bool (lightB l)) ∧ w = w' := by
  have hb : lightB l = (l.drop 0).all lightN := by simp [lightB, h]
  rw [hb]
  obtain ⟨R, hR⟩ : ∃ R, (l.drop 0).all lightN = R := ⟨_, rfl⟩
  rw [hR]
  have HR := Lib.hid hR
  clear hR
  obtain ⟨ad, cap, rfl, hc⟩ := hv.cases
  obtain ⟨n, hN⟩ : ∃ n, n = l.length := ⟨_, rfl⟩
  rw [← hN] at h ⊢
  have HC := Lib.hid hc
  have HN := Lib.hid hN
  clear hc hN hv hb
  go_enter Tryd.func6, Tryd.ntmps6
  go_wp2
  go_loopg [3] n (fun fuel i' wr => ∃ k : Nat, i' = .int .i64 k ∧ k ≤ n ∧ n - k ≤ fuel ∧ R = (l.drop k).all lightN ∧ w = wr)
  case atStart => exact ⟨0, rfl, Nat.zero_le _, Nat.le_refl _, HR.out.symm, rfl⟩
  case round =>
    obtain ⟨k, rfl, hk, hf, ha, rfl⟩ := hrel
    have HA := Lib.hid ha; clear ha
    by_cases hlt : k < n
    · have hk' : k < l.length := by have := HN.out; omega
      have HE := Lib.hid (all_at lightN l k hk')
      obtain ⟨b, off, rfl, _, _, _, c2, c3, _⟩ := HC.out k hk'
      obtain ⟨x, hx⟩ : ∃ x, x = l[k] := ⟨_, rfl⟩
      have HX := Lib.hid hx
      rw [← hx] at c2 c3
      clear hx
      obtain ⟨xo, xn, xnm, xin, xp⟩ := x
      simp only [] at c2 c3
      by_cases h1 : 100 < xnm.size
      · go_wp2
        go_ret
        exact ⟨ret_bool (by rw [HA.out, HE.out, ← HX.out]; simp [lightN]; omega), rfl⟩
      · by_cases h2 : 100 < xin.size
        · go_wp2
          go_ret
          exact ⟨ret_bool (by rw [HA.out, HE.out, ← HX.out]; simp [lightN]; omega), rfl⟩
        · go_wp2
          go_roundg (gk - 1)
          case measure => omega
          case rel => exact ⟨k + 1, by go_num, by omega, by omega, by rw [HA.out, HE.out, ← HX.out]; simp [lightN]; omega, rfl⟩
    · have HE := Lib.hid (all_over lightN l k (by have := HN.out; omega))
      go_wp2
      go_ret
      exact ⟨ret_bool (by rw [HA.out, HE.out]), rfl⟩

theorem light_any (l : List Nd) (v : Value) (w : World) (hv : Nds w v l) (hn : l.length ≤ maxLen) (b : Bool) (hb : lightB l = b) :
    Calls Tryd.prog 6 #[v] w fun e w' => e = .returned (.bool b) ∧ w = w' := by
  subst hb
  by_cases h : 250 < l.length
  · exact light_big l v w hv hn h
  · exact light_small l v w hv (by omega)

/-- Alike; but for places, if so asked. -/
def alikeN (p : Bool) (a b : Nd) : Prop := a.op = b.op ∧ a.n = b.n ∧ a.nm = b.nm ∧ a.inn = b.inn ∧ (p = true → a.pl = b.pl)

theorem drewN_plus (w : World) (a b : Nat) : w.drewN (a + b) = (w.drewN a).drewN b := by
  simp [World.drewN, Nat.add_assoc]
theorem below_end {B : Nat} {w : World} (d : Nat) : Below B w (w.drewN d) := below_drewN (Below.refl _ _) d

end Go.Proofs.YtifbhlgingaahaaDoor
