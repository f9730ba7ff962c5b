/- Layer 12, the code: what is still to be read. Layer 12, the code: numbers and entries are read. Layer 12: how a configuration comes of bytes, part by part. -/
import Derived.Test.YtmkgijedchpgcaaEd
import Derived.Test.YtmkgijedchpgcaaYg
import Derived.Test.YtmkgijedchpgcaaEo
import Derived.Test.YtmkgijedchpgcaaEp
namespace Go.Proofs.Ytmkgijedchpgcaa
set_option linter.unusedSimpArgs false
set_option linter.unusedVariables false
open Go.RowKit

/-- What is behind the first i bytes. -/
def restZ (s : ByteArray) (i : Nat) : ByteArray := s.extract i s.size
theorem rest_size (s : ByteArray) (i : Nat) : (restZ s i).size = s.size - i := by
  unfold restZ
  rw [ByteArray.size_extract]
  omega
theorem rest_next (s : ByteArray) (i : Nat) (h : i < s.size) : (restZ s i).extract 1 (restZ s i).size = restZ s (i + 1) := by
  rw [rest_size]
  unfold restZ
  rw [ByteArray.extract_extract]
  congr 1
  omega
theorem rest_at (s : ByteArray) (i : Nat) (h : 0 < (restZ s i).size) : (((restZ s i)[0]'h).toNat : Int) = atZ (numZ s) i := by
  have hi : i < s.size := by rw [rest_size] at h; omega
  rw [atZ_num s i hi]
  have h' : 0 < (s.extract i s.size).size := h
  have e : (s.extract i s.size)[0]'h' = s[i]'hi := by rw [ByteArray.getElem_extract]; rfl
  exact congrArg (fun b : UInt8 => ((b.toNat : Nat) : Int)) e
theorem rest_out (s : ByteArray) (i : Nat) (h : s.size ≤ i) : restZ s i = ⟨#[]⟩ := by
  have h1 : (restZ s i).size = 0 := by rw [rest_size]; omega
  generalize restZ s i = x at h1 ⊢
  cases x with
  | mk a =>
    have : a.size = 0 := h1
    rw [Array.eq_empty_of_size_eq_zero this]
theorem rest_all (s : ByteArray) : restZ s 0 = s := by
  unfold restZ
  exact ByteArray.extract_zero_size

def srcV (s : ByteArray) (i : Nat) : Array Value := #[.string (restZ s i), .bool (decide (s.size < i))]
/-- A source from which i bytes were asked. -/
def SrcAt (w : World) (q : Nat) (s : ByteArray) (i : Nat) : Prop := Bk w q 61 (srcV s i)

theorem fr_cell {q : Nat} (w : World) (k : Nat) (v : Value) : Fr q (q + 1) w (w.setCell ⟨q, k, none⟩ v) := Fr.set (Nat.le_refl _) (Nat.lt_succ_self _)

theorem next_any (s : ByteArray) (i q : Nat) (w : World) (h : SrcAt w q s i) :
    Calls Try.prog 26 #[.pointer (some ⟨q, 0, none⟩)] w fun e w' => e = .returned (.int .i64 (atZ (numZ s) i)) ∧ SrcAt w' q s (i + 1) ∧ Fr q (q + 1) w w' := by
  have HS := Lib.hid h
  have c0 : w.cell? ⟨q, 0, none⟩ = some (.string (restZ s i)) := h.cell 0
  have c1 : w.cell? ⟨q, 1, none⟩ = some (.bool (decide (s.size < i))) := h.cell 1
  have f0 : w.frozen? ⟨q, 0, none⟩ = false := h.fz 0
  have f1 : w.frozen? ⟨q, 1, none⟩ = false := h.fz 1
  have hl := h.lt
  by_cases hi : i < s.size
  · have HI := Lib.hid hi
    have hd : decide (s.size < i) = false := decide_eq_false (by omega)
    have hr := rest_size s i
    have hn := rest_next s i hi
    have hp : 0 < (restZ s i).size := by omega
    have ha := rest_at s i hp
    rw [hd] at c1
    have HK : Hid (SrcAt (w.setCell ⟨q, 0, none⟩ (.string (restZ s (i + 1)))) q s (i + 1)) := Lib.hid (by
      have hd2 : decide (s.size < i + 1) = false := decide_eq_false (by omega)
      have h2 : Bk w q _ #[.string (restZ s i), .bool (decide (s.size < i))] := h
      have h3 := heap_setCell_same w q 0 _ _ (.string (restZ s (i + 1))) h2
      unfold SrcAt srcV
      rw [hd2, ← hd]
      exact h3)
    have HA := Lib.hid ha
    clear h hi hd
    generalize hR : restZ s i = R at c0 hr hn hp HA
    generalize restZ s (i + 1) = R2 at hn HK
    have hb : ((R[0]'hp).toNat : Int) < 256 := by have := (R[0]'hp).toNat_lt; omega
    have hw : wrap64 ((R[0]'hp).toNat : Int) = ((R[0]'hp).toNat : Int) := IntWalk.wrap64_in _ (by omega)
    have hne : (R.toList == []) = false := by
      rw [ByteArray.toList_eq]
      refine beq_eq_false_iff_ne.2 fun e => ?_
      have h6 : R.data.toList.length = 0 := by rw [e]; rfl
      rw [Array.length_toList] at h6
      have h5 : R.data.size = R.size := rfl
      omega
    have h1 : (0 : Int) < (R.size : Int) := by omega
    have h2 : (1 : Int) ≤ (R.size : Int) := by omega
    clear HA hR
    replace hr := Lib.hid hr
    go_enter Try.func26, Try.ntmps26
    go_wp2_with fail
    go_ret
    exact ⟨rfl, HK.out, fr_cell _ _ _⟩
  · have hR : restZ s i = ⟨#[]⟩ := rest_out s i (by omega)
    have hA : atZ (numZ s) i = 0 := atZ_out s i (by omega)
    have HK : Hid (SrcAt (w.setCell ⟨q, 1, none⟩ (.bool true)) q s (i + 1)) := Lib.hid (by
      have hd2 : decide (s.size < i + 1) = true := decide_eq_true (by omega)
      have h2 : Bk w q _ #[.string (restZ s i), .bool (decide (s.size < i))] := h
      have h3 := heap_setCell_same w q 1 _ _ (.bool true) h2
      unfold SrcAt srcV
      rw [hd2, rest_out s (i + 1) (by omega), ← hR]
      exact h3)
    rw [hA]
    rw [hR] at c0
    generalize decide (s.size < i) = d at c1
    clear h hi hR hA
    go_enter Try.func26, Try.ntmps26
    go_wp2_with fail
    go_ret
    exact ⟨rfl, HK.out, fr_cell _ _ _⟩

end Go.Proofs.Ytmkgijedchpgcaa

namespace Go.Proofs.Ytmkgijedchpgcaa
set_option linter.unusedSimpArgs false
set_option linter.unusedVariables false
open Go.RowKit

set_option maxRecDepth 100000 in
set_option maxHeartbeats 4000000 in
/-- Numbers are read into a row, by what a round needs. -/
theorem fill_in (s : ByteArray) (p q m cap : Nat) (ad : Option Addr) (I : Nat → Nat → World → Prop) (w : World) (h0 : I 0 p w)
    (hsrc : ∀ k i W, I k i W → SrcAt W q s i)
    (hn : ∀ k i W W', I k i W → Fr q (q + 1) W W' → SrcAt W' q s (i + 1) → I k (i + 1) W')
    (hst : ∀ k i W, k < m → I k i W → ∃ g u, ad = some ⟨g, 0, none⟩ ∧ g < W.heap.size ∧ W.cell? ⟨g, k, none⟩ = some u ∧ W.frozen? ⟨g, k, none⟩ = false ∧ I (k + 1) i (W.setCell ⟨g, k, none⟩ (.int .i64 (atZ (numZ s) (p + k)))))
    (hm : m ≤ 1000000) :
    Calls Try.prog 27 #[.pointer (some ⟨q, 0, none⟩), .slice ad m cap] w fun e w' => e = .returned (.tuple #[]) ∧ I m (p + m) w' := by
  have H0 := Lib.hid h0
  have HS := Lib.hid hsrc
  have HN := Lib.hid hn
  have HT := Lib.hid hst
  clear h0 hsrc hn hst
  go_enter Try.func27, Try.ntmps27
  go_wp2_with fail
  go_loopg [7] m (fun fuel i' wr => ∃ (k : Nat), i' = .int .i64 k ∧ k ≤ m ∧ m - k ≤ fuel ∧ I k (p + k) wr)
  case atStart => exact ⟨0, rfl, Nat.zero_le _, Nat.le_refl _, H0.out⟩
  case round =>
    obtain ⟨k, rfl, hk, hf, hi⟩ := hrel
    have HI := Lib.hid hi
    clear hi
    by_cases hlt : k < m
    · have f1 : (0 : Int) ≤ (k : Int) := by omega
      have f2 : (k : Int) < (m : Int) := by omega
      go_wp2_with fail
      refine (next_any s (p + k) q wr (HS.out _ _ _ HI.out)).mono ?_
      rintro e w2 ⟨rfl, h1, h2⟩
      have HJ := Lib.hid (HN.out k (p + k) wr w2 HI.out h2 h1)
      clear h1 h2
      obtain ⟨g, u, rfl, hgl, hc, hfz, hI⟩ := HT.out k _ w2 hlt HJ.out
      have HI2 := Lib.hid hI
      clear hI
      generalize atZ (numZ s) (p + k) = v at HI2 ⊢
      have f1 : (0 : Int) ≤ (k : Int) := by omega
      have f2 : (k : Int) < (m : Int) := by omega
      go_wp2_with fail
      go_roundg (gk - 1)
      case measure => omega
      case rel => exact ⟨k + 1, by go_num, by omega, by omega, HI2.out⟩
    · obtain rfl : k = m := by omega
      go_wp2_with fail
      go_end0
      exact ⟨rfl, HI.out⟩

theorem rowE_set : ∀ (l : List Ent) (k : Nat) (e : Ent), k < l.length → rowE (l.set k e) = ((rowE l).set (k * 2) (.int .i64 e.1)).set (k * 2 + 1) (.int .i64 e.2)
  | a :: r, 0, e, _ => rfl
  | a :: r, k + 1, e, h => by
    have ih := rowE_set r k e (by simpa using h)
    rw [show (a :: r).set (k + 1) e = a :: r.set k e from rfl, show rowE (a :: r.set k e) = .int .i64 a.1 :: .int .i64 a.2 :: rowE (r.set k e) from rfl, ih, show rowE (a :: r) = .int .i64 a.1 :: .int .i64 a.2 :: rowE r from rfl, show (k + 1) * 2 = k * 2 + 1 + 1 by omega]
    rfl
theorem bk_ent {w : World} {g T k : Nat} {l : List Ent} (h : Bk w g T (rowE l).toArray) (hk : k < l.length) (e : Ent) : Bk ((w.setCell ⟨g, k * 2, none⟩ (.int .i64 e.1)).setCell ⟨g, k * 2 + 1, none⟩ (.int .i64 e.2)) g T (rowE (l.set k e)).toArray := by
  have h1 : Bk (w.setCell ⟨g, k * 2, none⟩ (.int .i64 e.1)) g T _ := heap_setCell_same w g (k * 2) _ T (.int .i64 e.1) h
  have h2 : Bk _ g T _ := heap_setCell_same (w.setCell ⟨g, k * 2, none⟩ (.int .i64 e.1)) g (k * 2 + 1) _ T (.int .i64 e.2) h1
  rw [List.setIfInBounds_toArray, List.setIfInBounds_toArray, ← rowE_set l k e hk] at h2
  exact h2
theorem bk_entAt {w : World} {g T k : Nat} {l : List Ent} (h : Bk w g T (rowE l).toArray) (hk : k < l.length) : ∃ x y, w.cell? ⟨g, k * 2, none⟩ = some x ∧ w.cell? ⟨g, k * 2 + 1, none⟩ = some y := by
  have hl : (rowE l).length = l.length * 2 := rowE_len l
  refine ⟨(rowE l)[k * 2]'(by omega), (rowE l)[k * 2 + 1]'(by omega), ?_, ?_⟩
  · rw [h.cell]; simp [List.getElem?_eq_getElem (show k * 2 < (rowE l).length by omega)]
  · rw [h.cell]; simp [List.getElem?_eq_getElem (show k * 2 + 1 < (rowE l).length by omega)]
def mixE (s : List Int) (i n k : Nat) : List Ent := mixL (fun j => (atZ s (i + 2 * j), atZ s (i + 2 * j + 1))) (fun _ => (0, 0)) n k

set_option maxRecDepth 100000 in
set_option maxHeartbeats 4000000 in
theorem entries_any (s : ByteArray) (p q n : Nat) (w : World) (h : SrcAt w q s p) (hn : n ≤ 1000000) :
    Calls Try.prog 28 #[.pointer (some ⟨q, 0, none⟩), .int .i64 n] w fun e w' => e = .returned (.slice (some ⟨w.heap.size, 0, none⟩) n n) ∧ OwnE w' w.heap.size (.slice (some ⟨w.heap.size, 0, none⟩) n n) (entsZ (numZ s) p n) ∧ SrcAt w' q s (p + 2 * n) ∧ Fr q (q + 1) w w' := by
  have HS := Lib.hid h
  have hql := h.lt
  have HQL := Lib.hid hql
  clear h hql
  go_enter Try.func28, Try.ntmps28
  go_wp2_with (refine make_ents rfl (.tmp 7) (.tmp 7) rfl n rfl rfl hn ?_)
  intro w1 G1 b1
  have B1 := Lib.hid b1
  obtain ⟨g, hg⟩ : ∃ g, g = w.heap.size := ⟨_, rfl⟩
  rw [← hg] at G1 ⊢
  have HG := Lib.hid hg
  have P0 : Hid (Bk w1 g 50 (rowE (mixE (numZ s) p n 0)).toArray) := Lib.hid (by unfold mixE; rw [mix_zero, range_rep]; exact G1.out)
  have S0 : Hid (SrcAt w1 q s p) := Lib.hid (show Bk _ _ _ _ from (show Bk w q _ _ from HS.out).below b1)
  have F0 : Hid (Fr q (q + 1) w w1) := Lib.hid (Fr.below b1 (Nat.le_of_lt HQL.out))
  have HQG : Hid (q < g) := Lib.hid (by rw [hg]; exact HQL.out)
  clear hg G1 b1
  go_wp2_with fail
  go_loopg [11] n (fun fuel i' wr => ∃ (k : Nat), i' = .int .i64 k ∧ k ≤ n ∧ n - k ≤ fuel ∧ Bk wr g 50 (rowE (mixE (numZ s) p n k)).toArray ∧ SrcAt wr q s (p + 2 * k) ∧ Fr q (q + 1) w wr)
  case atStart => exact ⟨0, rfl, Nat.zero_le _, Nat.le_refl _, P0.out, S0.out, F0.out⟩
  case round =>
    obtain ⟨k, rfl, hk, hf, hp, hs, hfr⟩ := hrel
    have HP := Lib.hid hp
    have HSR := Lib.hid hs
    have HF := Lib.hid hfr
    clear hp hs hfr P0 S0 F0
    by_cases hlt : k < n
    · have f1 : (0 : Int) ≤ (k : Int) := by omega
      have f2 : (k : Int) < (n : Int) := by omega
      go_wp2_with fail
      refine (next_any s (p + 2 * k) q wr HSR.out).mono ?_
      rintro e w2 ⟨rfl, h1, h2⟩
      have HS2 := Lib.hid h1
      have HF2 := Lib.hid h2
      clear h1 h2
      go_wp2_with fail
      refine (next_any s (p + 2 * k + 1) q w2 HS2.out).mono ?_
      rintro e w3 ⟨rfl, h1, h2⟩
      have HS3 := Lib.hid h1
      have HF3 := Lib.hid (HF2.out.trans h2)
      have HP3 : Hid (Bk w3 g 50 (rowE (mixE (numZ s) p n k)).toArray) := Lib.hid (HF3.out.bk (by have := HQG.out; omega) HP.out)
      clear h1 h2
      have hkl : k < (mixE (numZ s) p n k).length := by unfold mixE; rw [mix_len]; exact hlt
      obtain ⟨x, y, c0, c1⟩ := bk_entAt HP3.out hkl
      have g0 := HP3.out.fz (k * 2)
      have g1 := HP3.out.fz (k * 2 + 1)
      have gl := HP3.out.lt
      have HST : Hid (∀ a b, a = atZ (numZ s) (p + 2 * k) → b = atZ (numZ s) (p + 2 * k + 1) → Bk ((w3.setCell ⟨g, k * 2, none⟩ (.int .i64 a)).setCell ⟨g, k * 2 + 1, none⟩ (.int .i64 b)) g 50 (rowE (mixE (numZ s) p n (k + 1))).toArray) := Lib.hid (fun a b ha hb => by
        have h9 := bk_ent HP3.out hkl (a, b)
        rw [show (mixE (numZ s) p n k).set k (a, b) = mixE (numZ s) p n (k + 1) from mix_set _ _ _ _ _ hlt (by rw [ha, hb])] at h9
        exact h9)
      replace HST := Lib.hid (HST.out _ _ rfl rfl)
      generalize atZ (numZ s) (p + 2 * k) = v1 at HST ⊢
      generalize atZ (numZ s) (p + 2 * k + 1) = v2 at HST ⊢
      have f1 : (0 : Int) ≤ (k : Int) := by omega
      have f2 : (k : Int) < (n : Int) := by omega
      clear hkl
      go_wp2_with fail
      have hqg : ¬ g = q := by have := HQG.out; omega
      have HS4 : Hid (SrcAt ((w3.setCell ⟨g, k * 2, none⟩ (.int .i64 v1)).setCell ⟨g, k * 2 + 1, none⟩ (.int .i64 v2)) q s (p + 2 * (k + 1))) := Lib.hid (by
        have h9 : SrcAt w3 q s (p + 2 * (k + 1)) := HS3.out
        unfold SrcAt at h9 ⊢
        exact (heap_setCell_other _ ⟨g, k * 2 + 1, none⟩ q _ (fun e => hqg e.symm)).trans ((heap_setCell_other _ ⟨g, k * 2, none⟩ q _ (fun e => hqg e.symm)).trans h9))
      have HF4 : Hid (Fr q (q + 1) w ((w3.setCell ⟨g, k * 2, none⟩ (.int .i64 v1)).setCell ⟨g, k * 2 + 1, none⟩ (.int .i64 v2))) := Lib.hid (by
        have h9 := HF.out.trans HF3.out
        have e1 := HQG.out
        refine ⟨Below.setCell (p := ⟨g, k * 2 + 1, none⟩) (Below.setCell (p := ⟨g, k * 2, none⟩) h9.b (Nat.le_of_lt e1) _) (Nat.le_of_lt e1) _, ⟨?_, fun j hj hjl => ?_⟩⟩
        · rw [setCell_size, setCell_size]; exact h9.k.1
        · have hjg : j ≠ g := by have := HG.out; omega
          rw [heap_setCell_other _ ⟨g, k * 2 + 1, none⟩ j _ hjg, heap_setCell_other _ ⟨g, k * 2, none⟩ j _ hjg]
          exact h9.k.2 j hj hjl)
      go_roundg (gk - 1)
      case measure => omega
      case rel => exact ⟨k + 1, by go_num, by omega, by omega, HST.out, HS4.out, HF4.out⟩
    · obtain rfl : k = n := by omega
      go_wp2_with fail
      go_ret
      refine ⟨by rw [← HG.out]; rfl, ?_, HSR.out, HF.out⟩
      have h9 := HP.out
      unfold mixE at h9
      rw [mix_all] at h9
      have hl : (entsZ (numZ s) p k).length = k := by simp [entsZ]
      rw [← HG.out]
      show World.ownsRow _ _ _ _ _ _ _
      rw [hl]
      exact own_of_bk h9 rfl (Nat.le_refl _) (by show (rowE (entsZ (numZ s) p k)).length = _; rw [rowE_len, hl]) hn

end Go.Proofs.Ytmkgijedchpgcaa

namespace Go.Proofs.Ytmkgijedchpgcaa
set_option linter.unusedSimpArgs false
set_option linter.unusedVariables false
open Go.RowKit

section
variable (u : Un) (s : ByteArray)
def nZ : Nat := (lensZ u).length
def pcK (k : Nat) : List Int := mixL (pcF (numZ s) (lensZ u)) (fun _ => 0) (nZ u) k
def rgK (k : Nat) : List (List Int) := mixL (rgF (numZ s) (lensZ u)) (fun j => List.replicate ((lensZ u).getD j 0) 0) (nZ u) k
def bfK (k : Nat) : List (List Ent) := mixL (bfF (numZ s) (lensZ u)) (fun _ => []) (nZ u) k
/-- The first k threads are read. -/
def pfK (k : Nat) : Pf := ⟨pcK u s k, rgK u s k, u.init, bfK u s k⟩
def rowJ (p n j : Nat) : List Int := mixL (fun a => atZ (numZ s) (p + a)) (fun _ => 0) n j
def pfR (k j : Nat) : Pf := ⟨pcK u s (k + 1), (rgK u s k).set k (rowJ s (posF (numZ s) (lensZ u) 0 k + 2) ((lensZ u).getD k 0) j), u.init, bfK u s k⟩
def memJ (p j : Nat) : List Int := mixL (fun a => atZ (numZ s) (p + a)) (fun a => u.init.getD a 0) u.init.length j
def pfM (j : Nat) : Pf := ⟨pcK u s (nZ u), rgK u s (nZ u), memJ u s (posF (numZ s) (lensZ u) 0 (nZ u)) j, bfK u s (nZ u)⟩
end
theorem nZ_eq (u : Un) : nZ u = u.regs.length := by unfold nZ lensZ; exact List.length_map _
theorem pfK_zero (u : Un) (s : ByteArray) (h : u.code.length = u.regs.length) : pfK u s 0 = startP u := by
  unfold pfK pcK rgK bfK startP
  rw [mix_zero, mix_zero, mix_zero, range_rep, range_rep, nZ_eq, h]
  congr 1
  apply List.ext_getElem
  · simp
  · intro i h1 h2
    have hi : i < u.regs.length := by simpa using h2
    simp [lensZ, List.getD_eq_getElem?_getD, List.getElem?_eq_getElem hi]
theorem pfR_zero (u : Un) (s : ByteArray) (k : Nat) (hk : k < nZ u) : pfR u s k 0 = { pfK u s k with pc := pcK u s (k + 1) } := by
  unfold pfR pfK
  congr 1
  unfold rgK rowJ
  rw [mix_zero, range_rep]
  have h := mix_at (rgF (numZ s) (lensZ u)) (fun j => List.replicate ((lensZ u).getD j 0) 0) (nZ u) k [] hk
  rw [← h]
  generalize hL : mixL (rgF (numZ s) (lensZ u)) (fun j => List.replicate ((lensZ u).getD j 0) (0 : Int)) (nZ u) k = L
  have hl : k < L.length := by rw [← hL, mix_len]; exact hk
  rw [List.getD_eq_getElem?_getD, List.getElem?_eq_getElem hl]
  exact List.set_getElem_self hl
theorem pc_next (u : Un) (s : ByteArray) (k : Nat) (hk : k < nZ u) : (pcK u s k).set k (pcF (numZ s) (lensZ u) k) = pcK u s (k + 1) := mix_set _ _ _ _ _ hk rfl
theorem rowJ_len (s : ByteArray) (p n j : Nat) : (rowJ s p n j).length = n := mix_len _ _ _ _
theorem pfR_at (u : Un) (s : ByteArray) (k j : Nat) (hk : k < nZ u) : (pfR u s k j).regs.getD k [] = rowJ s (posF (numZ s) (lensZ u) 0 k + 2) ((lensZ u).getD k 0) j := by
  have hl : k < (rgK u s k).length := by unfold rgK; rw [mix_len]; exact hk
  show ((rgK u s k).set k _).getD k [] = _
  rw [List.getD_eq_getElem?_getD, List.getElem?_set_self hl]; rfl
theorem pfR_next (u : Un) (s : ByteArray) (k j : Nat) (hk : k < nZ u) (hj : j < (lensZ u).getD k 0) : { pfR u s k j with regs := setI (pfR u s k j).regs k j (atZ (numZ s) (posF (numZ s) (lensZ u) 0 k + 2 + j)) } = pfR u s k (j + 1) := by
  unfold setI
  rw [pfR_at u s k j hk]
  unfold pfR
  simp only
  congr 1
  rw [List.set_set]
  congr 1
  rw [Int.toNat_natCast]
  exact mix_set _ _ _ _ _ hj rfl
theorem pfR_all (u : Un) (s : ByteArray) (k : Nat) (hk : k < nZ u) : pfR u s k ((lensZ u).getD k 0) = ⟨pcK u s (k + 1), rgK u s (k + 1), u.init, bfK u s k⟩ := by
  unfold pfR
  congr 1
  exact mix_set _ _ _ _ _ hk (mix_all _ _ _)
theorem bf_next (u : Un) (s : ByteArray) (k : Nat) (hk : k < nZ u) : (bfK u s k).set k (entsZ (numZ s) (posF (numZ s) (lensZ u) 0 k + 3 + (lensZ u).getD k 0) (cntF (numZ s) (lensZ u) 0 k)) = bfK u s (k + 1) := mix_set _ _ _ _ _ hk rfl
theorem pfM_zero (u : Un) (s : ByteArray) : pfM u s 0 = pfK u s (nZ u) := by
  unfold pfM pfK
  congr 1
  unfold memJ
  rw [mix_zero]
  exact range_getD u.init 0
theorem pfM_next (u : Un) (s : ByteArray) (j : Nat) (hj : j < u.init.length) : { pfM u s j with mem := (pfM u s j).mem.set j (atZ (numZ s) (posF (numZ s) (lensZ u) 0 (nZ u) + j)) } = pfM u s (j + 1) := by
  unfold pfM
  simp only
  congr 1
  exact mix_set _ _ _ _ _ hj rfl
theorem pfM_all (u : Un) (s : ByteArray) : pfM u s u.init.length = pfZ u s := by
  unfold pfZ
  rw [dec_parts]
  unfold pfM pcK rgK bfK memJ
  rw [mix_all, mix_all, mix_all, mix_all]
  rfl
theorem pos_end (u : Un) (s : ByteArray) : posF (numZ s) (lensZ u) 0 (nZ u) + u.init.length = endF u s := rfl

theorem lens_bd {u : Un} (hr : rightU u = true) (k : Nat) : (lensZ u).getD k 0 ≤ 6 := by
  unfold lensZ
  by_cases hk : k < u.regs.length
  · have h := regs_bd hr k hk
    rw [List.getD_eq_getElem?_getD, List.getElem?_map, List.getElem?_eq_getElem hk]
    simp only [Option.map_some, Option.getD_some]
    omega
  · rw [List.getD_eq_getElem?_getD, List.getElem?_eq_none (by simpa using hk)]
    simp
theorem cnt_bd (s : ByteArray) (rs : List Nat) (k : Nat) : cntF (numZ s) rs 0 k ≤ 255 := by
  unfold cntF
  have := atZ_byte (numZ s) (num_bd s) (posF (numZ s) rs 0 k + 2 + rs.getD k 0)
  omega
theorem cnt_int (s : ByteArray) (rs : List Nat) (k : Nat) : ((cntF (numZ s) rs 0 k : Nat) : Int) = atZ (numZ s) (posF (numZ s) rs 0 k + 2 + rs.getD k 0) := by
  unfold cntF
  have := atZ_byte (numZ s) (num_bd s) (posF (numZ s) rs 0 k + 2 + rs.getD k 0)
  omega
theorem pos_bd {u : Un} (s : ByteArray) (hr : rightU u = true) : ∀ k, k ≤ nZ u → posF (numZ s) (lensZ u) 0 k ≤ k * 519
  | 0, _ => by rw [pos_zero]; exact Nat.zero_le _
  | k + 1, h => by
    have ih := pos_bd s hr k (by omega)
    have h1 := lens_bd hr k
    have h2 := cnt_bd s (lensZ u) k
    rw [pos_next _ _ _ _ (show k < (lensZ u).length from h)]
    omega
/-- What is read of a right unit is short. -/
theorem pfZ_short {u : Un} {s : ByteArray} {c : Cf} (hr : rightU u = true) (h : c.pf = pfZ u s) : ShortC c := by
  have hu := rightU_lc hr
  unfold pfZ at h
  rw [dec_parts] at h
  have hn : (lensZ u).length = u.regs.length := nZ_eq u
  obtain ⟨pc, rs, mem, bs⟩ := c
  unfold Cf.pf at h
  simp only [Pf.mk.injEq] at h
  obtain ⟨h1, h2, h3, h4⟩ := h
  have l1 := congrArg List.length h1
  have l2 := congrArg List.length h2
  have l3 := congrArg List.length h3
  have l4 := congrArg List.length h4
  simp only [List.length_map, List.length_range, nums_len] at l1 l2 l3 l4
  refine ⟨show pc.length ≤ _ by omega, show rs.length ≤ _ by omega, show mem.length ≤ _ by omega, show bs.length ≤ _ by omega, fun x hx => ?_, fun x hx => ?_⟩
  · have hm : x.1 ∈ rs.map (·.1) := List.mem_map_of_mem hx
    rw [h2] at hm
    obtain ⟨k, _, e⟩ := List.mem_map.1 hm
    rw [← e]
    unfold rgF
    rw [nums_len]
    have := lens_bd hr k
    omega
  · have hm : x.1 ∈ bs.map (·.1) := List.mem_map_of_mem hx
    rw [h4] at hm
    obtain ⟨k, _, e⟩ := List.mem_map.1 hm
    rw [← e]
    unfold bfF entsZ
    rw [List.length_map, List.length_range]
    have := cnt_bd s (lensZ u) k
    omega
theorem right_pfZ {u : Un} {s : ByteArray} {c : Cf} (h : c.pf = pfZ u s) (model room : Int) : rightC u c model room = rightZ u (pfZ u s) model room := by
  rw [Bool.eq_iff_iff, rightC_iff, rightZ_iff, h]

theorem own_q {w w' : World} {B T S n q T' : Nat} {v : Value} {xs : List Value} {cs : Array Value} (h : w.ownsRow B T S v n xs) (hf : Fr q (q + 1) w w') (hb : Bk w q T' cs) (hT : T ≠ T') : w'.ownsRow B T S v n xs :=
  own_frame h (fun g hg hne => by
    by_cases hl : g < q
    · exact hf.b.block g hl
    · exact hf.k.2 g (by omega) hg) hb hT
theorem St.src {B N q : Nat} {w w' : World} {xp xr xm xb : Value} {c : Cf} {s : ByteArray} {i : Nat} (h : St B N w xp xr xm xb c) (hq : SrcAt w q s i) (hf : Fr q (q + 1) w w') : St B N w' xp xr xm xb c :=
  ⟨⟨own_q h.o.p hf hq (by decide), ⟨own_q h.o.r.h hf hq (by decide), fun x hx => own_q (h.o.r.r x hx) hf hq (by decide)⟩, own_q h.o.m hf hq (by decide), ⟨own_q h.o.b.h hf hq (by decide), fun x hx => own_q (h.o.b.r x hx) hf hq (by decide)⟩⟩, h.d, h.l, Nat.le_trans h.n hf.b.size, h.bn⟩
/-- While bytes are read: the configuration, its block, the source. -/
structure DecS (B N q : Nat) (w1 w : World) (xp xr xm xb : Value) (c : Cf) (s : ByteArray) (i : Nat) : Prop where
  st : St B N w xp xr xm xb c
  bel : Below B w1 w
  cb : Bk w N 29 #[xp, xr, xm, xb]
  src : SrcAt w q s i
  qN : N < q
theorem DecS.next {B N q : Nat} {w1 w w' : World} {xp xr xm xb : Value} {c : Cf} {s : ByteArray} {i j : Nat} (h : DecS B N q w1 w xp xr xm xb c s i) (hf : Fr q (q + 1) w w') (hs : SrcAt w' q s j) : DecS B N q w1 w' xp xr xm xb c s j := by
  have hq := h.qN
  have hb := h.st.bn
  exact ⟨h.st.src h.src hf, h.bel.trans (hf.b.mono (by omega)), (hf.b.block N hq).trans h.cb, hs, hq⟩
theorem DecS.row {B N q : Nat} {w1 w w' : World} {xp xr xm xb : Value} {c c' : Cf} {s : ByteArray} {i : Nat} (h : DecS B N q w1 w xp xr xm xb c s i) (hs : St B N w' xp xr xm xb c') (hf : Fr B N w w') : DecS B N q w1 w' xp xr xm xb c' s i :=
  ⟨hs, h.bel.trans hf.b, hf.bk (Nat.le_refl _) h.cb, hf.bk (Nat.le_of_lt h.qN) h.src, h.qN⟩
theorem St.rowAt {B N : Nat} {w : World} {xp xr xm xb : Value} {c : Cf} (h : St B N w xp xr xm xb c) (k : Nat) (hk : k < c.pf.regs.length) :
    ∃ g1 cp ad cap, xr = .slice (some ⟨g1, 0, none⟩) c.pf.regs.length cp ∧ g1 < w.heap.size ∧ w.cell? ⟨g1, k, none⟩ = some (.slice ad (c.pf.regs.getD k []).length cap) := by
  have hk' : k < c.regs.length := by have : c.pf.regs.length = c.regs.length := by simp [Cf.pf]
                                     omega
  have hr : c.pf.regs.getD k [] = (c.regs[k]).1 := by
    show (c.regs.map (·.1)).getD k [] = _
    rw [getD_map, List.getD_eq_getElem?_getD, List.getElem?_eq_getElem hk']; rfl
  have hl : c.pf.regs.length = c.regs.length := by simp [Cf.pf]
  obtain ⟨g1, cp1, hv1, _, hl1, hc1⟩ := h.o.regRow k hk'
  obtain ⟨ad, cap, hv, _⟩ := own_shape' (h.o.r.r _ (List.getElem_mem hk'))
  exact ⟨g1, cp1, ad, cap, by rw [hv1, hl], hl1, by rw [hc1, hv, hr]⟩

end Go.Proofs.Ytmkgijedchpgcaa
