/- The reference's table: Get, At, Slots, Put. -/
import Derived.Test.YthmejdnedfokcaaJe
namespace Go.Proofs.Ythmejdnedfokcaa
set_option linter.unusedSimpArgs false
set_option linter.unusedVariables false
open Go.RowKit

def strs (L : List ByteArray) : List Value := L.map fun x => .string x
theorem strs_flat (L : List ByteArray) : strs L = L.flatMap fun x => [Value.string x] := by
  unfold strs
  induction L with
  | nil => rfl
  | cons a l ih => rw [List.map_cons, List.flatMap_cons, ih]; rfl
theorem strsD_of_own {w : World} {B T : Nat} {v : Value} {L : List ByteArray} (h : w.ownsRow B T 1 v L.length (strs L)) : StrsD w v L :=
  slD_of_own (fun x => [Value.string x]) 1 (fun _ => rfl) (strs_flat L ▸ h) fun g i hi hk => hk 0 (by decide)
/-- The reference's table: one block, and a row of its own. -/
def RT (w : World) (t : Value) (L : List ByteArray) (F : Nat → Prop) : Prop := ∃ g v, t = .pointer (some ⟨g, 0, none⟩) ∧ Bk w g 29 #[v] ∧ w.ownsRow 0 9 1 v L.length (strs L) ∧ ∀ x, F x ↔ (x = g ∨ v.ownBlock = some x)
theorem RT.frame {w w' : World} {t : Value} {L : List ByteArray} {F : Nat → Prop} (h : RT w t L F) (hs : w.heap.size ≤ w'.heap.size) (hf : ∀ g, F g → w'.heap[g]? = w.heap[g]?) : RT w' t L F := by
  obtain ⟨g, v, rfl, hb, ho, hF⟩ := h
  refine ⟨g, v, rfl, (hf g ((hF g).2 (.inl rfl))).trans hb, ?_, hF⟩
  obtain ⟨h1, h2⟩ := ho
  refine ⟨h1, ?_⟩
  rcases h2 with h2 | ⟨b, cap, cur, rfl, hB, hh, r⟩
  · exact .inl h2
  · exact .inr ⟨b, cap, cur, rfl, hB, (hf b ((hF b).2 (.inr rfl))).trans hh, r⟩
theorem RT.lt {w : World} {t : Value} {L : List ByteArray} {F : Nat → Prop} (h : RT w t L F) : ∀ g, F g → g < w.heap.size := by
  obtain ⟨g, v, rfl, hb, ho, hF⟩ := h
  intro x hx
  rcases (hF x).1 hx with rfl | hv
  · exact hb.lt
  · exact (ho.lt x hv).2
theorem RT.below {w w' : World} {t : Value} {L : List ByteArray} {F : Nat → Prop} (h : RT w t L F) (hb : Below w.heap.size w w') : RT w' t L F := h.frame hb.size fun g hg => hb.block g (h.lt g hg)

theorem pos_of {L : List ByteArray} {s : ByteArray} {k : Nat} (hk : k < L.length) (h : eqT L[k] s = true) (h2 : ∀ j, (hj : j < k) → eqT (L[j]'(by omega)) s = false) : hasT L s = true ∧ posT L s = k := by
  refine ⟨(has_iff L s).2 ?_, ?_⟩
  · rw [← (eqT_iff _ _).1 h]; exact List.getElem_mem hk
  · unfold posT
    rw [List.findIdx_eq hk]
    exact ⟨h, fun j hj => h2 j hj⟩
theorem has_not {L : List ByteArray} {s : ByteArray} (h2 : ∀ j, (hj : j < L.length) → eqT L[j] s = false) : hasT L s = false := by
  rw [Bool.eq_false_iff]
  intro h
  rw [has_iff] at h
  obtain ⟨j, hj, e⟩ := List.mem_iff_getElem.1 h
  have := h2 j hj
  rw [e, (eqT_iff s s).2 rfl] at this
  cases this

attribute [local go_sem ↓] Go.wp_at_zero Go.wp_at_succ
set_option maxRecDepth 100000 in
set_option maxHeartbeats 4000000 in
theorem rget_any {w : World} {t : Value} {L : List ByteArray} {F : Nat → Prop} (s : ByteArray) (ht : RT w t L F) (hfw : Few L) :
    Calls Try.prog 13 #[t, .string s] w fun e w' => e = .returned (.tuple #[.int .i64 (getN L s), .bool (hasT L s)]) ∧ Below w.heap.size w w' := by
  obtain ⟨g, v, rfl, hb, ho, hF⟩ := ht
  have HV := Lib.hid (strsD_of_own ho)
  have HO := Lib.hid ho
  obtain ⟨ad, cap, rfl⟩ := HV.out.shape0
  obtain ⟨n, hn⟩ : ∃ n, n = L.length := ⟨_, rfl⟩
  have hn5 : L.length ≤ 3000 := hfw.1
  rw [← hn] at HV HO hb hn5
  have HN5 := Lib.hid hn5
  have HN := Lib.hid hn
  have HBK := Lib.hid hb
  clear ho hF hb hn hn5
  go_enter Try.func13, Try.ntmps13
  go_wp2_with fail
  go_loopg [6] n (fun fuel i' wr => ∃ (k : Nat), i' = .int .i64 k ∧ k ≤ n ∧ n - k ≤ fuel ∧ (∀ j, (hj : j < k) → (hl : j < L.length) → eqT L[j] s = false) ∧ Below w.heap.size w wr)
  case atStart => exact ⟨0, rfl, Nat.zero_le _, Nat.le_refl _, fun j hj => by omega, Below.refl _ _⟩
  case round =>
    obtain ⟨k, rfl, hk, hf, hl, hb⟩ := hrel
    have HL := Lib.hid hl
    have HB := Lib.hid hb
    clear hl hb
    have bb := (HBK.out.below HB.out).cell 0
    by_cases hlt : k < n
    · have hk' : k < L.length := by rw [← HN.out]; exact hlt
      have HK' := Lib.hid hk'
      obtain ⟨b, off, rfl, hbl, y⟩ := StrsD.at2 (StrsD.below HV.out HB.out) k hk'
      obtain ⟨q, hq⟩ : ∃ q, eqT L[k] s = q := ⟨_, rfl⟩
      have HQ := Lib.hid hq
      unfold eqT at hq
      generalize L[k] = x at y hq
      have e1 : (0 : Int) ≤ (k : Int) := by omega
      have e2 : (k : Int) < (n : Int) := by omega
      have hwk : IntKind.i64.wrap ((k : Int) + 1) = (k : Int) + 1 := IntWalk.i64_in _ (by have := HN5.out; omega)
      clear hk'
      have HLT := Lib.hid hlt
      cases q
      · go_wp2_with fail
        have hlt := HLT.out
        go_roundg (gk - 1)
        case measure => omega
        case rel => exact ⟨k + 1, by go_num, by omega, by omega, fun j hj hl => by
          by_cases h : j = k
          · subst h; exact HQ.out
          · exact HL.out j (by omega) hl, HB.out⟩
      · go_wp2_with fail
        go_ret2
        obtain ⟨p1, p2⟩ := pos_of (s := s) HK'.out HQ.out (fun j hj => HL.out j hj (by have := HK'.out; omega))
        exact ⟨by unfold getN; rw [p1, if_pos rfl, p2]; rfl, HB.out⟩
    · obtain rfl : k = n := by omega
      go_wp2_with fail
      go_ret2
      have p1 := has_not (L := L) (s := s) fun j hj => HL.out j (by rw [HN.out]; exact hj) hj
      exact ⟨by unfold getN; rw [p1]; rfl, HB.out⟩


set_option maxRecDepth 100000 in
set_option maxHeartbeats 4000000 in
theorem rat_any {w : World} {t : Value} {L : List ByteArray} {F : Nat → Prop} (i : Int) (ht : RT w t L F) (hfw : Few L) :
    Calls Try.prog 19 #[t, .int .i64 i] w fun e w' => e = .returned (.tuple #[.string (atS L i), .bool (atB L i)]) ∧ Below w.heap.size w w' := by
  obtain ⟨g, v, rfl, hb, ho, hF⟩ := ht
  have HV := Lib.hid (strsD_of_own ho)
  obtain ⟨ad, cap, rfl⟩ := HV.out.shape0
  have bb := hb.cell 0
  obtain ⟨n, hn⟩ : ∃ n, n = L.length := ⟨_, rfl⟩
  rw [← hn] at HV bb
  have HN := Lib.hid hn
  clear ho hF hb hfw hn
  by_cases h0 : i < 0
  · have hB : atB L i = false := decide_eq_false (by omega)
    have HS : Hid (atS L i = emptyT) := Lib.hid (by unfold atS; rw [hB]; rfl)
    have HB := Lib.hid hB
    clear hB
    go_enter Try.func19, Try.ntmps19
    go_wp2_with fail
    go_ret2
    exact ⟨by rw [HS.out, HB.out]; rfl, Below.refl _ _⟩
  · by_cases h1 : i < (n : Int)
    · obtain ⟨k, rfl⟩ : ∃ k : Nat, i = (k : Int) := ⟨i.toNat, by omega⟩
      have hk : k < L.length := by rw [← HN.out]; omega
      have hB : atB L k = true := decide_eq_true (by omega)
      obtain ⟨b, off, rfl, hbl, y⟩ := StrsD.at2 HV.out k hk
      have HS : Hid (atS L k = L[k]) := Lib.hid (by unfold atS; rw [hB, if_pos rfl, Int.toNat_natCast, List.getD_eq_getElem?_getD, List.getElem?_eq_getElem hk]; rfl)
      have HB := Lib.hid hB
      generalize L[k] = x at y HS
      have e1 : ¬ (n : Int) ≤ (k : Int) := by omega
      have e2 : (0 : Int) ≤ (k : Int) := by omega
      clear hB hk
      go_enter Try.func19, Try.ntmps19
      go_wp2_with fail
      go_ret2
      exact ⟨by rw [HS.out, HB.out]; rfl, Below.refl _ _⟩
    · have hB : atB L i = false := decide_eq_false (by rw [← HN.out]; omega)
      have HS : Hid (atS L i = emptyT) := Lib.hid (by unfold atS; rw [hB]; rfl)
      have HB := Lib.hid hB
      have e1 : (n : Int) ≤ i := by omega
      clear hB h1
      go_enter Try.func19, Try.ntmps19
      go_wp2_with fail
      go_ret2
      exact ⟨by rw [HS.out, HB.out]; rfl, Below.refl _ _⟩

theorem slF_step {n f m : Nat} (h : m < 2 * n) (hp : 2 * n ≤ m * 2 ^ f) : 1 ≤ f ∧ slF (f - 1) n (2 * m) = slF f n m ∧ 2 * n ≤ (2 * m) * 2 ^ (f - 1) := by
  match f, hp with
  | 0, hp => omega
  | f + 1, hp =>
    refine ⟨by omega, ?_, ?_⟩
    · rw [Nat.add_sub_cancel]
      conv => rhs; unfold slF
      rw [if_pos h]
    · rw [Nat.add_sub_cancel, Nat.mul_comm 2 m, Nat.mul_assoc, ← Nat.pow_succ']
      exact hp
theorem slF_stop {n f m : Nat} (h : ¬ m < 2 * n) : slF f n m = m := by
  cases f with
  | zero => rfl
  | succ f => unfold slF; rw [if_neg h]

set_option maxRecDepth 100000 in
set_option maxHeartbeats 4000000 in
theorem rslots_any {w : World} {t : Value} {L : List ByteArray} {F : Nat → Prop} (ht : RT w t L F) (hfw : Few L) :
    Calls Try.prog 16 #[t] w fun e w' => e = .returned (.int .i64 (slotsN L.length)) ∧ Below w.heap.size w w' := by
  obtain ⟨g, v, rfl, hb, ho, hF⟩ := ht
  obtain ⟨ad, cap, rfl⟩ := (strsD_of_own ho).shape0
  have HBK := Lib.hid hb
  have hn3 := hfw.1
  obtain ⟨n, hn⟩ : ∃ n, n = L.length := ⟨_, rfl⟩
  rw [← hn] at HBK hn3 ⊢
  have HN3 := Lib.hid hn3
  clear ho hF hb hfw hn hn3
  go_enter Try.func16, Try.ntmps16
  go_wp2_with fail
  go_loopg [3] 20 (fun fuel i' wr => ∃ (m : Nat), i' = .int .i64 m ∧ slF fuel n m = slotsN n ∧ m ≤ 12016 ∧ 2 * n ≤ m * 2 ^ fuel ∧ Below w.heap.size w wr)
  case atStart => exact ⟨16, rfl, rfl, by omega, by have := HN3.out; omega, Below.refl _ _⟩
  case round =>
    obtain ⟨m, rfl, hf, hm, hp, hb⟩ := hrel
    have HB := Lib.hid hb
    have HF := Lib.hid hf
    have HP := Lib.hid hp
    clear hb hf hp
    have bb := (HBK.out.below HB.out).cell 0
    have h3 := HN3.out
    have hw1 : IntKind.i64.wrap (2 * (n : Int)) = 2 * (n : Int) := IntWalk.i64_in _ (by omega)
    have hw2 : IntKind.i64.wrap (2 * (m : Int)) = 2 * (m : Int) := IntWalk.i64_in _ (by omega)
    clear h3
    by_cases hlt : m < 2 * n
    · have e1 : (m : Int) < 2 * (n : Int) := by omega
      have HLT := Lib.hid hlt
      clear hlt
      go_wp2_with fail
      obtain ⟨q1, q2, q3⟩ := slF_step HLT.out HP.out
      have hlt := HLT.out
      go_roundg (gk - 1)
      case measure => omega
      case rel => exact ⟨2 * m, by go_num, q2.trans HF.out, by have := HN3.out; omega, q3, HB.out⟩
    · have e1 : ¬ (m : Int) < 2 * (n : Int) := by omega
      have HLT := Lib.hid hlt
      clear hlt
      go_wp2_with fail
      go_ret
      exact ⟨by rw [← HF.out, slF_stop HLT.out]; rfl, HB.out⟩

end Go.Proofs.Ythmejdnedfokcaa
