/- Layer 12: what is read of bytes, place by place. -/
import Derived.Test.YtmkgijedchpgcaaEa
import Derived.Laws.BitsAllLaws
namespace Go.Proofs.Ytmkgijedchpgcaa
set_option linter.unusedSimpArgs false
set_option linter.unusedVariables false
open Go.RowKit

/-- The first k are done. -/
def mixL {α : Type} (f g : Nat → α) (n k : Nat) : List α := (List.range n).map fun j => if j < k then f j else g j
theorem mix_len {α : Type} (f g : Nat → α) (n k : Nat) : (mixL f g n k).length = n := by simp [mixL]
theorem mix_zero {α : Type} (f g : Nat → α) (n : Nat) : mixL f g n 0 = (List.range n).map g := by
  unfold mixL
  refine List.map_congr_left fun j _ => if_neg (by omega)
theorem mix_all {α : Type} (f g : Nat → α) (n : Nat) : mixL f g n n = (List.range n).map f := by
  unfold mixL
  refine List.map_congr_left fun j hj => if_pos (List.mem_range.1 hj)
theorem mix_set {α : Type} (f g : Nat → α) (n k : Nat) (x : α) (h : k < n) (hx : x = f k) : (mixL f g n k).set k x = mixL f g n (k + 1) := by
  subst hx
  unfold mixL
  apply List.ext_getElem
  · simp
  · intro i h1 h2
    have hi : i < n := by simpa using h2
    rw [List.getElem_set]
    simp only [List.getElem_map, List.getElem_range]
    by_cases he : k = i
    · subst he
      rw [if_pos rfl, if_pos (by omega)]
    · rw [if_neg he]
      by_cases hl : i < k
      · rw [if_pos hl, if_pos (by omega)]
      · rw [if_neg hl, if_neg (by omega)]
theorem mix_at {α : Type} (f g : Nat → α) (n k : Nat) (d : α) (h : k < n) : (mixL f g n k).getD k d = g k := by
  unfold mixL
  rw [List.getD_eq_getElem?_getD, List.getElem?_eq_getElem (by simpa using h)]
  simp
theorem range_rep {α : Type} (x : α) (n : Nat) : (List.range n).map (fun _ => x) = List.replicate n x := by
  apply List.ext_getElem
  · simp
  · intro i h1 h2; simp
theorem range_getD {α : Type} (l : List α) (d : α) : (List.range l.length).map (fun j => l.getD j d) = l := by
  apply List.ext_getElem
  · simp
  · intro i h1 h2
    simp only [List.getElem_map, List.getElem_range]
    rw [List.getD_eq_getElem?_getD, List.getElem?_eq_getElem h2]; rfl

/-- The place of thread j's part. -/
def posF (s : List Int) : List Nat → Nat → Nat → Nat
  | [], i, _ => i
  | _ :: _, i, 0 => i
  | nr :: rs, i, j + 1 => posF s rs (i + 3 + nr + 2 * (atZ s (i + 2 + nr)).toNat) j
theorem pos_zero (s : List Int) (rs : List Nat) (i : Nat) : posF s rs i 0 = i := by cases rs <;> rfl
def cntF (s : List Int) (rs : List Nat) (i j : Nat) : Nat := (atZ s (posF s rs i j + 2 + rs.getD j 0)).toNat
theorem pos_next (s : List Int) : ∀ (rs : List Nat) (i j : Nat), j < rs.length → posF s rs i (j + 1) = posF s rs i j + 3 + rs.getD j 0 + 2 * cntF s rs i j
  | nr :: rs, i, 0, _ => by
    show posF s rs _ 0 = _
    rw [pos_zero]
    rfl
  | nr :: rs, i, j + 1, h => pos_next s rs _ j (by simpa using h)
def pcF (s : List Int) (rs : List Nat) (j : Nat) : Int := 256 * atZ s (posF s rs 0 j) + atZ s (posF s rs 0 j + 1)
def rgF (s : List Int) (rs : List Nat) (j : Nat) : List Int := numsZ s (posF s rs 0 j + 2) (rs.getD j 0)
def bfF (s : List Int) (rs : List Nat) (j : Nat) : List Ent := entsZ s (posF s rs 0 j + 3 + rs.getD j 0) (cntF s rs 0 j)
theorem dec_ts (s : List Int) : ∀ (rs : List Nat) (i : Nat), decTs s rs i = ((List.range rs.length).map fun j => (256 * atZ s (posF s rs i j) + atZ s (posF s rs i j + 1), numsZ s (posF s rs i j + 2) (rs.getD j 0), entsZ s (posF s rs i j + 3 + rs.getD j 0) (cntF s rs i j)), posF s rs i rs.length)
  | [], i => rfl
  | nr :: rs, i => by
    have ih := dec_ts s rs (i + 3 + nr + 2 * (atZ s (i + 2 + nr)).toNat)
    unfold decTs
    simp only [ih]
    rw [List.length_cons, List.range_succ_eq_map, List.map_cons, List.map_map]
    rfl
/-- What is read, part by part. -/
theorem dec_parts (s : List Int) (rs : List Nat) (nl : Nat) : decP s rs nl = ⟨(List.range rs.length).map (pcF s rs), (List.range rs.length).map (rgF s rs), numsZ s (posF s rs 0 rs.length) nl, (List.range rs.length).map (bfF s rs)⟩ := by
  unfold decP
  rw [dec_ts]
  simp only [List.map_map]
  rfl

theorem nums_add (s : List Int) (i a b : Nat) : numsZ s i (a + b) = numsZ s i a ++ numsZ s (i + a) b := by
  unfold numsZ
  rw [List.range_add, List.map_append, List.map_map]
  congr 1
  refine List.map_congr_left fun k _ => ?_
  show atZ s (i + (a + k)) = atZ s (i + a + k)
  rw [Nat.add_assoc]
theorem nums_one (s : List Int) (i : Nat) : numsZ s i 1 = [atZ s i] := rfl
theorem nums_len (s : List Int) (i n : Nat) : (numsZ s i n).length = n := by simp [numsZ]
theorem ents_nums (s : List Int) (i : Nat) : ∀ n, (entsZ s i n).flatMap entE = numsZ s i (2 * n)
  | 0 => rfl
  | n + 1 => by
    rw [show 2 * (n + 1) = 2 * n + 2 by omega, nums_add, ← ents_nums s i n]
    unfold entsZ
    rw [List.range_succ, List.map_append, List.flatMap_append]
    rfl
theorem atZ_byte (s : List Int) (h : ∀ n ∈ s, 0 ≤ n ∧ n < 256) (i : Nat) : 0 ≤ atZ s i ∧ atZ s i < 256 := by
  unfold atZ
  rw [List.getD_eq_getElem?_getD]
  cases hg : s[i]? with
  | none => simp
  | some x => exact h x (List.mem_of_getElem? hg)
theorem enc_ts (s : List Int) (hs : ∀ n ∈ s, 0 ≤ n ∧ n < 256) : ∀ (rs : List Nat) (i : Nat), i ≤ (decTs s rs i).2 ∧ thsE ((decTs s rs i).1.map (·.1)) ((decTs s rs i).1.map (·.2.1)) ((decTs s rs i).1.map (·.2.2)) = numsZ s i ((decTs s rs i).2 - i)
  | [], i => ⟨Nat.le_refl _, by simp [decTs, thsE, numsZ]⟩
  | nr :: rs, i => by
    have ih := enc_ts s hs rs (i + 3 + nr + 2 * (atZ s (i + 2 + nr)).toNat)
    unfold decTs
    simp only [List.map_cons]
    generalize hX : decTs s rs (i + 3 + nr + 2 * (atZ s (i + 2 + nr)).toNat) = X at ih
    obtain ⟨h1, h2⟩ := ih
    refine ⟨by omega, ?_⟩
    unfold thsE
    rw [h2]
    have a0 := atZ_byte s hs i
    have a1 := atZ_byte s hs (i + 1)
    have a2 := atZ_byte s hs (i + 2 + nr)
    generalize hn : (atZ s (i + 2 + nr)).toNat = n at h1 ⊢
    have e0 : (256 * atZ s i + atZ s (i + 1)) / 256 = atZ s i := by omega
    have e1 : (256 * atZ s i + atZ s (i + 1)) % 256 = atZ s (i + 1) := by omega
    unfold thrE
    rw [e0, e1, ents_nums, show X.2 - i = (2 + nr + 1 + 2 * n) + (X.2 - (i + 3 + nr + 2 * n)) by omega, nums_add, nums_add s i (2 + nr + 1), nums_add s i (2 + nr), nums_add s i 2, nums_one, show (entsZ s (i + 3 + nr) n).length = n by simp [entsZ]]
    have e2 : ((n : Nat) : Int) = atZ s (i + 2 + nr) := by omega
    rw [e2, show numsZ s i 2 = [atZ s i, atZ s (i + 1)] from rfl, show i + (2 + nr) = i + 2 + nr by omega, show i + (2 + nr + 1) = i + 3 + nr by omega, show i + (2 + nr + 1 + 2 * n) = i + 3 + nr + 2 * n by omega]
    simp
/-- What is read has the bytes that were read. -/
theorem enc_dec (s : List Int) (hs : ∀ n ∈ s, 0 ≤ n ∧ n < 256) (rs : List Nat) (nl : Nat) : encP (decP s rs nl) = numsZ s 0 (posF s rs 0 rs.length + nl) := by
  have h := enc_ts s hs rs 0
  unfold decP encP
  simp only
  rw [h.2, Nat.sub_zero, show (decTs s rs 0).2 = posF s rs 0 rs.length by rw [dec_ts], nums_add, Nat.zero_add]
theorem nums_self (s : List Int) (e : Nat) : numsZ s 0 e = s ↔ e = s.length := by
  constructor
  · intro h
    rw [← h, nums_len]
  · rintro rfl
    unfold numsZ atZ
    simp only [Nat.zero_add]
    exact range_getD s 0
theorem num_bd (s : ByteArray) : ∀ n ∈ numZ s, 0 ≤ n ∧ n < 256 := by
  intro n hn
  unfold numZ at hn
  obtain ⟨b, _, rfl⟩ := List.mem_map.1 hn
  have := b.toNat_lt
  omega
/-- Where the reading of bytes ends. -/
def endF (u : Un) (s : ByteArray) : Nat := posF (numZ s) (lensZ u) 0 (lensZ u).length + u.init.length
def pfZ (u : Un) (s : ByteArray) : Pf := decP (numZ s) (lensZ u) u.init.length
theorem decZ_iff (u : Un) (s : ByteArray) (model room : Int) : decZ u s model room = if (rightZ u (pfZ u s) model room && decide (endF u s = s.size)) = true then some (pfZ u s) else none := by
  unfold decZ
  have e : decide (encP (decP (numZ s) (lensZ u) u.init.length) = numZ s) = decide (endF u s = s.size) := by
    rw [enc_dec _ (num_bd s)]
    exact decide_eq_decide.2 (by rw [nums_self, num_len]; rfl)
  rw [e]
  rfl
theorem i64_or_nat (a b : Nat) (ha : a < 65536) (hb : b < 65536) : bits .or .i64 (a : Int) (b : Int) = ((a ||| b : Nat) : Int) := by
  have hx : a ||| b < 2 ^ 16 := Nat.or_lt_two_pow (by omega) (by omega)
  show IntKind.i64.wrap ((BitVec.ofInt 64 (a : Int) ||| BitVec.ofInt 64 (b : Int)).toNat : Int) = _
  have h1 : (BitVec.ofInt 64 (a : Int)).toNat = a := by rw [BitVec.ofInt_natCast, BitVec.toNat_ofNat]; exact Nat.mod_eq_of_lt (by omega)
  have h2 : (BitVec.ofInt 64 (b : Int)).toNat = b := by rw [BitVec.ofInt_natCast, BitVec.toNat_ofNat]; exact Nat.mod_eq_of_lt (by omega)
  rw [BitVec.toNat_or, h1, h2]
  exact IntWalk.i64_in _ (by omega)
theorem or_byte (a b : Int) (h1 : 0 ≤ a) (h2 : a < 256) (h3 : 0 ≤ b) (h4 : b < 256) : bits BinOp.or IntKind.i64 (a * 256) b = 256 * a + b := by
  obtain ⟨n0, rfl⟩ := Int.eq_ofNat_of_zero_le h1
  obtain ⟨n1, rfl⟩ := Int.eq_ofNat_of_zero_le h3
  have e : ((n0 : Int) * 256) = ((n0 * 256 : Nat) : Int) := by omega
  rw [e, i64_or_nat (n0 * 256) n1 (by omega) (by omega)]
  have : n0 * 256 ||| n1 = n0 * 256 + n1 := by
    have := Nat.shiftLeft_add_eq_or_of_lt (i := 8) (b := n1) (by omega) n0
    rw [Nat.shiftLeft_eq] at this
    exact this.symm
  rw [this]
  omega

end Go.Proofs.Ytmkgijedchpgcaa
