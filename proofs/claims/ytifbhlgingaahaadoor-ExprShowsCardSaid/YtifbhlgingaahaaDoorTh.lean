/- Parsing a text that was scanned. -/
import Derived.Test.YtifbhlgingaahaaDoorTg
namespace Go.Proofs.YtifbhlgingaahaaDoor
open Go.RowKit

theorem tk_num (l : List UInt8) (k n v : Nat) (h : tk l = (0, k, n, v)) : v ≤ 9999 := by
  cases l with
  | nil => simp [tk] at h
  | cons c r =>
    rw [tk] at h
    by_cases h1 : ltr (c.toNat : Int) = true
    · rw [if_pos h1] at h
      by_cases h2 : 16 < spanN wrd (c :: r)
      · rw [if_pos h2] at h; simp only [Prod.mk.injEq] at h; omega
      · rw [if_neg h2] at h; simp only [Prod.mk.injEq] at h; omega
    · rw [if_neg h1] at h
      by_cases h2 : dig (c.toNat : Int) = true
      · rw [if_pos h2] at h
        by_cases h3 : 9999 < numV ((c :: r).take (spanN dig (c :: r)))
        · rw [if_pos h3] at h; simp only [Prod.mk.injEq] at h; omega
        · rw [if_neg h3] at h; simp only [Prod.mk.injEq] at h; omega
      · rw [if_neg h2] at h
        by_cases h3 : 0 < sgnN (c :: r)
        · rw [if_pos h3] at h; simp only [Prod.mk.injEq] at h; omega
        · rw [if_neg h3] at h; simp only [Prod.mk.injEq] at h; omega

theorem scan_tokOK (l : List UInt8) (h : l.length ≤ 20000) : TokOK (scanL l).1 := by
  intro i
  have hp := (scanL_place l h).1
  have hg := scanL_good l
  obtain ⟨ts, hts⟩ : ∃ ts, ts = (scanL l).1 := ⟨_, rfl⟩
  rw [← hts] at hp hg ⊢
  by_cases hi : i < ts.length
  · have e : tokO ts i = ts[i] := by simp [tokO, hi]
    rw [e]
    have h1 := hp _ (List.getElem_mem hi)
    have h2 := hg _ (List.getElem_mem hi)
    unfold Pl at h1
    unfold Good at h2
    have h3 := tk_num _ _ _ _ h2
    omega
  · have e : tokO ts i = (0, [], 0, 0) := by simp [tokO, hi]
    rw [e]
    simp

theorem scan_few (l : List UInt8) (h : l.length ≤ 20000) : (scanL l).1.length ≤ 40000 := by
  have h1 := scanL_lenS l
  have h2 := length_le_lenS (scanL l).1
  omega

/-- Parsing what was scanned. -/
theorem parse_scanned (l : List UInt8) (B : Nat) (lv : Value) (w : World) (h : w.ownsRow B 51 4 lv (scanL l).1.length (rowOf (scanL l).1)) (hl : l.length ≤ 20000) (hs : Sgn w) :
    Calls Tryd.prog 20 #[lv, .int .i64 0] w (ParseAns w.heap.size (parseR (scanL l).1 0) w) := by
  have hlt := h.lt
  have hf := scan_few l hl
  exact parse_any (scanL l).1 lv 0 w (toks_of_own h _ fun g hg => by have := (hlt g hg).2; omega) hs (by omega) (scan_tokOK l hl) (Nat.zero_le _)

def k1 : List UInt8 := [97, 32, 43, 32, 98, 32, 42, 32, 50, 32, 59]
def k2 : List UInt8 := [97, 32, 45, 32, 116, 46, 98, 32, 45, 32, 33, 99]
def k3 : List UInt8 := [40, 97, 32, 43, 32, 59]
def k4 : List UInt8 := [97, 32, 60]
def ndN (s : List UInt8) (pl : Int) : Nd := ⟨2, 0, ⟨s.toArray⟩, ⟨#[]⟩, pl⟩
def e1 : Ex := .bin (opN 6 2) (.leaf (ndN [97] 0)) (.bin (opN 8 6) (.leaf (ndN [98] 4)) (.leaf ⟨1, 2, ⟨#[]⟩, ⟨#[]⟩, 8⟩))
def e2 : Ex := .bin (opN 7 8) (.bin (opN 7 2) (.leaf (ndN [97] 0)) (.leaf ⟨4, 0, ⟨#[98]⟩, ⟨#[116]⟩, 4⟩)) (.un (opN 5 10) (.leaf (ndN [99] 11)))
def t1 : List Tok := [(1, [97], 0, 0), (3, [43], 0, 2), (1, [98], 0, 4), (3, [42], 0, 6), (2, [50], 2, 8), (3, [59], 0, 10)]
def t2 : List Tok := [(1, [97], 0, 0), (3, [45], 0, 2), (1, [116], 0, 4), (3, [46], 0, 5), (1, [98], 0, 6), (3, [45], 0, 8), (3, [33], 0, 10), (1, [99], 0, 11)]
def t3 : List Tok := [(3, [40], 0, 0), (1, [97], 0, 1), (3, [43], 0, 3), (3, [59], 0, 5)]
def t4 : List Tok := [(1, [97], 0, 0), (3, [60], 0, 2)]
theorem s1 : (scanL k1).1 = t1 := by decide +kernel
theorem s2 : (scanL k2).1 = t2 := by decide +kernel
theorem s3 : (scanL k3).1 = t3 := by decide +kernel
theorem s4 : (scanL k4).1 = t4 := by decide +kernel
theorem p1 : parseR t1 0 = .ok e1 5 := (parse_of t1 0 60 (.ok e1 5) (by decide) (by kernel_rfl)).trans (by rfl)
theorem p2 : parseR t2 0 = .ok e2 8 := (parse_of t2 0 70 (.ok e2 8) (by decide) (by kernel_rfl)).trans (by rfl)
theorem p3 : parseR t3 0 = .err 5 5 := (parse_of t3 0 60 (.err 5 5) (by decide) (by kernel_rfl)).trans (by rfl)
theorem p4 : parseR t4 0 = .err 6 3 := (parse_of t4 0 60 (.err 6 3) (by decide) (by kernel_rfl)).trans (by rfl)


theorem r1 : rightP e1.flat := ⟨e1, by simp [e1, Ex.wf, opN, ndN, ar], rfl, by decide +kernel, by decide +kernel, by decide +kernel⟩
theorem r2 : rightP e2.flat := ⟨e2, by simp [e2, Ex.wf, opN, ndN, ar], rfl, by decide +kernel, by decide +kernel, by decide +kernel⟩
theorem r1' : ¬ rightP (e1.flat.drop 1) := by
  rintro ⟨e, h1, h2, _⟩
  have h := end_of_tree e h1
  rw [h2] at h
  exact absurd h (by decide +kernel)
theorem x1 : textOf e1.flat = [97, 32, 43, 32, 40, 98, 32, 42, 32, 50, 41] := by rw [textOf_tree _ r1 e1 (by simp [e1, Ex.wf, opN, ndN, ar]) rfl]; decide +kernel
theorem x2 : textOf e2.flat = [40, 97, 32, 45, 32, 116, 46, 98, 41, 32, 45, 32, 33, 99] := by rw [textOf_tree _ r2 e2 (by simp [e2, Ex.wf, opN, ndN, ar]) rfl]; decide +kernel
theorem d1 : DepthIs e1.flat 2 := .inl ⟨e1, by simp [e1, Ex.wf, opN, ndN, ar], rfl, r1, by decide +kernel⟩
theorem n1 : endL e1.flat 2 = 5 := by decide +kernel
theorem m2 : (namesL e2.flat).length = 3 := by decide +kernel

end Go.Proofs.YtifbhlgingaahaaDoor
