/- Layer 12: configurations as bytes, plainly. Layer 12: bytes of right configurations. -/
import Derived.Test.YtmkgijedchpgcaaEz
namespace Go.Proofs.Ytmkgijedchpgcaa
set_option linter.unusedSimpArgs false
set_option linter.unusedVariables false
open Go.RowKit

def entE (e : Ent) : List Int := [e.1, e.2]
def thrE (pc : Int) (r : List Int) (b : List Ent) : List Int := pc / 256 :: pc % 256 :: (r ++ (b.length : Int) :: b.flatMap entE)
def thsE : List Int → List (List Int) → List (List Ent) → List Int
  | p :: ps, r :: rs, b :: bs => thrE p r b ++ thsE ps rs bs
  | _, _, _ => []
/-- A configuration's bytes, as numbers. -/
def encP (p : Pf) : List Int := thsE p.pc p.regs p.buf ++ p.mem
def sizeP (p : Pf) : Nat := 3 * p.pc.length + p.mem.length + (p.regs.map (·.length)).sum + (p.buf.map fun b => 2 * b.length).sum

theorem ents_len : ∀ b : List Ent, (b.flatMap entE).length = 2 * b.length
  | [] => rfl
  | e :: b => by rw [List.flatMap_cons, List.length_append, ents_len b]; simp only [entE, List.length_cons, List.length_nil]; omega
theorem thr_len (pc : Int) (r : List Int) (b : List Ent) : (thrE pc r b).length = 3 + r.length + 2 * b.length := by
  unfold thrE
  simp only [List.length_cons, List.length_append, ents_len]
  omega
theorem ths_len : ∀ (ps : List Int) (rs : List (List Int)) (bs : List (List Ent)), rs.length = ps.length → bs.length = ps.length → (thsE ps rs bs).length = 3 * ps.length + (rs.map (·.length)).sum + (bs.map fun b => 2 * b.length).sum
  | [], [], [], _, _ => rfl
  | p :: ps, r :: rs, b :: bs, h1, h2 => by
    unfold thsE
    rw [List.length_append, thr_len, ths_len ps rs bs (by simpa using h1) (by simpa using h2)]
    simp only [List.length_cons, List.map_cons, List.sum_cons]
    omega
theorem enc_len {p : Pf} (h1 : p.regs.length = p.pc.length) (h2 : p.buf.length = p.pc.length) : (encP p).length = sizeP p := by
  unfold encP sizeP
  rw [List.length_append, ths_len _ _ _ h1 h2]
  omega

/-- A byte's number; 0 behind the end. -/
def atZ (s : List Int) (i : Nat) : Int := s.getD i 0
def numsZ (s : List Int) (i n : Nat) : List Int := (List.range n).map fun k => atZ s (i + k)
def entsZ (s : List Int) (i n : Nat) : List Ent := (List.range n).map fun k => (atZ s (i + 2 * k), atZ s (i + 2 * k + 1))
/-- The threads' parts from a place on: where each one stands, what it holds, what waits; and the place behind them. -/
def decTs (s : List Int) : List Nat → Nat → List (Int × List Int × List Ent) × Nat
  | [], i => ([], i)
  | nr :: rs, i =>
    let n := (atZ s (i + 2 + nr)).toNat
    let x := decTs s rs (i + 3 + nr + 2 * n)
    ((256 * atZ s i + atZ s (i + 1), numsZ s (i + 2) nr, entsZ s (i + 3 + nr) n) :: x.1, x.2)
/-- What can be read of bytes. -/
def decP (s : List Int) (rs : List Nat) (nl : Nat) : Pf :=
  let x := decTs s rs 0
  ⟨x.1.map (·.1), x.1.map (·.2.1), numsZ s x.2 nl, x.1.map (·.2.2)⟩

theorem atZ_right (pre l : List Int) (i : Nat) : atZ (pre ++ l) (pre.length + i) = atZ l i := by
  unfold atZ
  rw [List.getD_eq_getElem?_getD, List.getD_eq_getElem?_getD, List.getElem?_append_right (by omega)]
  congr 2
  omega
theorem atZ_left (l post : List Int) (i : Nat) (h : i < l.length) : atZ (l ++ post) i = atZ l i := by
  unfold atZ
  rw [List.getD_eq_getElem?_getD, List.getD_eq_getElem?_getD, List.getElem?_append_left h]
theorem nums_back (pre r post : List Int) : numsZ (pre ++ (r ++ post)) pre.length r.length = r := by
  unfold numsZ
  apply List.ext_getElem
  · simp
  · intro i h1 h2
    rw [List.getElem_map, List.getElem_range, atZ_right, atZ_left _ _ _ h2]
    unfold atZ
    rw [List.getD_eq_getElem?_getD, List.getElem?_eq_getElem h2]
    rfl
theorem ents_at : ∀ (b : List Ent) (post : List Int) (k : Nat) (h : k < b.length), atZ (b.flatMap entE ++ post) (2 * k) = (b[k]).1 ∧ atZ (b.flatMap entE ++ post) (2 * k + 1) = (b[k]).2
  | e :: b, post, 0, _ => ⟨rfl, rfl⟩
  | e :: b, post, k + 1, h => by
    have ih := ents_at b post k (by simpa using h)
    rw [List.flatMap_cons, List.append_assoc, show 2 * (k + 1) = (entE e).length + 2 * k by simp only [entE, List.length_cons, List.length_nil]; omega, show (entE e).length + 2 * k + 1 = (entE e).length + (2 * k + 1) by omega, atZ_right, atZ_right]
    exact ih
theorem ents_back (pre : List Int) (b : List Ent) (post : List Int) : entsZ (pre ++ (b.flatMap entE ++ post)) pre.length b.length = b := by
  unfold entsZ
  apply List.ext_getElem
  · simp
  · intro i h1 h2
    rw [List.getElem_map, List.getElem_range, show pre.length + 2 * i + 1 = pre.length + (2 * i + 1) by omega, atZ_right, atZ_right, (ents_at b post i h2).1, (ents_at b post i h2).2]

theorem decTs_back : ∀ (ps : List Int) (rs : List (List Int)) (bs : List (List Ent)) (pre post : List Int), rs.length = ps.length → bs.length = ps.length → (∀ p ∈ ps, 0 ≤ p) →
    decTs (pre ++ (thsE ps rs bs ++ post)) (rs.map (·.length)) pre.length = (ps.zip (rs.zip bs), pre.length + (thsE ps rs bs).length)
  | [], [], [], pre, post, _, _, _ => by simp [decTs, thsE]
  | p :: ps, r :: rs, b :: bs, pre, post, h1, h2, h3 => by
    have hp : 0 ≤ p := h3 p (by simp)
    unfold thsE
    rw [List.map_cons]
    unfold decTs
    have e0 : pre ++ (thrE p r b ++ thsE ps rs bs ++ post) = (pre ++ [p / 256, p % 256]) ++ (r ++ ((b.length : Int) :: (b.flatMap entE ++ (thsE ps rs bs ++ post)))) := by unfold thrE; simp
    have e1 : pre ++ (thrE p r b ++ thsE ps rs bs ++ post) = pre ++ (p / 256 :: p % 256 :: (r ++ ((b.length : Int) :: (b.flatMap entE ++ (thsE ps rs bs ++ post))))) := by unfold thrE; simp
    have e2 : pre ++ (thrE p r b ++ thsE ps rs bs ++ post) = (pre ++ [p / 256, p % 256] ++ r) ++ ((b.length : Int) :: (b.flatMap entE ++ (thsE ps rs bs ++ post))) := by unfold thrE; simp
    have e3 : pre ++ (thrE p r b ++ thsE ps rs bs ++ post) = (pre ++ [p / 256, p % 256] ++ r ++ [(b.length : Int)]) ++ (b.flatMap entE ++ (thsE ps rs bs ++ post)) := by unfold thrE; simp
    have e4 : pre ++ (thrE p r b ++ thsE ps rs bs ++ post) = (pre ++ thrE p r b) ++ (thsE ps rs bs ++ post) := by simp
    have a0 : atZ (pre ++ (thrE p r b ++ thsE ps rs bs ++ post)) pre.length = p / 256 := by rw [e1]; exact atZ_right pre _ 0
    have a1 : atZ (pre ++ (thrE p r b ++ thsE ps rs bs ++ post)) (pre.length + 1) = p % 256 := by rw [e1]; exact atZ_right pre _ 1
    have a2 : numsZ (pre ++ (thrE p r b ++ thsE ps rs bs ++ post)) (pre.length + 2) r.length = r := by
      rw [e0]
      have := nums_back (pre ++ [p / 256, p % 256]) r ((b.length : Int) :: (b.flatMap entE ++ (thsE ps rs bs ++ post)))
      simpa using this
    have a3 : atZ (pre ++ (thrE p r b ++ thsE ps rs bs ++ post)) (pre.length + 2 + r.length) = (b.length : Int) := by
      rw [e2]
      have := atZ_right (pre ++ [p / 256, p % 256] ++ r) ((b.length : Int) :: (b.flatMap entE ++ (thsE ps rs bs ++ post))) 0
      rw [show (pre ++ [p / 256, p % 256] ++ r).length + 0 = pre.length + 2 + r.length by simp; omega] at this
      rw [this]; rfl
    have a4 : entsZ (pre ++ (thrE p r b ++ thsE ps rs bs ++ post)) (pre.length + 3 + r.length) b.length = b := by
      rw [e3]
      have := ents_back (pre ++ [p / 256, p % 256] ++ r ++ [(b.length : Int)]) b (thsE ps rs bs ++ post)
      rw [show (pre ++ [p / 256, p % 256] ++ r ++ [(b.length : Int)]).length = pre.length + 3 + r.length by simp; omega] at this
      exact this
    have hl : (pre ++ thrE p r b).length = pre.length + 3 + r.length + 2 * b.length := by rw [List.length_append, thr_len]; omega
    have ih := decTs_back ps rs bs (pre ++ thrE p r b) post (by simpa using h1) (by simpa using h2) (fun x hx => h3 x (by simp [hx]))
    rw [← e4, hl] at ih
    simp only [a0, a1, a2, a3, a4, Int.toNat_natCast, ih]
    rw [List.zip_cons_cons, List.zip_cons_cons, show 256 * (p / 256) + p % 256 = p by omega, List.length_append, thr_len]
    congr 1
    omega

/-- What was encoded is read back, whatever follows. -/
theorem dec_more {p : Pf} (post : List Int) (h1 : p.regs.length = p.pc.length) (h2 : p.buf.length = p.pc.length) (h3 : ∀ n ∈ p.pc, 0 ≤ n) : decP (encP p ++ post) (p.regs.map (·.length)) p.mem.length = p := by
  have h := decTs_back p.pc p.regs p.buf [] (p.mem ++ post) h1 h2 h3
  simp only [List.nil_append, List.length_nil, Nat.zero_add] at h
  unfold decP
  unfold encP
  rw [List.append_assoc, h]
  have n1 := nums_back (thsE p.pc p.regs p.buf) p.mem post
  have z1 : (p.pc.zip (p.regs.zip p.buf)).map (·.1) = p.pc := by rw [List.map_fst_zip]; rw [List.length_zip]; omega
  have z2 : (p.pc.zip (p.regs.zip p.buf)).map (·.2) = p.regs.zip p.buf := by rw [List.map_snd_zip]; rw [List.length_zip]; omega
  have z3 : (p.pc.zip (p.regs.zip p.buf)).map (·.2.1) = p.regs := by
    rw [show (fun x : Int × List Int × List Ent => x.2.1) = (fun y : List Int × List Ent => y.1) ∘ (fun x : Int × List Int × List Ent => x.2) from rfl, ← List.map_map, z2, List.map_fst_zip]; omega
  have z4 : (p.pc.zip (p.regs.zip p.buf)).map (·.2.2) = p.buf := by
    rw [show (fun x : Int × List Int × List Ent => x.2.2) = (fun y : List Int × List Ent => y.2) ∘ (fun x : Int × List Int × List Ent => x.2) from rfl, ← List.map_map, z2, List.map_snd_zip]; omega
  simp only [z1, z3, z4, n1]
theorem dec_back {p : Pf} (h1 : p.regs.length = p.pc.length) (h2 : p.buf.length = p.pc.length) (h3 : ∀ n ∈ p.pc, 0 ≤ n) : decP (encP p) (p.regs.map (·.length)) p.mem.length = p := by
  have := dec_more [] h1 h2 h3
  rwa [List.append_nil] at this

end Go.Proofs.Ytmkgijedchpgcaa

namespace Go.Proofs.Ytmkgijedchpgcaa
set_option linter.unusedSimpArgs false
set_option linter.unusedVariables false
open Go.RowKit

def bytZ (l : List Int) : ByteArray := ⟨(l.map fun n => UInt8.ofNat n.toNat).toArray⟩
def numZ (s : ByteArray) : List Int := s.data.toList.map fun b => (b.toNat : Int)
theorem num_byt {l : List Int} (h : ∀ n ∈ l, 0 ≤ n ∧ n < 256) : numZ (bytZ l) = l := by
  unfold numZ bytZ
  simp only [List.map_map]
  conv => rhs; rw [← List.map_id l]
  refine List.map_congr_left fun n hn => ?_
  obtain ⟨h1, h2⟩ := h n hn
  simp only [Function.comp, UInt8.toNat_ofNat', id]
  omega
theorem byt_num (s : ByteArray) : bytZ (numZ s) = s := by
  unfold numZ bytZ
  simp only [List.map_map]
  have h : (s.data.toList.map ((fun n : Int => UInt8.ofNat n.toNat) ∘ fun b : UInt8 => (b.toNat : Int))) = s.data.toList := by
    conv => rhs; rw [← List.map_id s.data.toList]
    refine List.map_congr_left fun b _ => ?_
    simp only [Function.comp, Int.toNat_natCast, id]
    exact UInt8.ofNat_toNat
  rw [h]
theorem num_len (s : ByteArray) : (numZ s).length = s.size := by
  unfold numZ
  rw [List.length_map, Array.length_toList]
  rfl
theorem byt_len (l : List Int) : (bytZ l).size = l.length := by
  show ((l.map fun n => UInt8.ofNat n.toNat).toArray).size = _
  rw [List.size_toArray, List.length_map]

theorem ths_mem {n : Int} : ∀ (ps : List Int) (rs : List (List Int)) (bs : List (List Ent)), n ∈ thsE ps rs bs → (∃ p ∈ ps, n = p / 256 ∨ n = p % 256) ∨ (∃ r ∈ rs, n ∈ r) ∨ (∃ b ∈ bs, n = b.length ∨ ∃ e ∈ b, n = e.1 ∨ n = e.2)
  | p :: ps, r :: rs, b :: bs, h => by
    unfold thsE thrE at h
    simp only [List.cons_append, List.mem_cons, List.mem_append, List.mem_flatMap] at h
    rcases h with h | h | ((h | h | ⟨e, he, hx⟩) | h)
    · exact .inl ⟨p, by simp, .inl h⟩
    · exact .inl ⟨p, by simp, .inr h⟩
    · exact .inr (.inl ⟨r, by simp, h⟩)
    · exact .inr (.inr ⟨b, by simp, .inl h⟩)
    · refine .inr (.inr ⟨b, by simp, .inr ⟨e, he, ?_⟩⟩)
      simpa [entE] using hx
    · rcases ths_mem ps rs bs h with ⟨x, hx, h⟩ | ⟨x, hx, h⟩ | ⟨x, hx, h⟩
      · exact .inl ⟨x, by simp [hx], h⟩
      · exact .inr (.inl ⟨x, by simp [hx], h⟩)
      · exact .inr (.inr ⟨x, by simp [hx], h⟩)

/-- What is right, as all that the bytes need. -/
structure Small (p : Pf) : Prop where
  lr : p.regs.length = p.pc.length
  lb : p.buf.length = p.pc.length
  pc : ∀ n ∈ p.pc, 0 ≤ n ∧ n < 1000
  r : ∀ l ∈ p.regs, ∀ n ∈ l, 0 ≤ n ∧ n < 16
  b : ∀ l ∈ p.buf, l.length ≤ 24 ∧ ∀ e ∈ l, (0 ≤ e.1 ∧ e.1 < 6) ∧ 0 ≤ e.2 ∧ e.2 < 16
  m : ∀ n ∈ p.mem, 0 ≤ n ∧ n < 16
theorem Small.byte {p : Pf} (h : Small p) : ∀ n ∈ encP p, 0 ≤ n ∧ n < 256 := by
  intro n hn
  unfold encP at hn
  rcases List.mem_append.1 hn with hn | hn
  · rcases ths_mem _ _ _ hn with ⟨x, hx, e⟩ | ⟨x, hx, e⟩ | ⟨x, hx, e⟩
    · have := h.pc x hx; omega
    · have := h.r x hx n e; omega
    · obtain ⟨h1, h2⟩ := h.b x hx
      rcases e with e | ⟨y, hy, e⟩
      · omega
      · have := h2 y hy; omega
  · have := h.m n hn; omega
theorem Small.back {p : Pf} (h : Small p) (post : List Int) : decP (encP p ++ post) (p.regs.map (·.length)) p.mem.length = p := dec_more post h.lr h.lb (fun n hn => (h.pc n hn).1)
theorem Small.backB {p : Pf} (h : Small p) : decP (numZ (bytZ (encP p))) (p.regs.map (·.length)) p.mem.length = p := by
  rw [num_byt h.byte]
  have := h.back []
  rwa [List.append_nil] at this
theorem Small.len {p : Pf} (h : Small p) : (encP p).length = sizeP p := enc_len h.lr h.lb

theorem getD_mem' {α : Type} {l : List α} {d x : α} (h : x ∈ l) : ∃ k, k < l.length ∧ l.getD k d = x := by
  obtain ⟨k, hk, e⟩ := List.getElem_of_mem h
  exact ⟨k, hk, by rw [List.getD_eq_getElem?_getD, List.getElem?_eq_getElem hk]; exact e⟩

theorem len_cntZ (n : Nat) : ∀ l : List Ent, (∀ e ∈ l, 0 ≤ e.1 ∧ e.1 < (n : Int)) → l.length ≤ ((List.range n).map fun k : Nat => cntL l (k : Int)).sum
  | [], _ => Nat.zero_le _
  | e :: r, h => by
    have ih := len_cntZ n r fun x hx => h x (List.mem_cons_of_mem _ hx)
    obtain ⟨h1, h2⟩ := h e List.mem_cons_self
    obtain ⟨j, hj⟩ : ∃ j : Nat, e.1 = (j : Int) := ⟨e.1.toNat, by omega⟩
    have key : ∀ (L : List Nat), j ∈ L → 1 + (L.map fun k : Nat => cntL r (k : Int)).sum ≤ (L.map fun k : Nat => cntL (e :: r) (k : Int)).sum := by
      intro L
      have hge : ∀ M : List Nat, (M.map fun k : Nat => cntL r (k : Int)).sum ≤ (M.map fun k : Nat => cntL (e :: r) (k : Int)).sum := by
        intro M
        induction M with
        | nil => exact Nat.le_refl _
        | cons a M ihM =>
          simp only [List.map_cons, List.sum_cons]
          have : cntL r (a : Int) ≤ cntL (e :: r) (a : Int) := by show _ ≤ (if e.1 = (a : Int) then 1 else 0) + cntL r (a : Int); omega
          omega
      induction L with
      | nil => intro hm; cases hm
      | cons a L ihL =>
        intro hm
        simp only [List.map_cons, List.sum_cons]
        rcases List.mem_cons.1 hm with hm | hm
        · subst hm
          have h3 : cntL (e :: r) (j : Int) = 1 + cntL r (j : Int) := by show (if e.1 = (j : Int) then 1 else 0) + cntL r (j : Int) = _; rw [if_pos hj]
          have := hge L
          omega
        · have h4 := ihL hm
          have : cntL r (a : Int) ≤ cntL (e :: r) (a : Int) := by show _ ≤ (if e.1 = (a : Int) then 1 else 0) + cntL r (a : Int); omega
          omega
    have := key (List.range n) (List.mem_range.2 (by omega))
    rw [List.length_cons]
    omega
/-- What is right of a buffer is short. -/
theorem rightL_shortZ {l : List Ent} {model room mod : Int} {n : Nat} (h : rightL l model room mod n = true) (hn : n ≤ 6) : l.length ≤ 24 := by
  obtain ⟨h1, h2, h3⟩ := (rightL_iff _ _ _ _ _).1 h
  rcases h3 with h3 | h3 | h3
  · rw [h3.2]; exact Nat.zero_le _
  · omega
  · have h4 := len_cntZ n l fun e he => (inB_iff _ _).1 (h2 e he).1
    have h5 : ∀ L : List Nat, (L.map fun k : Nat => cntL l (k : Int)).sum ≤ 4 * L.length := by
      intro L
      induction L with
      | nil => exact Nat.le_refl _
      | cons a L ih =>
        simp only [List.map_cons, List.sum_cons, List.length_cons]
        have := h3.2.2 (a : Int)
        omega
    have := h5 (List.range n)
    rw [List.length_range] at this
    omega

theorem RightP.small {u : Un} {p : Pf} {model room : Int} (h : RightP u p model room) : Small p := by
  have hu := rightU_lc h.ru
  refine ⟨by rw [h.lr, h.lp], by rw [h.lb, h.lp], fun n hn => ?_, fun l hl n hn => ?_, fun l hl => ?_, fun n hn => ?_⟩
  · obtain ⟨k, hk, e⟩ := getD_mem' (d := 0) hn
    obtain ⟨pc, x, T⟩ := h.thr k (by rw [← h.lp]; exact hk)
    have h1 := T.hp
    have h2 := T.hpl
    have h3 := T.hl
    rw [e] at h1
    omega
  · obtain ⟨k, hk, e⟩ := getD_mem' (d := []) hl
    obtain ⟨pc, x, T⟩ := h.thr k (by rw [← h.lr]; exact hk)
    have h1 := (inB_iff _ _).1 (T.ra n (by rw [e]; exact hn))
    omega
  · obtain ⟨k, hk, e⟩ := getD_mem' (d := []) hl
    obtain ⟨pc, x, T⟩ := h.thr k (by rw [← h.lb]; exact hk)
    have hb := T.bl
    rw [e] at hb
    refine ⟨rightL_shortZ hb hu.2.2.1, fun y hy => ?_⟩
    have h1 := ((rightL_iff _ _ _ _ _).1 hb).2.1 y hy
    have h2 := (inB_iff _ _).1 h1.1
    have h3 := (inB_iff _ _).1 h1.2
    omega
  · have h1 := (inB_iff _ _).1 (h.m n hn)
    omega

def lensZ (u : Un) : List Nat := u.regs.map Int.toNat
theorem RightP.lens {u : Un} {p : Pf} {model room : Int} (h : RightP u p model room) : p.regs.map (·.length) = lensZ u := by
  unfold lensZ
  apply List.ext_getElem
  · simp [h.lr]
  · intro k h1 h2
    have hk : k < u.regs.length := by simpa using h2
    have hk' : k < p.regs.length := by simpa using h1
    obtain ⟨pc, x, T⟩ := h.thr k hk
    have hl := T.rl
    rw [List.getElem_map, List.getElem_map]
    rw [List.getD_eq_getElem?_getD, List.getElem?_eq_getElem hk', List.getD_eq_getElem?_getD, List.getElem?_eq_getElem hk] at hl
    have hl : ((p.regs[k]).length : Int) = u.regs[k] := hl
    omega
theorem RightP.backZ {u : Un} {p : Pf} {model room : Int} (h : RightP u p model room) (post : List Int) : decP (encP p ++ post) (lensZ u) u.init.length = p := by
  rw [← h.lens, ← h.lm]
  exact h.small.back post

def cfZ (p : Pf) : Cf := ⟨p.pc, p.regs.map (·, undef), p.mem, p.buf.map (·, undef)⟩
theorem cfZ_pf (p : Pf) : (cfZ p).pf = p := by
  obtain ⟨pc, rs, m, bs⟩ := p
  have h1 : ∀ l : List (List Int), (l.map fun x => (x, undef)).map (·.1) = l := fun l => by rw [List.map_map]; exact List.map_id l
  have h2 : ∀ l : List (List Ent), (l.map fun x => (x, undef)).map (·.1) = l := fun l => by rw [List.map_map]; exact List.map_id l
  unfold cfZ Cf.pf
  simp only [h1, h2]
def rightZ (u : Un) (p : Pf) (model room : Int) : Bool := rightC u (cfZ p) model room
theorem rightZ_iff (u : Un) (p : Pf) (model room : Int) : rightZ u p model room = true ↔ RightP u p model room := by
  unfold rightZ
  rw [rightC_iff, cfZ_pf]
/-- The configuration of bytes, if they are one's. -/
def decZ (u : Un) (s : ByteArray) (model room : Int) : Option Pf :=
  if (rightZ u (decP (numZ s) (lensZ u) u.init.length) model room && decide (encP (decP (numZ s) (lensZ u) u.init.length) = numZ s)) = true then some (decP (numZ s) (lensZ u) u.init.length) else none
theorem decZ_some {u : Un} {s : ByteArray} {model room : Int} {p : Pf} : decZ u s model room = some p ↔ RightP u p model room ∧ encP p = numZ s := by
  unfold decZ
  constructor
  · intro h
    split at h
    · next hc =>
      rw [Bool.and_eq_true] at hc
      injection h with h
      rw [h] at hc
      exact ⟨(rightZ_iff _ _ _ _).1 hc.1, of_decide_eq_true hc.2⟩
    · cases h
  · rintro ⟨h1, h2⟩
    have hb := h1.backZ []
    rw [List.append_nil, h2] at hb
    rw [hb, if_pos (by rw [(rightZ_iff _ _ _ _).2 h1, decide_eq_true h2]; rfl)]
theorem decZ_enc {u : Un} {p : Pf} {model room : Int} (h : RightP u p model room) : decZ u (bytZ (encP p)) model room = some p :=
  decZ_some.2 ⟨h, (num_byt h.small.byte).symm⟩
theorem encZ_inj {u : Un} {p p' : Pf} {model room : Int} (h : RightP u p model room) (h' : RightP u p' model room) : bytZ (encP p) = bytZ (encP p') ↔ p = p' := by
  constructor
  · intro e
    have h1 := decZ_enc h
    have h2 := decZ_enc h'
    rw [e, h2] at h1
    injection h1 with h1
    exact h1.symm
  · rintro rfl; rfl
theorem decZ_none {u : Un} {s : ByteArray} {model room : Int} (h : ∀ p, RightP u p model room → encP p = numZ s → False) : decZ u s model room = none := by
  cases hd : decZ u s model room with
  | none => rfl
  | some p => exact (h p (decZ_some.1 hd).1 (decZ_some.1 hd).2).elim
theorem decZ_more {u : Un} {p : Pf} {model room : Int} (h : RightP u p model room) (s : ByteArray) (post : List Int) (hs : numZ s = encP p ++ post) (hp : post ≠ []) : decZ u s model room = none := by
  refine decZ_none fun p' h' e => hp ?_
  have h1 := h'.backZ []
  rw [List.append_nil, e, hs, h.backZ post] at h1
  subst h1
  have := congrArg List.length (e.trans hs)
  rw [List.length_append] at this
  exact List.eq_nil_of_length_eq_zero (by omega)
theorem decZ_less {u : Un} {p : Pf} {model room : Int} (h : RightP u p model room) (s : ByteArray) (post : List Int) (hs : numZ s ++ post = encP p) (hp : post ≠ []) : decZ u s model room = none := by
  refine decZ_none fun p' h' e => hp ?_
  have h1 := h.backZ []
  rw [List.append_nil, ← hs, ← e, h'.backZ post] at h1
  subst h1
  have := congrArg List.length (e.symm ▸ hs : encP p' ++ post = encP p')
  rw [List.length_append] at this
  exact List.eq_nil_of_length_eq_zero (by omega)
theorem size_more (p : Pf) (b : List Ent) (bs : List (List Ent)) (e : Ent) (h : p.buf = b :: bs) : sizeP { p with buf := (b ++ [e]) :: bs } = sizeP p + 2 := by
  unfold sizeP
  rw [h]
  simp only [List.map_cons, List.sum_cons, List.length_append, List.length_cons, List.length_nil]
  omega

end Go.Proofs.Ytmkgijedchpgcaa
