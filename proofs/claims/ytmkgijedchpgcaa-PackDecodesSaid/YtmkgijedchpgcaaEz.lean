/- What right means, plainly; a thread of a right configuration. -/
import Derived.Test.YtmkgijedchpgcaaVa
import Derived.Test.YtmkgijedchpgcaaUx
import Derived.Test.YtmkgijedchpgcaaUw
namespace Go.Proofs.Ytmkgijedchpgcaa
set_option linter.unusedSimpArgs false
set_option linter.unusedVariables false
open Go.RowKit

def noII : II := ⟨⟨0, 0, 0, [], [], false, 0⟩, undef, undef⟩
/-- An instruction of a unit. -/
def iiAt (u : Un) (k : Nat) (pc : Int) : II := (u.code.getD k ([], undef)).1.getD pc.toNat noII
def insAt (u : Un) (k : Nat) (pc : Int) : Ins := (iiAt u k pc).x
theorem getD_map {α : Type} (l : List (List α × Value)) (k : Nat) : (l.map (·.1)).getD k [] = (l.getD k ([], undef)).1 := by
  rw [List.getD_eq_getElem?_getD, List.getD_eq_getElem?_getD, List.getElem?_map]
  cases l[k]? <;> rfl
def setI (l : List (List Int)) (k : Nat) (i v : Int) : List (List Int) := l.set k ((l.getD k []).set i.toNat v)
/-- What right means, plainly. -/
structure RightP (u : Un) (p : Pf) (model room : Int) : Prop where
  ru : rightU u = true
  lp : p.pc.length = u.regs.length
  lr : p.regs.length = u.regs.length
  lb : p.buf.length = u.regs.length
  lm : p.mem.length = u.init.length
  m : ∀ n ∈ p.mem, inB n u.mod = true
  t : ∀ k, k < u.regs.length → thB u.mod model room u.init.length (p.pc.getD k 0) (p.regs.getD k []) (p.buf.getD k []) (u.regs.getD k 0) (u.code.getD k ([], undef)).1.length = true
  e : rightL [] model room u.mod u.init.length = true

theorem thF_iff (m model room nl : Int) : ∀ (n : Nat) (ps : List Int) (rs : List (List Int × Value)) (bs : List (List Ent × Value)) (os : List Int) (cs : List (List II × Value)), ps.length = n → rs.length = n → bs.length = n → os.length = n → cs.length = n →
    (thF m model room nl ps rs bs os cs = true ↔ ∀ k, k < n → thB m model room nl (ps.getD k 0) (rs.getD k ([], undef)).1 (bs.getD k ([], undef)).1 (os.getD k 0) (cs.getD k ([], undef)).1.length = true)
  | 0, [], [], [], [], [], _, _, _, _, _ => by simp [thF]
  | n + 1, p :: ps, r :: rs, b :: bs, o :: os, c :: cs, h1, h2, h3, h4, h5 => by
    have ih := thF_iff m model room nl n ps rs bs os cs (by simpa using h1) (by simpa using h2) (by simpa using h3) (by simpa using h4) (by simpa using h5)
    unfold thF
    rw [Bool.and_eq_true, ih]
    constructor
    · rintro ⟨h6, h7⟩ k hk
      cases k with
      | zero => exact h6
      | succ k => exact h7 k (by omega)
    · intro h
      exact ⟨h 0 (by omega), fun k hk => h (k + 1) (by omega)⟩

theorem rightU_lc {u : Un} (h : rightU u = true) : 2 ≤ u.mod ∧ u.mod ≤ 16 ∧ u.init.length ≤ 6 ∧ 1 ≤ u.regs.length ∧ u.regs.length ≤ 4 ∧ u.code.length = u.regs.length := by
  unfold rightU at h
  rw [Bool.and_eq_true] at h
  have h1 := of_decide_eq_true h.1
  omega

theorem rightC_iff (u : Un) (c : Cf) (model room : Int) : rightC u c model room = true ↔ RightP u c.pf model room := by
  unfold rightC
  simp only [Bool.and_eq_true, decide_eq_true_eq, List.all_eq_true]
  constructor
  · rintro ⟨hu, ⟨h1, h2, h3, h4⟩, h5, h6, h7⟩
    refine ⟨hu, h1, by simpa [Cf.pf] using h2, by simpa [Cf.pf] using h3, h4, h5, fun k hk => ?_, h7⟩
    have := (thF_iff u.mod model room u.init.length u.regs.length c.pc c.regs c.buf u.regs u.code h1 h2 h3 rfl (rightU_lc hu).2.2.2.2.2).1 h6 k hk
    show thB _ _ _ _ (c.pc.getD k 0) ((c.regs.map (·.1)).getD k []) ((c.buf.map (·.1)).getD k []) _ _ = true
    rw [getD_map, getD_map]
    exact this
  · intro h
    have h2 : c.regs.length = u.regs.length := by have := h.lr; simpa [Cf.pf] using this
    have h3 : c.buf.length = u.regs.length := by have := h.lb; simpa [Cf.pf] using this
    refine ⟨h.ru, ⟨h.lp, h2, h3, h.lm⟩, h.m, ?_, h.e⟩
    refine (thF_iff u.mod model room u.init.length u.regs.length c.pc c.regs c.buf u.regs u.code h.lp h2 h3 rfl (rightU_lc h.ru).2.2.2.2.2).2 fun k hk => ?_
    have := h.t k hk
    rw [show c.pf.regs = c.regs.map (·.1) from rfl, show c.pf.buf = c.buf.map (·.1) from rfl, getD_map, getD_map] at this
    exact this

theorem inB_iff (i n : Int) : inB i n = true ↔ 0 ≤ i ∧ i < n := by unfold inB; exact decide_eq_true_iff

/-- What is right of a buffer. -/
theorem rightL_iff (l : List Ent) (model room mod locs : Int) : rightL l model room mod locs = true ↔ (1 ≤ room ∧ room ≤ 4 ∧ 2 ≤ mod ∧ mod ≤ 16) ∧ (∀ e ∈ l, inB e.1 locs = true ∧ inB e.2 mod = true) ∧
    ((model = 1 ∧ l = []) ∨ (model = 2 ∧ (l.length : Int) ≤ room) ∨ (model = 3 ∧ SrtE l ∧ ∀ k, (cntL l k : Int) ≤ room)) := by
  unfold rightL
  by_cases hB : room < 1 ∨ 4 < room ∨ mod < 2 ∨ 16 < mod
  · rw [if_pos hB]
    exact ⟨fun h => (by cases h), fun h => (by omega)⟩
  · rw [if_neg hB, Bool.and_eq_true, List.all_eq_true]
    have hodd : (∀ x ∈ l, (!oddL mod locs x) = true) ↔ ∀ e ∈ l, inB e.1 locs = true ∧ inB e.2 mod = true := by
      refine forall_congr' fun e => forall_congr' fun he => ?_
      unfold oddL
      simp
    rw [hodd]
    have hq : rqL l model room.toNat = true ↔ ((model = 1 ∧ l = []) ∨ (model = 2 ∧ (l.length : Int) ≤ room) ∨ (model = 3 ∧ SrtE l ∧ ∀ k, (cntL l k : Int) ≤ room)) := by
      unfold rqL
      by_cases h1 : model = 1
      · rw [if_pos h1]
        simp [h1]
      · rw [if_neg h1]
        by_cases h2 : model = 2
        · rw [if_pos h2]
          simp [h2]; omega
        · rw [if_neg h2]
          by_cases h3 : model = 3
          · rw [if_pos h3]
            have hcore : ordL l room.toNat = true ↔ SrtE l ∧ ∀ k, (cntL l k : Int) ≤ room := by
              unfold ordL
              rw [ordF_iff]
              constructor
              · intro h
                have hs : SrtE l := (srt_iff l).2 fun j hj hbad => by
                  have := of_decide_eq_false (h j (Nat.zero_le _) (by omega))
                  exact this (.inl hbad)
                refine ⟨hs, fun k => ?_⟩
                have hcc := (srt_count l room.toNat hs (by omega)).2 fun j hj hjr he => by
                  have := of_decide_eq_false (h j (Nat.zero_le _) (by omega))
                  refine this (.inr ⟨hjr, ?_⟩)
                  rw [getD_at _ _ hj, getD_at _ _ (by omega)]
                  exact he
                by_cases hex : ∃ x ∈ l, x.1 = k
                · obtain ⟨x, hx, rfl⟩ := hex
                  obtain ⟨i, hi, rfl⟩ := List.getElem_of_mem hx
                  have := hcc i hi
                  omega
                · rw [cntL_none l k fun x hx he => hex ⟨x, hx, he⟩]; omega
              · rintro ⟨hs, hc⟩ i _ h2
                have hcc := (srt_count l room.toNat hs (by omega)).1 fun i hi => by have := hc l[i].1; omega
                unfold badAt
                refine decide_eq_false ?_
                rintro (hb | ⟨h4, h5⟩)
                · exact (srt_iff l).1 hs i (by omega) hb
                · rw [getD_at _ _ (by omega), getD_at _ _ (by omega)] at h5
                  exact hcc i (by omega) h4 h5
            rw [hcore]
            simp [h3]
          · rw [if_neg h3]
            simp [h1, h2, h3]
    rw [hq]
    constructor
    · rintro ⟨h1, h2⟩; exact ⟨by omega, h2, h1⟩
    · rintro ⟨_, h1, h2⟩; exact ⟨h2, h1⟩

theorem seqF_iff (own locs n : Int) : ∀ (l : List II) (k : Nat), seqF own locs n l k = true ↔ ∀ i, (hi : i < l.length) → (decide (l[i].x.op = 22) == decide (((k + i : Nat) : Int) = n - 1)) = true ∧ insB l[i].x own locs n = true
  | [], k => by simp [seqF]
  | t :: r, k => by
    unfold seqF
    rw [Bool.and_eq_true, Bool.and_eq_true, seqF_iff own locs n r (k + 1)]
    constructor
    · rintro ⟨⟨h1, h2⟩, h3⟩ i hi
      cases i with
      | zero => exact ⟨h1, h2⟩
      | succ i =>
        have := h3 i (by simpa using hi)
        rw [show k + 1 + i = k + (i + 1) by omega] at this
        exact this
    · intro h
      refine ⟨h 0 (by simp), fun i hi => ?_⟩
      have := h (i + 1) (by simpa using hi)
      rw [show k + (i + 1) = k + 1 + i by omega] at this
      exact this
theorem thrF_iff (locs : Int) : ∀ (os : List Int) (cs : List (List II × Value)), os.length = cs.length → (thrF locs os cs = true ↔ ∀ k, k < os.length → inB (os.getD k 0) 7 = true ∧ seqB (cs.getD k ([], undef)).1 (os.getD k 0) locs = true)
  | [], [], _ => by simp [thrF]
  | o :: r, c :: s, h => by
    unfold thrF
    rw [Bool.and_eq_true, Bool.and_eq_true, thrF_iff locs r s (by simpa using h)]
    constructor
    · rintro ⟨h1, h2⟩ k hk
      cases k with
      | zero => exact h1
      | succ k => exact h2 k (by simpa using hk)
    · intro h
      exact ⟨h 0 (by simp), fun k hk => h (k + 1) (by simpa using hk)⟩

/-- A thread of a right configuration, and where it stands. -/
structure Thr (u : Un) (p : Pf) (model room : Int) (k : Nat) (pc : Nat) (x : II) : Prop where
  hp : p.pc.getD k 0 = (pc : Int)
  hpl : pc < (u.code.getD k ([], undef)).1.length
  hl : (u.code.getD k ([], undef)).1.length ≤ 1000
  hx : (u.code.getD k ([], undef)).1.getD pc noII = x
  ins : insB x.x (u.regs.getD k 0) u.init.length (u.code.getD k ([], undef)).1.length = true
  last : x.x.op ≠ 22 → pc + 1 < (u.code.getD k ([], undef)).1.length
  rl : ((p.regs.getD k []).length : Int) = u.regs.getD k 0
  ra : ∀ n ∈ p.regs.getD k [], inB n u.mod = true
  bl : rightL (p.buf.getD k []) model room u.mod u.init.length = true
  at' : iiAt u k (p.pc.getD k 0) = x

theorem RightP.thr {u : Un} {p : Pf} {model room : Int} (h : RightP u p model room) (k : Nat) (hk : k < u.regs.length) : ∃ pc x, Thr u p model room k pc x := by
  have ht := h.t k hk
  unfold thB at ht
  rw [Bool.and_eq_true, Bool.and_eq_true] at ht
  obtain ⟨h1, h2, h3⟩ := ht
  have h1 := of_decide_eq_true h1
  have hc := (rightU_lc h.ru).2.2.2.2.2
  have hr := h.ru
  unfold rightU at hr
  rw [Bool.and_eq_true, Bool.and_eq_true] at hr
  have hq := ((thrF_iff u.init.length u.regs u.code hc.symm).1 hr.2.2 k hk).2
  unfold seqB at hq
  rw [Bool.and_eq_true] at hq
  have hq1 := of_decide_eq_true hq.1
  have hq2 := (seqF_iff _ _ _ _ 0).1 hq.2
  obtain ⟨pc, hpc⟩ : ∃ pc : Nat, p.pc.getD k 0 = (pc : Int) := ⟨(p.pc.getD k 0).toNat, by omega⟩
  have hpl : pc < (u.code.getD k ([], undef)).1.length := by omega
  obtain ⟨h4, h5⟩ := hq2 pc hpl
  have hg : (u.code.getD k ([], undef)).1.getD pc noII = (u.code.getD k ([], undef)).1[pc] := by rw [List.getD_eq_getElem?_getD, List.getElem?_eq_getElem hpl]; rfl
  refine ⟨pc, _, hpc, hpl, hq1.2, rfl, by rw [hg]; exact h5, fun hne => ?_, h1.2.2, fun n hn => List.all_eq_true.1 h2 n hn, h3, ?_⟩
  · rw [hg] at hne
    rw [decide_eq_false hne, Nat.zero_add] at h4
    have := of_decide_eq_false (by simpa using h4 : decide ((pc : Int) = ((u.code.getD k ([], undef)).1.length : Int) - 1) = false)
    omega
  · unfold iiAt
    rw [hpc, Int.toNat_natCast]

end Go.Proofs.Ytmkgijedchpgcaa
