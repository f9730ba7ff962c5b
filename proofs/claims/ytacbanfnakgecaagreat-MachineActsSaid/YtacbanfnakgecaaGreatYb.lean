/- Layer 10: what is right stays right, plainly. Layer 10, the code: whether a thread can go on. Layer 10, the code: what a thread's turn does, of each kind. Layer 10, the code: a thread's turn, all that is known of it. A step, and a flush, of what is right: right. -/
import Derived.Test.YtacbanfnakgecaaGreatYa
import Derived.Test.YtacbanfnakgecaaGreatUv
import Derived.Test.YtacbanfnakgecaaGreatXc
import Derived.Test.YtacbanfnakgecaaGreatYm
import Derived.Test.YtacbanfnakgecaaGreatYi
import Derived.Test.YtacbanfnakgecaaGreatYp
import Derived.Test.YtacbanfnakgecaaGreatYr
import Derived.Test.YtacbanfnakgecaaGreatUj
namespace Go.Proofs.YtacbanfnakgecaaGreat
set_option linter.unusedSimpArgs false
set_option linter.unusedVariables false
open Go.RowKit
theorem ar_two {op : Int} (h : ar op = 2) : 6 ≤ op ∧ op ≤ 14 := by
  unfold ar at h
  repeat (first | split at h | omega)
theorem ar_any (op : Int) : ar op = -1 ∨ ar op = 0 ∨ ar op = 1 ∨ ar op = 2 := by
  unfold ar
  repeat (first | split | omega)
theorem runs_inside (s : Nbs) (hN : rightN s = true) (l : List Opn) (hok : ∀ o ∈ l, okO (s.all.map fun x => (x.length : Int)) s.own.length s.mem.length o = true) : ∀ (f k : Nat) (st : List Int), l.length - k ≤ f → Go1 l k st.length → (∀ x ∈ st, 0 ≤ x ∧ x < s.mod) →
    ∃ z, runO s (l.drop k) st = [z] ∧ 0 ≤ z ∧ z < s.mod := by
  have hm : 2 ≤ s.mod ∧ s.mod ≤ 16 := by
    unfold rightN at hN
    rw [Bool.and_eq_true] at hN
    exact of_decide_eq_true hN.1
  intro f
  induction f with
  | zero =>
    intro k st hf hg hst
    have hk : ¬ k < l.length := by omega
    have h1 := hg.over hk
    rw [runO_over s l k hk]
    obtain ⟨z, rfl⟩ := List.length_eq_one_iff.1 h1
    exact ⟨z, rfl, hst z (List.mem_singleton.2 rfl)⟩
  | succ f ih =>
    intro k st hf hg hst
    by_cases hk : k < l.length
    · obtain ⟨⟨h1, h2⟩, h3⟩ := hg.step hk
      rw [runO_at s l k hk]
      have hmod : ∀ z : Int, 0 ≤ z % s.mod ∧ z % s.mod < s.mod := fun z => ⟨Int.emod_nonneg _ (by omega), Int.emod_lt_of_pos _ (by omega)⟩
      rcases ar_any l[k].op with h | h | h | h
      · omega
      · rw [stO_zero s _ st h]
        refine ih (k + 1) _ (by omega) (h3 _ (by rw [List.length_cons]; omega)) fun x hx => ?_
        rcases List.mem_cons.1 hx with rfl | hx
        · exact hmod _
        · exact hst x hx
      · cases st with
        | nil => rw [h] at h2; simp at h2
        | cons b r =>
          rw [stO_one s _ b r h]
          refine ih (k + 1) _ (by omega) (h3 _ (by simp only [List.length_cons] at h2 ⊢; omega)) fun x hx => ?_
          rcases List.mem_cons.1 hx with rfl | hx
          · have := tru_b (decide (b = 0)); omega
          · exact hst x (List.mem_cons_of_mem _ hx)
      · cases st with
        | nil => rw [h] at h2; simp at h2
        | cons b r =>
          cases r with
          | nil => rw [h] at h2; simp at h2
          | cons a r =>
            rw [stO_two s _ a b r h]
            refine ih (k + 1) _ (by omega) (h3 _ (by simp only [List.length_cons] at h2 ⊢; omega)) fun x hx => ?_
            rcases List.mem_cons.1 hx with rfl | hx
            · have := raw_two l[k].op a b s.mod (ar_two h).1 (ar_two h).2 hm (hst a (by simp)) (hst b (by simp))
              exact ⟨this.2.1, this.2.2.1⟩
            · exact hst x (List.mem_cons_of_mem _ (List.mem_cons_of_mem _ hx))
    · have h1 := hg.over hk
      rw [runO_over s l k hk]
      obtain ⟨z, rfl⟩ := List.length_eq_one_iff.1 h1
      exact ⟨z, rfl, hst z (List.mem_singleton.2 rfl)⟩
theorem val_in (l : List Opn) (s : Nbs) (hN : rightN s = true) (hr : rightO l (s.all.map fun x => (x.length : Int)) s.own.length s.mem.length = true) : inB (valO l s).1 s.mod = true := by
  have hr' := hr
  unfold rightO at hr'
  rw [Bool.and_eq_true] at hr'
  obtain ⟨z, h1, h2, h3⟩ := runs_inside s hN l (List.all_eq_true.1 hr'.2) l.length 0 [] (by omega) ⟨0, of_decide_eq_true hr'.1⟩ (by simp)
  rw [valO_yes (by rw [hN, hr]; rfl), show runO s l [] = [z] from h1]
  exact decide_eq_true ⟨h2, h3⟩
theorem inB_iff (i n : Int) : inB i n = true ↔ 0 ≤ i ∧ i < n := by unfold inB; exact decide_eq_true_iff
theorem rightL_iff (l : List Ent) (model room mod locs : Int) : rightL l model room mod locs = true ↔ (1 ≤ room ∧ room ≤ 4 ∧ 2 ≤ mod ∧ mod ≤ 16) ∧ (∀ e ∈ l, inB e.1 locs = true ∧ inB e.2 mod = true) ∧
    ((model = 1 ∧ l = []) ∨ (model = 2 ∧ (l.length : Int) ≤ room) ∨ (model = 3 ∧ SrtE l ∧ ∀ k, (cntL l k : Int) ≤ room)) := by
  unfold rightL
  by_cases hB : room < 1 ∨ 4 < room ∨ mod < 2 ∨ 16 < mod
  · rw [if_pos hB]
    exact ⟨fun h => (by cases h), fun h => (by omega)⟩
  · rw [if_neg hB, Bool.and_eq_true, List.all_eq_true]
    have hodd : (∀ x ∈ l, (!oddL mod locs x) = true) ↔ ∀ e ∈ l, inB e.1 locs = true ∧ inB e.2 mod = true := by
      refine forall_congr' fun e => forall_congr' fun he => ?_
      unfold oddL
      simp
    rw [hodd]
    have hq : rqL l model room.toNat = true ↔ ((model = 1 ∧ l = []) ∨ (model = 2 ∧ (l.length : Int) ≤ room) ∨ (model = 3 ∧ SrtE l ∧ ∀ k, (cntL l k : Int) ≤ room)) := by
      unfold rqL
      by_cases h1 : model = 1
      · rw [if_pos h1]
        simp [h1]
      · rw [if_neg h1]
        by_cases h2 : model = 2
        · rw [if_pos h2]
          simp [h2]; omega
        · rw [if_neg h2]
          by_cases h3 : model = 3
          · rw [if_pos h3]
            have hcore : ordL l room.toNat = true ↔ SrtE l ∧ ∀ k, (cntL l k : Int) ≤ room := by
              unfold ordL
              rw [ordF_iff]
              constructor
              · intro h
                have hs : SrtE l := (srt_iff l).2 fun j hj hbad => by
                  have := of_decide_eq_false (h j (Nat.zero_le _) (by omega))
                  exact this (.inl hbad)
                refine ⟨hs, fun k => ?_⟩
                have hcc := (srt_count l room.toNat hs (by omega)).2 fun j hj hjr he => by
                  have := of_decide_eq_false (h j (Nat.zero_le _) (by omega))
                  refine this (.inr ⟨hjr, ?_⟩)
                  rw [getD_at _ _ hj, getD_at _ _ (by omega)]
                  exact he
                by_cases hex : ∃ x ∈ l, x.1 = k
                · obtain ⟨x, hx, rfl⟩ := hex
                  obtain ⟨i, hi, rfl⟩ := List.getElem_of_mem hx
                  have := hcc i hi
                  omega
                · rw [cntL_none l k fun x hx he => hex ⟨x, hx, he⟩]; omega
              · rintro ⟨hs, hc⟩ i _ h2
                have hcc := (srt_count l room.toNat hs (by omega)).1 fun i hi => by have := hc l[i].1; omega
                unfold badAt
                refine decide_eq_false ?_
                rintro (hb | ⟨h4, h5⟩)
                · exact (srt_iff l).1 hs i (by omega) hb
                · rw [getD_at _ _ (by omega), getD_at _ _ (by omega)] at h5
                  exact hcc i (by omega) h4 h5
            rw [hcore]
            simp [h3]
          · rw [if_neg h3]
            simp [h1, h2, h3]
    rw [hq]
    constructor
    · rintro ⟨h1, h2⟩; exact ⟨by omega, h2, h1⟩
    · rintro ⟨_, h1, h2⟩; exact ⟨h2, h1⟩
theorem cnt_ins (e : Ent) (l : List Ent) (k : Int) : cntL (insL e l) k = cntL l k + (if e.1 = k then 1 else 0) := by
  induction l with
  | nil => simp [insL, cntL]
  | cons a r ih =>
    unfold insL
    split
    · simp only [cntL]; omega
    · simp only [cntL, ih]; omega
theorem cnt_sub {a b : List Ent} (h : a.Sublist b) (k : Int) : cntL a k ≤ cntL b k := by
  induction h with
  | slnil => exact Nat.le_refl _
  | cons x _ ih => simp only [cntL]; omega
  | cons_cons x _ ih => simp only [cntL]; omega
theorem ins_mem (e x : Ent) (l : List Ent) : x ∈ insL e l ↔ x = e ∨ x ∈ l := by
  induction l with
  | nil => simp [insL]
  | cons a r ih =>
    unfold insL
    split
    · simp
    · simp only [List.mem_cons, ih]
      constructor
      · rintro (h | h | h)
        · exact .inr (.inl h)
        · exact .inl h
        · exact .inr (.inr h)
      · rintro (h | h | h)
        · exact .inr (.inl h)
        · exact .inl h
        · exact .inr (.inr h)
theorem ins_srt (e : Ent) (l : List Ent) (h : SrtE l) : SrtE (insL e l) := by
  induction l with
  | nil => exact List.pairwise_singleton _ _
  | cons a r ih =>
    obtain ⟨h1, h2⟩ := List.pairwise_cons.1 h
    unfold insL
    split
    · rename_i hlt
      refine List.pairwise_cons.2 ⟨fun x hx => ?_, h⟩
      rcases List.mem_cons.1 hx with rfl | hx
      · exact Int.le_of_lt hlt
      · exact Int.le_trans (Int.le_of_lt hlt) (h1 x hx)
    · rename_i hlt
      refine List.pairwise_cons.2 ⟨fun x hx => ?_, ih h2⟩
      rcases (ins_mem _ _ _).1 hx with rfl | hx
      · omega
      · exact h1 x hx
theorem push_right {l : List Ent} {model room mod locs : Int} (h : rightL l model room mod locs = true) (e : Ent) (hm : model ≠ 1) (hr : roomL l model room e.1 = true) (h1 : inB e.1 locs = true) (h2 : inB e.2 mod = true) :
    rightL (pushL l model e) model room mod locs = true := by
  obtain ⟨ha, hb, hc⟩ := (rightL_iff _ _ _ _ _).1 h
  unfold roomL at hr
  refine (rightL_iff _ _ _ _ _).2 ⟨ha, ?_, ?_⟩
  · intro x hx
    have hx' : x = e ∨ x ∈ l := by
      rcases hc with ⟨hc, _⟩ | ⟨rfl, _⟩ | ⟨rfl, _⟩
      · exact absurd hc hm
      · rw [pushL_two] at hx
        rcases List.mem_append.1 hx with hx | hx
        · exact .inr hx
        · exact .inl (List.mem_singleton.1 hx)
      · rw [pushL_ins] at hx
        exact (ins_mem _ _ _).1 hx
    rcases hx' with rfl | hx'
    · exact ⟨h1, h2⟩
    · exact hb x hx'
  · rcases hc with ⟨hc, _⟩ | ⟨rfl, hc⟩ | ⟨rfl, hs, hc⟩
    · exact absurd hc hm
    · rw [if_pos rfl] at hr
      have := of_decide_eq_true hr
      refine .inr (.inl ⟨rfl, ?_⟩)
      rw [pushL_two, List.length_append]
      simp only [List.length_cons, List.length_nil]
      omega
    · rw [if_neg (by decide), if_pos rfl] at hr
      have := of_decide_eq_true hr
      refine .inr (.inr ⟨rfl, ?_, fun k => ?_⟩)
      · rw [pushL_ins]; exact ins_srt _ _ hs
      · rw [pushL_ins, cnt_ins]
        have := hc k
        split
        · rename_i he; subst he; omega
        · omega
theorem take_drop_sub (l : List Ent) (j : Nat) : (l.take j ++ l.drop (j + 1)).Sublist l := by
  have h : (l.drop (j + 1)).Sublist (l.drop j) := by
    rw [← List.drop_drop]
    exact List.drop_sublist _ _
  have h2 := List.Sublist.append (List.Sublist.refl (l.take j)) h
  rwa [List.take_append_drop] at h2
theorem pop_sub (l : List Ent) (model loc : Int) : (popL l model loc).1.Sublist l := by
  unfold popL
  split
  · exact List.Sublist.refl _
  · exact take_drop_sub _ _
theorem sub_right {l r : List Ent} {model room mod locs : Int} (h : rightL l model room mod locs = true) (hs : r.Sublist l) : rightL r model room mod locs = true := by
  obtain ⟨ha, hb, hc⟩ := (rightL_iff _ _ _ _ _).1 h
  refine (rightL_iff _ _ _ _ _).2 ⟨ha, fun e he => hb e (hs.subset he), ?_⟩
  rcases hc with ⟨rfl, rfl⟩ | ⟨rfl, hc⟩ | ⟨rfl, h1, hc⟩
  · exact .inl ⟨rfl, List.sublist_nil.1 hs⟩
  · exact .inr (.inl ⟨rfl, by have := hs.length_le; omega⟩)
  · exact .inr (.inr ⟨rfl, List.Pairwise.sublist hs h1, fun k => by have := hc k; have := cnt_sub hs k; omega⟩)
theorem pop_mem (l : List Ent) (model loc : Int) (h : (popL l model loc).2.2 = true) : (popL l model loc).2.1 ∈ l := by
  unfold popL at h ⊢
  split
  · rename_i hlt; rw [if_pos hlt] at h; cases h
  · rename_i hlt
    have := oldL_range l model loc
    show l.getD _ _ ∈ l
    rw [List.getD_eq_getElem?_getD, List.getElem?_eq_getElem (show (oldL l model loc).toNat < l.length by omega)]
    exact List.getElem_mem _
theorem last_mem (l : List Ent) (loc : Int) (h : (lastL l loc).2 = true) : (loc, (lastL l loc).1) ∈ l := by
  unfold lastL at h ⊢
  split
  · rename_i e he
    have h1 := List.find?_some he
    have h2 := List.mem_of_find?_eq_some he
    have h3 : e.1 = loc := by simpa using h1
    subst h3
    exact List.mem_reverse.1 h2
  · rename_i he
    rw [he] at h; cases h
end Go.Proofs.YtacbanfnakgecaaGreat

namespace Go.Proofs.YtacbanfnakgecaaGreat
set_option linter.unusedSimpArgs false
set_option linter.unusedVariables false
open Go.RowKit
theorem seqF_iff (own locs n : Int) : ∀ (l : List II) (k : Nat), seqF own locs n l k = true ↔ ∀ i, (hi : i < l.length) → (decide (l[i].x.op = 22) == decide (((k + i : Nat) : Int) = n - 1)) = true ∧ insB l[i].x own locs n = true
  | [], k => by simp [seqF]
  | t :: r, k => by
    unfold seqF
    rw [Bool.and_eq_true, Bool.and_eq_true, seqF_iff own locs n r (k + 1)]
    constructor
    · rintro ⟨⟨h1, h2⟩, h3⟩ i hi
      cases i with
      | zero => exact ⟨h1, h2⟩
      | succ i =>
        have := h3 i (by simpa using hi)
        rw [show k + 1 + i = k + (i + 1) by omega] at this
        exact this
    · intro h
      refine ⟨h 0 (by simp), fun i hi => ?_⟩
      have := h (i + 1) (by simpa using hi)
      rw [show k + (i + 1) = k + 1 + i by omega] at this
      exact this
theorem thrF_iff (locs : Int) : ∀ (os : List Int) (cs : List (List II × Value)), os.length = cs.length → (thrF locs os cs = true ↔ ∀ k, k < os.length → inB (os.getD k 0) 7 = true ∧ seqB (cs.getD k ([], undef)).1 (os.getD k 0) locs = true)
  | [], [], _ => by simp [thrF]
  | o :: r, c :: s, h => by
    unfold thrF
    rw [Bool.and_eq_true, Bool.and_eq_true, thrF_iff locs r s (by simpa using h)]
    constructor
    · rintro ⟨h1, h2⟩ k hk
      cases k with
      | zero => exact h1
      | succ k => exact h2 k (by simpa using hk)
    · intro h
      exact ⟨h 0 (by simp), fun k hk => h (k + 1) (by simpa using hk)⟩
structure Thr (u : Un) (p : Pf) (model room : Int) (k : Nat) (pc : Nat) (x : II) : Prop where
  hp : p.pc.getD k 0 = (pc : Int)
  hpl : pc < (u.code.getD k ([], undef)).1.length
  hl : (u.code.getD k ([], undef)).1.length ≤ 1000
  hx : (u.code.getD k ([], undef)).1.getD pc noII = x
  ins : insB x.x (u.regs.getD k 0) u.init.length (u.code.getD k ([], undef)).1.length = true
  last : x.x.op ≠ 22 → pc + 1 < (u.code.getD k ([], undef)).1.length
  rl : ((p.regs.getD k []).length : Int) = u.regs.getD k 0
  ra : ∀ n ∈ p.regs.getD k [], inB n u.mod = true
  bl : rightL (p.buf.getD k []) model room u.mod u.init.length = true
  at' : iiAt u k (p.pc.getD k 0) = x
theorem RightP.thr {u : Un} {p : Pf} {model room : Int} (h : RightP u p model room) (k : Nat) (hk : k < u.regs.length) : ∃ pc x, Thr u p model room k pc x := by
  have ht := h.t k hk
  unfold thB at ht
  rw [Bool.and_eq_true, Bool.and_eq_true] at ht
  obtain ⟨h1, h2, h3⟩ := ht
  have h1 := of_decide_eq_true h1
  have hc := (rightU_lc h.ru).2.2.2.2.2
  have hr := h.ru
  unfold rightU at hr
  rw [Bool.and_eq_true, Bool.and_eq_true] at hr
  have hq := ((thrF_iff u.init.length u.regs u.code hc.symm).1 hr.2.2 k hk).2
  unfold seqB at hq
  rw [Bool.and_eq_true] at hq
  have hq1 := of_decide_eq_true hq.1
  have hq2 := (seqF_iff _ _ _ _ 0).1 hq.2
  obtain ⟨pc, hpc⟩ : ∃ pc : Nat, p.pc.getD k 0 = (pc : Int) := ⟨(p.pc.getD k 0).toNat, by omega⟩
  have hpl : pc < (u.code.getD k ([], undef)).1.length := by omega
  obtain ⟨h4, h5⟩ := hq2 pc hpl
  have hg : (u.code.getD k ([], undef)).1.getD pc noII = (u.code.getD k ([], undef)).1[pc] := by rw [List.getD_eq_getElem?_getD, List.getElem?_eq_getElem hpl]; rfl
  refine ⟨pc, _, hpc, hpl, hq1.2, rfl, by rw [hg]; exact h5, fun hne => ?_, h1.2.2, fun n hn => List.all_eq_true.1 h2 n hn, h3, ?_⟩
  · rw [hg] at hne
    rw [decide_eq_false hne, Nat.zero_add] at h4
    have := of_decide_eq_false (by simpa using h4 : decide ((pc : Int) = ((u.code.getD k ([], undef)).1.length : Int) - 1) = false)
    omega
  · unfold iiAt
    rw [hpc, Int.toNat_natCast]
theorem ins_op {x : Ins} {own locs n : Int} (h : insB x own locs n = true) : (2 ≤ x.op ∧ x.op ≤ 9) ∨ (20 ≤ x.op ∧ x.op ≤ 22) := by
  unfold insB at h
  rw [Bool.and_eq_true] at h
  exact of_decide_eq_true h.1
def fnE (op : Int) : Nat := if op = 4 then 79 else if op = 5 ∨ op = 6 ∨ op = 7 ∨ op = 8 then 81 else if op = 9 then 86 else 76
def fnA (op : Int) : Nat := if op = 2 then 77 else if op = 3 then 78 else if op = 4 then 80 else if op = 5 then 82 else if op = 6 then 83 else if op = 7 then 84 else if op = 8 ∨ op = 9 then 85 else if op = 20 then 87 else 88
theorem kinds_ten (op : Int) (h : (2 ≤ op ∧ op ≤ 9) ∨ (20 ≤ op ∧ op ≤ 21)) : op = 2 ∨ op = 3 ∨ op = 4 ∨ op = 5 ∨ op = 6 ∨ op = 7 ∨ op = 8 ∨ op = 9 ∨ op = 20 ∨ op = 21 := by omega
theorem kindOf_fn (op : Int) (h : (2 ≤ op ∧ op ≤ 9) ∨ (20 ≤ op ∧ op ≤ 21)) : kindOf op = kindV (fnE op) (fnA op) := by
  rcases kinds_ten op h with rfl | rfl | rfl | rfl | rfl | rfl | rfl | rfl | rfl | rfl <;> rfl
theorem callE (op : Int) (h : (2 ≤ op ∧ op ≤ 9) ∨ (20 ≤ op ∧ op ≤ 21)) (a : Value) (W : World) : Sem.run Tryz.prog (callFunc (fnE op) #[a]) W = .ok (.enter (fnE op) #[a]) W := by
  rcases kinds_ten op h with rfl | rfl | rfl | rfl | rfl | rfl | rfl | rfl | rfl | rfl <;> kernel_rfl
theorem callA (op : Int) (h : (2 ≤ op ∧ op ≤ 9) ∨ (20 ≤ op ∧ op ≤ 21)) (a : Value) (W : World) : Sem.run Tryz.prog (callFunc (fnA op) #[a]) W = .ok (.enter (fnA op) #[a]) W := by
  rcases kinds_ten op h with rfl | rfl | rfl | rfl | rfl | rfl | rfl | rfl | rfl | rfl <;> kernel_rfl
theorem turnA_one {w : World} {m model room : Int} {xp xr xm xb f1 f2 : Value} {k : Nat} {x : II} {c : Cf} {e : List Opn} {f : List Opn} (hc : CfD w xp xr xm xb c) (he : OpsD w x.ev e) (hf : OpsD w x.fv f) (h1 : f1.oneCell' = true) (h2 : f2.oneCell' = true) : (turnA m model room xp xr xm xb k x f1 f2).all (·.oneCell') = true := by
  obtain ⟨a0, k0, e0⟩ := hc.p.shape0
  obtain ⟨a1, k1, e1⟩ := hc.r.shape0
  obtain ⟨a2, k2, e2⟩ := hc.m.shape0
  obtain ⟨a3, k3, e3⟩ := hc.b.shape0
  obtain ⟨a4, k4, e4⟩ := he.shape0
  obtain ⟨a5, k5, e5⟩ := hf.shape0
  unfold turnA
  rw [e0, e1, e2, e3, e4, e5]
  simp [Value.oneCell']
  exact ⟨h1, h2⟩
theorem kind_look (op : Int) (h : (2 ≤ op ∧ op ≤ 9) ∨ (20 ≤ op ∧ op ≤ 22)) (q : Bool) (hq : decide (op ≠ 22) = q) : ∃ f1 f2 : Value, (∀ (W : World) (b : Nat), W.heap[b]? = some (.map kindsA 10) → Sem.run Tryz.prog (Instr.lookup 97 (.map (some b)) (.int .i64 op) true) W = .ok (.tuple #[.agg #[f1, f2], .bool q]) W) ∧ f1.oneCell' = true ∧ f2.oneCell' = true ∧
    (q = true → f1 = .func (.func (fnE op)) #[] #[] ∧ f2 = .func (.func (fnA op)) #[] #[]) := by
  by_cases h22 : op = 22
  · subst h22
    have hq' : q = false := by rw [← hq]; rfl
    subst hq'
    exact ⟨.nilFunc, .nilFunc, fun W b hb => kinds_none W b hb, rfl, rfl, fun h => by cases h⟩
  · rw [decide_eq_true h22] at hq
    subst hq
    have h2 : (2 ≤ op ∧ op ≤ 9) ∨ (20 ≤ op ∧ op ≤ 21) := by omega
    refine ⟨.func (.func (fnE op)) #[] #[], .func (.func (fnA op)) #[] #[], fun W b hb => ?_, rfl, rfl, fun _ => ⟨rfl, rfl⟩⟩
    have := kinds_look W b op hb (decide_eq_true (by omega))
    rw [kindOf_fn op h2] at this
    exact this
theorem shortP_regs {c : Cf} {u : Un} {model room : Int} (h : RightP u c.pf model room) : ∀ r ∈ c.regs, r.1.length ≤ 100000 := by
  intro r hr
  obtain ⟨k, hk, rfl⟩ := List.getElem_of_mem hr
  have hk' : k < u.regs.length := by have := h.lr; simp [Cf.pf] at this; omega
  obtain ⟨pc, x, T⟩ := h.thr k hk'
  have h1 := T.rl
  have hru := h.ru
  unfold rightU at hru
  rw [Bool.and_eq_true, Bool.and_eq_true] at hru
  have h7 := of_decide_eq_true ((thrF_iff u.init.length u.regs u.code (rightU_lc h.ru).2.2.2.2.2.symm).1 hru.2.2 k hk').1
  have hg : c.pf.regs.getD k [] = (c.regs[k]).1 := by
    show (c.regs.map (·.1)).getD k [] = _
    rw [getD_map, List.getD_eq_getElem?_getD, List.getElem?_eq_getElem hk]; rfl
  rw [hg] at h1
  omega
set_option maxHeartbeats 4000000 in
theorem enabled_any (u : Un) (c : Cf) (model room t : Int) (vi vr vc ap ar am ab : Value) (w : World) (hu : UnD w vi vr vc u) (hc : CfD w ap ar am ab c) (hs : ShortC c) (hus : ∀ k pc, (iiAt u k pc).x.e.length ≤ 100000 ∧ (iiAt u k pc).x.f.length ≤ 100000) (hR : RightP u c.pf model room) (b : Bool) (hb : enT u c.pf model room t = b) :
    Calls Tryz.prog 11 #[.agg #[.int .i64 u.mod, vi, vr, vc], .agg #[ap, ar, am, ab], .int .i64 model, .int .i64 room, .int .i64 t] w fun e w' => e = .returned (.bool b) ∧ Below w.heap.size w w' := by
  have h1 := (rightU_lc hR.ru).2.2.2.2.2
  have hn4 := (rightU_lc hR.ru).2.2.2.2.1
  have h2 : c.pc.length = u.regs.length := hR.lp
  have h3 : c.regs.length = u.regs.length := by have := hR.lr; simpa [Cf.pf] using this
  have h4 : c.buf.length = u.regs.length := by have := hR.lb; simpa [Cf.pf] using this
  cases ht : inB t u.regs.length with
  | false =>
    have hbf : b = false := by
      rw [← hb]; unfold enT
      rw [show decide (0 ≤ t ∧ t < (c.pf.pc.length : Int)) = false from by show decide (0 ≤ t ∧ t < (c.pc.length : Int)) = false; rw [h2]; exact ht]; rfl
    subst hbf
    exact enabled_of _ _ _ _ _ _ _ _ model room t w zeroT false false rfl one_zero (fun W hW => turnOf_no u c model room t vi vr vc ap ar am ab W (hu.below hW) (hc.below hW) _ h1 h2 h3 h4 ht) 0 (.inl ⟨rfl, rfl⟩)
  | true =>
    have htt := of_decide_eq_true ht
    obtain ⟨k, rfl⟩ : ∃ k : Nat, t = (k : Int) := ⟨t.toNat, by omega⟩
    have hk : k < u.regs.length := by omega
    obtain ⟨pc, x, T⟩ := hR.thr k hk
    have hkc : k < u.code.length := by omega
    have hcode : u.code.getD k ([], undef) = u.code[k] := by rw [List.getD_eq_getElem?_getD, List.getElem?_eq_getElem hkc]; rfl
    have hpl : pc < (u.code[k]).1.length := by have := T.hpl; rw [hcode] at this; exact this
    have hxg : (u.code[k]).1[pc] = x := by
      have := T.hx
      rw [hcode, List.getD_eq_getElem?_getD, List.getElem?_eq_getElem hpl] at this
      exact this
    have hpc : c.pc[k]'(by omega) = (pc : Int) := by
      have := T.hp
      rw [show c.pf.pc = c.pc from rfl, List.getD_eq_getElem?_getD, List.getElem?_eq_getElem (by omega)] at this
      exact this
    have hll : (u.code[k]).1.length ≤ 100000 := by have := T.hl; rw [hcode] at this; omega
    obtain ⟨f1, f2, hlk, ho1, ho2, hff⟩ := kind_look x.x.op (ins_op T.ins) _ rfl
    obtain ⟨xc, cc, hvc⟩ := hu.c.shape0
    have hdc := hu.c
    rw [hvc] at hdc
    obtain ⟨bc, oc, _, _, hrow⟩ := SlD.at hdc k hkc
    obtain ⟨ai, mi, hai⟩ := hrow.r.shape0
    have hri := hrow.r
    rw [hai] at hri
    obtain ⟨bi, oi, _, _, hI⟩ := SlD.at hri pc hpl
    rw [hxg] at hI
    have hle : x.x.e.length ≤ 100000 := by have := (hus k (c.pf.pc.getD k 0)).1; rw [T.at'] at this; exact this
    have henb : enO u c.pf model room k x.x = b := by
      rw [← hb]; unfold enT enP insAt
      rw [show decide (0 ≤ (k : Int) ∧ (k : Int) < (c.pf.pc.length : Int)) = true from by show decide (0 ≤ (k : Int) ∧ (k : Int) < (c.pc.length : Int)) = true; rw [h2]; exact ht, Int.toNat_natCast, T.at', Bool.true_and]
    have hTO : ∀ W : World, Below w.heap.size w W → Calls Tryz.prog 32 #[.agg #[.int .i64 u.mod, vi, vr, vc], .agg #[ap, ar, am, ab], .int .i64 model, .int .i64 room, .int .i64 (k : Int)] W fun e w' => e = .returned (.tuple #[.agg (turnA u.mod model room ap ar am ab k x f1 f2), .bool (decide (x.x.op ≠ 22))]) ∧ Below W.heap.size W w' := fun W hW => by
      have := turnOf_yes u c model room vi vr vc ap ar am ab W (hu.below hW) (hc.below hW) u.regs.length h1 h2 h3 h4 (by omega) k hk pc hpc hpl hll (.agg #[f1, f2]) (decide (x.x.op ≠ 22)) (by rw [hxg]; exact hlk) f1 f2 rfl (by simp [ho1, ho2])
      rw [hxg] at this
      exact this
    refine enabled_of _ _ _ _ _ _ _ _ model room k w (turnA u.mod model room ap ar am ab k x f1 f2) (decide (x.x.op ≠ 22)) b rfl (turnA_one hc hI.e hI.f ho1 ho2) hTO (fnE x.x.op) ?_
    by_cases h22 : x.x.op = 22
    · refine .inl ⟨decide_eq_false (by simp [h22]), ?_⟩
      rw [← henb]; unfold enO; rw [if_pos h22]
    · have hop : (2 ≤ x.x.op ∧ x.x.op ≤ 9) ∨ (20 ≤ x.x.op ∧ x.x.op ≤ 21) := by have := ins_op T.ins; omega
      refine .inr ⟨decide_eq_true h22, by rw [(hff (decide_eq_true h22)).1]; rfl, fun W => callE _ hop _ _, fun W hW => ?_⟩
      have hkb : k < c.buf.length := by omega
      have hkr : k < c.regs.length := by omega
      have hbuf : c.pf.buf.getD k [] = (c.buf[k]).1 := by
        show (c.buf.map (·.1)).getD k [] = _
        rw [getD_map, List.getD_eq_getElem?_getD, List.getElem?_eq_getElem hkb]; rfl
      unfold enO at henb
      rw [if_neg h22] at henb
      by_cases h4' : x.x.op = 4
      · rw [if_pos h4', hbuf] at henb
        have hf : fnE x.x.op = 79 := by rw [h4']; rfl
        rw [hf]
        exact troomy_any c u.mod model room ap ar am ab f1 f2 k x W (hc.below hW) hkb hs.bb b henb
      · rw [if_neg h4'] at henb
        by_cases h58 : x.x.op = 5 ∨ x.x.op = 6 ∨ x.x.op = 7 ∨ x.x.op = 8
        · rw [if_pos h58, hbuf] at henb
          have hf : fnE x.x.op = 81 := by rcases h58 with h | h | h | h <;> rw [h] <;> rfl
          rw [hf]
          exact tdrained_any c u.mod model room ap ar am ab f1 f2 k x W (hc.below hW) hkb b henb
        · rw [if_neg h58] at henb
          by_cases h9 : x.x.op = 9
          · rw [if_pos h9, ← readsC_pf, ← valC_pf] at henb
            have hf : fnE x.x.op = 86 := by rw [h9]; rfl
            rw [hf]
            exact tmet_any u c model room ap ar am ab f1 f2 k x W (hc.below hW) hkr (shortP_regs hR) hs.bb (OpsD.below hI.e hW) hle b henb
          · rw [if_neg h9] at henb
            subst henb
            have hf : fnE x.x.op = 76 := by
              have : x.x.op = 2 ∨ x.x.op = 3 ∨ x.x.op = 20 ∨ x.x.op = 21 := by omega
              rcases this with h | h | h | h <;> rw [h] <;> rfl
            rw [hf]
            exact talways_any u.mod model room ap ar am ab f1 f2 k x W
end Go.Proofs.YtacbanfnakgecaaGreat

namespace Go.Proofs.YtacbanfnakgecaaGreat
set_option linter.unusedSimpArgs false
set_option linter.unusedVariables false
open Go.RowKit
theorem setR_pf (c : Cf) (k i : Nat) (q : Int) : (c.setR k i q).pf = { c.pf with regs := setI c.pf.regs k i q } := by
  unfold Cf.setR Cf.pf setI
  simp only [List.map_set, getD_map, Int.toNat_natCast]
theorem setM_pf (c : Cf) (j : Nat) (n : Int) : (c.setM j n).pf = { c.pf with mem := c.pf.mem.set j n } := rfl
theorem setP_pf (c : Cf) (k : Nat) (n : Int) : (c.setP k n).pf = { c.pf with pc := c.pf.pc.set k n } := rfl
theorem stoC_pf (c : Cf) (model : Int) (k j : Nat) (v : Int) (bv : Value) : (stoC c model k j v bv).pf = if model = 1 then { c.pf with mem := c.pf.mem.set j v } else { c.pf with buf := c.pf.buf.set k (pushL (c.pf.buf.getD k []) model (j, v)) } := by
  unfold stoC
  split
  · rfl
  · unfold Cf.pf
    simp only [List.map_set, getD_map]
theorem idx_of {i n : Int} (h : idxB i true n = true) : 0 ≤ i ∧ i < n := (inB_iff i n).1 h
theorem readsP_drained (p : Pf) (k : Nat) (loc : Int) (h : (p.buf.getD k []).length = 0) (hk : k < p.buf.length) (hl : 0 ≤ loc ∧ loc < p.mem.length) : readsP p k loc = p.mem.getD loc.toNat 0 := by
  unfold readsP
  rw [if_pos ⟨by omega, by omega, hl.1, hl.2⟩, Int.toNat_natCast, List.eq_nil_of_length_eq_zero h]
  rfl
theorem Thr.valIn {u : Un} {p : Pf} {model room : Int} {k pc : Nat} {x : II} (h : Thr u p model room k pc x) (hR : RightP u p model room) (l : List Opn) (hl : codB l true (u.regs.getD k 0) = true) : inB (valP u p k l) u.mod = true := by
  unfold valP
  have hN : rightN ⟨u.mod, p.regs.getD k [], [], []⟩ = true := by
    unfold rightN
    have h2 := rightU_lc hR.ru
    rw [show decide (2 ≤ u.mod ∧ u.mod ≤ 16) = true from decide_eq_true ⟨h2.1, h2.2.1⟩]
    simp only [Bool.true_and, allB, List.all_nil, Bool.and_true]
    exact List.all_eq_true.2 fun n hn => (h.ra n hn : _)
  refine val_in l ⟨u.mod, p.regs.getD k [], [], []⟩ hN ?_
  show rightO l [] (p.regs.getD k []).length 0 = true
  rw [h.rl]
  exact hl
set_option maxHeartbeats 4000000 in
theorem fnA_any {B N : Nat} (u : Un) (d : Cf) (model room : Int) (xp xr xm xb f1 f2 : Value) (k : Nat) (pc : Nat) (x : II) (hR : RightP u d.pf model room) (hk : k < u.regs.length) (T : Thr u d.pf model room k pc x) (hs : ShortC d) (hop : (2 ≤ x.x.op ∧ x.x.op ≤ 9) ∨ (20 ≤ x.x.op ∧ x.x.op ≤ 21)) (hen : enO u d.pf model room k x.x = true)
    (hle : x.x.e.length ≤ 100000) (hlf : x.x.f.length ≤ 100000) (w : World) (hS : St B N w xp xr xm xb (d.setP k ((pc : Int) + 1))) (he : OpsD w x.ev x.x.e) (hf : OpsD w x.fv x.x.f) :
    Calls Tryz.prog (fnA x.x.op) #[.agg (turnA u.mod model room xp xr xm xb k x f1 f2)] w fun e w' => e = .returned (.tuple #[]) ∧ (∃ c', c'.pf = actO u d.pf model k x.x ∧ St B N w' xp xr xm xb c') ∧ Fr B N w w' := by
  have h2 : d.pc.length = u.regs.length := hR.lp
  have h3 : d.regs.length = u.regs.length := by have := hR.lr; simpa [Cf.pf] using this
  have h4 : d.buf.length = u.regs.length := by have := hR.lb; simpa [Cf.pf] using this
  have h5 : d.mem.length = u.init.length := hR.lm
  have hkr : k < (d.setP k ((pc : Int) + 1)).regs.length := by show k < d.regs.length; omega
  have hkb : k < (d.setP k ((pc : Int) + 1)).buf.length := by show k < d.buf.length; omega
  have hkp : k < (d.setP k ((pc : Int) + 1)).pc.length := by show k < (d.pc.set _ _).length; rw [List.length_set]; omega
  have hrs : ∀ r ∈ (d.setP k ((pc : Int) + 1)).regs, r.1.length ≤ 100000 := hs.rr
  have hbs : ∀ r ∈ (d.setP k ((pc : Int) + 1)).buf, r.1.length ≤ 100000 := hs.bb
  have hpf : (d.setP k ((pc : Int) + 1)).pf = { d.pf with pc := d.pf.pc.set k ((pc : Int) + 1) } := rfl
  have hrd : ∀ loc, readsC (d.setP k ((pc : Int) + 1)) k loc = readsP d.pf k loc := fun loc => by rw [readsC_pf, hpf]; rfl
  have hvl : ∀ l, valC u (d.setP k ((pc : Int) + 1)) k l = valP u d.pf k l := fun l => by rw [valC_pf, hpf]; rfl
  have hreg : ((d.setP k ((pc : Int) + 1)).regs[k]'hkr).1.length = (d.pf.regs.getD k []).length := by
    show (d.regs[k]'(by omega)).1.length = ((d.regs.map (·.1)).getD k []).length
    rw [getD_map, List.getD_eq_getElem?_getD, List.getElem?_eq_getElem (by omega)]; rfl
  have hins := T.ins
  unfold insB at hins
  simp only [Bool.and_eq_true] at hins
  obtain ⟨_, hi1, hi2, hi3, hi4, hi5, _⟩ := hins
  have hregI : hasR x.x.op = true → ∃ i : Nat, x.x.reg = i ∧ i < ((d.setP k ((pc : Int) + 1)).regs[k]'hkr).1.length := fun h => by
    rw [h] at hi1
    have := idx_of hi1
    refine ⟨x.x.reg.toNat, by omega, ?_⟩
    rw [hreg]
    have := T.rl
    omega
  have hlocI : hasL x.x.op = true → ∃ j : Nat, x.x.loc = j ∧ j < (d.setP k ((pc : Int) + 1)).mem.length := fun h => by
    rw [h] at hi2
    have := idx_of hi2
    refine ⟨x.x.loc.toNat, by omega, ?_⟩
    show _ < d.mem.length
    omega
  have hmem : d.pf.mem.length = u.init.length := h5
  have hpc : d.pf.pc.getD k 0 = (pc : Int) := T.hp
  have hpc2 : d.pf.pc[k]?.getD 0 = (pc : Int) := by rw [← List.getD_eq_getElem?_getD]; exact hpc
  have hdr : (x.x.op = 5 ∨ x.x.op = 6 ∨ x.x.op = 7) → (d.pf.buf.getD k []).length = 0 := fun h => by
    unfold enO at hen
    rw [if_neg (by omega), if_neg (by omega), if_pos (by omega)] at hen
    exact of_decide_eq_true hen
  have hkb2 : k < d.pf.buf.length := by show k < (d.buf.map (·.1)).length; rw [List.length_map]; omega
  have hm3 : model = 1 ∨ model = 2 ∨ model = 3 := by
    obtain ⟨_, _, h⟩ := (rightL_iff _ _ _ _ _).1 T.bl
    omega
  have hmod := rightU_lc hR.ru
  rcases kinds_ten x.x.op hop with h | h | h | h | h | h | h | h | h | h
  · obtain ⟨i, hi, hil⟩ := hregI (by rw [h]; rfl)
    rw [show fnA x.x.op = 77 by rw [h]; rfl]
    refine (tset_any u _ model room xp xr xm xb f1 f2 k x w hS hkr i hil hi he hle hrs _ rfl).mono ?_
    rintro e w' ⟨h6, h7, h8⟩
    refine ⟨h6, ⟨_, ?_, h7⟩, h8⟩
    rw [setR_pf, hvl, hpf]
    simp [actO, pcO, regO, memO, bufO, h, hpc, hpc2, hi]
  · obtain ⟨i, hi, hil⟩ := hregI (by rw [h]; rfl)
    rw [show fnA x.x.op = 78 by rw [h]; rfl]
    refine (tload_any u _ model room xp xr xm xb f1 f2 k x w hS hkr i hil hi hbs _ rfl).mono ?_
    rintro e w' ⟨h6, h7, h8⟩
    refine ⟨h6, ⟨_, ?_, h7⟩, h8⟩
    rw [setR_pf, hrd, hpf]
    simp [actO, pcO, regO, memO, bufO, h, hpc, hpc2, hi]
  · obtain ⟨j, hj, hjl⟩ := hlocI (by rw [h]; rfl)
    rw [show fnA x.x.op = 80 by rw [h]; rfl]
    refine (tstore_any u _ model room xp xr xm xb f1 f2 k x w hS hkr j hjl hj hkb he hle hrs hbs _ rfl hm3).mono ?_
    rintro e w' ⟨h6, ⟨bv, h7⟩, h8⟩
    refine ⟨h6, ⟨_, ?_, h7⟩, h8⟩
    rw [stoC_pf, hvl, hpf]
    by_cases hm : model = 1
    · simp [actO, pcO, regO, memO, bufO, h, hpc, hpc2, hj, hm]
    · simp [actO, pcO, regO, memO, bufO, h, hpc, hpc2, hj, hm]
  · obtain ⟨i, hi, hil⟩ := hregI (by rw [h]; rfl)
    obtain ⟨j, hj, hjl⟩ := hlocI (by rw [h]; rfl)
    have hld : 0 ≤ x.x.loc ∧ x.x.loc < d.pf.mem.length := ⟨by omega, by have : j < d.mem.length := hjl; show x.x.loc < d.mem.length; omega⟩
    have hold := readsP_drained d.pf k x.x.loc (hdr (by omega)) hkb2 hld
    rw [show fnA x.x.op = 82 by rw [h]; rfl]
    refine (tcas_any u _ model room xp xr xm xb f1 f2 k x w hS hkr i hil hi j hjl hj he hle hrs hf hlf hbs _ rfl _ rfl).mono ?_
    rintro e w' ⟨h6, h7, h8⟩
    refine ⟨h6, ⟨_, ?_, h7⟩, h8⟩
    rw [setM_pf, setR_pf, hvl, hvl, hrd, hold, hpf]
    have hset : d.pf.mem.set j (d.pf.mem.getD j 0) = d.pf.mem := by
      apply List.ext_getElem?
      intro q
      rw [List.getElem?_set]
      split
      · rename_i he; subst he
        have : j < d.pf.mem.length := hjl
        rw [if_pos this, List.getD_eq_getElem?_getD, List.getElem?_eq_getElem this]; rfl
      · rfl
    by_cases hc : d.pf.mem.getD x.x.loc.toNat 0 = valP u d.pf k x.x.e
    · rw [if_pos hc]
      simp [actO, pcO, regO, memO, bufO, h, hpc, hpc2, hi]
      rw [hj] at hc ⊢
      simp only [Int.toNat_natCast] at hc ⊢
      rw [List.getD_eq_getElem?_getD] at hc
      rw [if_pos hc]
    · rw [if_neg hc]
      simp [actO, pcO, regO, memO, bufO, h, hpc, hpc2, hi]
      rw [hj] at hc ⊢
      simp only [Int.toNat_natCast] at hc ⊢
      rw [List.getD_eq_getElem?_getD] at hc hset
      rw [if_neg hc]
      exact hset
  · obtain ⟨i, hi, hil⟩ := hregI (by rw [h]; rfl)
    obtain ⟨j, hj, hjl⟩ := hlocI (by rw [h]; rfl)
    have hjl' : j < d.mem.length := hjl
    have hld : 0 ≤ x.x.loc ∧ x.x.loc < d.pf.mem.length := ⟨by omega, by show x.x.loc < d.mem.length; omega⟩
    have hold := readsP_drained d.pf k x.x.loc (hdr (by omega)) hkb2 hld
    have hoin : inB (d.pf.mem.getD x.x.loc.toNat 0) u.mod = true := by
      refine hR.m _ ?_
      rw [hj, Int.toNat_natCast, List.getD_eq_getElem?_getD, List.getElem?_eq_getElem (show j < d.pf.mem.length from hjl')]
      exact List.getElem_mem _
    have hvin : inB (valP u d.pf k x.x.e) u.mod = true := T.valIn hR _ (by rw [h] at hi4; exact hi4)
    rw [show fnA x.x.op = 83 by rw [h]; rfl]
    refine (tfadd_any u _ model room xp xr xm xb f1 f2 k x w hS hkr i hil hi j hjl hj he hle hrs hbs _ rfl _ rfl (by rw [hrd, hold]; exact (inB_iff _ _).1 hoin) (by rw [hvl]; exact (inB_iff _ _).1 hvin) hmod.2.1).mono ?_
    rintro e w' ⟨h6, h7, h8⟩
    refine ⟨h6, ⟨_, ?_, h7⟩, h8⟩
    rw [setM_pf, setR_pf, hvl, hrd, hold, hpf]
    simp [actO, pcO, regO, memO, bufO, h, hpc, hpc2, hi, hj]
  · obtain ⟨i, hi, hil⟩ := hregI (by rw [h]; rfl)
    obtain ⟨j, hj, hjl⟩ := hlocI (by rw [h]; rfl)
    have hjl' : j < d.mem.length := hjl
    have hld : 0 ≤ x.x.loc ∧ x.x.loc < d.pf.mem.length := ⟨by omega, by show x.x.loc < d.mem.length; omega⟩
    have hold := readsP_drained d.pf k x.x.loc (hdr (by omega)) hkb2 hld
    rw [show fnA x.x.op = 84 by rw [h]; rfl]
    refine (txchg_any u _ model room xp xr xm xb f1 f2 k x w hS hkr i hil hi j hjl hj he hle hrs hbs _ rfl _ rfl).mono ?_
    rintro e w' ⟨h6, h7, h8⟩
    refine ⟨h6, ⟨_, ?_, h7⟩, h8⟩
    rw [setM_pf, setR_pf, hvl, hrd, hold, hpf]
    simp [actO, pcO, regO, memO, bufO, h, hpc, hpc2, hi, hj]
  · rw [show fnA x.x.op = 85 by rw [h]; rfl]
    refine (tpass_any u.mod model room xp xr xm xb f1 f2 k x w).mono ?_
    rintro e w' ⟨h6, h7⟩
    refine ⟨h6, ⟨_, ?_, hS.below h7⟩, Fr.below h7 (Nat.le_trans hS.bn hS.n)⟩
    rw [hpf]
    simp [actO, pcO, regO, memO, bufO, h, hpc, hpc2]
  · rw [show fnA x.x.op = 85 by rw [h]; rfl]
    refine (tpass_any u.mod model room xp xr xm xb f1 f2 k x w).mono ?_
    rintro e w' ⟨h6, h7⟩
    refine ⟨h6, ⟨_, ?_, hS.below h7⟩, Fr.below h7 (Nat.le_trans hS.bn hS.n)⟩
    rw [hpf]
    simp [actO, pcO, regO, memO, bufO, h, hpc, hpc2]
  · rw [show fnA x.x.op = 87 by rw [h]; rfl]
    refine (tjump_any u _ model room xp xr xm xb f1 f2 k x w hS hkr hkp).mono ?_
    rintro e w' ⟨h6, h7, h8⟩
    refine ⟨h6, ⟨_, ?_, h7⟩, h8⟩
    rw [setP_pf, hpf]
    simp [actO, pcO, regO, memO, bufO, h, hpc, hpc2]
  · rw [show fnA x.x.op = 88 by rw [h]; rfl]
    refine (tbranch_any u _ model room xp xr xm xb f1 f2 k x w hS hkr hkp he hle hrs _ rfl).mono ?_
    rintro e w' ⟨h6, h7, h8⟩
    refine ⟨h6, ⟨_, ?_, h7⟩, h8⟩
    rw [hvl]
    by_cases hv : valP u d.pf k x.x.e = 0
    · rw [if_pos hv, setP_pf, hpf]
      simp [actO, pcO, regO, memO, bufO, h, hpc, hpc2, hv]
    · rw [if_neg hv, hpf]
      simp [actO, pcO, regO, memO, bufO, h, hpc, hpc2, hv]
end Go.Proofs.YtacbanfnakgecaaGreat

namespace Go.Proofs.YtacbanfnakgecaaGreat
set_option linter.unusedSimpArgs false
set_option linter.unusedVariables false
open Go.RowKit
structure Pack (u : Un) (d : Cf) (model room : Int) (vi vr vc yp yr ym yb : Value) (k : Nat) (w : World) (pc : Nat) (x : II) (f1 f2 : Value) : Prop where
  T : Thr u d.pf model room k pc x
  to : ∀ W : World, Below w.heap.size w W → Calls Tryz.prog 32 #[.agg #[.int .i64 u.mod, vi, vr, vc], .agg #[yp, yr, ym, yb], .int .i64 model, .int .i64 room, .int .i64 (k : Int)] W fun e w' => e = .returned (.tuple #[.agg (turnA u.mod model room yp yr ym yb k x f1 f2), .bool (decide (x.x.op ≠ 22))]) ∧ Below W.heap.size W w'
  o1 : f1.oneCell' = true
  o2 : f2.oneCell' = true
  fn : x.x.op ≠ 22 → f1 = .func (.func (fnE x.x.op)) #[] #[] ∧ f2 = .func (.func (fnA x.x.op)) #[] #[]
  e : OpsD w x.ev x.x.e
  f : OpsD w x.fv x.x.f
theorem turn_pack (u : Un) (d : Cf) (model room : Int) (vi vr vc yp yr ym yb : Value) (k : Nat) (w : World) (hu : UnD w vi vr vc u) (hd : CfD w yp yr ym yb d) (hR : RightP u d.pf model room) (hk : k < u.regs.length) :
    ∃ pc x f1 f2, Pack u d model room vi vr vc yp yr ym yb k w pc x f1 f2 := by
  have h1 := (rightU_lc hR.ru).2.2.2.2.2
  have hn4 := (rightU_lc hR.ru).2.2.2.2.1
  have h2 : d.pc.length = u.regs.length := hR.lp
  have h3 : d.regs.length = u.regs.length := by have := hR.lr; simpa [Cf.pf] using this
  have h4 : d.buf.length = u.regs.length := by have := hR.lb; simpa [Cf.pf] using this
  obtain ⟨pc, x, T⟩ := hR.thr k hk
  have hkc : k < u.code.length := by omega
  have hcode : u.code.getD k ([], undef) = u.code[k] := by rw [List.getD_eq_getElem?_getD, List.getElem?_eq_getElem hkc]; rfl
  have hpl : pc < (u.code[k]).1.length := by have := T.hpl; rw [hcode] at this; exact this
  have hxg : (u.code[k]).1[pc] = x := by
    have := T.hx
    rw [hcode, List.getD_eq_getElem?_getD, List.getElem?_eq_getElem hpl] at this
    exact this
  have hpc : d.pc[k]'(by omega) = (pc : Int) := by
    have := T.hp
    rw [show d.pf.pc = d.pc from rfl, List.getD_eq_getElem?_getD, List.getElem?_eq_getElem (by omega)] at this
    exact this
  have hll : (u.code[k]).1.length ≤ 100000 := by have := T.hl; rw [hcode] at this; omega
  obtain ⟨f1, f2, hlk, ho1, ho2, hff⟩ := kind_look x.x.op (ins_op T.ins) _ rfl
  obtain ⟨xc, cc, hvc⟩ := hu.c.shape0
  have hdc := hu.c
  rw [hvc] at hdc
  obtain ⟨bc, oc, _, _, hrow⟩ := SlD.at hdc k hkc
  obtain ⟨ai, mi, hai⟩ := hrow.r.shape0
  have hri := hrow.r
  rw [hai] at hri
  obtain ⟨bi, oi, _, _, hI⟩ := SlD.at hri pc hpl
  rw [hxg] at hI
  refine ⟨pc, x, f1, f2, T, fun W hW => ?_, ho1, ho2, fun h => hff (decide_eq_true h), hI.e, hI.f⟩
  have := turnOf_yes u d model room vi vr vc yp yr ym yb W (hu.below hW) (hd.below hW) u.regs.length h1 h2 h3 h4 (by omega) k hk pc hpc hpl hll (.agg #[f1, f2]) (decide (x.x.op ≠ 22)) (by rw [hxg]; exact hlk) f1 f2 rfl (by simp [ho1, ho2])
  rw [hxg] at this
  exact this
set_option maxHeartbeats 4000000 in
theorem fnE_any (u : Un) (c : Cf) (model room : Int) (ap ar am ab f1 f2 : Value) (k pc : Nat) (x : II) (w : World) (hc : CfD w ap ar am ab c) (hs : ShortC c) (hR : RightP u c.pf model room) (hk : k < u.regs.length) (T : Thr u c.pf model room k pc x) (h22 : x.x.op ≠ 22) (he : OpsD w x.ev x.x.e) (hle : x.x.e.length ≤ 100000) (b : Bool) (henb : enO u c.pf model room k x.x = b) :
    Calls Tryz.prog (fnE x.x.op) #[.agg (turnA u.mod model room ap ar am ab k x f1 f2)] w fun e w' => e = .returned (.bool b) ∧ Below w.heap.size w w' := by
  have h3 : c.regs.length = u.regs.length := by have := hR.lr; simpa [Cf.pf] using this
  have h4 : c.buf.length = u.regs.length := by have := hR.lb; simpa [Cf.pf] using this
  have hkb : k < c.buf.length := by omega
  have hkr : k < c.regs.length := by omega
  have hbuf : c.pf.buf.getD k [] = (c.buf[k]).1 := by
    show (c.buf.map (·.1)).getD k [] = _
    rw [getD_map, List.getD_eq_getElem?_getD, List.getElem?_eq_getElem hkb]; rfl
  have hop := ins_op T.ins
  unfold enO at henb
  rw [if_neg h22] at henb
  by_cases h4' : x.x.op = 4
  · rw [if_pos h4', hbuf] at henb
    have hf : fnE x.x.op = 79 := by rw [h4']; rfl
    rw [hf]
    exact troomy_any c u.mod model room ap ar am ab f1 f2 k x w hc hkb hs.bb b henb
  · rw [if_neg h4'] at henb
    by_cases h58 : x.x.op = 5 ∨ x.x.op = 6 ∨ x.x.op = 7 ∨ x.x.op = 8
    · rw [if_pos h58, hbuf] at henb
      have hf : fnE x.x.op = 81 := by rcases h58 with h | h | h | h <;> rw [h] <;> rfl
      rw [hf]
      exact tdrained_any c u.mod model room ap ar am ab f1 f2 k x w hc hkb b henb
    · rw [if_neg h58] at henb
      by_cases h9 : x.x.op = 9
      · rw [if_pos h9, ← readsC_pf, ← valC_pf] at henb
        have hf : fnE x.x.op = 86 := by rw [h9]; rfl
        rw [hf]
        exact tmet_any u c model room ap ar am ab f1 f2 k x w hc hkr hs.rr hs.bb he hle b henb
      · rw [if_neg h9] at henb
        subst henb
        have hf : fnE x.x.op = 76 := by
          have : x.x.op = 2 ∨ x.x.op = 3 ∨ x.x.op = 20 ∨ x.x.op = 21 := by omega
          rcases this with h | h | h | h <;> rw [h] <;> rfl
        rw [hf]
        exact talways_any u.mod model room ap ar am ab f1 f2 k x w
theorem short_pf {a c : Cf} (h : c.pf = a.pf) (ha : ShortC a) : ShortC c := by
  obtain ⟨pc, regs, mem, buf⟩ := c
  obtain ⟨pc', regs', mem', buf'⟩ := a
  simp only [Cf.pf, Pf.mk.injEq] at h
  obtain ⟨e1, e2, e3, e4⟩ := h
  have l2 := congrArg List.length e2
  have l4 := congrArg List.length e4
  simp only [List.length_map] at l2 l4
  obtain ⟨h1, h2, h3, h4, h5, h6⟩ := ha
  simp only [] at h1 h2 h3 h4 h5 h6
  subst e1 e3
  refine ⟨h1, by simp only []; omega, h3, by simp only []; omega, fun x hx => ?_, fun x hx => ?_⟩
  · have : x.1 ∈ regs.map (·.1) := List.mem_map_of_mem hx
    rw [e2] at this
    obtain ⟨y, hy, he⟩ := List.mem_map.1 this
    rw [← he]
    exact h5 y hy
  · have : x.1 ∈ buf.map (·.1) := List.mem_map_of_mem hx
    rw [e4] at this
    obtain ⟨y, hy, he⟩ := List.mem_map.1 this
    rw [← he]
    exact h6 y hy
theorem turn_cases (u : Un) (d : Cf) (model room t : Int) (vi vr vc yp yr ym yb : Value) (w : World) (hu : UnD w vi vr vc u) (hd : CfD w yp yr ym yb d) (hR : RightP u d.pf model room) :
    ∃ (ta : Array Value) (q : Bool), ta.size = 17 ∧ ta.all (·.oneCell') = true ∧ (∀ W : World, Below w.heap.size w W → Calls Tryz.prog 32 #[.agg #[.int .i64 u.mod, vi, vr, vc], .agg #[yp, yr, ym, yb], .int .i64 model, .int .i64 room, .int .i64 t] W fun e w' => e = .returned (.tuple #[.agg ta, .bool q]) ∧ Below W.heap.size W w') ∧
      ((q = false ∧ enT u d.pf model room t = false) ∨ (q = true ∧ ∃ (k pc : Nat) (x : II) (f1 f2 : Value), t = (k : Int) ∧ k < u.regs.length ∧ ta = turnA u.mod model room yp yr ym yb k x f1 f2 ∧ Pack u d model room vi vr vc yp yr ym yb k w pc x f1 f2 ∧ x.x.op ≠ 22 ∧ enT u d.pf model room t = enO u d.pf model room k x.x ∧ actP u d.pf model k = actO u d.pf model k x.x)) := by
  have h1 := (rightU_lc hR.ru).2.2.2.2.2
  have h2 : d.pc.length = u.regs.length := hR.lp
  have h3 : d.regs.length = u.regs.length := by have := hR.lr; simpa [Cf.pf] using this
  have h4 : d.buf.length = u.regs.length := by have := hR.lb; simpa [Cf.pf] using this
  cases ht : inB t u.regs.length with
  | false =>
    refine ⟨zeroT, false, rfl, one_zero, fun W hW => turnOf_no u d model room t vi vr vc yp yr ym yb W (hu.below hW) (hd.below hW) _ h1 h2 h3 h4 ht, .inl ⟨rfl, ?_⟩⟩
    unfold enT
    rw [show decide (0 ≤ t ∧ t < (d.pf.pc.length : Int)) = false from by show decide (0 ≤ t ∧ t < (d.pc.length : Int)) = false; rw [h2]; exact ht]; rfl
  | true =>
    have htt := of_decide_eq_true ht
    obtain ⟨k, rfl⟩ : ∃ k : Nat, t = (k : Int) := ⟨t.toNat, by omega⟩
    have hk : k < u.regs.length := by omega
    obtain ⟨pc, x, f1, f2, P⟩ := turn_pack u d model room vi vr vc yp yr ym yb k w hu hd hR hk
    have hen : enT u d.pf model room k = enO u d.pf model room k x.x := by
      unfold enT enP insAt
      rw [show decide (0 ≤ (k : Int) ∧ (k : Int) < (d.pf.pc.length : Int)) = true from by show decide (0 ≤ (k : Int) ∧ (k : Int) < (d.pc.length : Int)) = true; rw [h2]; exact ht, Int.toNat_natCast, P.T.at', Bool.true_and]
    refine ⟨_, decide (x.x.op ≠ 22), rfl, turnA_one hd P.e P.f P.o1 P.o2, P.to, ?_⟩
    by_cases h22 : x.x.op = 22
    · refine .inl ⟨decide_eq_false (by simp [h22]), ?_⟩
      rw [hen]; unfold enO; rw [if_pos h22]
    · exact .inr ⟨decide_eq_true h22, k, pc, x, f1, f2, rfl, hk, rfl, P, h22, hen, by unfold actP insAt; rw [P.T.at']⟩
end Go.Proofs.YtacbanfnakgecaaGreat

namespace Go.Proofs.YtacbanfnakgecaaGreat
set_option linter.unusedSimpArgs false
set_option linter.unusedVariables false
open Go.RowKit
theorem getD_set_eq {α : Type} {l : List α} {i : Nat} {a d : α} (h : i < l.length) : (l.set i a).getD i d = a := by
  rw [List.getD_eq_getElem?_getD, List.getElem?_set_self h]; rfl
theorem getD_set_ne {α : Type} {l : List α} {i j : Nat} {a d : α} (h : i ≠ j) : (l.set i a).getD j d = l.getD j d := by
  rw [List.getD_eq_getElem?_getD, List.getElem?_set_ne h, ← List.getD_eq_getElem?_getD]
theorem getD_mem' {l : List Int} {i : Nat} (h : i < l.length) : l.getD i 0 ∈ l := by
  rw [List.getD_eq_getElem?_getD, List.getElem?_eq_getElem h]; exact List.getElem_mem h
theorem all_set {l : List Int} {i : Nat} {a m : Int} (h : ∀ n ∈ l, inB n m = true) (ha : inB a m = true) : ∀ n ∈ l.set i a, inB n m = true := by
  intro n hn
  rcases List.mem_or_eq_of_mem_set hn with h1 | h1
  · exact h n h1
  · rw [h1]; exact ha
theorem reads_in {u : Un} {p : Pf} {model room : Int} (h : RightP u p model room) (t loc : Int) : inB (readsP p t loc) u.mod = true := by
  have h2 := rightU_lc h.ru
  unfold readsP
  split
  · next hb =>
    split
    · next hl =>
      have hk : t.toNat < u.regs.length := by have := h.lb; omega
      obtain ⟨pc, x, T⟩ := h.thr t.toNat hk
      exact (((rightL_iff _ _ _ _ _).1 T.bl).2.1 _ (last_mem _ _ hl)).2
    · exact h.m _ (getD_mem' (by omega))
  · exact (inB_iff _ _).2 ⟨by omega, by omega⟩
theorem setI_len (l : List (List Int)) (k : Nat) (i v : Int) : (setI l k i v).length = l.length := by unfold setI; exact List.length_set
theorem setI_ne {l : List (List Int)} {k j : Nat} (i v : Int) (h : k ≠ j) : (setI l k i v).getD j [] = l.getD j [] := getD_set_ne h
theorem setI_eq {l : List (List Int)} {k : Nat} (i v : Int) (h : k < l.length) : (setI l k i v).getD k [] = (l.getD k []).set i.toNat v := getD_set_eq h
theorem actO_ne (u : Un) (p : Pf) (model : Int) (k j : Nat) (x : Ins) (h : k ≠ j) : (actO u p model k x).pc.getD j 0 = p.pc.getD j 0 ∧ (actO u p model k x).regs.getD j [] = p.regs.getD j [] ∧ (actO u p model k x).buf.getD j [] = p.buf.getD j [] := by
  refine ⟨getD_set_ne h, ?_, ?_⟩
  · show (regO u p k x).getD j [] = _
    unfold regO
    split
    · exact setI_ne _ _ h
    · split
      · exact setI_ne _ _ h
      · split
        · exact setI_ne _ _ h
        · rfl
  · show (bufO u p model k x).getD j [] = _
    unfold bufO
    split
    · exact getD_set_ne h
    · rfl
theorem actO_len (u : Un) (p : Pf) (model : Int) (k : Nat) (x : Ins) : (actO u p model k x).pc.length = p.pc.length ∧ (actO u p model k x).regs.length = p.regs.length ∧ (actO u p model k x).mem.length = p.mem.length ∧ (actO u p model k x).buf.length = p.buf.length := by
  refine ⟨List.length_set, ?_, ?_, ?_⟩
  · show (regO u p k x).length = _
    unfold regO
    split
    · exact setI_len _ _ _ _
    · split
      · exact setI_len _ _ _ _
      · split
        · exact setI_len _ _ _ _
        · rfl
  · show (memO u p model k x).length = _
    unfold memO
    repeat' (first | rfl | exact List.length_set | split)
  · show (bufO u p model k x).length = _
    unfold bufO
    split
    · exact List.length_set
    · rfl
theorem act_right {u : Un} {p : Pf} {model room t : Int} (h : RightP u p model room) : RightP u (actT u p model room t) model room := by
  unfold actT
  by_cases he : enT u p model room t = true
  case neg => rw [if_neg he]; exact h
  rw [if_pos he]
  unfold enT at he
  rw [Bool.and_eq_true] at he
  obtain ⟨hb, he⟩ := he
  have hb := of_decide_eq_true hb
  obtain ⟨k, hk0⟩ : ∃ k, k = t.toNat := ⟨_, rfl⟩
  rw [← hk0] at he ⊢
  have hk : k < u.regs.length := by have := h.lp; omega
  obtain ⟨pc, x, T⟩ := h.thr k hk
  have hx : insAt u k (p.pc.getD k 0) = x.x := by show (iiAt u k _).x = _; rw [T.at']
  unfold enP at he
  unfold actP
  rw [hx] at he ⊢
  have hins := T.ins
  have h22 : x.x.op ≠ 22 := fun h0 => by unfold enO at he; rw [if_pos h0] at he; cases he
  unfold insB at hins
  simp only [Bool.and_eq_true] at hins
  obtain ⟨_, hi1, hi2, hi3, hi4, hi5, _⟩ := hins
  have h2 := rightU_lc h.ru
  obtain ⟨l1, l2, l3, l4⟩ := actO_len u p model k x.x
  have hkp : k < p.pc.length := by rw [h.lp]; exact hk
  have hkr : k < p.regs.length := by rw [h.lr]; exact hk
  have hkb : k < p.buf.length := by rw [h.lb]; exact hk
  have hE : hasE x.x.op = true → inB (valP u p k x.x.e) u.mod = true := fun hh => T.valIn h _ (by rw [hh] at hi4; exact hi4)
  have hF : hasF x.x.op = true → inB (valP u p k x.x.f) u.mod = true := fun hh => T.valIn h _ (by rw [hh] at hi5; exact hi5)
  have hL : hasL x.x.op = true → inB x.x.loc u.init.length = true := fun hh => by rw [hh] at hi2; exact hi2
  have hG : hasL x.x.op = true → inB (p.mem.getD x.x.loc.toNat 0) u.mod = true := fun hh => by
    have h3 := (inB_iff _ _).1 (hL hh)
    exact h.m _ (getD_mem' (by rw [h.lm]; omega))
  refine ⟨h.ru, l1.trans h.lp, l2.trans h.lr, l4.trans h.lb, l3.trans h.lm, ?_, fun j hj => ?_, h.e⟩
  · show ∀ n ∈ memO u p model k x.x, _
    unfold memO
    split
    · next ho =>
      split
      · exact all_set h.m (hE (by rw [ho]; rfl))
      · exact h.m
    · split
      · next ho =>
        split
        · exact all_set h.m (hF (by rw [ho]; rfl))
        · exact h.m
      · split
        · exact all_set h.m ((inB_iff _ _).2 ⟨Int.emod_nonneg _ (by omega), Int.emod_lt_of_pos _ (by omega)⟩)
        · split
          · next ho => exact all_set h.m (hE (by rw [ho]; rfl))
          · exact h.m
  · by_cases hjk : k = j
    · subst hjk
      unfold thB
      rw [Bool.and_eq_true, Bool.and_eq_true]
      have hpc : (actO u p model k x.x).pc.getD k 0 = pcO u p k x.x := getD_set_eq hkp
      have hreg : ∀ i v, inB v u.mod = true → ((((p.regs.getD k []).set i v).length : Int) = u.regs.getD k 0) ∧ ∀ n ∈ (p.regs.getD k []).set i v, inB n u.mod = true := fun i v hv => ⟨by rw [List.length_set]; exact T.rl, all_set T.ra hv⟩
      have hreg2 : (((regO u p k x.x).getD k []).length : Int) = u.regs.getD k 0 ∧ ∀ n ∈ (regO u p k x.x).getD k [], inB n u.mod = true := by
        unfold regO
        split
        · next ho => rw [setI_eq _ _ hkr]; exact hreg _ _ (hE (by rw [ho]; rfl))
        · split
          · rw [setI_eq _ _ hkr]; exact hreg _ _ (reads_in h _ _)
          · split
            · next ho => rw [setI_eq _ _ hkr]; exact hreg _ _ (hG (by rcases ho with ho | ho | ho <;> rw [ho] <;> rfl))
            · exact ⟨T.rl, T.ra⟩
      have hnx := T.last h22
      have hto : hasT x.x.op = true → inB x.x.to (u.code.getD k ([], undef)).1.length = true := fun hh => by rw [hh] at hi3; exact hi3
      refine ⟨decide_eq_true ⟨?_, ?_, hreg2.1⟩, List.all_eq_true.2 hreg2.2, ?_⟩
      · rw [hpc]
        unfold pcO
        split
        · next ho => exact ((inB_iff _ _).1 (hto (by rw [ho]; rfl))).1
        · split
          · next ho =>
            split
            · exact ((inB_iff _ _).1 (hto (by rw [ho]; rfl))).1
            · rw [T.hp]; omega
          · rw [T.hp]; omega
      · rw [hpc]
        unfold pcO
        split
        · next ho => exact ((inB_iff _ _).1 (hto (by rw [ho]; rfl))).2
        · split
          · next ho =>
            split
            · exact ((inB_iff _ _).1 (hto (by rw [ho]; rfl))).2
            · rw [T.hp]; omega
          · rw [T.hp]; omega
      · show rightL ((bufO u p model k x.x).getD k []) model room u.mod u.init.length = true
        unfold bufO
        split
        · next ho =>
          rw [getD_set_eq hkb]
          refine push_right T.bl _ ho.2 ?_ (hL (by rw [ho.1]; rfl)) (hE (by rw [ho.1]; rfl))
          unfold enO at he
          rw [if_neg h22, if_pos ho.1, Bool.or_eq_true] at he
          rcases he with he | he
          · exact absurd (of_decide_eq_true he) ho.2
          · exact he
        · exact T.bl
    · obtain ⟨e1, e2, e3⟩ := actO_ne u p model k j x.x hjk
      rw [e1, e2, e3]
      exact h.t j hj
theorem flush_right {u : Un} {p : Pf} {model room t loc : Int} (h : RightP u p model room) : RightP u (flushT p model t loc) model room := by
  unfold flushT
  by_cases he : flT p model t loc = true
  case neg => rw [if_neg he]; exact h
  rw [if_pos he]
  unfold flT at he
  rw [Bool.and_eq_true] at he
  obtain ⟨hb, he⟩ := he
  have hb := of_decide_eq_true hb
  obtain ⟨k, hk0⟩ : ∃ k, k = t.toNat := ⟨_, rfl⟩
  rw [← hk0] at he ⊢
  have hk : k < u.regs.length := by have := h.lb; omega
  have hkb : k < p.buf.length := by rw [h.lb]; exact hk
  obtain ⟨pc, x, T⟩ := h.thr k hk
  have hm := ((rightL_iff _ _ _ _ _).1 T.bl).2.1 _ (pop_mem _ _ _ he)
  refine ⟨h.ru, h.lp, h.lr, List.length_set.trans h.lb, List.length_set.trans h.lm, all_set h.m hm.2, fun j hj => ?_, h.e⟩
  have ht := h.t j hj
  by_cases hjk : k = j
  · subst hjk
    show thB _ _ _ _ (p.pc.getD k 0) (p.regs.getD k []) ((p.buf.set k _).getD k []) _ _ = true
    rw [getD_set_eq hkb]
    unfold thB at ht ⊢
    rw [Bool.and_eq_true, Bool.and_eq_true] at ht ⊢
    exact ⟨ht.1, ht.2.1, sub_right ht.2.2 (pop_sub _ _ _)⟩
  · show thB _ _ _ _ (p.pc.getD j 0) (p.regs.getD j []) ((p.buf.set k _).getD j []) _ _ = true
    rw [getD_set_ne hjk]
    exact ht
end Go.Proofs.YtacbanfnakgecaaGreat
