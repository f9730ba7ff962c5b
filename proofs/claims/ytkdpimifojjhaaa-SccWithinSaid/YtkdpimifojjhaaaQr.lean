/- Layer 17, the code: Cyclic. -/
import Derived.Test.YtkdpimifojjhaaaQq
namespace Go.Proofs.Ytkdpimifojjhaaa
set_option linter.unusedSimpArgs false
set_option linter.unusedVariables false
open Go.RowKit

def bothIn (l : List Int) (e : Edg) : Bool := decide (e.1 ∈ l) && decide (e.2.2 ∈ l)
def cycG (g : Gr) (l : List Int) : Bool := rightG g && (allL g).any (bothIn l)
def slcT (g : Gr) (i : Nat) : List Int := (g.to.take (sN g (i + 1))).drop (sN g i)
theorem out_any {g : Gr} (hg : RG g) (l : List Int) (i : Nat) (hi : i < numN g) : (outL g i).any (bothIn l) = (decide ((i : Int) ∈ l) && (slcT g i).any fun x => decide (x ∈ l)) := by
  have hu := hg.up i hi
  have hle := hg.le (i + 1) hi
  rw [Bool.eq_iff_iff, List.any_eq_true, Bool.and_eq_true, List.any_eq_true, decide_eq_true_eq]
  constructor
  · rintro ⟨e, he, hb⟩
    unfold bothIn at hb
    rw [Bool.and_eq_true, decide_eq_true_eq, decide_eq_true_eq] at hb
    obtain ⟨j, hj, rfl⟩ := List.mem_map.1 he
    rw [List.mem_range] at hj
    refine ⟨hb.1, g.to.getD (sN g i + j) 0, ?_, decide_eq_true hb.2⟩
    refine List.mem_of_getElem? (i := j) ?_
    unfold slcT
    rw [List.getElem?_drop, List.getElem?_take, if_pos (by omega)]
    exact getD_some _ _ (by omega)
  · rintro ⟨h1, x, hx, h2⟩
    obtain ⟨j, hj, e⟩ := List.getElem_of_mem hx
    have hj2 : j < sN g (i + 1) - sN g i := by
      have h := hj
      unfold slcT at h
      rw [List.length_drop, List.length_take] at h
      omega
    have e2 : g.to[sN g i + j]? = some x := by
      have h : (slcT g i)[j]? = some x := by rw [List.getElem?_eq_getElem hj, e]
      unfold slcT at h
      rw [List.getElem?_drop, List.getElem?_take, if_pos (by omega)] at h
      exact h
    refine ⟨((i : Int), g.ag.getD (sN g i + j) 0, g.to.getD (sN g i + j) 0), List.mem_map.2 ⟨j, List.mem_range.2 hj2, rfl⟩, ?_⟩
    unfold bothIn
    rw [Bool.and_eq_true]
    refine ⟨decide_eq_true h1, ?_⟩
    rw [getD_of e2]; exact h2
theorem cycG_some {g : Gr} (hg : RG g) (hr : rightG g = true) (l : List Int) (i : Nat) (hi : i < numN g) (h : (decide ((i : Int) ∈ l) && (slcT g i).any fun x => decide (x ∈ l)) = true) : cycG g l = true := by
  unfold cycG
  rw [hr, Bool.true_and, List.any_eq_true]
  rw [← out_any hg l i hi, List.any_eq_true] at h
  obtain ⟨e, he, hb⟩ := h
  exact ⟨e, List.mem_flatMap.2 ⟨i, List.mem_range.2 hi, he⟩, hb⟩
theorem cycG_none {g : Gr} (l : List Int) (h : rightG g = true → ∀ i, i < numN g → (decide ((i : Int) ∈ l) && (slcT g i).any fun x => decide (x ∈ l)) = false) : cycG g l = false := by
  unfold cycG
  cases hr : rightG g with
  | false => rfl
  | true =>
    rw [Bool.true_and, List.any_eq_false]
    intro e he
    obtain ⟨i, hi, he⟩ := List.mem_flatMap.1 he
    have h1 := h hr i (List.mem_range.1 hi)
    rw [← out_any (right_RG g hr) l i (List.mem_range.1 hi), List.any_eq_false] at h1
    exact h1 e he
def mrk (l : List Int) (j : Nat) : Bool := decide ((j : Int) ∈ l)
theorem mrk_step (n : Nat) (l : List Int) (k : Nat) (hk : k < l.length) (i : Nat) (hi : l[k] = (i : Int)) : (tab n (mrk (l.take k))).set i true = tab n (mrk (l.take (k + 1))) := by
  rw [tab_set]
  refine tab_congr fun j _ => ?_
  unfold upd mrk
  rw [List.take_add_one, List.getElem?_eq_getElem hk, hi]
  by_cases hj : j = i
  · subst hj; rw [if_pos rfl]; simp
  · rw [if_neg hj]
    have : ((j : Int) ∈ l.take k ++ (some (i : Int)).toList) ↔ ((j : Int) ∈ l.take k) := by
      rw [List.mem_append]
      constructor
      · rintro (h | h)
        · exact h
        · simp at h; omega
      · exact .inl
    rw [decide_eq_decide.2 this]
theorem mrk_skip (n : Nat) (l : List Int) (k : Nat) (hk : k < l.length) (hi : ¬ (0 ≤ l[k] ∧ l[k] < (n : Int))) : tab n (mrk (l.take k)) = tab n (mrk (l.take (k + 1))) := by
  refine tab_congr fun j hj => ?_
  unfold mrk
  rw [List.take_add_one, List.getElem?_eq_getElem hk]
  have : ((j : Int) ∈ l.take k ++ (some l[k]).toList) ↔ ((j : Int) ∈ l.take k) := by
    rw [List.mem_append]
    constructor
    · rintro (h | h)
      · exact h
      · have h : (j : Int) = l[k] := by simpa using h
        omega
    · exact .inl
  rw [decide_eq_decide.2 this]
/-- What Cyclic keeps in memory. -/
structure CY (w0 w : World) (vs va vt : Value) (gC gV gI n : Nat) (M : List Bool) : Prop where
  c : Bk w gC 24 #[vs, va, vt]
  v : Bk w gV 32 #[.slice (some ⟨gI, 0, none⟩) n n]
  m : BkT w gI M
  b : Below w0.heap.size w0 w
  g : w0.heap.size ≤ gI
theorem CY.drew {w0 w : World} {vs va vt : Value} {gC gV gI n : Nat} {M : List Bool} (h : CY w0 w vs va vt gC gV gI n M) : CY w0 w.drew vs va vt gC gV gI n M := ⟨h.c, h.v, h.m, bdr h.b, h.g⟩
theorem CY.drewN {w0 w : World} {vs va vt : Value} {gC gV gI n : Nat} {M : List Bool} (h : CY w0 w vs va vt gC gV gI n M) (k : Nat) : CY w0 (w.drewN k) vs va vt gC gV gI n M := ⟨h.c, h.v, h.m, below_drewN' h.b k, h.g⟩
theorem CY.set {w0 w : World} {vs va vt : Value} {gC gV gI n : Nat} {M : List Bool} (h : CY w0 w vs va vt gC gV gI n M) (i : Nat) : CY w0 (w.setCell ⟨gI, i, none⟩ (.bool true)) vs va vt gC gV gI n (M.set i true) :=
  ⟨h.c.other (bk_ne h.c h.m (by decide)) i, h.v.other (bk_ne h.v h.m (by decide)) i, h.m.set i true, h.b.setCell h.g _, h.g⟩
theorem cy_mk {w0 w1 w3 : World} {vs va vt : Value} {gI n : Nat} {Z : List Value} (hC : Bk w1 w0.heap.size 24 #[vs, va, vt]) (hb : Below w0.heap.size w0 w1) (hZ : Z = List.replicate n (.bool false)) (hz : w3.heap[w1.heap.size]? = some (.cells Z.toArray 4 (0, 0))) (b3 : Below w1.heap.size w1 w3) (hI : gI = w1.heap.size) (w4 : World)
    (h4 : w4 = w3.alloc (.cells #[.slice (some ⟨gI, 0, none⟩) n n] 32)) (l : List Int) : CY w0 w4 vs va vt w0.heap.size w3.heap.size gI n (tab n (mrk (l.take 0))) := by
  subst h4
  subst hI
  have e : tab n (mrk (l.take 0)) = List.replicate n false := tab_rep n false
  refine ⟨bk_alloc (hC.below b3) _, Bk.new _ _ _, by rw [e]; exact bk_alloc (bkT_new hZ hz) _, bal (hb.trans (b3.mono hb.size)) _, hb.size⟩

set_option maxRecDepth 100000 in
set_option maxHeartbeats 8000000 in
theorem cyclic_any (g : Gr) (l : List Int) (vs va vt vl : Value) (w : World) (hd : GrD w vs va vt g) (hl : IntsD w vl l) (hn : g.st.length ≤ 1001 ∧ g.to.length ≤ 1000 ∧ g.ag.length ≤ 1000) (hll : l.length ≤ 1000) (q : Bool) (hq : cycG g l = q) :
    Calls Try.prog 18 #[.agg #[vs, va, vt], vl] w fun e w' => e = .returned (.bool q) ∧ Below w.heap.size w w' := by
  obtain ⟨n, hN⟩ : ∃ n, (if rightG g = true then numN g else 0) = n := ⟨_, rfl⟩
  have HND := Lib.hid fun (W : World) (h : Below w.heap.size w W) => nodes_any g vs va vt W (hd.below h) hn n hN
  have HN : Hid (n ≤ 1000 ∧ (rightG g = true → n = numN g) ∧ (rightG g = false → n = 0)) := Lib.hid (by
    rw [← hN]
    refine ⟨?_, fun h => by rw [if_pos h], fun h => by rw [if_neg (by rw [h]; decide)]⟩
    split
    · unfold numN; omega
    · omega)
  have HD := Lib.hid hd
  have HL := Lib.hid hl
  have HQ := Lib.hid hq
  have HSZ : Hid (g.to.length ≤ 1000 ∧ g.st.length ≤ 1001) := Lib.hid ⟨hn.2.1, hn.1⟩
  have hn6 : n ≤ 1000000 := by have := HN.out.1; omega
  obtain ⟨al, cl, rfl⟩ := hl.shape0
  obtain ⟨m, hm⟩ : ∃ m, m = l.length := ⟨_, rfl⟩
  rw [← hm] at HL hll ⊢
  have HM := Lib.hid hm
  have HMM := Lib.hid hll
  have BX := Lib.hid (bal (Below.refl w.heap.size w) (.cells #[vs, va, vt] 24))
  have KX := Lib.hid (Bk.new w 24 #[vs, va, vt])
  clear hd hl hn hq hN hm hll
  go_enter Try.func18, Try.ntmps18
  go_upto_region 1 with fail
  generalize (w.alloc _) = w0 at BX KX ⊢
  have c0 := KX.out.cell 0
  have c1 := KX.out.cell 1
  have c2 := KX.out.cell 2
  have l0 := KX.out.lt
  go_upto_region 2 with (first
    | (go_at_call 34; refine Calls.mono (HND.out w0 BX.out) ?_; rintro e w1 ⟨rfl, b1⟩; have BY := Lib.hid (BX.out.trans (b1.mono BX.out.size)); have KY := Lib.hid (KX.out.below b1); clear c0 c1 c2 l0 b1)
    | (refine make_one rfl (.tmp 11) (.tmp 11) 32 4 (.bool false) 1 Try.underlying32 info_bool rfl (by decide) rfl n rfl rfl hn6 ?_; intro w3 Z HZ hz b3))
  obtain ⟨gI, hgI⟩ : ∃ x, x = w1.heap.size := ⟨_, rfl⟩
  obtain ⟨gV, hgV⟩ : ∃ x, x = w3.heap.size := ⟨_, rfl⟩
  have HCY := Lib.hid (cy_mk (vs := vs) (va := va) (vt := vt) KY.out BY.out HZ.out hz.out b3 hgI _ rfl l)
  rw [← hgV] at HCY
  rw [← hgI, ← hgV]
  obtain ⟨gC, hgC⟩ : ∃ x, x = w.heap.size := ⟨_, rfl⟩
  rw [← hgC] at HCY ⊢
  generalize World.alloc _ _ = w4 at HCY ⊢
  clear hgI hgV hgC b3 hz HZ KY BY BX KX HND
  have HCY2 := Lib.hid HCY.out
  clear HCY
  go_wp2_with fail
  go_loopg [7, 15] m (fun fuel s7 s15 wr => ∃ k : Nat, s15 = .int .i64 k ∧ k ≤ m ∧ m - k ≤ fuel ∧ CY w wr vs va vt gC gV gI n (tab n (mrk (l.take k))))
  case atStart => exact ⟨0, rfl, Nat.zero_le _, Nat.le_refl _, HCY2.out⟩
  case round =>
    clear HCY2
    obtain ⟨k, rfl, hk, hf, hcy⟩ := hrel
    have HC := Lib.hid hcy
    clear hcy
    by_cases hlt : k < m
    · have hkl : k < l.length := by rw [← HM.out]; exact hlt
      obtain ⟨b1, o1, eb, lb, xk⟩ := IntsD.at2 (IntsD.below HL.out HC.out.b) k hkl
      subst eb
      have i1 : (0 : Int) ≤ (k : Int) := by omega
      have i2 : (k : Int) < (m : Int) := by omega
      have i5 : IntKind.i64.wrap ((k : Int) + 1) = (k : Int) + 1 := IntWalk.i64_in _ (by have := HMM.out; omega)
      have HST := Lib.hid (mrk_step n l k hkl)
      have HSK := Lib.hid (mrk_skip n l k hkl)
      have d0 := HC.out.v.cell 0
      have lV := HC.out.v.lt
      generalize l[k] = x at xk HST HSK
      clear hkl
      by_cases hx0 : 0 ≤ x
      · by_cases hxn : x < (n : Int)
        · obtain ⟨i, rfl⟩ : ∃ i : Nat, x = (i : Int) := ⟨x.toNat, by omega⟩
          have hin : i < n := by omega
          have x1 := HC.out.m.at (tab_at n (mrk (l.take k)) i hin)
          have f1 := HC.out.m.fz i
          have l1 := (show Bk wr gI _ _ from HC.out.m).lt
          have HCN := Lib.hid (HC.out.set i)
          rw [HST.out i rfl] at HCN
          generalize mrk (l.take k) i = bb at x1
          go_wp2_with fail
          go_roundg (gk - 1)
          case measure => omega
          case rel => exact ⟨k + 1, by go_num, by omega, by omega, HCN.out⟩
        · have HCN := HC.out
          rw [HSK.out (fun h => hxn h.2)] at HCN
          have HCN := Lib.hid HCN
          go_wp2_with fail
          go_roundg (gk - 1)
          case measure => omega
          case rel => exact ⟨k + 1, by go_num, by omega, by omega, HCN.out⟩
      · have HCN := HC.out
        rw [HSK.out (fun h => hx0 h.1)] at HCN
        have HCN := Lib.hid HCN
        go_wp2_with fail
        go_roundg (gk - 1)
        case measure => omega
        case rel => exact ⟨k + 1, by go_num, by omega, by omega, HCN.out⟩
    · obtain rfl : k = m := by omega
      have HC2 : Hid (CY w wr vs va vt gC gV gI n (tab n (mrk l))) := Lib.hid (by have h := HC.out; rw [HM.out, List.take_length] at h; exact h)
      have d0 := HC2.out.v.cell 0
      have lV := HC2.out.v.lt
      clear hlt hf hk HC
      go_wp2_with fail
      obtain ⟨w5, rfl⟩ : ∃ x, x = wr := ⟨_, rfl⟩
      obtain ⟨g2, rfl⟩ : ∃ x, x = gk := ⟨_, rfl⟩
      clear d0 lV
      go_loopg [9, 34] n (fun fuel s9 s34 wr => ∃ i : Nat, s34 = .int .i64 i ∧ i ≤ n ∧ n - i ≤ fuel ∧ CY w wr vs va vt gC gV gI n (tab n (mrk l)) ∧ ∀ j, j < i → (decide ((j : Int) ∈ l) && (slcT g j).any fun x => decide (x ∈ l)) = false)
      case atStart => exact ⟨0, rfl, Nat.zero_le _, Nat.le_refl _, HC2.out, fun j hj => absurd hj (Nat.not_lt_zero _)⟩
      case round =>
        clear HC2
        obtain ⟨i, rfl, hi, hf, hcy, hno⟩ := hrel
        have HC := Lib.hid hcy
        have HNO := Lib.hid hno
        clear hcy hno
        by_cases hlt : i < n
        · have hrg : rightG g = true := by
            cases h : rightG g with
            | true => rfl
            | false => have := HN.out.2.2 h; omega
          have HRG := Lib.hid hrg
          have HG := Lib.hid (right_RG g hrg)
          have hnn := HN.out.2.1 hrg
          have i1 : (0 : Int) ≤ (i : Int) := by omega
          have i2 : (i : Int) < (n : Int) := by omega
          have i5 : IntKind.i64.wrap ((i : Int) + 1) = (i : Int) + 1 := IntWalk.i64_in _ (by have := HN.out; omega)
          have HIQ := Lib.hid (fun (j : Nat) => Calls.quiet_of_same (isIn_any (tab n (mrk l)) gI gV n (wr.drewN j) (HC.out.drewN j).m (tab_len _ _) (HC.out.drewN j).v i hlt _ (tab_at n (mrk l) i hlt)))
          obtain ⟨b, hb⟩ : ∃ b, mrk l i = b := ⟨_, rfl⟩
          rw [hb] at HIQ
          have HB := Lib.hid hb
          clear hb
          cases b with
          | false =>
            have HNX : Hid (∀ j, j < i + 1 → (decide ((j : Int) ∈ l) && (slcT g j).any fun x => decide (x ∈ l)) = false) := Lib.hid (fun j hj => by
              by_cases hji : j = i
              · subst hji; rw [show decide ((j : Int) ∈ l) = false from HB.out]; rfl
              · exact HNO.out j (by omega))
            clear hrg hnn
            go_wp2_with fail
            go_quiet ((go_at_call 35; with_reducible exact HIQ.out _))
            go_wp2_with fail
            go_roundg (gk - 1)
            case measure => omega
            case rel => exact ⟨i + 1, by go_num, by omega, by omega, HC.out.drewN _, HNX.out⟩
          | true =>
            have hs0 := HG.out.st i (by omega)
            have hs1 := HG.out.st (i + 1) (by omega)
            have hup := HG.out.up i (by omega)
            have hle := HG.out.le (i + 1) (by omega)
            have HSL : Hid (∀ x ∈ slcT g i, ∃ c : Nat, x = c ∧ c < n) := Lib.hid (fun x hx => by
              have hm : x ∈ g.to := List.mem_of_mem_take (List.mem_of_mem_drop hx)
              obtain ⟨j, hj, e⟩ := List.getElem_of_mem hm
              have := HG.out.okt j x (by rw [List.getElem?_eq_getElem hj, e])
              exact ⟨x.toNat, by omega, by omega⟩)
            have HCF := Lib.hid (fun (j : Nat) (v : Value) (hv : IntsD (wr.drewN j) v (slcT g i)) => Calls.quiet_of_same (contains_any (fun x => decide (x ∈ l)) gV (slcT g i) v (wr.drewN j) hv (by unfold slcT; rw [List.length_drop, List.length_take]; have := HSZ.out; omega) (fun x hx => by
              obtain ⟨c, rfl, hc⟩ := HSL.out x hx
              exact isIn_any (tab n (mrk l)) gI gV n (wr.drewN j) (HC.out.drewN j).m (tab_len _ _) (HC.out.drewN j).v c hc _ (tab_at n (mrk l) c hc)) _ rfl))
            obtain ⟨q2, hq2⟩ : ∃ q2, ((slcT g i).any fun x => decide (x ∈ l)) = q2 := ⟨_, rfl⟩
            rw [hq2] at HCF
            have HQ2 := Lib.hid hq2
            obtain ⟨a1, p1, hvs⟩ := HD.out.s.shape0
            obtain ⟨a2, p2, hvt, hcp, hj⟩ := HD.out.t
            clear hj
            have hdS := IntsD.below HD.out.s HC.out.b
            rw [hvs] at hdS
            obtain ⟨b1, o1, hb1, hj1, hj2⟩ := IntsD.at2 hdS 0 (by have := (List.getElem?_eq_some_iff.1 hs0).1; omega)
            clear hj1 hj2
            subst hb1
            have xs0 := (cellAt hdS hs0).1
            have xs1 := (cellAt hdS hs1).1
            have lS := (cellAt hdS hs0).2
            have hsl0 : (i : Int) < (g.st.length : Int) := by have := (List.getElem?_eq_some_iff.1 hs0).1; omega
            have hsl1 : (i : Int) + 1 < (g.st.length : Int) := by have := (List.getElem?_eq_some_iff.1 hs1).1; omega
            have c0 : wr.cell? ⟨gC, 0, none⟩ = some (.slice (some ⟨b1, o1, none⟩) g.st.length p1) := by rw [HC.out.c.cell 0, hvs]; rfl
            have c2 : wr.cell? ⟨gC, 2, none⟩ = some (.slice a2 g.to.length p2) := by rw [HC.out.c.cell 2, hvt]; rfl
            have lC := HC.out.c.lt
            have HTD := Lib.hid (fun (j : Nat) => to_D (s := sN g i) (t := sN g (i + 1)) (show IntsD (wr.drewN j) (.slice a2 g.to.length p2) g.to from by have h := IntsD.below HD.out.t (HC.out.drewN j).b; rw [hvt] at h; exact h) hup hle hcp.1)
            have HCF2 := Lib.hid (fun (j : Nat) => HCF.out j _ (HTD.out j))
            have hcp1 := hcp.1
            generalize g.st.length = n1 at c0 hsl0 hsl1
            obtain ⟨s, hs⟩ : ∃ s, s = sN g i := ⟨_, rfl⟩
            obtain ⟨t, ht⟩ : ∃ t, t = sN g (i + 1) := ⟨_, rfl⟩
            obtain ⟨m2, hm2⟩ : ∃ t, t = g.to.length := ⟨_, rfl⟩
            rw [← hs] at xs0 hup HCF2
            rw [← ht] at xs1 hup hle HCF2
            rw [← hm2] at c2 hle hcp1
            have k1 : (0 : Int) ≤ (i : Int) + 1 := by omega
            have k2 : (0 : Int) ≤ (s : Int) := by omega
            have k3 : (s : Int) ≤ (t : Int) := by omega
            have k4 : (t : Int) ≤ (p2 : Int) := by omega
            have k5 : t ≤ p2 := by omega
            have k6 : (0 : Int) ≤ (t : Int) := by omega
            clear hs ht hm2 hs0 hs1 hdS hvs hvt hcp HCF HTD HSL hrg hnn hq2
            cases q2 with
            | true =>
              have HRS : Hid (cycG g l = true) := Lib.hid (cycG_some HG.out HRG.out l i (by rw [← HN.out.2.1 HRG.out]; exact hlt) (by rw [show decide ((i : Int) ∈ l) = true from HB.out, HQ2.out]; rfl))
              go_wp2_with fail
              go_quiet ((first | (go_at_call 35; with_reducible exact HIQ.out _) | (go_at_call 36; exact HCF2.out _)))
              go_wp2_with fail
              all_goals
                go_ret
                exact ⟨ret_bool (HRS.out.symm.trans HQ.out), (HC.out.drewN _).b⟩
            | false =>
              have HNX : Hid (∀ j, j < i + 1 → (decide ((j : Int) ∈ l) && (slcT g j).any fun x => decide (x ∈ l)) = false) := Lib.hid (fun j hj => by
                by_cases hji : j = i
                · subst hji; rw [HQ2.out, Bool.and_false]
                · exact HNO.out j (by omega))
              go_wp2_with fail
              go_quiet ((first | (go_at_call 35; with_reducible exact HIQ.out _) | (go_at_call 36; exact HCF2.out _)))
              go_wp2_with fail
              all_goals
                go_roundg (gk - 1)
                case measure => omega
                case rel => exact ⟨i + 1, by go_num, by omega, by omega, HC.out.drewN _, HNX.out⟩
        · obtain rfl : i = n := by omega
          have HRS : Hid (cycG g l = false) := Lib.hid (cycG_none l fun hr j hj => HNO.out j (by rw [HN.out.2.1 hr]; exact hj))
          clear hlt hi hf
          go_wp2_with fail
          go_ret
          exact ⟨ret_bool (HRS.out.symm.trans HQ.out), HC.out.b⟩

end Go.Proofs.Ytkdpimifojjhaaa
