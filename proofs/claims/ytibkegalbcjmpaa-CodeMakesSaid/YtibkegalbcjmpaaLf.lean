/- Layer 6: the reference's Thread. -/
import Derived.Test.YtibkegalbcjmpaaLb
namespace Go.Proofs.Ytibkegalbcjmpaa
open Go.RowKit

def zO : Opn := ⟨0, 0, 0⟩
/-- The row of leaves after k rounds. -/
def lvL (rsv : Nd → Opn × Bool) (l : List Nd) (k : Nat) : List Opn := (l.take k).map (lfO rsv) ++ List.replicate (l.length - k) zO
theorem lvL_zero (rsv : Nd → Opn × Bool) (l : List Nd) : lvL rsv l 0 = List.replicate l.length zO := by simp [lvL]
theorem lvL_full (rsv : Nd → Opn × Bool) (l : List Nd) : lvL rsv l l.length = l.map (lfO rsv) := by simp [lvL]
theorem lvL_len (rsv : Nd → Opn × Bool) (l : List Nd) (k : Nat) (h : k ≤ l.length) : (lvL rsv l k).length = l.length := by simp [lvL]; omega
theorem lvL_set (rsv : Nd → Opn × Bool) (l : List Nd) (k : Nat) (h : k < l.length) : (lvL rsv l k).set k (lfO rsv l[k]) = lvL rsv l (k + 1) := by
  unfold lvL
  have hl : ((l.take k).map (lfO rsv)).length = k := by simp; omega
  rw [List.set_append_right _ _ (by omega), hl, Nat.sub_self, show l.length - k = (l.length - (k + 1)) + 1 by omega, List.replicate_succ, List.set_cons_zero, List.take_succ_eq_append_getElem h]
  simp only [List.map_append, List.map_cons, List.map_nil, List.append_assoc, List.cons_append, List.nil_append]
theorem lvL_skip (rsv : Nd → Opn × Bool) (l : List Nd) (k : Nat) (h : k < l.length) (h0 : lfO rsv l[k] = zO) : lvL rsv l k = lvL rsv l (k + 1) := by
  rw [← lvL_set rsv l k h, h0]
  unfold lvL
  have hl : ((l.take k).map (lfO rsv)).length = k := by simp; omega
  rw [List.set_append_right _ _ (by omega), hl, Nat.sub_self, show l.length - k = (l.length - (k + 1)) + 1 by omega, List.replicate_succ, List.set_cons_zero]

theorem rowP_set (xs : List Opn) : ∀ (k : Nat), k < xs.length → ∀ (a b c : Int), (((rowP xs).set (k * 3) (.int .i64 a)).set (k * 3 + 1) (.int .i64 b)).set (k * 3 + 2) (.int .i64 c) = rowP (xs.set k ⟨a, b, c⟩) := by
  induction xs with
  | nil => intro k hk; exact absurd hk (Nat.not_lt_zero _)
  | cons x r ih =>
    intro k hk a b c
    cases k with
    | zero => simp [rowP, Opn.cells]
    | succ k =>
      have := ih k (by simpa using hk) a b c
      rw [show (k + 1) * 3 = k * 3 + 1 + 1 + 1 by omega]
      simp only [rowP, List.flatMap_cons, Opn.cells, List.cons_append, List.nil_append, List.set_cons_succ] at this ⊢
      rw [this]
theorem rowP_len (l : List Opn) : (rowP l).length = l.length * 3 := by
  induction l with
  | nil => rfl
  | cons a r ih => simp only [rowP, List.flatMap_cons, List.length_append, List.length_cons, Opn.cells] at ih ⊢; simp only [List.length_nil]; omega
theorem rowP_zero (n : Nat) : rowP (List.replicate n zO) = List.replicate (n * 3) (.int .i64 0) := by
  induction n with
  | zero => rfl
  | succ n ih =>
    rw [List.replicate_succ, show (n + 1) * 3 = n * 3 + 1 + 1 + 1 by omega, List.replicate_succ, List.replicate_succ, List.replicate_succ, ← ih]
    rfl
theorem madeCells_three (z : Value) (m : Nat) : (madeCells #[z, z, z] m).toList = List.replicate m z := by
  apply List.ext_getElem?
  intro j
  by_cases hj : j < m
  · have h3 : j % 3 < 3 := Nat.mod_lt _ (by decide)
    have h : j % 3 = 0 ∨ j % 3 = 1 ∨ j % 3 = 2 := by omega
    rcases h with h | h | h <;> simp [madeCells, hj, h]
  · simp [madeCells, hj]

theorem make_ops {w : World} {ops : Array Oper} {rest : List Oper} {o : Oper} {a : Act} {Q : Exit → Act → World → Prop} (hgd : o.guard = none) (l c : Operand)
    (hop : o.op = Op.makeSlice 32 l c) (n : Nat) (hl : a.eval l = .int .i64 n) (hc : a.eval c = .int .i64 n) (hn : n ≤ 1000000)
    (hK : ∀ w', w'.ownsRow w.heap.size 53 3 (.slice (some ⟨w.heap.size, 0, none⟩) n n) n (rowP (List.replicate n zO)) → Below w.heap.size w w' → wpList Try.prog ops Q rest (a.put o.dst (.slice (some ⟨w.heap.size, 0, none⟩) n n)) w') :
    wpList Try.prog ops Q (o :: rest) a w := by
  obtain ⟨i0, hi, hz0, hz1, hz2⟩ := info_parts info_op
  refine wpList_make_full w hgd l c 32 hop w.heap.size 53 i0 (.agg #[.int .i64 0, .int .i64 0, .int .i64 0]) 3 Try.underlying32 hi hz0 hz1 .i64 .i64 n n n hl hc rfl rfl (by rw [hz2]; omega) (by unfold maxLen; omega) (Nat.le_refl _) ?_
  intro w' h1 h2
  refine hK w' ?_ ((Below.refl _ _).grown h2 (Nat.le_refl _) (fun k h => by cases h))
  rw [show (Value.agg #[.int .i64 0, .int .i64 0, .int .i64 0]).cells = #[Value.int .i64 0, Value.int .i64 0, Value.int .i64 0] from rfl, madeCells_three, ← rowP_zero] at h1
  exact h1

/-- Whether a leaf is known. -/
def lfok (rsv : Nd → Opn × Bool) (x : Nd) : Bool := if x.op ≤ 4 then (stpL rsv x).2 else true
theorem okE_all (rsv : Nd → Opn × Bool) (e : Ex) (h : e.wf) : okE rsv e = e.flat.all (lfok rsv) := by
  induction e with
  | leaf x =>
    have := ar_op0 (show ar x.op = 0 from h)
    simp [okE, Ex.flat, lfok, this.2]
  | un x a ih =>
    have h5 := ar_op1 h.1
    have h1 : lfok rsv x = true := if_neg (by omega)
    have h2 : (stpL rsv x).2 = true := by unfold stpL; rw [if_neg (by omega)]
    simp only [okE, Ex.flat, List.all_cons, h1, h2, ih h.2, Bool.true_and, Bool.and_true]
  | bin x a b iha ihb =>
    have h5 := ar_op2 h.1
    have h1 : lfok rsv x = true := if_neg (by omega)
    have h2 : (stpL rsv x).2 = true := by unfold stpL; rw [if_neg (by omega)]
    simp only [okE, Ex.flat, List.all_cons, List.all_append, h1, h2, iha h.2.1, ihb h.2.2, Bool.true_and, Bool.and_true]
theorem flat_ops (e : Ex) (h : e.wf) : ∀ x ∈ e.flat, 1 ≤ x.op ∧ x.op ≤ 14 := by
  induction e with
  | leaf x =>
    have := ar_op0 (show ar x.op = 0 from h)
    intro y hy
    obtain rfl := List.mem_singleton.1 hy
    omega
  | un x a ih =>
    have h5 := ar_op1 h.1
    intro y hy
    rcases List.mem_cons.1 hy with rfl | hy
    · omega
    · exact ih h.2 y hy
  | bin x a b iha ihb =>
    have h5 := ar_op2 h.1
    intro y hy
    rcases List.mem_cons.1 hy with rfl | hy
    · omega
    · rcases List.mem_append.1 hy with hy | hy
      · exact iha h.2.1 y hy
      · exact ihb h.2.2 y hy

theorem all_end1 {α : Type} (p : α → Bool) (l : List α) (k : Nat) (h : ¬ k < l.length) : (l.drop k).all p = true := by
  rw [List.drop_eq_nil_of_le (by omega)]; rfl
theorem all_drop1 {α : Type} (p : α → Bool) (l : List α) (k : Nat) (h : k < l.length) : (l.drop k).all p = (p l[k] && (l.drop (k + 1)).all p) := by
  rw [List.drop_eq_getElem_cons h, List.all_cons]

/-- What the reference gives: steps that lie somewhere, and whether there are any. -/
def RefAns (cs : List Opn) (ok : Bool) (w : World) (e : Ending) (w' : World) : Prop := ∃ sv, e = .returned (.tuple #[sv, .bool ok]) ∧ OpsD w' sv cs ∧ Below w.heap.size w w'

theorem ops_own_of {w : World} {B : Nat} {v : Value} {n : Nat} {l : List Opn} (hn : n = l.length) (h : w.ownsRow B 53 3 v n (rowP l)) : OpsD w v l := by subst hn; exact opsD_of_own h

theorem row_store {w : World} {B g n cap : Nat} {xs ys : List Opn} {k : Nat} {o : Opn} {a b c : Int} (h : w.ownsRow B 53 3 (.slice (some ⟨g, 0, none⟩) n cap) n (rowP xs)) (hs : xs.set k o = ys) (ho : o = ⟨a, b, c⟩) (hk : k < xs.length) :
    (((w.setCell ⟨g, k * 3, none⟩ (.int .i64 a)).setCell ⟨g, k * 3 + 1, none⟩ (.int .i64 b)).setCell ⟨g, k * 3 + 2, none⟩ (.int .i64 c)).ownsRow B 53 3 (.slice (some ⟨g, 0, none⟩) n cap) n (rowP ys) := by
  have h1 := (h.stored (k * 3) (.int .i64 a)).1
  have h2 := (h1.stored (k * 3 + 1) (.int .i64 b)).1
  have h3 := (h2.stored (k * 3 + 2) (.int .i64 c)).1
  rw [rowP_set xs k hk a b c, ← ho, hs] at h3
  exact h3

set_option maxRecDepth 100000 in
set_option maxHeartbeats 8000000 in
theorem rthread_right (e : Ex) (v : Value) (regs : List ByteArray) (rv : Value) (w : World) (hwf : e.wf) (hr1 : rightP e.flat) (hv : NdsC w v e.flat) (hz : NmOK e.flat) (hr : StrsD w rv regs) (hrn : regs.length ≤ 100000) :
    Calls Try.prog 12 #[v, rv] w (RefAns (if okE (rsvT regs) e then codeE (rsvT regs) e else []) (okE (rsvT regs) e) w) := by
  obtain ⟨e', he1, he2, h200, hokn, _⟩ := id hr1
  have HRT := Lib.hid (rright_any e.flat v w hv.nds (by omega) hz true (right_yes _ hr1))
  have HM := Lib.hid (fun (W : World) (lv : Value) (h1 : NdsC W v e.flat) (h2 : OpsD W lv (e.flat.map (lfO (rsvT regs)))) => made_any (rsvT regs) e.flat v lv h200 hokn e.size e 0 [] W (Nat.le_refl _) hwf (by simp) h1 h2)
  have HOPS := Lib.hid (flat_ops e hwf)
  rw [okE_all _ _ hwf]
  generalize e.flat = l at *
  generalize hcc : codeE (rsvT regs) e = cc at *
  obtain ⟨okb, hokb⟩ : ∃ b, (l.drop 0).all (lfok (rsvT regs)) = b := ⟨_, rfl⟩
  have hokb' : l.all (lfok (rsvT regs)) = okb := hokb
  rw [hokb']
  have HK0 := Lib.hid hokb
  obtain ⟨res, hres⟩ : ∃ r, (if okb = true then cc else []) = r := ⟨_, rfl⟩
  rw [hres]
  have HRES := Lib.hid hres
  clear hres
  have HV := Lib.hid hv
  have HI := Lib.hid (fun (W : World) (h : Below w.heap.size w W) (s : ByteArray) (z : Int) (hz : ixL regs s 0 = z) => rindex_any regs rv s W (StrsD.below hr h) hrn z hz)
  obtain ⟨ad, cap, rfl, hcap1, hcap2, hc⟩ := id hv
  obtain ⟨ad2, cap2, rfl⟩ := hr.shape
  have HC := Lib.hid hc
  obtain ⟨n, hN⟩ : ∃ n, n = l.length := ⟨_, rfl⟩
  obtain ⟨n2, hN2⟩ : ∃ n, n = regs.length := ⟨_, rfl⟩
  rw [← hN] at HRT HM h200 HV ⊢
  rw [← hN2] at HI ⊢
  have HN := Lib.hid hN
  clear hv hr hz hr1 hokn hc hN hN2 hokb hokb' hcc he1 he2 hwf hcap1 hcap2 hrn
  go_enter Try.func12, Try.ntmps12
  go_wp2_with fail
  refine HRT.out.mono ?_
  rintro e1 w1 ⟨rfl, b1⟩
  have B1 := Lib.hid b1
  clear b1
  go_wp2_with (refine make_ops rfl (.tmp 12) (.tmp 12) rfl n rfl rfl (by omega) ?_)
  intro w2 ho hb
  have HO2 := Lib.hid ho
  have HB2 := Lib.hid (B1.out.trans (hb.mono B1.out.size))
  have HG := Lib.hid (show w1.heap.size ≤ w2.heap.size from hb.size)
  clear ho hb
  go_wp2_with fail
  obtain ⟨g, hg⟩ : ∃ g, g = w1.heap.size := ⟨_, rfl⟩
  rw [← hg] at HO2 ⊢
  have HWG : Hid (w.heap.size ≤ g) := Lib.hid (by rw [hg]; exact B1.out.size)
  clear hg
  go_loopg [7] n (fun fuel i' wr => ∃ k : Nat, i' = .int .i64 k ∧ k ≤ n ∧ n - k ≤ fuel ∧ wr.ownsRow w.heap.size 53 3 (.slice (some ⟨g, 0, none⟩) n n) n (rowP (lvL (rsvT regs) l k)) ∧ Below w.heap.size w wr ∧ (l.drop k).all (lfok (rsvT regs)) = okb)
  case atStart => exact ⟨0, rfl, Nat.zero_le _, Nat.le_refl _, by rw [lvL_zero, ← HN.out]; exact own_mono HO2.out HWG.out, HB2.out, HK0.out⟩
  case round =>
    obtain ⟨k, rfl, hk, hf, ho, hb, hok⟩ := hrel
    have HO := Lib.hid ho
    have HB := Lib.hid hb
    have HOK := Lib.hid hok
    have hgw : g < wr.heap.size := (ho.lt _ rfl).2
    have hww := hb.size
    clear hb hok
    by_cases hlt : k < n
    · have hk' : k < l.length := by have := HN.out; omega
      obtain ⟨b, off, rfl, hbl, x0, x1, x2, x3, x4⟩ := HC.out k hk'
      have hop := HOPS.out _ (List.getElem_mem hk')
      have HD := Lib.hid (all_drop1 (lfok (rsvT regs)) l k hk')
      have HS := Lib.hid (lvL_set (rsvT regs) l k hk')
      have HSK := Lib.hid (lvL_skip (rsvT regs) l k hk')
      have hf0 : wr.frozen? ⟨g, k * 3, none⟩ = false := ho.frozenAt _
      have hf1 : wr.frozen? ⟨g, k * 3 + 1, none⟩ = false := ho.frozenAt _
      have hf2 : wr.frozen? ⟨g, k * 3 + 2, none⟩ = false := ho.frozenAt _
      have hlen := lvL_len (rsvT regs) l k (by omega)
      have hu : ∀ j, j < n * 3 → ∃ u, wr.cell? ⟨g, j, none⟩ = some u := fun j hj => by
        rw [ho.cellAt j (by omega)]
        exact ⟨_, List.getElem?_eq_getElem (by rw [rowP_len, hlen, ← HN.out]; omega)⟩
      obtain ⟨u0, d0⟩ := hu (k * 3) (by omega)
      obtain ⟨u1, d1⟩ := hu (k * 3 + 1) (by omega)
      obtain ⟨u2, d2⟩ := hu (k * 3 + 2) (by omega)
      obtain ⟨⟨xo, xn, xm, xi, xp⟩, hx⟩ : ∃ x, x = l[k] := ⟨_, rfl⟩
      rw [← hx] at x0 x1 x2 x3 x4 hop HD HS HSK
      simp only [] at x0 x1 x2 x3 x4 hop
      have c0 : wr.cell? ⟨b, off + k * 5, none⟩ = some (.int .i64 xo) := (HB.out.cell (p := ⟨b, _, none⟩) hbl).trans x0
      have c1 : wr.cell? ⟨b, off + k * 5 + 1, none⟩ = some (.int .i64 xn) := (HB.out.cell (p := ⟨b, _, none⟩) hbl).trans x1
      have c2 : wr.cell? ⟨b, off + k * 5 + 2, none⟩ = some (.string xm) := (HB.out.cell (p := ⟨b, _, none⟩) hbl).trans x2
      have c3 : wr.cell? ⟨b, off + k * 5 + 3, none⟩ = some (.string xi) := (HB.out.cell (p := ⟨b, _, none⟩) hbl).trans x3
      have c4 : wr.cell? ⟨b, off + k * 5 + 4, none⟩ = some (.int .i64 xp) := (HB.out.cell (p := ⟨b, _, none⟩) hbl).trans x4
      have HKN := Lib.hid hlen
      clear x0 x1 x2 x3 x4 ho hx hu hlen
      rcases (by omega : xo = 1 ∨ xo = 2 ∨ xo = 3 ∨ xo = 4 ∨ 5 ≤ xo) with rfl | rfl | rfl | rfl | h5
      · have hlf : lfO (rsvT regs) ⟨1, xn, xm, xi, xp⟩ = ⟨1, xn, 0⟩ := rfl
        have HST := Lib.hid (row_store HO.out HS.out hlf (by rw [HKN.out]; exact hk'))
        have hko := HOK.out
        rw [HD.out, show lfok (rsvT regs) ⟨1, xn, xm, xi, xp⟩ = true from rfl, Bool.true_and] at hko
        have HK2 := Lib.hid hko
        clear hko hlf
        go_wp2
        go_roundg (gk - 1)
        case measure => omega
        case rel => exact ⟨k + 1, by go_num, by omega, by omega, HST.out, ((HB.out.setCell HWG.out _).setCell HWG.out _).setCell HWG.out _, HK2.out⟩
      · obtain ⟨z, hz⟩ : ∃ z, ixL regs xm 0 = z := ⟨_, rfl⟩
        have hlf : lfO (rsvT regs) ⟨2, xn, xm, xi, xp⟩ = ⟨2, z, 0⟩ := by rw [← hz]; rfl
        have HST := Lib.hid (row_store HO.out HS.out hlf (by rw [HKN.out]; exact hk'))
        have HIX := Lib.hid (HI.out wr HB.out xm z hz)
        have hko := HOK.out
        rw [HD.out, show lfok (rsvT regs) ⟨2, xn, xm, xi, xp⟩ = decide (0 ≤ z) by rw [← hz]; rfl] at hko
        clear hlf hz
        by_cases hz0 : z < 0
        · rw [decide_eq_false (by omega), Bool.false_and] at hko
          have HKO := Lib.hid hko
          clear hko
          go_wp2_with fail
          refine HIX.out.mono ?_
          rintro e5 w5 ⟨rfl, rfl⟩
          go_wp2
          go_ret2
          have h1 := HKO.out
          subst h1
          have h2 := HRES.out
          rw [if_neg (by decide)] at h2
          subst h2
          exact ⟨_, rfl, SlD.nil, ((HB.out.setCell HWG.out _).setCell HWG.out _).setCell HWG.out _⟩
        · rw [decide_eq_true (by omega), Bool.true_and] at hko
          have HK2 := Lib.hid hko
          clear hko
          go_wp2_with fail
          refine HIX.out.mono ?_
          rintro e5 w5 ⟨rfl, rfl⟩
          go_wp2
          go_roundg (gk - 1)
          case measure => omega
          case rel => exact ⟨k + 1, by go_num, by omega, by omega, HST.out, ((HB.out.setCell HWG.out _).setCell HWG.out _).setCell HWG.out _, HK2.out⟩
      · have hko := HOK.out
        rw [HD.out, show lfok (rsvT regs) ⟨3, xn, xm, xi, xp⟩ = false from rfl, Bool.false_and] at hko
        have HKO := Lib.hid hko
        clear hko
        go_wp2
        go_ret2
        have h1 := HKO.out
        subst h1
        have h2 := HRES.out
        rw [if_neg (by decide)] at h2
        subst h2
        exact ⟨_, rfl, SlD.nil, HB.out⟩
      · have hko := HOK.out
        rw [HD.out, show lfok (rsvT regs) ⟨4, xn, xm, xi, xp⟩ = false from rfl, Bool.false_and] at hko
        have HKO := Lib.hid hko
        clear hko
        go_wp2
        go_ret2
        have h1 := HKO.out
        subst h1
        have h2 := HRES.out
        rw [if_neg (by decide)] at h2
        subst h2
        exact ⟨_, rfl, SlD.nil, HB.out⟩
      · have q1 : (xo == 1) = false := by simpa using (show ¬ xo = 1 by omega)
        have q2 : (xo == 2) = false := by simpa using (show ¬ xo = 2 by omega)
        have q3 : (xo == 3) = false := by simpa using (show ¬ xo = 3 by omega)
        have q4 : (xo == 4) = false := by simpa using (show ¬ xo = 4 by omega)
        have hlk := HSK.out (if_neg (show ¬ xo ≤ 4 by omega))
        have hko := HOK.out
        rw [HD.out, show lfok (rsvT regs) ⟨xo, xn, xm, xi, xp⟩ = true from if_neg (show ¬ xo ≤ 4 by omega), Bool.true_and] at hko
        have HK2 := Lib.hid hko
        have HLK := Lib.hid hlk
        clear hko hlk
        go_wp2
        go_roundg (gk - 1)
        case measure => omega
        case rel => exact ⟨k + 1, by go_num, by omega, by omega, by rw [← HLK.out]; exact HO.out, HB.out, HK2.out⟩
    · have hkn : k = l.length := by have := HN.out; omega
      have hko := HOK.out
      rw [all_end1 _ _ _ (by omega)] at hko
      subst hko
      have hr := HRES.out
      rw [if_pos rfl] at hr
      have ho2 := HO.out
      rw [hkn, lvL_full] at ho2
      have HMM := Lib.hid (HM.out wr _ (HV.out.below HB.out) (ops_own_of (by rw [List.length_map]; exact HN.out) ho2))
      clear hkn ho2 ho
      subst hr
      go_wp2_with fail
      refine HMM.out.mono ?_
      rintro e5 w5 ⟨b5, off5, cap5, rfl, o5, bb5⟩
      have O5 := Lib.hid o5
      have B5 := Lib.hid (HB.out.trans (bb5.mono HB.out.size))
      clear o5 bb5
      go_wp2
      go_ret2
      exact ⟨_, rfl, O5.out, B5.out⟩

theorem row_cells {w : World} {B g n cap : Nat} {xs : List Opn} {k : Nat} (h : w.ownsRow B 53 3 (.slice (some ⟨g, 0, none⟩) n cap) n (rowP xs)) (hl : xs.length = n) (hk : k < n) :
    (∃ u, w.cell? ⟨g, k * 3, none⟩ = some u) ∧ (∃ u, w.cell? ⟨g, k * 3 + 1, none⟩ = some u) ∧ (∃ u, w.cell? ⟨g, k * 3 + 2, none⟩ = some u) ∧ w.frozen? ⟨g, k * 3, none⟩ = false ∧ w.frozen? ⟨g, k * 3 + 1, none⟩ = false ∧ w.frozen? ⟨g, k * 3 + 2, none⟩ = false ∧ g < w.heap.size := by
  have hu : ∀ j, j < n * 3 → ∃ u, w.cell? ⟨g, j, none⟩ = some u := fun j hj => by
    rw [h.cellAt j (by omega)]
    exact ⟨_, List.getElem?_eq_getElem (by rw [rowP_len, hl]; omega)⟩
  exact ⟨hu _ (by omega), hu _ (by omega), hu _ (by omega), h.frozenAt _, h.frozenAt _, h.frozenAt _, (h.lt _ rfl).2⟩

set_option maxRecDepth 100000 in
set_option maxHeartbeats 2000000 in
theorem rthread_any (l : List Nd) (v : Value) (regs : List ByteArray) (rv : Value) (w : World) (hv : NdsC w v l) (hn : l.length ≤ 100000) (hz : NmOK l) (hr : StrsD w rv regs) (hrn : regs.length ≤ 100000) (cs : List Opn) (ok : Bool) (hc : CodIs (rsvT regs) l cs ok) :
    Calls Try.prog 12 #[v, rv] w (RefAns cs ok w) := by
  rcases hc with ⟨e, hwf, hfl, hri, hok, hcs⟩ | ⟨hnr, rfl, rfl⟩
  · subst hfl
    subst hok
    subst hcs
    exact rthread_right e v regs rv w hwf hri hv hz hr hrn
  · have HRT := Lib.hid (rright_any l v w hv.nds hn hz false (right_no l hnr))
    obtain ⟨ad, cap, rfl, _⟩ := id hv
    obtain ⟨ad2, cap2, rfl⟩ := hr.shape
    generalize l.length = n at HRT ⊢
    generalize regs.length = n2
    clear hv hnr hn hz hr hrn
    go_enter Try.func12, Try.ntmps12
    go_wp2_with fail
    refine HRT.out.mono ?_
    rintro e' w1 ⟨rfl, b1⟩
    go_wp2
    go_ret2
    exact ⟨_, rfl, SlD.nil, b1⟩

end Go.Proofs.Ytibkegalbcjmpaa
