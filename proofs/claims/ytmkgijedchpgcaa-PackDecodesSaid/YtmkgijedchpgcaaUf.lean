/- Layer 7: Right of a unit: its parts. -/
import Derived.Test.YtmkgijedchpgcaaUe
namespace Go.Proofs.Ytmkgijedchpgcaa
set_option linter.unusedSimpArgs false
set_option linter.unusedVariables false
open Go.RowKit

theorem lbelow_is (i n : Int) (b : Bool) (h : inB i n = b) (w : World) : Calls Try.prog 46 #[.int .i64 i, .int .i64 n] w fun e w' => e = .returned (.bool b) ∧ w = w' := by
  subst h
  go_enter Try.func46, Try.ntmps46
  go_wp2
  all_goals
    go_ret
    exact ⟨ret_bool (by simp_all [inB] <;> omega), rfl⟩

theorem ridx_is (i n : Int) (h b : Bool) (hb : idxB i h n = b) (w : World) : Calls Try.prog 63 #[.int .i64 i, .bool h, .int .i64 n] w fun e w' => e = .returned (.bool b) ∧ w = w' := by
  subst hb
  cases h with
  | false =>
    go_enter Try.func63, Try.ntmps63
    go_wp2
    go_ret
    exact ⟨ret_bool (by show (i == 0) = decide (i = 0); rfl), rfl⟩
  | true =>
    go_enter Try.func63, Try.ntmps63
    go_wp2_with (go_at_call 46; refine (lbelow_is _ _ _ rfl _).mono ?_; rintro e w2 ⟨rfl, rfl⟩)
    go_ret
    exact ⟨rfl, rfl⟩

theorem rcod_is (l : List Opn) (v : Value) (own : Int) (h b : Bool) (hb : codB l h own = b) (w : World) (hv : OpsD w v l) (hn : l.length ≤ 100000) : Calls Try.prog 64 #[v, .bool h, .int .i64 own] w fun e w' => e = .returned (.bool b) ∧ Below w.heap.size w w' := by
  have HV := Lib.hid hv
  obtain ⟨ad, cap, rfl⟩ := hv.shape0
  cases h with
  | false =>
    have HB : Hid (decide (l.length = 0) = b) := Lib.hid hb
    generalize l.length = n at HB HV
    clear hb hv hn
    go_enter Try.func64, Try.ntmps64
    go_wp2
    go_ret
    exact ⟨ret_bool (by rw [← HB.out, Bool.eq_iff_iff]; simp), Below.refl _ _⟩
  | true =>
    have H := Lib.hid (right_code l [] _ (.slice none 0 0) own 0 w hv SlD.nil hn b hb)
    generalize l.length = n at H HV
    clear hb hv hn
    go_enter Try.func64, Try.ntmps64
    go_wp2_with fail
    refine H.out.mono ?_
    rintro e w2 ⟨rfl, b2⟩
    go_wp2
    go_ret
    exact ⟨rfl, b2⟩

/-- The parts of a kind, as they are told. -/
def prtV (op : Int) : Value := if isK op then .agg #[.bool (hasR op), .bool (hasL op), .bool (hasE op), .bool (hasF op), .bool (hasN op), .bool (hasT op)] else .agg #[.bool false, .bool false, .bool false, .bool false, .bool false, .bool false]
set_option maxRecDepth 100000 in
set_option maxHeartbeats 2000000 in
theorem parts_any (op : Int) (w : World) : Calls Try.prog 62 #[.int .i64 op] w fun e w' => e = .returned (.tuple #[prtV op, .bool (isK op)]) ∧ Below w.heap.size w w' := by
  go_enter Try.func62, Try.ntmps62
  go_wp2
  all_goals
    refine bodyPost_ret (by simp [results, Try.results62, go_sem]; rfl) rfl ⟨?_, (Below.refl _ _).alloc (Nat.le_refl _) _⟩
    refine congrArg Ending.returned (congrArg Value.tuple ?_)
    first | (have ho := eq_of_beq (by assumption : (op == _) = true); subst ho; rfl) | skip
  all_goals
    have hn : ¬ op = 2 ∧ ¬ op = 3 ∧ ¬ op = 4 ∧ ¬ op = 5 ∧ ¬ op = 6 ∧ ¬ op = 7 ∧ ¬ op = 8 ∧ ¬ op = 9 ∧ ¬ op = 20 ∧ ¬ op = 21 ∧ ¬ op = 22 := by simp_all
    have h1 : isK op = false := by unfold isK; exact decide_eq_false (by omega)
    unfold prtV
    rw [h1]
    rfl


set_option maxRecDepth 100000 in
set_option maxHeartbeats 4000000 in
theorem rinstr_any (t : II) (own locs n : Int) (w : World) (he : OpsD w t.ev t.x.e) (hf : OpsD w t.fv t.x.f) (hn : t.x.e.length ≤ 100000 ∧ t.x.f.length ≤ 100000) (b : Bool) (hb : insB t.x own locs n = b) :
    Calls Try.prog 58 #[.agg t.cells.toArray, .int .i64 own, .int .i64 locs, .int .i64 n] w fun e w' => e = .returned (.bool b) ∧ Below w.heap.size w w' := by
  obtain ⟨⟨op, reg, loc, le, lf, ne, to⟩, ev, fv⟩ := t
  simp only [] at he hf hn hb
  have HE := Lib.hid he
  have HF := Lib.hid hf
  obtain ⟨ae, ce, rfl⟩ := he.shape0
  obtain ⟨af, cf, rfl⟩ := hf.shape0
  show Calls Try.prog 58 #[.agg #[.int .i64 op, .int .i64 reg, .int .i64 loc, .slice ae le.length ce, .slice af lf.length cf, .bool ne, .int .i64 to], .int .i64 own, .int .i64 locs, .int .i64 n] w _
  have HN := Lib.hid hn
  have HB := Lib.hid hb
  have HLE := Lib.hid (fun (own : Int) (h : Bool) (W : World) (hb : Below w.heap.size w W) => rcod_is le _ own h _ rfl W (OpsD.below he hb) hn.1)
  have HLF := Lib.hid (fun (own : Int) (h : Bool) (W : World) (hb : Below w.heap.size w W) => rcod_is lf _ own h _ rfl W (OpsD.below hf hb) hn.2)
  generalize le.length = ne1 at HE HN HLE ⊢
  generalize lf.length = nf1 at HF HN HLF ⊢
  have K1 := Lib.hid (Bk.new w 53 #[.int .i64 op, .int .i64 reg, .int .i64 loc, .slice ae ne1 ce, .slice af nf1 cf, .bool ne, .int .i64 to])
  have L1 : Hid (Below w.heap.size w (w.alloc (.cells #[.int .i64 op, .int .i64 reg, .int .i64 loc, .slice ae ne1 ce, .slice af nf1 cf, .bool ne, .int .i64 to] 53))) := (Below.refl _ _).alloc (Nat.le_refl _) _
  clear he hf hn hb
  go_enter Try.func58, Try.ntmps58
  go_wp2_with fail
  generalize w.alloc _ = w1 at K1 L1 ⊢
  refine (parts_any op w1).mono ?_
  rintro e w2 ⟨rfl, b2⟩
  have K2 := Lib.hid (K1.out.below b2)
  have L2 := Lib.hid (L1.out.trans (b2.mono L1.out.size))
  clear b2 K1 L1
  cases hk : isK op with
  | false =>
    rw [show prtV op = .agg #[.bool false, .bool false, .bool false, .bool false, .bool false, .bool false] by unfold prtV; rw [hk]; rfl]
    have HK := Lib.hid hk
    clear hk
    go_wp2_with fail
    go_ret
    refine ⟨ret_bool ?_, L2.out.alloc L2.out.size _⟩
    rw [← HB.out]; unfold insB; rw [HK.out]; rfl
  | true =>
    have hbb : (idxB reg (hasR op) own && (idxB loc (hasL op) locs && (idxB to (hasT op) n && (codB le (hasE op) own && (codB lf (hasF op) own && (hasN op || !ne)))))) = b := by
      have := HB.out
      unfold insB at this
      rw [hk, Bool.true_and] at this
      exact this
    rw [show prtV op = .agg #[.bool (hasR op), .bool (hasL op), .bool (hasE op), .bool (hasF op), .bool (hasN op), .bool (hasT op)] by unfold prtV; rw [hk]; rfl]
    clear hk HB
    have H1 := Lib.hid (fun W => ridx_is reg own (hasR op) _ rfl W)
    have H2 := Lib.hid (fun W => ridx_is loc locs (hasL op) _ rfl W)
    have H3 := Lib.hid (fun W => ridx_is to n (hasT op) _ rfl W)
    have H4 := Lib.hid (HLE.out own (hasE op))
    have H5 := Lib.hid (HLF.out own (hasF op))
    clear HLE HLF HE HF HN
    generalize idxB reg (hasR op) own = b1 at H1 hbb
    generalize idxB loc (hasL op) locs = b2 at H2 hbb
    generalize idxB to (hasT op) n = b3 at H3 hbb
    generalize codB le (hasE op) own = b4 at H4 hbb
    generalize codB lf (hasF op) own = b5 at H5 hbb
    generalize hasR op = h1 at H1 ⊢
    generalize hasL op = h2 at H2 ⊢
    generalize hasE op = h3 at H4 ⊢
    generalize hasF op = h4 at H5 ⊢
    generalize hasN op = h5 at hbb ⊢
    generalize hasT op = h6 at H3 ⊢
    have HBB := Lib.hid hbb
    clear hbb
    have KN := Lib.hid (Bk.new w2 95 #[.bool h1, .bool h2, .bool h3, .bool h4, .bool h5, .bool h6])
    have LN : Hid (Below w2.heap.size w2 (w2.alloc (.cells #[.bool h1, .bool h2, .bool h3, .bool h4, .bool h5, .bool h6] 95))) := (Below.refl _ _).alloc (Nat.le_refl _) _
    have K3 := Lib.hid (K2.out.below LN.out)
    have L3 := Lib.hid (L2.out.trans (LN.out.mono L2.out.size))
    clear K2 LN L2
    cases b1 with
    | false =>
      have c0 : (w2.alloc (.cells #[.bool h1, .bool h2, .bool h3, .bool h4, .bool h5, .bool h6] 95)).cell? ⟨w.heap.size, 0, none⟩ = some (.int .i64 op) := K3.out.cell 0; have c1 : (w2.alloc (.cells #[.bool h1, .bool h2, .bool h3, .bool h4, .bool h5, .bool h6] 95)).cell? ⟨w.heap.size, 1, none⟩ = some (.int .i64 reg) := K3.out.cell 1; have c2 : (w2.alloc (.cells #[.bool h1, .bool h2, .bool h3, .bool h4, .bool h5, .bool h6] 95)).cell? ⟨w.heap.size, 2, none⟩ = some (.int .i64 loc) := K3.out.cell 2; have c3 : (w2.alloc (.cells #[.bool h1, .bool h2, .bool h3, .bool h4, .bool h5, .bool h6] 95)).cell? ⟨w.heap.size, 3, none⟩ = some (.slice ae ne1 ce) := K3.out.cell 3; have c4 : (w2.alloc (.cells #[.bool h1, .bool h2, .bool h3, .bool h4, .bool h5, .bool h6] 95)).cell? ⟨w.heap.size, 4, none⟩ = some (.slice af nf1 cf) := K3.out.cell 4; have c5 : (w2.alloc (.cells #[.bool h1, .bool h2, .bool h3, .bool h4, .bool h5, .bool h6] 95)).cell? ⟨w.heap.size, 5, none⟩ = some (.bool ne) := K3.out.cell 5; have c6 : (w2.alloc (.cells #[.bool h1, .bool h2, .bool h3, .bool h4, .bool h5, .bool h6] 95)).cell? ⟨w.heap.size, 6, none⟩ = some (.int .i64 to) := K3.out.cell 6; have d0 : (w2.alloc (.cells #[.bool h1, .bool h2, .bool h3, .bool h4, .bool h5, .bool h6] 95)).cell? ⟨w2.heap.size, 0, none⟩ = some (.bool h1) := KN.out.cell 0; have d1 : (w2.alloc (.cells #[.bool h1, .bool h2, .bool h3, .bool h4, .bool h5, .bool h6] 95)).cell? ⟨w2.heap.size, 1, none⟩ = some (.bool h2) := KN.out.cell 1; have d2 : (w2.alloc (.cells #[.bool h1, .bool h2, .bool h3, .bool h4, .bool h5, .bool h6] 95)).cell? ⟨w2.heap.size, 2, none⟩ = some (.bool h3) := KN.out.cell 2; have d3 : (w2.alloc (.cells #[.bool h1, .bool h2, .bool h3, .bool h4, .bool h5, .bool h6] 95)).cell? ⟨w2.heap.size, 3, none⟩ = some (.bool h4) := KN.out.cell 3; have d4 : (w2.alloc (.cells #[.bool h1, .bool h2, .bool h3, .bool h4, .bool h5, .bool h6] 95)).cell? ⟨w2.heap.size, 4, none⟩ = some (.bool h5) := KN.out.cell 4; have d5 : (w2.alloc (.cells #[.bool h1, .bool h2, .bool h3, .bool h4, .bool h5, .bool h6] 95)).cell? ⟨w2.heap.size, 5, none⟩ = some (.bool h6) := KN.out.cell 5; have hl1 := K3.out.lt; have hl2 := KN.out.lt
      go_wp2_with (first
        | (go_at_call 63; (first | (with_reducible refine (H1.out _).mono ?_) | (with_reducible refine (H2.out _).mono ?_) | (with_reducible refine (H3.out _).mono ?_)); rintro e wn ⟨rfl, rfl⟩)
        | (go_at_call 64; (first | (with_reducible refine (H4.out _ L3.out).mono ?_) | (with_reducible refine (H5.out _ L3.out).mono ?_)); rintro e wn ⟨rfl, bn⟩; replace K3 := Lib.hid (K3.out.below bn); replace KN := Lib.hid (KN.out.below bn); replace L3 := Lib.hid (L3.out.trans (bn.mono L3.out.size)); clear c0 c1 c2 c3 c4 c5 c6 d0 d1 d2 d3 d4 d5 hl1 hl2 bn; have c0 : wn.cell? ⟨w.heap.size, 0, none⟩ = some (.int .i64 op) := K3.out.cell 0; have c1 : wn.cell? ⟨w.heap.size, 1, none⟩ = some (.int .i64 reg) := K3.out.cell 1; have c2 : wn.cell? ⟨w.heap.size, 2, none⟩ = some (.int .i64 loc) := K3.out.cell 2; have c3 : wn.cell? ⟨w.heap.size, 3, none⟩ = some (.slice ae ne1 ce) := K3.out.cell 3; have c4 : wn.cell? ⟨w.heap.size, 4, none⟩ = some (.slice af nf1 cf) := K3.out.cell 4; have c5 : wn.cell? ⟨w.heap.size, 5, none⟩ = some (.bool ne) := K3.out.cell 5; have c6 : wn.cell? ⟨w.heap.size, 6, none⟩ = some (.int .i64 to) := K3.out.cell 6; have d0 : wn.cell? ⟨w2.heap.size, 0, none⟩ = some (.bool h1) := KN.out.cell 0; have d1 : wn.cell? ⟨w2.heap.size, 1, none⟩ = some (.bool h2) := KN.out.cell 1; have d2 : wn.cell? ⟨w2.heap.size, 2, none⟩ = some (.bool h3) := KN.out.cell 2; have d3 : wn.cell? ⟨w2.heap.size, 3, none⟩ = some (.bool h4) := KN.out.cell 3; have d4 : wn.cell? ⟨w2.heap.size, 4, none⟩ = some (.bool h5) := KN.out.cell 4; have d5 : wn.cell? ⟨w2.heap.size, 5, none⟩ = some (.bool h6) := KN.out.cell 5; have hl1 := K3.out.lt; have hl2 := KN.out.lt))
      go_ret
      exact ⟨ret_bool (by rw [← HBB.out]; rfl), L3.out⟩
    | true =>
      cases b2 with
      | false =>
        have c0 : (w2.alloc (.cells #[.bool h1, .bool h2, .bool h3, .bool h4, .bool h5, .bool h6] 95)).cell? ⟨w.heap.size, 0, none⟩ = some (.int .i64 op) := K3.out.cell 0; have c1 : (w2.alloc (.cells #[.bool h1, .bool h2, .bool h3, .bool h4, .bool h5, .bool h6] 95)).cell? ⟨w.heap.size, 1, none⟩ = some (.int .i64 reg) := K3.out.cell 1; have c2 : (w2.alloc (.cells #[.bool h1, .bool h2, .bool h3, .bool h4, .bool h5, .bool h6] 95)).cell? ⟨w.heap.size, 2, none⟩ = some (.int .i64 loc) := K3.out.cell 2; have c3 : (w2.alloc (.cells #[.bool h1, .bool h2, .bool h3, .bool h4, .bool h5, .bool h6] 95)).cell? ⟨w.heap.size, 3, none⟩ = some (.slice ae ne1 ce) := K3.out.cell 3; have c4 : (w2.alloc (.cells #[.bool h1, .bool h2, .bool h3, .bool h4, .bool h5, .bool h6] 95)).cell? ⟨w.heap.size, 4, none⟩ = some (.slice af nf1 cf) := K3.out.cell 4; have c5 : (w2.alloc (.cells #[.bool h1, .bool h2, .bool h3, .bool h4, .bool h5, .bool h6] 95)).cell? ⟨w.heap.size, 5, none⟩ = some (.bool ne) := K3.out.cell 5; have c6 : (w2.alloc (.cells #[.bool h1, .bool h2, .bool h3, .bool h4, .bool h5, .bool h6] 95)).cell? ⟨w.heap.size, 6, none⟩ = some (.int .i64 to) := K3.out.cell 6; have d0 : (w2.alloc (.cells #[.bool h1, .bool h2, .bool h3, .bool h4, .bool h5, .bool h6] 95)).cell? ⟨w2.heap.size, 0, none⟩ = some (.bool h1) := KN.out.cell 0; have d1 : (w2.alloc (.cells #[.bool h1, .bool h2, .bool h3, .bool h4, .bool h5, .bool h6] 95)).cell? ⟨w2.heap.size, 1, none⟩ = some (.bool h2) := KN.out.cell 1; have d2 : (w2.alloc (.cells #[.bool h1, .bool h2, .bool h3, .bool h4, .bool h5, .bool h6] 95)).cell? ⟨w2.heap.size, 2, none⟩ = some (.bool h3) := KN.out.cell 2; have d3 : (w2.alloc (.cells #[.bool h1, .bool h2, .bool h3, .bool h4, .bool h5, .bool h6] 95)).cell? ⟨w2.heap.size, 3, none⟩ = some (.bool h4) := KN.out.cell 3; have d4 : (w2.alloc (.cells #[.bool h1, .bool h2, .bool h3, .bool h4, .bool h5, .bool h6] 95)).cell? ⟨w2.heap.size, 4, none⟩ = some (.bool h5) := KN.out.cell 4; have d5 : (w2.alloc (.cells #[.bool h1, .bool h2, .bool h3, .bool h4, .bool h5, .bool h6] 95)).cell? ⟨w2.heap.size, 5, none⟩ = some (.bool h6) := KN.out.cell 5; have hl1 := K3.out.lt; have hl2 := KN.out.lt
        go_wp2_with (first
        | (go_at_call 63; (first | (with_reducible refine (H1.out _).mono ?_) | (with_reducible refine (H2.out _).mono ?_) | (with_reducible refine (H3.out _).mono ?_)); rintro e wn ⟨rfl, rfl⟩)
        | (go_at_call 64; (first | (with_reducible refine (H4.out _ L3.out).mono ?_) | (with_reducible refine (H5.out _ L3.out).mono ?_)); rintro e wn ⟨rfl, bn⟩; replace K3 := Lib.hid (K3.out.below bn); replace KN := Lib.hid (KN.out.below bn); replace L3 := Lib.hid (L3.out.trans (bn.mono L3.out.size)); clear c0 c1 c2 c3 c4 c5 c6 d0 d1 d2 d3 d4 d5 hl1 hl2 bn; have c0 : wn.cell? ⟨w.heap.size, 0, none⟩ = some (.int .i64 op) := K3.out.cell 0; have c1 : wn.cell? ⟨w.heap.size, 1, none⟩ = some (.int .i64 reg) := K3.out.cell 1; have c2 : wn.cell? ⟨w.heap.size, 2, none⟩ = some (.int .i64 loc) := K3.out.cell 2; have c3 : wn.cell? ⟨w.heap.size, 3, none⟩ = some (.slice ae ne1 ce) := K3.out.cell 3; have c4 : wn.cell? ⟨w.heap.size, 4, none⟩ = some (.slice af nf1 cf) := K3.out.cell 4; have c5 : wn.cell? ⟨w.heap.size, 5, none⟩ = some (.bool ne) := K3.out.cell 5; have c6 : wn.cell? ⟨w.heap.size, 6, none⟩ = some (.int .i64 to) := K3.out.cell 6; have d0 : wn.cell? ⟨w2.heap.size, 0, none⟩ = some (.bool h1) := KN.out.cell 0; have d1 : wn.cell? ⟨w2.heap.size, 1, none⟩ = some (.bool h2) := KN.out.cell 1; have d2 : wn.cell? ⟨w2.heap.size, 2, none⟩ = some (.bool h3) := KN.out.cell 2; have d3 : wn.cell? ⟨w2.heap.size, 3, none⟩ = some (.bool h4) := KN.out.cell 3; have d4 : wn.cell? ⟨w2.heap.size, 4, none⟩ = some (.bool h5) := KN.out.cell 4; have d5 : wn.cell? ⟨w2.heap.size, 5, none⟩ = some (.bool h6) := KN.out.cell 5; have hl1 := K3.out.lt; have hl2 := KN.out.lt))
        go_ret
        exact ⟨ret_bool (by rw [← HBB.out]; rfl), L3.out⟩
      | true =>
        cases b3 with
        | false =>
          have c0 : (w2.alloc (.cells #[.bool h1, .bool h2, .bool h3, .bool h4, .bool h5, .bool h6] 95)).cell? ⟨w.heap.size, 0, none⟩ = some (.int .i64 op) := K3.out.cell 0; have c1 : (w2.alloc (.cells #[.bool h1, .bool h2, .bool h3, .bool h4, .bool h5, .bool h6] 95)).cell? ⟨w.heap.size, 1, none⟩ = some (.int .i64 reg) := K3.out.cell 1; have c2 : (w2.alloc (.cells #[.bool h1, .bool h2, .bool h3, .bool h4, .bool h5, .bool h6] 95)).cell? ⟨w.heap.size, 2, none⟩ = some (.int .i64 loc) := K3.out.cell 2; have c3 : (w2.alloc (.cells #[.bool h1, .bool h2, .bool h3, .bool h4, .bool h5, .bool h6] 95)).cell? ⟨w.heap.size, 3, none⟩ = some (.slice ae ne1 ce) := K3.out.cell 3; have c4 : (w2.alloc (.cells #[.bool h1, .bool h2, .bool h3, .bool h4, .bool h5, .bool h6] 95)).cell? ⟨w.heap.size, 4, none⟩ = some (.slice af nf1 cf) := K3.out.cell 4; have c5 : (w2.alloc (.cells #[.bool h1, .bool h2, .bool h3, .bool h4, .bool h5, .bool h6] 95)).cell? ⟨w.heap.size, 5, none⟩ = some (.bool ne) := K3.out.cell 5; have c6 : (w2.alloc (.cells #[.bool h1, .bool h2, .bool h3, .bool h4, .bool h5, .bool h6] 95)).cell? ⟨w.heap.size, 6, none⟩ = some (.int .i64 to) := K3.out.cell 6; have d0 : (w2.alloc (.cells #[.bool h1, .bool h2, .bool h3, .bool h4, .bool h5, .bool h6] 95)).cell? ⟨w2.heap.size, 0, none⟩ = some (.bool h1) := KN.out.cell 0; have d1 : (w2.alloc (.cells #[.bool h1, .bool h2, .bool h3, .bool h4, .bool h5, .bool h6] 95)).cell? ⟨w2.heap.size, 1, none⟩ = some (.bool h2) := KN.out.cell 1; have d2 : (w2.alloc (.cells #[.bool h1, .bool h2, .bool h3, .bool h4, .bool h5, .bool h6] 95)).cell? ⟨w2.heap.size, 2, none⟩ = some (.bool h3) := KN.out.cell 2; have d3 : (w2.alloc (.cells #[.bool h1, .bool h2, .bool h3, .bool h4, .bool h5, .bool h6] 95)).cell? ⟨w2.heap.size, 3, none⟩ = some (.bool h4) := KN.out.cell 3; have d4 : (w2.alloc (.cells #[.bool h1, .bool h2, .bool h3, .bool h4, .bool h5, .bool h6] 95)).cell? ⟨w2.heap.size, 4, none⟩ = some (.bool h5) := KN.out.cell 4; have d5 : (w2.alloc (.cells #[.bool h1, .bool h2, .bool h3, .bool h4, .bool h5, .bool h6] 95)).cell? ⟨w2.heap.size, 5, none⟩ = some (.bool h6) := KN.out.cell 5; have hl1 := K3.out.lt; have hl2 := KN.out.lt
          go_wp2_with (first
        | (go_at_call 63; (first | (with_reducible refine (H1.out _).mono ?_) | (with_reducible refine (H2.out _).mono ?_) | (with_reducible refine (H3.out _).mono ?_)); rintro e wn ⟨rfl, rfl⟩)
        | (go_at_call 64; (first | (with_reducible refine (H4.out _ L3.out).mono ?_) | (with_reducible refine (H5.out _ L3.out).mono ?_)); rintro e wn ⟨rfl, bn⟩; replace K3 := Lib.hid (K3.out.below bn); replace KN := Lib.hid (KN.out.below bn); replace L3 := Lib.hid (L3.out.trans (bn.mono L3.out.size)); clear c0 c1 c2 c3 c4 c5 c6 d0 d1 d2 d3 d4 d5 hl1 hl2 bn; have c0 : wn.cell? ⟨w.heap.size, 0, none⟩ = some (.int .i64 op) := K3.out.cell 0; have c1 : wn.cell? ⟨w.heap.size, 1, none⟩ = some (.int .i64 reg) := K3.out.cell 1; have c2 : wn.cell? ⟨w.heap.size, 2, none⟩ = some (.int .i64 loc) := K3.out.cell 2; have c3 : wn.cell? ⟨w.heap.size, 3, none⟩ = some (.slice ae ne1 ce) := K3.out.cell 3; have c4 : wn.cell? ⟨w.heap.size, 4, none⟩ = some (.slice af nf1 cf) := K3.out.cell 4; have c5 : wn.cell? ⟨w.heap.size, 5, none⟩ = some (.bool ne) := K3.out.cell 5; have c6 : wn.cell? ⟨w.heap.size, 6, none⟩ = some (.int .i64 to) := K3.out.cell 6; have d0 : wn.cell? ⟨w2.heap.size, 0, none⟩ = some (.bool h1) := KN.out.cell 0; have d1 : wn.cell? ⟨w2.heap.size, 1, none⟩ = some (.bool h2) := KN.out.cell 1; have d2 : wn.cell? ⟨w2.heap.size, 2, none⟩ = some (.bool h3) := KN.out.cell 2; have d3 : wn.cell? ⟨w2.heap.size, 3, none⟩ = some (.bool h4) := KN.out.cell 3; have d4 : wn.cell? ⟨w2.heap.size, 4, none⟩ = some (.bool h5) := KN.out.cell 4; have d5 : wn.cell? ⟨w2.heap.size, 5, none⟩ = some (.bool h6) := KN.out.cell 5; have hl1 := K3.out.lt; have hl2 := KN.out.lt))
          go_ret
          exact ⟨ret_bool (by rw [← HBB.out]; rfl), L3.out⟩
        | true =>
          cases b4 with
          | false =>
            have c0 : (w2.alloc (.cells #[.bool h1, .bool h2, .bool h3, .bool h4, .bool h5, .bool h6] 95)).cell? ⟨w.heap.size, 0, none⟩ = some (.int .i64 op) := K3.out.cell 0; have c1 : (w2.alloc (.cells #[.bool h1, .bool h2, .bool h3, .bool h4, .bool h5, .bool h6] 95)).cell? ⟨w.heap.size, 1, none⟩ = some (.int .i64 reg) := K3.out.cell 1; have c2 : (w2.alloc (.cells #[.bool h1, .bool h2, .bool h3, .bool h4, .bool h5, .bool h6] 95)).cell? ⟨w.heap.size, 2, none⟩ = some (.int .i64 loc) := K3.out.cell 2; have c3 : (w2.alloc (.cells #[.bool h1, .bool h2, .bool h3, .bool h4, .bool h5, .bool h6] 95)).cell? ⟨w.heap.size, 3, none⟩ = some (.slice ae ne1 ce) := K3.out.cell 3; have c4 : (w2.alloc (.cells #[.bool h1, .bool h2, .bool h3, .bool h4, .bool h5, .bool h6] 95)).cell? ⟨w.heap.size, 4, none⟩ = some (.slice af nf1 cf) := K3.out.cell 4; have c5 : (w2.alloc (.cells #[.bool h1, .bool h2, .bool h3, .bool h4, .bool h5, .bool h6] 95)).cell? ⟨w.heap.size, 5, none⟩ = some (.bool ne) := K3.out.cell 5; have c6 : (w2.alloc (.cells #[.bool h1, .bool h2, .bool h3, .bool h4, .bool h5, .bool h6] 95)).cell? ⟨w.heap.size, 6, none⟩ = some (.int .i64 to) := K3.out.cell 6; have d0 : (w2.alloc (.cells #[.bool h1, .bool h2, .bool h3, .bool h4, .bool h5, .bool h6] 95)).cell? ⟨w2.heap.size, 0, none⟩ = some (.bool h1) := KN.out.cell 0; have d1 : (w2.alloc (.cells #[.bool h1, .bool h2, .bool h3, .bool h4, .bool h5, .bool h6] 95)).cell? ⟨w2.heap.size, 1, none⟩ = some (.bool h2) := KN.out.cell 1; have d2 : (w2.alloc (.cells #[.bool h1, .bool h2, .bool h3, .bool h4, .bool h5, .bool h6] 95)).cell? ⟨w2.heap.size, 2, none⟩ = some (.bool h3) := KN.out.cell 2; have d3 : (w2.alloc (.cells #[.bool h1, .bool h2, .bool h3, .bool h4, .bool h5, .bool h6] 95)).cell? ⟨w2.heap.size, 3, none⟩ = some (.bool h4) := KN.out.cell 3; have d4 : (w2.alloc (.cells #[.bool h1, .bool h2, .bool h3, .bool h4, .bool h5, .bool h6] 95)).cell? ⟨w2.heap.size, 4, none⟩ = some (.bool h5) := KN.out.cell 4; have d5 : (w2.alloc (.cells #[.bool h1, .bool h2, .bool h3, .bool h4, .bool h5, .bool h6] 95)).cell? ⟨w2.heap.size, 5, none⟩ = some (.bool h6) := KN.out.cell 5; have hl1 := K3.out.lt; have hl2 := KN.out.lt
            go_wp2_with (first
        | (go_at_call 63; (first | (with_reducible refine (H1.out _).mono ?_) | (with_reducible refine (H2.out _).mono ?_) | (with_reducible refine (H3.out _).mono ?_)); rintro e wn ⟨rfl, rfl⟩)
        | (go_at_call 64; (first | (with_reducible refine (H4.out _ L3.out).mono ?_) | (with_reducible refine (H5.out _ L3.out).mono ?_)); rintro e wn ⟨rfl, bn⟩; replace K3 := Lib.hid (K3.out.below bn); replace KN := Lib.hid (KN.out.below bn); replace L3 := Lib.hid (L3.out.trans (bn.mono L3.out.size)); clear c0 c1 c2 c3 c4 c5 c6 d0 d1 d2 d3 d4 d5 hl1 hl2 bn; have c0 : wn.cell? ⟨w.heap.size, 0, none⟩ = some (.int .i64 op) := K3.out.cell 0; have c1 : wn.cell? ⟨w.heap.size, 1, none⟩ = some (.int .i64 reg) := K3.out.cell 1; have c2 : wn.cell? ⟨w.heap.size, 2, none⟩ = some (.int .i64 loc) := K3.out.cell 2; have c3 : wn.cell? ⟨w.heap.size, 3, none⟩ = some (.slice ae ne1 ce) := K3.out.cell 3; have c4 : wn.cell? ⟨w.heap.size, 4, none⟩ = some (.slice af nf1 cf) := K3.out.cell 4; have c5 : wn.cell? ⟨w.heap.size, 5, none⟩ = some (.bool ne) := K3.out.cell 5; have c6 : wn.cell? ⟨w.heap.size, 6, none⟩ = some (.int .i64 to) := K3.out.cell 6; have d0 : wn.cell? ⟨w2.heap.size, 0, none⟩ = some (.bool h1) := KN.out.cell 0; have d1 : wn.cell? ⟨w2.heap.size, 1, none⟩ = some (.bool h2) := KN.out.cell 1; have d2 : wn.cell? ⟨w2.heap.size, 2, none⟩ = some (.bool h3) := KN.out.cell 2; have d3 : wn.cell? ⟨w2.heap.size, 3, none⟩ = some (.bool h4) := KN.out.cell 3; have d4 : wn.cell? ⟨w2.heap.size, 4, none⟩ = some (.bool h5) := KN.out.cell 4; have d5 : wn.cell? ⟨w2.heap.size, 5, none⟩ = some (.bool h6) := KN.out.cell 5; have hl1 := K3.out.lt; have hl2 := KN.out.lt))
            go_ret
            exact ⟨ret_bool (by rw [← HBB.out]; rfl), L3.out⟩
          | true =>
            cases b5 with
            | false =>
              have c0 : (w2.alloc (.cells #[.bool h1, .bool h2, .bool h3, .bool h4, .bool h5, .bool h6] 95)).cell? ⟨w.heap.size, 0, none⟩ = some (.int .i64 op) := K3.out.cell 0; have c1 : (w2.alloc (.cells #[.bool h1, .bool h2, .bool h3, .bool h4, .bool h5, .bool h6] 95)).cell? ⟨w.heap.size, 1, none⟩ = some (.int .i64 reg) := K3.out.cell 1; have c2 : (w2.alloc (.cells #[.bool h1, .bool h2, .bool h3, .bool h4, .bool h5, .bool h6] 95)).cell? ⟨w.heap.size, 2, none⟩ = some (.int .i64 loc) := K3.out.cell 2; have c3 : (w2.alloc (.cells #[.bool h1, .bool h2, .bool h3, .bool h4, .bool h5, .bool h6] 95)).cell? ⟨w.heap.size, 3, none⟩ = some (.slice ae ne1 ce) := K3.out.cell 3; have c4 : (w2.alloc (.cells #[.bool h1, .bool h2, .bool h3, .bool h4, .bool h5, .bool h6] 95)).cell? ⟨w.heap.size, 4, none⟩ = some (.slice af nf1 cf) := K3.out.cell 4; have c5 : (w2.alloc (.cells #[.bool h1, .bool h2, .bool h3, .bool h4, .bool h5, .bool h6] 95)).cell? ⟨w.heap.size, 5, none⟩ = some (.bool ne) := K3.out.cell 5; have c6 : (w2.alloc (.cells #[.bool h1, .bool h2, .bool h3, .bool h4, .bool h5, .bool h6] 95)).cell? ⟨w.heap.size, 6, none⟩ = some (.int .i64 to) := K3.out.cell 6; have d0 : (w2.alloc (.cells #[.bool h1, .bool h2, .bool h3, .bool h4, .bool h5, .bool h6] 95)).cell? ⟨w2.heap.size, 0, none⟩ = some (.bool h1) := KN.out.cell 0; have d1 : (w2.alloc (.cells #[.bool h1, .bool h2, .bool h3, .bool h4, .bool h5, .bool h6] 95)).cell? ⟨w2.heap.size, 1, none⟩ = some (.bool h2) := KN.out.cell 1; have d2 : (w2.alloc (.cells #[.bool h1, .bool h2, .bool h3, .bool h4, .bool h5, .bool h6] 95)).cell? ⟨w2.heap.size, 2, none⟩ = some (.bool h3) := KN.out.cell 2; have d3 : (w2.alloc (.cells #[.bool h1, .bool h2, .bool h3, .bool h4, .bool h5, .bool h6] 95)).cell? ⟨w2.heap.size, 3, none⟩ = some (.bool h4) := KN.out.cell 3; have d4 : (w2.alloc (.cells #[.bool h1, .bool h2, .bool h3, .bool h4, .bool h5, .bool h6] 95)).cell? ⟨w2.heap.size, 4, none⟩ = some (.bool h5) := KN.out.cell 4; have d5 : (w2.alloc (.cells #[.bool h1, .bool h2, .bool h3, .bool h4, .bool h5, .bool h6] 95)).cell? ⟨w2.heap.size, 5, none⟩ = some (.bool h6) := KN.out.cell 5; have hl1 := K3.out.lt; have hl2 := KN.out.lt
              go_wp2_with (first
        | (go_at_call 63; (first | (with_reducible refine (H1.out _).mono ?_) | (with_reducible refine (H2.out _).mono ?_) | (with_reducible refine (H3.out _).mono ?_)); rintro e wn ⟨rfl, rfl⟩)
        | (go_at_call 64; (first | (with_reducible refine (H4.out _ L3.out).mono ?_) | (with_reducible refine (H5.out _ L3.out).mono ?_)); rintro e wn ⟨rfl, bn⟩; replace K3 := Lib.hid (K3.out.below bn); replace KN := Lib.hid (KN.out.below bn); replace L3 := Lib.hid (L3.out.trans (bn.mono L3.out.size)); clear c0 c1 c2 c3 c4 c5 c6 d0 d1 d2 d3 d4 d5 hl1 hl2 bn; have c0 : wn.cell? ⟨w.heap.size, 0, none⟩ = some (.int .i64 op) := K3.out.cell 0; have c1 : wn.cell? ⟨w.heap.size, 1, none⟩ = some (.int .i64 reg) := K3.out.cell 1; have c2 : wn.cell? ⟨w.heap.size, 2, none⟩ = some (.int .i64 loc) := K3.out.cell 2; have c3 : wn.cell? ⟨w.heap.size, 3, none⟩ = some (.slice ae ne1 ce) := K3.out.cell 3; have c4 : wn.cell? ⟨w.heap.size, 4, none⟩ = some (.slice af nf1 cf) := K3.out.cell 4; have c5 : wn.cell? ⟨w.heap.size, 5, none⟩ = some (.bool ne) := K3.out.cell 5; have c6 : wn.cell? ⟨w.heap.size, 6, none⟩ = some (.int .i64 to) := K3.out.cell 6; have d0 : wn.cell? ⟨w2.heap.size, 0, none⟩ = some (.bool h1) := KN.out.cell 0; have d1 : wn.cell? ⟨w2.heap.size, 1, none⟩ = some (.bool h2) := KN.out.cell 1; have d2 : wn.cell? ⟨w2.heap.size, 2, none⟩ = some (.bool h3) := KN.out.cell 2; have d3 : wn.cell? ⟨w2.heap.size, 3, none⟩ = some (.bool h4) := KN.out.cell 3; have d4 : wn.cell? ⟨w2.heap.size, 4, none⟩ = some (.bool h5) := KN.out.cell 4; have d5 : wn.cell? ⟨w2.heap.size, 5, none⟩ = some (.bool h6) := KN.out.cell 5; have hl1 := K3.out.lt; have hl2 := KN.out.lt))
              go_ret
              exact ⟨ret_bool (by rw [← HBB.out]; rfl), L3.out⟩
            | true =>
              have c0 : (w2.alloc (.cells #[.bool h1, .bool h2, .bool h3, .bool h4, .bool h5, .bool h6] 95)).cell? ⟨w.heap.size, 0, none⟩ = some (.int .i64 op) := K3.out.cell 0; have c1 : (w2.alloc (.cells #[.bool h1, .bool h2, .bool h3, .bool h4, .bool h5, .bool h6] 95)).cell? ⟨w.heap.size, 1, none⟩ = some (.int .i64 reg) := K3.out.cell 1; have c2 : (w2.alloc (.cells #[.bool h1, .bool h2, .bool h3, .bool h4, .bool h5, .bool h6] 95)).cell? ⟨w.heap.size, 2, none⟩ = some (.int .i64 loc) := K3.out.cell 2; have c3 : (w2.alloc (.cells #[.bool h1, .bool h2, .bool h3, .bool h4, .bool h5, .bool h6] 95)).cell? ⟨w.heap.size, 3, none⟩ = some (.slice ae ne1 ce) := K3.out.cell 3; have c4 : (w2.alloc (.cells #[.bool h1, .bool h2, .bool h3, .bool h4, .bool h5, .bool h6] 95)).cell? ⟨w.heap.size, 4, none⟩ = some (.slice af nf1 cf) := K3.out.cell 4; have c5 : (w2.alloc (.cells #[.bool h1, .bool h2, .bool h3, .bool h4, .bool h5, .bool h6] 95)).cell? ⟨w.heap.size, 5, none⟩ = some (.bool ne) := K3.out.cell 5; have c6 : (w2.alloc (.cells #[.bool h1, .bool h2, .bool h3, .bool h4, .bool h5, .bool h6] 95)).cell? ⟨w.heap.size, 6, none⟩ = some (.int .i64 to) := K3.out.cell 6; have d0 : (w2.alloc (.cells #[.bool h1, .bool h2, .bool h3, .bool h4, .bool h5, .bool h6] 95)).cell? ⟨w2.heap.size, 0, none⟩ = some (.bool h1) := KN.out.cell 0; have d1 : (w2.alloc (.cells #[.bool h1, .bool h2, .bool h3, .bool h4, .bool h5, .bool h6] 95)).cell? ⟨w2.heap.size, 1, none⟩ = some (.bool h2) := KN.out.cell 1; have d2 : (w2.alloc (.cells #[.bool h1, .bool h2, .bool h3, .bool h4, .bool h5, .bool h6] 95)).cell? ⟨w2.heap.size, 2, none⟩ = some (.bool h3) := KN.out.cell 2; have d3 : (w2.alloc (.cells #[.bool h1, .bool h2, .bool h3, .bool h4, .bool h5, .bool h6] 95)).cell? ⟨w2.heap.size, 3, none⟩ = some (.bool h4) := KN.out.cell 3; have d4 : (w2.alloc (.cells #[.bool h1, .bool h2, .bool h3, .bool h4, .bool h5, .bool h6] 95)).cell? ⟨w2.heap.size, 4, none⟩ = some (.bool h5) := KN.out.cell 4; have d5 : (w2.alloc (.cells #[.bool h1, .bool h2, .bool h3, .bool h4, .bool h5, .bool h6] 95)).cell? ⟨w2.heap.size, 5, none⟩ = some (.bool h6) := KN.out.cell 5; have hl1 := K3.out.lt; have hl2 := KN.out.lt
              go_wp2_with (first
        | (go_at_call 63; (first | (with_reducible refine (H1.out _).mono ?_) | (with_reducible refine (H2.out _).mono ?_) | (with_reducible refine (H3.out _).mono ?_)); rintro e wn ⟨rfl, rfl⟩)
        | (go_at_call 64; (first | (with_reducible refine (H4.out _ L3.out).mono ?_) | (with_reducible refine (H5.out _ L3.out).mono ?_)); rintro e wn ⟨rfl, bn⟩; replace K3 := Lib.hid (K3.out.below bn); replace KN := Lib.hid (KN.out.below bn); replace L3 := Lib.hid (L3.out.trans (bn.mono L3.out.size)); clear c0 c1 c2 c3 c4 c5 c6 d0 d1 d2 d3 d4 d5 hl1 hl2 bn; have c0 : wn.cell? ⟨w.heap.size, 0, none⟩ = some (.int .i64 op) := K3.out.cell 0; have c1 : wn.cell? ⟨w.heap.size, 1, none⟩ = some (.int .i64 reg) := K3.out.cell 1; have c2 : wn.cell? ⟨w.heap.size, 2, none⟩ = some (.int .i64 loc) := K3.out.cell 2; have c3 : wn.cell? ⟨w.heap.size, 3, none⟩ = some (.slice ae ne1 ce) := K3.out.cell 3; have c4 : wn.cell? ⟨w.heap.size, 4, none⟩ = some (.slice af nf1 cf) := K3.out.cell 4; have c5 : wn.cell? ⟨w.heap.size, 5, none⟩ = some (.bool ne) := K3.out.cell 5; have c6 : wn.cell? ⟨w.heap.size, 6, none⟩ = some (.int .i64 to) := K3.out.cell 6; have d0 : wn.cell? ⟨w2.heap.size, 0, none⟩ = some (.bool h1) := KN.out.cell 0; have d1 : wn.cell? ⟨w2.heap.size, 1, none⟩ = some (.bool h2) := KN.out.cell 1; have d2 : wn.cell? ⟨w2.heap.size, 2, none⟩ = some (.bool h3) := KN.out.cell 2; have d3 : wn.cell? ⟨w2.heap.size, 3, none⟩ = some (.bool h4) := KN.out.cell 3; have d4 : wn.cell? ⟨w2.heap.size, 4, none⟩ = some (.bool h5) := KN.out.cell 4; have d5 : wn.cell? ⟨w2.heap.size, 5, none⟩ = some (.bool h6) := KN.out.cell 5; have hl1 := K3.out.lt; have hl2 := KN.out.lt))
              all_goals
                go_ret
                exact ⟨ret_bool (by rw [← HBB.out]; simp_all), L3.out⟩

end Go.Proofs.Ytmkgijedchpgcaa
