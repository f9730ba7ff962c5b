/- Layer 7: Right of a unit: rows of instructions. -/
import Derived.Test.YtmkgijedchpgcaaUf
namespace Go.Proofs.Ytmkgijedchpgcaa
set_option linter.unusedSimpArgs false
set_option linter.unusedVariables false
open Go.RowKit

theorem seqF_at (own locs n : Int) (l : List II) (k : Nat) (h : k < l.length) : seqF own locs n (l.drop k) k = ((decide (l[k].x.op = 22) == decide ((k : Int) = n - 1) && insB l[k].x own locs n) && seqF own locs n (l.drop (k + 1)) (k + 1)) := by
  rw [List.drop_eq_getElem_cons h]; rfl
theorem seqF_over (own locs n : Int) (l : List II) (k : Nat) (h : ¬ k < l.length) : seqF own locs n (l.drop k) k = true := by
  rw [List.drop_eq_nil_of_le (by omega)]; rfl

theorem rinstr_lit (op reg loc : Int) (le lf : List Opn) (ne : Bool) (to : Int) (ev fv : Value) (own locs n : Int) (w : World) (he : OpsD w ev le) (hf : OpsD w fv lf) (hn : le.length ≤ 100000 ∧ lf.length ≤ 100000) (b : Bool) (hb : insB ⟨op, reg, loc, le, lf, ne, to⟩ own locs n = b) :
    Calls Try.prog 58 #[.agg #[.int .i64 op, .int .i64 reg, .int .i64 loc, ev, fv, .bool ne, .int .i64 to], .int .i64 own, .int .i64 locs, .int .i64 n] w fun e w' => e = .returned (.bool b) ∧ Below w.heap.size w w' :=
  rinstr_any ⟨⟨op, reg, loc, le, lf, ne, to⟩, ev, fv⟩ own locs n w he hf hn b hb

set_option maxRecDepth 100000 in
set_option maxHeartbeats 4000000 in
theorem seq_any (l : List II) (v : Value) (own locs : Int) (w : World) (hv : InsD w v l) (hn : l.length ≤ 100000) (hz : ∀ t ∈ l, t.x.e.length ≤ 100000 ∧ t.x.f.length ≤ 100000) (b : Bool) (hb : seqB l own locs = b) :
    Calls Try.prog 47 #[v, .int .i64 own, .int .i64 locs] w fun e w' => e = .returned (.bool b) ∧ Below w.heap.size w w' := by
  have HV := Lib.hid hv
  obtain ⟨ad, cap, rfl⟩ := hv.shape0
  by_cases hl : 1 ≤ l.length ∧ l.length ≤ 1000
  · have HB0 : Hid (seqF own locs l.length (l.drop 0) 0 = b) := Lib.hid (by rw [← hb]; unfold seqB; rw [decide_eq_true hl, Bool.true_and]; rfl)
    have HZ := Lib.hid hz
    obtain ⟨n, hN⟩ : ∃ n, n = l.length := ⟨_, rfl⟩
    rw [← hN] at HV HB0 hl ⊢
    have HN := Lib.hid hN
    obtain ⟨n1, hn1⟩ : ∃ m, n = m + 1 := ⟨n - 1, by omega⟩
    have ew : IntKind.i64.wrap ((n : Int) - 1) = (n1 : Int) := by rw [IntKind.wrap_i64]; omega
    have g1 : ¬ (n : Int) < 1 := by omega
    have g2 : ¬ (1000 : Int) < (n : Int) := by omega
    have HN1 := Lib.hid hn1
    clear hv hn hz hb hN hn1
    go_enter Try.func47, Try.ntmps47
    go_wp2_with fail
    go_loopg [21] n (fun fuel i' wr => ∃ (k : Nat), i' = .int .i64 k ∧ k ≤ n ∧ n - k ≤ fuel ∧ seqF own locs n (l.drop k) k = b ∧ Below w.heap.size w wr)
    case atStart => exact ⟨0, rfl, Nat.zero_le _, Nat.le_refl _, HB0.out, Below.refl _ _⟩
    case round =>
      obtain ⟨k, rfl, hk, hf, ha, hb⟩ := hrel
      have HA := Lib.hid ha
      have HB := Lib.hid hb
      have hww := hb.size
      clear ha hb
      by_cases hlt : k < n
      · have hk' : k < l.length := by have := HN.out; omega
        have HE := Lib.hid (seqF_at own locs n l k hk')
        obtain ⟨vb, off, rfl, hbl, hx⟩ := SlD.at HV.out k hk'
        have hzz := HZ.out _ (List.getElem_mem hk')
        obtain ⟨t, ht⟩ : ∃ t, t = l[k] := ⟨_, rfl⟩
        rw [← ht] at hx HE hzz
        have HX := Lib.hid (hx.below HB.out hbl)
        obtain ⟨⟨op, reg, loc, le, lf, ne, to⟩, ev, fv⟩ := t
        obtain ⟨ae, ce, rfl⟩ : ∃ a c, ev = .slice a le.length c := HX.out.e.shape0
        obtain ⟨af, cf, rfl⟩ : ∃ a c, fv = .slice a lf.length c := HX.out.f.shape0
        have HZZ := Lib.hid hzz
        have HEE : Hid (OpsD wr (.slice ae le.length ce) le) := Lib.hid HX.out.e
        have HFF : Hid (OpsD wr (.slice af lf.length cf) lf) := Lib.hid HX.out.f
        have c0 : wr.cell? ⟨vb, off + k * 7, none⟩ = some (.int .i64 op) := HX.out.c0
        have c1 : wr.cell? ⟨vb, off + k * 7 + 1, none⟩ = some (.int .i64 reg) := HX.out.c1
        have c2 : wr.cell? ⟨vb, off + k * 7 + 2, none⟩ = some (.int .i64 loc) := HX.out.c2
        have c3 : wr.cell? ⟨vb, off + k * 7 + 3, none⟩ = some (.slice ae le.length ce) := HX.out.c3
        have c4 : wr.cell? ⟨vb, off + k * 7 + 4, none⟩ = some (.slice af lf.length cf) := HX.out.c4
        have c5 : wr.cell? ⟨vb, off + k * 7 + 5, none⟩ = some (.bool ne) := HX.out.c5
        have c6 : wr.cell? ⟨vb, off + k * 7 + 6, none⟩ = some (.int .i64 to) := HX.out.c6
        have hbl2 : vb < wr.heap.size := Nat.lt_of_lt_of_le hbl hww
        have KX := Lib.hid (Bk.new wr 53 #[.int .i64 op, .int .i64 reg, .int .i64 loc, .slice ae le.length ce, .slice af lf.length cf, .bool ne, .int .i64 to])
        have LX : Hid (Below wr.heap.size wr (wr.alloc (.cells #[.int .i64 op, .int .i64 reg, .int .i64 loc, .slice ae le.length ce, .slice af lf.length cf, .bool ne, .int .i64 to] 53))) := (Below.refl _ _).alloc (Nat.le_refl _) _
        have HC := Lib.hid (fun (W : World) (hb : Below wr.heap.size wr W) => rinstr_lit op reg loc le lf ne to (.slice ae le.length ce) (.slice af lf.length cf) own locs n W (OpsD.below HEE.out hb) (OpsD.below HFF.out hb) HZZ.out _ rfl)
        generalize insB ⟨op, reg, loc, le, lf, ne, to⟩ own locs n = bi at HC HE
        generalize le.length = ne1 at HEE KX LX HC c3
        generalize lf.length = nf1 at HFF KX LX HC c4
        clear hx ht hbl HX hzz HZZ HEE HFF
        have HE2 : Hid (seqF own locs n (l.drop k) k = ((((op == 22) == ((k : Int) == (n1 : Int))) && bi) && seqF own locs n (l.drop (k + 1)) (k + 1))) := Lib.hid (by
          rw [HE.out, show (n : Int) - 1 = (n1 : Int) by have := HN1.out; omega]; rfl)
        clear HE
        have g3 : 1 ≤ n := hl.1
        clear hl
        cases bi with
        | false =>
          have hbf : b = false := by rw [← HA.out, HE2.out]; simp
          go_wp2_with (go_at_call 58; (with_reducible refine (HC.out _ LX.out).mono ?_); rintro e wn ⟨rfl, bn⟩)
          all_goals
            go_ret
            first
              | exact ⟨ret_bool hbf.symm, HB.out.trans ((LX.out.trans (bn.mono LX.out.size)).mono hww)⟩
              | exact ⟨ret_bool hbf.symm, HB.out.trans (LX.out.mono hww)⟩
        | true =>
          go_wp2_with (go_at_call 58; (with_reducible refine (HC.out _ LX.out).mono ?_); rintro e wn ⟨rfl, bn⟩)
          all_goals first
            | (go_roundg (gk - 1)
               case measure => omega
               case rel =>
                 refine ⟨k + 1, by go_num, by omega, by omega, ?_, HB.out.trans ((LX.out.trans (bn.mono LX.out.size)).mono hww)⟩
                 have h2 := HA.out
                 rw [HE2.out] at h2
                 simp_all)
            | (go_ret
               refine ⟨ret_bool ?_, HB.out.trans (LX.out.mono hww)⟩
               have h2 := HA.out
               rw [HE2.out, show ((op == 22) == ((k : Int) == (n1 : Int))) = false from beq_eq_false_iff_ne.2 (by assumption)] at h2
               rw [← h2]; rfl)
      · have HE := Lib.hid (seqF_over own locs n l k (by have := HN.out; omega))
        go_wp2
        go_ret
        exact ⟨ret_bool (by rw [← HA.out, HE.out]), HB.out⟩
  · have hbf : b = false := by rw [← hb]; unfold seqB; rw [decide_eq_false hl]; rfl
    have HBF := Lib.hid hbf
    generalize l.length = n at hl HV
    clear hv hn hz hb hbf
    by_cases h1 : (n : Int) < 1
    · go_enter Try.func47, Try.ntmps47
      go_wp2
      go_ret
      exact ⟨ret_bool HBF.out.symm, Below.refl _ _⟩
    · have h2 : (1000 : Int) < (n : Int) := by omega
      go_enter Try.func47, Try.ntmps47
      go_wp2
      go_ret
      exact ⟨ret_bool HBF.out.symm, Below.refl _ _⟩

end Go.Proofs.Ytmkgijedchpgcaa
