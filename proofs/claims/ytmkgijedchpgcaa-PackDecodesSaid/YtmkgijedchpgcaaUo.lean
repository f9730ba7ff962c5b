/- Layer 9: the reference's Light, Quiet, Same of configurations. -/
import Derived.Test.YtmkgijedchpgcaaUn
namespace Go.Proofs.Ytmkgijedchpgcaa
set_option linter.unusedSimpArgs false
set_option linter.unusedVariables false
open Go.RowKit

def lightC (c : Cf) : Bool := decide (c.pc.length ≤ 8 ∧ c.regs.length ≤ 8 ∧ c.buf.length ≤ 8 ∧ c.mem.length ≤ 20) && ((c.regs.all fun x => decide (x.1.length ≤ 20)) && (c.buf.all fun x => decide (x.1.length ≤ 60)))
def quietC (c : Cf) : Bool := c.buf.all fun x => decide (x.1.length = 0)

/-- A row of rows at an index. -/
theorem AllD.at2 {w : World} {ad : Option Addr} {n cap : Nat} {xs : List (List Int × Value)} (h : AllD w (.slice ad n cap) xs) (k : Nat) (hk : k < xs.length) : ∃ b off a m, ad = some ⟨b, off, none⟩ ∧ b < w.heap.size ∧ w.cell? ⟨b, off + k, none⟩ = some (.slice a xs[k].1.length m) ∧ IntsD w (.slice a xs[k].1.length m) xs[k].1 := by
  obtain ⟨b, off, he, hl, h3, h4⟩ := SlD.at h k hk
  obtain ⟨a, m, hv⟩ := h4.shape0
  rw [hv] at h3 h4
  rw [Nat.mul_one] at h3
  exact ⟨b, off, a, m, he, hl, h3, h4⟩
theorem BufsD.at2 {w : World} {ad : Option Addr} {n cap : Nat} {xs : List (List Ent × Value)} (h : BufsD w (.slice ad n cap) xs) (k : Nat) (hk : k < xs.length) : ∃ b off a m, ad = some ⟨b, off, none⟩ ∧ b < w.heap.size ∧ w.cell? ⟨b, off + k, none⟩ = some (.slice a xs[k].1.length m) ∧ EntsD w (.slice a xs[k].1.length m) xs[k].1 := by
  obtain ⟨b, off, he, hl, h34⟩ := SlD.at h k hk
  obtain ⟨h3, h4⟩ := h34
  obtain ⟨a, m, hv⟩ := h4.shape0
  rw [hv] at h3 h4
  rw [Nat.mul_one] at h3
  exact ⟨b, off, a, m, he, hl, h3, h4⟩

set_option maxRecDepth 100000 in
set_option maxHeartbeats 4000000 in
theorem clight_any (c : Cf) (vp vr vm vb : Value) (w : World) (hd : CfD w vp vr vm vb c) (b : Bool) (hb : lightC c = b) :
    Calls Try.prog 19 #[.agg #[vp, vr, vm, vb]] w fun e w' => e = .returned (.bool b) ∧ Below w.heap.size w w' := by
  have HD := Lib.hid hd
  obtain ⟨ap, cp, rfl⟩ := hd.p.shape0
  obtain ⟨ar, cr, rfl⟩ := hd.r.shape0
  obtain ⟨am, cm, rfl⟩ := hd.m.shape0
  obtain ⟨ab, cb, rfl⟩ := hd.b.shape0
  have hp9 := hd.p.bd
  have hr9 := hd.r.bd
  have hm9 := hd.m.bd
  have hb9 := hd.b.bd
  obtain ⟨np, hnp⟩ : ∃ n, n = c.pc.length := ⟨_, rfl⟩
  obtain ⟨nr, hnr⟩ : ∃ n, n = c.regs.length := ⟨_, rfl⟩
  obtain ⟨nm, hnm⟩ : ∃ n, n = c.mem.length := ⟨_, rfl⟩
  obtain ⟨nb, hnb⟩ : ∃ n, n = c.buf.length := ⟨_, rfl⟩
  have HNR := Lib.hid hnr
  have HNB := Lib.hid hnb
  have HLU : Hid (b = (decide (np ≤ 8 ∧ nr ≤ 8 ∧ nb ≤ 8 ∧ nm ≤ 20) && ((c.regs.all fun x => decide (x.1.length ≤ 20)) && (c.buf.all fun x => decide (x.1.length ≤ 60))))) := Lib.hid (by rw [← hb, hnp, hnr, hnm, hnb]; rfl)
  rw [← hnp] at HD hp9 ⊢
  rw [← hnr] at HD hr9 ⊢
  rw [← hnm] at HD hm9 ⊢
  rw [← hnb] at HD hb9 ⊢
  have K1 := Lib.hid (Bk.new w 29 #[.slice ap np cp, .slice ar nr cr, .slice am nm cm, .slice ab nb cb])
  have L1 : Hid (Below w.heap.size w (w.alloc (.cells #[.slice ap np cp, .slice ar nr cr, .slice am nm cm, .slice ab nb cb] 29))) := (Below.refl _ _).alloc (Nat.le_refl _) _
  clear hd hb hnp hnr hnm hnb
  by_cases hP : np ≤ 8 ∧ nr ≤ 8 ∧ nb ≤ 8 ∧ nm ≤ 20
  · have HBB : Hid (((c.regs.drop 0).all (fun x => decide (x.1.length ≤ 20)) && (c.buf.all fun x => decide (x.1.length ≤ 60))) = b) := Lib.hid (by rw [HLU.out, decide_eq_true hP]; rfl)
    obtain ⟨p1, p2, p3, p4⟩ := hP
    have g1 : ¬ (8 : Int) < (np : Int) := by omega
    have g2 : ¬ (8 : Int) < (nr : Int) := by omega
    have g3 : ¬ (8 : Int) < (nb : Int) := by omega
    have g4 : ¬ (20 : Int) < (nm : Int) := by omega
    clear HLU hp9 hr9 hm9 hb9 p1 p4
    go_enter Try.func19, Try.ntmps19
    go_wp2_with fail
    generalize w.alloc _ = w1 at K1 L1 ⊢
    clear g1 g2 g3 g4
    go_loopg [3] nr (fun fuel i' wr => ∃ (k : Nat), i' = .int .i64 k ∧ k ≤ nr ∧ nr - k ≤ fuel ∧ ((c.regs.drop k).all (fun x => decide (x.1.length ≤ 20)) && (c.buf.all fun x => decide (x.1.length ≤ 60))) = b ∧ Below w1.heap.size w1 wr)
    case atStart => exact ⟨0, rfl, Nat.zero_le _, Nat.le_refl _, HBB.out, Below.refl _ _⟩
    case round =>
      obtain ⟨k, rfl, hk, hf, ha, hb⟩ := hrel
      have HA := Lib.hid ha
      have HB := Lib.hid hb
      have KR := Lib.hid (K1.out.below hb)
      have LR := Lib.hid (L1.out.trans (hb.mono L1.out.size))
      clear ha hb
      have l3 := KR.out.lt
      by_cases hlt : k < nr
      · have hk2 : k < c.regs.length := by rw [← HNR.out]; exact hlt
        have HE := Lib.hid (all_at' (fun x : List Int × Value => decide (x.1.length ≤ 20)) c.regs k hk2)
        obtain ⟨bc, offc, al, cl, rfl, hbc, y1, hq9⟩ := AllD.at2 (HD.out.below LR.out).r k hk2
        have c1 : wr.cell? ⟨w.heap.size, 1, none⟩ = some (.slice (some ⟨bc, offc, none⟩) nr cr) := KR.out.cell 1
        generalize (c.regs[k]).1.length = nl at y1 HE
        have e1 : (0 : Int) ≤ (k : Int) := Int.natCast_nonneg _
        have e2 : (k : Int) < (nr : Int) := by omega
        clear hq9 hk2
        by_cases h0 : nl ≤ 20
        · have g1 : ¬ (20 : Int) < (nl : Int) := by omega
          have HQ : Hid (((c.regs.drop (k + 1)).all (fun x => decide (x.1.length ≤ 20)) && (c.buf.all fun x => decide (x.1.length ≤ 60))) = b) := Lib.hid (by rw [← HA.out, HE.out, decide_eq_true h0]; rfl)
          clear h0
          go_wp2
          go_roundg (gk - 1)
          case measure => omega
          case rel => exact ⟨k + 1, by go_num, by omega, by omega, HQ.out, HB.out⟩
        · have g1 : (20 : Int) < (nl : Int) := by omega
          have HQ : Hid (b = false) := Lib.hid (by rw [← HA.out, HE.out, decide_eq_false h0]; rfl)
          clear h0
          go_wp2
          go_ret
          exact ⟨ret_bool HQ.out.symm, LR.out⟩
      · have c1 : wr.cell? ⟨w.heap.size, 1, none⟩ = some (.slice ar nr cr) := KR.out.cell 1
        have HQ : Hid ((c.buf.drop 0).all (fun x => decide (x.1.length ≤ 60)) = b) := Lib.hid (by rw [← HA.out, (List.drop_eq_nil_of_le (by rw [← HNR.out]; omega) : c.regs.drop k = [])]; rfl)
        obtain ⟨wo, hwo⟩ : ∃ x, x = wr := ⟨_, rfl⟩
        go_wp2_with fail
        rw [← hwo] at HB KR LR
        clear c1 l3
        go_loopg [4] nb (fun fuel i' wi => ∃ (j : Nat), i' = .int .i64 j ∧ j ≤ nb ∧ nb - j ≤ fuel ∧ (c.buf.drop j).all (fun x => decide (x.1.length ≤ 60)) = b ∧ Below wo.heap.size wo wi)
        case atStart => exact ⟨0, rfl, Nat.zero_le _, Nat.le_refl _, HQ.out, by rw [hwo]; exact Below.refl _ _⟩
        case round =>
          clear hwo
          obtain ⟨j, rfl, hj, hfj, haj, hbj⟩ := hrel
          have HAJ := Lib.hid haj
          have HBJ := Lib.hid hbj
          have KRJ := Lib.hid (KR.out.below hbj)
          have LRJ := Lib.hid (LR.out.trans (hbj.mono LR.out.size))
          have l4 := KRJ.out.lt
          clear haj hbj
          by_cases hjl : j < nb
          · have hj2 : j < c.buf.length := by rw [← HNB.out]; exact hjl
            have HEJ := Lib.hid (all_at' (fun x : List Ent × Value => decide (x.1.length ≤ 60)) c.buf j hj2)
            obtain ⟨bd, offd, al, cl, rfl, hbd, y2, hq9⟩ := BufsD.at2 (HD.out.below LRJ.out).b j hj2
            have c3 : wr.cell? ⟨w.heap.size, 3, none⟩ = some (.slice (some ⟨bd, offd, none⟩) nb cb) := KRJ.out.cell 3
            generalize (c.buf[j]).1.length = nl at y2 HEJ
            have e1 : (0 : Int) ≤ (j : Int) := Int.natCast_nonneg _
            have e2 : (j : Int) < (nb : Int) := by omega
            clear hq9 hj2
            by_cases h0 : nl ≤ 60
            · have g1 : ¬ (60 : Int) < (nl : Int) := by omega
              have HQ2 : Hid ((c.buf.drop (j + 1)).all (fun x => decide (x.1.length ≤ 60)) = b) := Lib.hid (by rw [← HAJ.out, HEJ.out, decide_eq_true h0]; rfl)
              clear h0
              go_wp2
              go_roundg (gk - 1)
              case measure => omega
              case rel => exact ⟨j + 1, by go_num, by omega, by omega, HQ2.out, HBJ.out⟩
            · have g1 : (60 : Int) < (nl : Int) := by omega
              have HQ2 : Hid (b = false) := Lib.hid (by rw [← HAJ.out, HEJ.out, decide_eq_false h0]; rfl)
              clear h0
              go_wp2
              go_ret
              exact ⟨ret_bool HQ2.out.symm, LRJ.out⟩
          · have c3 : wr.cell? ⟨w.heap.size, 3, none⟩ = some (.slice ab nb cb) := KRJ.out.cell 3
            have HQ2 : Hid (b = true) := Lib.hid (by rw [← HAJ.out, List.drop_eq_nil_of_le (by rw [← HNB.out]; omega)]; rfl)
            go_wp2
            go_ret
            exact ⟨ret_bool HQ2.out.symm, LRJ.out⟩
  · have HBF : Hid (b = false) := Lib.hid (by rw [HLU.out, decide_eq_false hP]; rfl)
    clear HLU
    go_enter Try.func19, Try.ntmps19
    go_wp2_with fail
    all_goals first
      | (go_ret
         exact ⟨ret_bool HBF.out.symm, L1.out⟩)
      | (exfalso; omega)

end Go.Proofs.Ytmkgijedchpgcaa
