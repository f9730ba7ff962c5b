/- Layer 17, the code: Parts. -/
import Derived.Test.YtkdpimifojjhaaaQj
namespace Go.Proofs.Ytkdpimifojjhaaa
set_option linter.unusedSimpArgs false
set_option linter.unusedVariables false
open Go.RowKit

def mixP (L : Nat → Nat) (k j : Nat) : Int := if j < k then (cpn L j : Int) else (L j : Int)
theorem mixP_step (L : Nat → Nat) (n k : Nat) : (tab n (mixP L k)).set k (cpn L k : Int) = tab n (mixP L (k + 1)) := by
  rw [tab_set]
  refine tab_congr fun j _ => ?_
  unfold upd mixP
  by_cases h : j = k
  · subst h; rw [if_pos rfl, if_pos (Nat.lt_succ_self _)]
  · rw [if_neg h]
    by_cases h2 : j < k
    · rw [if_pos h2, if_pos (by omega)]
    · rw [if_neg h2, if_neg (by omega)]
set_option maxRecDepth 100000 in
set_option maxHeartbeats 8000000 in
theorem parts_any (g : Gr) (vs va vt : Value) (w : World) (hd : GrD w vs va vt g) (hn : g.st.length ≤ 1001 ∧ g.to.length ≤ 1000 ∧ g.ag.length ≤ 1000) :
    Calls Try.prog 11 #[.agg #[vs, va, vt]] w fun e w' => ∃ v, e = .returned v ∧ IntsD w' v (parG g) ∧ Below w.heap.size w w' := by
  obtain ⟨q, hq⟩ : ∃ q, rightG g = q := ⟨_, rfl⟩
  have HQ := Lib.hid hq
  have HR := Lib.hid fun (W : World) (h : Below w.heap.size w W) => right14_any g vs va vt W (hd.below h) hn q hq
  have HLE := Lib.hid fun (W : World) (h : Below w.heap.size w W) (hg : RG g) => leaders_any g vs va vt W hg (hd.below h) ⟨hn.1, hn.2.1⟩
  have BX := Lib.hid (bal (Below.refl w.heap.size w) (.cells #[vs, va, vt] 24))
  have KX := Lib.hid (Bk.new w 24 #[vs, va, vt])
  have HNN : Hid (numN g ≤ 1000) := Lib.hid (by unfold numN; omega)
  clear hd hn hq
  go_enter Try.func11, Try.ntmps11
  go_wp2_with fail
  generalize (w.alloc _) = w0 at BX KX ⊢
  refine Calls.mono (HR.out w0 BX.out) ?_
  rintro e w1 ⟨rfl, b1⟩
  have BY := Lib.hid (BX.out.trans (b1.mono BX.out.size))
  have KY := Lib.hid (KX.out.below b1)
  clear b1 HR BX KX
  cases q with
  | false =>
    go_wp2_with fail
    go_ret
    exact ⟨_, rfl, by unfold parG; rw [if_neg (by rw [HQ.out]; decide)]; exact SlD.nil, BY.out⟩
  | true =>
    have HG := Lib.hid (right_RG g HQ.out)
    have HLE2 := Lib.hid (HLE.out w1 BY.out HG.out)
    obtain ⟨n, hN⟩ : ∃ n, n = numN g := ⟨_, rfl⟩
    rw [← hN] at HLE2 HNN
    have HN := Lib.hid hN
    clear hN HLE
    have c0 := KY.out.cell 0
    have c1 := KY.out.cell 1
    have c2 := KY.out.cell 2
    have lw := KY.out.lt
    go_wp2_with fail
    refine Calls.mono HLE2.out ?_
    rintro e w2 ⟨gP, L, rfl, hp, hpw, b2, hL, hsame⟩
    have HP := Lib.hid hp
    have HPW := Lib.hid hpw
    have B2 := Lib.hid (BY.out.trans (b2.mono BY.out.size))
    have HLL := Lib.hid hL
    have HSM := Lib.hid hsame
    have lP := (show Bk w2 gP _ _ from hp).lt
    have BA := Lib.hid (bal (Below.refl w2.heap.size w2) (.cells #[.int .i64 (-1)] 3))
    have KA := Lib.hid (Bk.new w2 3 #[.int .i64 (-1)])
    have HRP := Lib.hid fun (W : World) (h : Bk W w2.heap.size 3 #[.int .i64 (-1)]) => repeat_any (-1) w2.heap.size n HNN.out W h
    have HPA := Lib.hid (show BkI (w2.alloc (.cells #[.int .i64 (-1)] 3)) gP _ from hp.below BA.out)
    clear hp hpw b2 hL hsame HLE2 c0 c1 c2 lw
    go_wp2_with (go_at_call 28; refine Calls.mono (HRP.out _ KA.out) ?_; rintro e w3 ⟨gM, rfl, hm, b3, hmw⟩; have HM := Lib.hid hm; have HP3 := Lib.hid (show BkI w3 gP _ from HPA.out.below b3); have B3 := Lib.hid (B2.out.trans ((BA.out.trans (b3.mono BA.out.size)).mono B2.out.size)); have HNE : Hid (gP ≠ gM ∧ w.heap.size ≤ gM ∧ w.heap.size ≤ gP) := Lib.hid (by rw [alloc_size] at hmw; have := B2.out.size; have := HPW.out; have := BY.out.size; omega); clear hm b3 hmw HPA lP)
    have HP4 : Hid (BkI w3 gP (tab n (mixP L 0))) := Lib.hid (by
      have e : (tab n fun i => (L i : Int)) = tab n (mixP L 0) := tab_congr fun j _ => by unfold mixP; rw [if_neg (Nat.not_lt_zero _)]
      have h := HP3.out; rw [e] at h; exact h)
    have HM4 : Hid (BkI w3 gM (tab n (cst L 0).1)) := Lib.hid (by
      have e : tab n (cst L 0).1 = List.replicate n (-1) := tab_rep n (-1)
      rw [e]; exact HM.out)
    clear HP HP3 HM BA KA HRP KY BY HPW
    go_loopg [5, 6, 7, 19] n (fun fuel s5 s6 s7 s19 wr => ∃ k : Nat, s5 = .int .i64 ((cst L k).2 : Int) ∧ s19 = .int .i64 k ∧ k ≤ n ∧ n - k ≤ fuel ∧ BkI wr gP (tab n (mixP L k)) ∧ BkI wr gM (tab n (cst L k).1) ∧ Below w.heap.size w wr)
    case atStart => exact ⟨0, rfl, rfl, Nat.zero_le _, Nat.le_refl _, HP4.out, HM4.out, B3.out⟩
    case round =>
      clear HP4 HM4 B3
      obtain ⟨k, rfl, rfl, hk, hf, hp, hm, hb⟩ := hrel
      have HP := Lib.hid hp
      have HM := Lib.hid hm
      have HB := Lib.hid hb
      by_cases hlt : k < n
      · obtain ⟨l, hl⟩ : ∃ l, l = L k := ⟨_, rfl⟩
        have hln : l < n := by rw [hl]; exact HLL.out k hlt
        have xP : wr.cell? ⟨gP, k, none⟩ = some (.int .i64 (l : Int)) := by
          have h := hp.at (tab_at n _ k hlt)
          rw [show mixP L k k = (l : Int) by unfold mixP; rw [if_neg (Nat.lt_irrefl _), hl]] at h
          exact h
        have xM := hm.at (tab_at n _ l hln)
        have fP := hp.fz k
        have fM := hm.fz l
        have lP := (show Bk wr gP _ _ from hp).lt
        have lM := (show Bk wr gM _ _ from hm).lt
        have i1 : (0 : Int) ≤ (k : Int) := by omega
        have i2 : (k : Int) < (n : Int) := by omega
        have i3 : (0 : Int) ≤ (l : Int) := by omega
        have i4 : (l : Int) < (n : Int) := by omega
        have i5 : IntKind.i64.wrap ((k : Int) + 1) = (k : Int) + 1 := IntWalk.i64_in _ (by have := HNN.out; omega)
        have n1 : ¬ gP = gM := HNE.out.1
        have n2 : ¬ gM = gP := Ne.symm HNE.out.1
        obtain ⟨cn, hcn⟩ : ∃ cn, cn = (cst L k).2 := ⟨_, rfl⟩
        have hc1 : cn ≤ k := by rw [hcn, (cst_new L k).1]; exact nx_le _ _
        have i6 : IntKind.i64.wrap ((cn : Int) + 1) = (cn : Int) + 1 := IntWalk.i64_in _ (by have := HNN.out; omega)
        rw [← hcn]
        have HST := Lib.hid (mixP_step L n k)
        have HLT := Lib.hid (cst_later L k (k + 1) (Nat.lt_succ_self k))
        rw [← hl] at HLT
        have HG1 : Hid (∀ W : World, BkI W gP (tab n (mixP L k)) → BkI (W.setCell ⟨gP, k, none⟩ (.int .i64 (cpn L k : Int))) gP (tab n (mixP L (k + 1)))) := Lib.hid (fun W h => by
          have h2 := h.set k (cpn L k : Int)
          rw [HST.out] at h2
          exact h2)
        by_cases hz : (cst L k).1 l = -1
        · have e : cst L (k + 1) = (upd (cst L k).1 l cn, cn + 1) := by show (if (cst L k).1 (L k) = -1 then _ else _) = _; rw [← hl, if_pos hz, hcn]
          have HM2 : Hid (BkI (wr.setCell ⟨gM, l, none⟩ (.int .i64 (cn : Int))) gM (tab n (cst L (k + 1)).1)) := Lib.hid (by have h := hm.set l (cn : Int); rw [tab_set] at h; rw [e]; exact h)
          have HP2 : Hid (BkI (wr.setCell ⟨gM, l, none⟩ (.int .i64 (cn : Int))) gP (tab n (mixP L k))) := Lib.hid (Bk.other hp HNE.out.1 l)
          have HC2 : Hid ((cst L (k + 1)).2 = cn + 1) := Lib.hid (by rw [e])
          have B2' : Hid (Below w.heap.size w (wr.setCell ⟨gM, l, none⟩ (.int .i64 (cn : Int)))) := Lib.hid (HB.out.setCell HNE.out.2.1 _)
          rw [hz] at xM
          clear hp hm hb hz e hl HP HM HB hcn
          go_upto_region 11 with fail
          generalize World.setCell _ _ _ = w5 at HM2 HP2 B2' ⊢
          clear xM fM xP fP lP lM
          have xM := HM2.out.at (tab_at n _ l hln)
          rw [HLT.out] at xM
          have xP := HP2.out.at (tab_at n _ k hlt)
          have fP := HP2.out.fz k
          have lP := (show Bk w5 gP _ _ from HP2.out).lt
          have lM := (show Bk w5 gM _ _ from HM2.out).lt
          have HP3 := Lib.hid (HG1.out w5 HP2.out)
          have HM3 : Hid (BkI (w5.setCell ⟨gP, k, none⟩ (.int .i64 (cpn L k : Int))) gM (tab n (cst L (k + 1)).1)) := Lib.hid (Bk.other HM2.out (Ne.symm HNE.out.1) k)
          have B3' : Hid (Below w.heap.size w (w5.setCell ⟨gP, k, none⟩ (.int .i64 (cpn L k : Int)))) := Lib.hid (B2'.out.setCell HNE.out.2.2 _)
          generalize cpn L k = cv at xM HP3 HM3 B3'
          go_wp2_with fail
          go_roundg (gk - 1)
          case measure => omega
          case rel => exact ⟨k + 1, by rw [HC2.out]; go_num, by go_num, by omega, by omega, HP3.out, HM3.out, B3'.out⟩
        · have e : cst L (k + 1) = cst L k := by show (if (cst L k).1 (L k) = -1 then _ else _) = _; rw [← hl, if_neg hz]
          have HM3 : Hid (BkI (wr.setCell ⟨gP, k, none⟩ (.int .i64 (cpn L k : Int))) gM (tab n (cst L (k + 1)).1)) := Lib.hid (by rw [e]; exact Bk.other hm (Ne.symm HNE.out.1) k)
          have HP3 := Lib.hid (HG1.out wr HP.out)
          have B3' : Hid (Below w.heap.size w (wr.setCell ⟨gP, k, none⟩ (.int .i64 (cpn L k : Int)))) := Lib.hid (HB.out.setCell HNE.out.2.2 _)
          have HC2 : Hid ((cst L (k + 1)).2 = cn) := Lib.hid (by rw [e, hcn])
          rw [e] at HLT
          rw [HLT.out] at xM hz
          clear hp hm hb e hl HP HM HB hcn
          generalize cpn L k = cv at xM hz HP3 HM3 B3'
          go_wp2_with fail
          go_roundg (gk - 1)
          case measure => omega
          case rel => exact ⟨k + 1, by rw [HC2.out], by go_num, by omega, by omega, HP3.out, HM3.out, B3'.out⟩
      · obtain rfl : k = n := by omega
        have HRS : Hid (IntsD wr (.slice (some ⟨gP, 0, none⟩) k k) (parG g)) := Lib.hid (by
          have h1 : tab k (mixP L k) = parG g := by
            unfold parG
            rw [if_pos HQ.out, ← HN.out]
            refine tab_congr fun j hj => ?_
            unfold mixP
            rw [if_pos hj, ((canon_one (cpn_canon L k) (pn_canon (A := (egr g).A) k) (fun a b ha hb => ((cpn_same L a b).trans (HSM.out a b ha hb)).trans (pn_same a b).symm) k (Nat.le_refl _)).1 j hj)]
            rfl
          rw [← h1]
          exact hp.ints (tab_len _ _) (by have := HNN.out; omega))
        clear hlt hp hm HP HM
        go_wp2_with fail
        go_ret
        exact ⟨_, rfl, HRS.out, HB.out⟩

end Go.Proofs.Ytkdpimifojjhaaa
