/- Layer 7: Right of a unit. -/
import Derived.Test.YtmkgijedchpgcaaUg
namespace Go.Proofs.Ytmkgijedchpgcaa
set_option linter.unusedSimpArgs false
set_option linter.unusedVariables false
open Go.RowKit

set_option maxRecDepth 100000 in
set_option maxHeartbeats 2000000 in
theorem inidx_any (xs : List Int) (v : Value) (w : World) (hv : IntsD w v xs) (hn : xs.length ≤ 100000) (FL : Int → Bool) (p1 : Nat)
    (hF : ∀ w' i, (hi : i < xs.length) → Below w.heap.size w w' → Calls Try.prog 45 #[.int .i64 xs[i], .pointer (some ⟨p1, 0, none⟩)] w' fun e w'' => e = .returned (.bool (FL xs[i])) ∧ Below w'.heap.size w' w'') :
    Calls Try.prog 57 #[v, .func (.func 45) #[] #[.pointer (some ⟨p1, 0, none⟩)]] w (IdxAns (!(xs.all fun x => !FL x)) w) := by
  obtain ⟨B, hB⟩ : ∃ B, ((xs.drop 0).all fun x => !FL x) = B := ⟨_, rfl⟩
  rw [show (xs.all fun x => !FL x) = B from hB]
  have HB0 := Lib.hid hB
  obtain ⟨ad, cap, rfl, hcap1, hcap2, hc⟩ := hv
  have HC := Lib.hid hc
  have HF := Lib.hid hF
  obtain ⟨n, hN⟩ : ∃ n, n = xs.length := ⟨_, rfl⟩
  rw [← hN] at hn ⊢
  have HN := Lib.hid hN
  clear hN hB hc hF hcap1 hcap2
  go_enter Try.func57, Try.ntmps57
  go_wp2_with fail
  go_loopg [8] n (fun fuel i' wr => ∃ k : Nat, i' = .int .i64 k ∧ k ≤ n ∧ n - k ≤ fuel ∧ ((xs.drop k).all fun x => !FL x) = B ∧ Below w.heap.size w wr)
  case atStart => exact ⟨0, rfl, Nat.zero_le _, Nat.le_refl _, HB0.out, Below.refl _ _⟩
  case round =>
    obtain ⟨k, rfl, hk, hf, ha, hb⟩ := hrel
    have HA := Lib.hid ha
    have HB := Lib.hid hb
    have hww := hb.size
    clear ha hb
    by_cases hlt : k < n
    · have hk' : k < xs.length := by have := HN.out; omega
      have HD := Lib.hid (List.drop_eq_getElem_cons hk')
      obtain ⟨b, off, rfl, hbl, x0⟩ := HC.out k hk'
      have HFL := Lib.hid (HF.out wr k hk' HB.out)
      obtain ⟨q, hq⟩ : ∃ q, FL xs[k] = q := ⟨_, rfl⟩
      rw [hq] at HFL
      have HQ := Lib.hid hq
      obtain ⟨xn, hx⟩ : ∃ x, x = xs[k] := ⟨_, rfl⟩
      rw [← hx] at x0 HFL
      simp only [IntAt, Nat.mul_one] at x0 HFL
      have c0 : wr.cell? ⟨b, off + k, none⟩ = some (.int .i64 xn) := (HB.out.cell (p := ⟨b, _, none⟩) hbl).trans x0
      clear x0 hx hq
      go_wp2_with fail
      refine HFL.out.mono ?_
      rintro e w2 ⟨rfl, hb2⟩
      have HB2 := Lib.hid (HB.out.trans (hb2.mono hww))
      clear hb2 c0
      cases q with
      | false =>
        go_wp2
        go_roundg (gk - 1)
        case measure => omega
        case rel =>
          refine ⟨k + 1, by go_num, by omega, by omega, ?_, HB2.out⟩
          have h2 := HA.out
          rw [HD.out, List.all_cons, HQ.out] at h2
          simpa using h2
      | true =>
        go_wp2
        go_ret
        refine ⟨k, rfl, ?_, HB2.out⟩
        have h2 := HA.out
        rw [HD.out, List.all_cons, HQ.out] at h2
        rw [← h2]; simp
    · have HE := Lib.hid (drop_over xs k (by have := HN.out; omega))
      go_wp2
      go_ret
      refine ⟨-1, rfl, ?_, HB.out⟩
      have := HA.out
      rw [HE.out] at this
      rw [← this]; rfl

set_option maxRecDepth 100000 in
set_option maxHeartbeats 400000 in
theorem incont_any (xs : List Int) (v : Value) (w : World) (hv : IntsD w v xs) (hn : xs.length ≤ 100000) (FL : Int → Bool) (p1 : Nat)
    (hF : ∀ w' i, (hi : i < xs.length) → Below w.heap.size w w' → Calls Try.prog 45 #[.int .i64 xs[i], .pointer (some ⟨p1, 0, none⟩)] w' fun e w'' => e = .returned (.bool (FL xs[i])) ∧ Below w'.heap.size w' w'') (b : Bool) (hb : (xs.all fun x => !FL x) = b) :
    Calls Try.prog 44 #[v, .func (.func 45) #[] #[.pointer (some ⟨p1, 0, none⟩)]] w fun e w' => e = .returned (.bool (!b)) ∧ Below w.heap.size w w' := by
  have H := inidx_any xs v w hv hn FL p1 hF
  rw [hb] at H
  clear hv hn hb hF
  go_enter Try.func44, Try.ntmps44
  go_wp2_with fail
  refine H.mono ?_
  rintro e w2 ⟨z, rfl, hz, hb2⟩
  have HZ := Lib.hid hz
  clear hz
  go_wp2
  go_ret
  exact ⟨ret_bool HZ.out, hb2⟩

theorem calls_below {f : Nat} {args : Array Value} {w : World} {v : Value} (h : Calls Try.prog f args w fun e w' => e = .returned v ∧ w = w') : Calls Try.prog f args w fun e w' => e = .returned v ∧ Below w.heap.size w w' :=
  h.mono fun _ _ ⟨e, k⟩ => ⟨e, k ▸ Below.refl _ _⟩
theorem calls_quiet {f : Nat} {args : Array Value} {w : World} {j : Nat} {v : Value} (h : Calls Try.prog f args (w.drewN j) fun e w' => e = .returned v ∧ w.drewN j = w') : Calls Try.prog f args (w.drewN j) fun e w' => e = .returned v ∧ ∃ m, w' = w.drewN m :=
  h.mono fun _ _ ⟨e, k⟩ => ⟨e, _, k.symm⟩

theorem lr1_any (x m : Int) (v1 v2 v3 : Value) (p : Nat) (w : World) (hk : Bk w p 25 #[.int .i64 m, v1, v2, v3]) (b : Bool) (hb : inB x m = b) :
    Calls Try.prog 45 #[.int .i64 x, .pointer (some ⟨p, 0, none⟩)] w fun e w' => e = .returned (.bool (!b)) ∧ Below w.heap.size w w' := by
  have c0 : w.cell? ⟨p, 0, none⟩ = some (.int .i64 m) := hk.cell 0
  have l1 := hk.lt
  have H := Lib.hid (lbelow_is x m b hb)
  clear hb hk
  go_enter Try.func45, Try.ntmps45
  go_wp2_with (go_at_call 46; refine (H.out _).mono ?_; rintro e w2 ⟨rfl, rfl⟩)
  all_goals
    go_ret
    exact ⟨rfl, by first | exact Below.refl _ _ | exact (Below.refl _ _).alloc (Nat.le_refl _) _⟩

theorem thrF_at (locs : Int) (rs : List Int) (cs : List (List II × Value)) (k : Nat) (h1 : k < rs.length) (h2 : k < cs.length) : thrF locs (rs.drop k) (cs.drop k) = ((inB rs[k] 7 && seqB cs[k].1 rs[k] locs) && thrF locs (rs.drop (k + 1)) (cs.drop (k + 1))) := by
  rw [List.drop_eq_getElem_cons h1, List.drop_eq_getElem_cons h2]; rfl
theorem thrF_over (locs : Int) (rs : List Int) (cs : List (List II × Value)) (k : Nat) (h1 : ¬ k < rs.length) : thrF locs (rs.drop k) (cs.drop k) = true := by
  rw [List.drop_eq_nil_of_le (by omega)]; rfl

/-- Code that is not too long to be read. -/
def ShortU (u : Un) : Prop := u.init.length ≤ 100000 ∧ u.regs.length ≤ 100000 ∧ ∀ r ∈ u.code, r.1.length ≤ 100000 ∧ ∀ t ∈ r.1, t.x.e.length ≤ 100000 ∧ t.x.f.length ≤ 100000

theorem all_notI (l : List Int) (p : Int → Bool) : (l.all fun x => !(!p x)) = l.all p := by
  congr 1; funext x; exact Bool.not_not _

set_option maxRecDepth 100000 in
set_option maxHeartbeats 4000000 in
theorem lright_any (u : Un) (vi vr vc : Value) (w : World) (hd : UnD w vi vr vc u) (hs : ShortU u) (b : Bool) (hb : rightU u = b) :
    Calls Try.prog 35 #[.agg #[.int .i64 u.mod, vi, vr, vc]] w fun e w' => e = .returned (.bool b) ∧ Below w.heap.size w w' := by
  have HD := Lib.hid hd
  obtain ⟨ai, ci, rfl⟩ := hd.i.shape0
  obtain ⟨ar, cr, rfl⟩ := hd.r.shape0
  obtain ⟨ac, cc, rfl⟩ := hd.c.shape0
  by_cases hP : 2 ≤ u.mod ∧ u.mod ≤ 16 ∧ u.init.length ≤ 6 ∧ 1 ≤ u.regs.length ∧ u.regs.length ≤ 4 ∧ u.code.length = u.regs.length
  · obtain ⟨m, hm⟩ : ∃ m, m = u.mod := ⟨_, rfl⟩
    have HBB : Hid ((u.init.all (fun n => inB n m) && thrF u.init.length u.regs u.code) = b) := Lib.hid (by rw [← hb, hm]; unfold rightU; rw [decide_eq_true hP, Bool.true_and])
    have HCT := Lib.hid (fun (W : World) (hbw : Below w.heap.size w W) (p : Nat) (v1 v2 v3 : Value) (hk : Bk W p 25 #[.int .i64 m, v1, v2, v3]) =>
      incont_any u.init _ W (IntsD.below hd.i hbw) hs.1 (fun x => !inB x m) p (fun w' i hi hbw' => lr1_any u.init[i] m v1 v2 v3 p w' (hk.below hbw') _ rfl) _ (all_notI u.init (fun x => inB x m)))
    have HS := Lib.hid hs
    rw [← hm] at hP ⊢
    obtain ⟨ni, hni⟩ : ∃ n, n = u.init.length := ⟨_, rfl⟩
    obtain ⟨nr, hnr⟩ : ∃ n, n = u.regs.length := ⟨_, rfl⟩
    obtain ⟨nc, hnc⟩ : ∃ n, n = u.code.length := ⟨_, rfl⟩
    have HNI := Lib.hid hni
    have HNR := Lib.hid hnr
    have HNC := Lib.hid hnc
    rw [← hni] at hP HD HCT HBB ⊢
    rw [← hnr] at hP HD ⊢
    rw [← hnc] at hP HD ⊢
    have HP := Lib.hid hP
    obtain ⟨p1, p2, p3, p4, p5, p6⟩ := hP
    have g1 : ¬ m < 2 := by omega
    have g2 : ¬ 16 < m := by omega
    have g3 : ¬ (6 : Int) < (ni : Int) := by omega
    have g4 : ¬ (nr : Int) < 1 := by omega
    have g5 : ¬ (4 : Int) < (nr : Int) := by omega
    have g6 : ((nc : Int) == (nr : Int)) = true := by simp; omega
    generalize hA : (u.init.all fun x => inB x m) = qa at HCT HBB
    have K1 := Lib.hid (Bk.new w 25 #[.int .i64 m, .slice ai ni ci, .slice ar nr cr, .slice ac nc cc])
    have L1 : Hid (Below w.heap.size w (w.alloc (.cells #[.int .i64 m, .slice ai ni ci, .slice ar nr cr, .slice ac nc cc] 25))) := (Below.refl _ _).alloc (Nat.le_refl _) _
    clear hd hs hb hm hni hnr hnc p1 p2 p3 p4 p5 p6 hA
    go_enter Try.func35, Try.ntmps35
    go_wp2_with fail
    generalize w.alloc _ = w1 at K1 L1 ⊢
    refine (HCT.out w1 L1.out w.heap.size _ _ _ K1.out).mono ?_
    rintro e w2 ⟨rfl, b2⟩
    have K2 := Lib.hid (K1.out.below b2)
    have L2 := Lib.hid (L1.out.trans (b2.mono L1.out.size))
    have c1 : w2.cell? ⟨w.heap.size, 1, none⟩ = some (.slice ai ni ci) := K2.out.cell 1
    have c2 : w2.cell? ⟨w.heap.size, 2, none⟩ = some (.slice ar nr cr) := K2.out.cell 2
    have c3 : w2.cell? ⟨w.heap.size, 3, none⟩ = some (.slice ac nc cc) := K2.out.cell 3
    have l2 := K2.out.lt
    clear b2 K1 L1 HCT g1 g2 g3 g4 g5 g6
    cases qa with
    | false =>
      go_wp2_with fail
      go_ret
      exact ⟨ret_bool (by rw [← HBB.out]; rfl), L2.out⟩
    | true =>
      go_wp2_with fail
      go_loopg [45] nr (fun fuel i' wr => ∃ (k : Nat), i' = .int .i64 k ∧ k ≤ nr ∧ nr - k ≤ fuel ∧ thrF ni (u.regs.drop k) (u.code.drop k) = b ∧ Below w2.heap.size w2 wr)
      case atStart => exact ⟨0, rfl, Nat.zero_le _, Nat.le_refl _, by have := HBB.out; rw [Bool.true_and] at this; exact this, Below.refl _ _⟩
      case round =>
        obtain ⟨k, rfl, hk, hf, ha, hb⟩ := hrel
        have HA := Lib.hid ha
        have HB := Lib.hid hb
        clear ha hb
        by_cases hlt : k < nr
        · have hk1 : k < u.regs.length := by rw [← HNR.out]; exact hlt
          have hk2 : k < u.code.length := by rw [← HNC.out, HP.out.2.2.2.2.2]; exact hlt
          have HE := Lib.hid (thrF_at ni u.regs u.code k hk1 hk2)
          have HDR := Lib.hid (HD.out.below (L2.out.trans (HB.out.mono L2.out.size)))
          have KR := Lib.hid (K2.out.below HB.out)
          obtain ⟨br, offr, rfl, hbr, y0⟩ := IntsD.at2 HDR.out.r k hk1
          obtain ⟨bc, offc, rfl, hbc, hx⟩ := SlD.at HDR.out.c k hk2
          obtain ⟨own, ho⟩ : ∃ o, o = u.regs[k] := ⟨_, rfl⟩
          have hlen := (HS.out.2.2 _ (List.getElem_mem hk2))
          obtain ⟨row, hrow⟩ : ∃ r, r = u.code[k] := ⟨_, rfl⟩
          rw [← ho] at y0 HE
          rw [← hrow] at hx HE hlen
          obtain ⟨ls, lv⟩ := row
          have HROW := Lib.hid hx.r
          have y1 : wr.cell? ⟨bc, offc + k, none⟩ = some lv := by have := hx.c; rw [Nat.mul_one] at this; exact this
          obtain ⟨al, cl, rfl⟩ : ∃ a c, lv = .slice a ls.length c := HROW.out.shape0
          have HSEQ := Lib.hid (fun (W : World) (hb : Below wr.heap.size wr W) => seq_any ls _ own ni W (InsD.below HROW.out hb) hlen.1 hlen.2 _ rfl)
          have HQ := Lib.hid (fun (W : World) => lbelow_is own 7 _ rfl W)
          have c1 : wr.cell? ⟨w.heap.size, 1, none⟩ = some (.slice ai ni ci) := KR.out.cell 1
          have c2 : wr.cell? ⟨w.heap.size, 2, none⟩ = some (.slice (some ⟨br, offr, none⟩) nr cr) := KR.out.cell 2
          have c3 : wr.cell? ⟨w.heap.size, 3, none⟩ = some (.slice (some ⟨bc, offc, none⟩) nc cc) := KR.out.cell 3
          have l3 := KR.out.lt
          have e1 : (0 : Int) ≤ (k : Int) := Int.natCast_nonneg _
          have e2 : (k : Int) < (nc : Int) := by have := HP.out.2.2.2.2.2; omega
          have e3 : k < nc := by have := HP.out.2.2.2.2.2; omega
          generalize ls.length = nl at HSEQ y1 hlen
          simp only [] at HE
          generalize hqs : seqB ls own ni = qs at HSEQ HE
          generalize hqb : inB own 7 = qb at HQ HE
          clear ho hrow hx hlen HROW hqs hqb hk1 hk2
          cases qb with
          | false =>
            have hbf : b = false := by rw [← HA.out, HE.out]; simp
            have HBF := Lib.hid hbf
            have HQ2 := Lib.hid (fun (W : World) (j : Nat) => calls_quiet (HQ.out (W.drewN j)))
            clear hbf HSEQ
            go_wp2_with fail
            go_quiet ((go_at_call 46; with_reducible exact HQ2.out _ _))
            go_wp2
            go_ret
            exact ⟨ret_bool HBF.out.symm, L2.out.trans ((below_drewN' HB.out _).mono L2.out.size)⟩
          | true =>
            have HQ3 := Lib.hid (fun (W : World) => calls_below (HQ.out W))
            have HCO := Lib.hid (SlD.at HDR.out.c k (by rw [← HNC.out]; exact e3))
            have KK := Lib.hid (fun W (hb : Below wr.heap.size wr W) => (⟨(KR.out.below hb).cell 1, (KR.out.below hb).cell 3, (hb.cell (p := ⟨bc, _, none⟩) hbc).trans y1, hb⟩ : W.cell? ⟨w.heap.size, 1, none⟩ = some (.slice ai ni ci) ∧ W.cell? ⟨w.heap.size, 3, none⟩ = some (.slice (some ⟨bc, offc, none⟩) nc cc) ∧ W.cell? ⟨bc, offc + k, none⟩ = some (.slice al nl cl) ∧ Below wr.heap.size wr W))
            have hb0 : Below wr.heap.size wr wr := Below.refl _ _
            go_wp2_with fail
            go_region_held3 (fun w' => w'.cell? ⟨w.heap.size, 1, none⟩ = some (.slice ai ni ci) ∧ w'.cell? ⟨w.heap.size, 3, none⟩ = some (.slice (some ⟨bc, offc, none⟩) nc cc) ∧ w'.cell? ⟨bc, offc + k, none⟩ = some (.slice al nl cl) ∧ Below wr.heap.size wr w')
              (first | exact ⟨c1, c3, y1, Below.refl _ _⟩ | exact ⟨c1, c3, y1, (Below.refl _ _).drew⟩ | assumption | (go_split_ands; exact KK.out _ bb))
              ((first
                | (go_at_call 46; go_split_ands; (with_reducible refine Calls.mono (HQ3.out _) ?_); rintro e wn ⟨rfl, bn⟩; have bb : Below wr.heap.size wr wn := Below.trans (by assumption) (bn.mono (Below.size (by assumption))))
                | (go_at_call 47; go_split_ands; (with_reducible refine Calls.mono (HSEQ.out _ (by assumption)) ?_); rintro e wn2 ⟨rfl, bn2⟩; have bb : Below wr.heap.size wr wn2 := Below.trans (by assumption) (bn2.mono (Below.size (by assumption))))))
            have BW := Lib.hid (HB.out.trans (bb.mono HB.out.size))
            clear HCO KK hb0 bb bn bn2
            cases qs with
            | false =>
              go_wp2
              go_ret
              exact ⟨ret_bool (by rw [← HA.out, HE.out]; simp), L2.out.trans (BW.out.mono L2.out.size)⟩
            | true =>
              have g5 : nr ≤ 4 := HP.out.2.2.2.2.1
              go_wp2
              go_roundg (gk - 1)
              case measure => omega
              case rel => exact ⟨k + 1, by go_num, by omega, by omega, by have h2 := HA.out; rw [HE.out] at h2; simpa using h2, BW.out⟩
        · have HE := Lib.hid (thrF_over ni u.regs u.code k (by rw [← HNR.out]; exact hlt))
          go_wp2
          go_ret
          exact ⟨ret_bool (by rw [← HA.out, HE.out]), L2.out.trans (HB.out.mono L2.out.size)⟩
  · have hbf : b = false := by rw [← hb]; unfold rightU; rw [decide_eq_false hP]; rfl
    have HBF := Lib.hid hbf
    obtain ⟨m, hm⟩ : ∃ m, m = u.mod := ⟨_, rfl⟩
    rw [← hm] at hP ⊢
    generalize u.init.length = ni at hP HD
    generalize u.regs.length = nr at hP HD
    generalize u.code.length = nc at hP HD
    clear hd hs hb hbf hm
    go_enter Try.func35, Try.ntmps35
    go_wp2_with fail
    all_goals first
      | (go_ret
         exact ⟨ret_bool HBF.out.symm, (Below.refl _ _).alloc (Nat.le_refl _) _⟩)
      | (exfalso
         simp only [bne_eq_false_iff_eq] at *
         omega)

end Go.Proofs.Ytmkgijedchpgcaa
