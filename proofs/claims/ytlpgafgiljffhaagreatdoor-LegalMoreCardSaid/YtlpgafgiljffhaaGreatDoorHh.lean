/- The reference's parser of programs: Parse. -/
import Derived.Test.YtlpgafgiljffhaaGreatDoorHg
import Derived.Test.YtlpgafgiljffhaaGreatDoorPo
import Derived.Deep.DeepCutAuto
namespace Go.Proofs.YtlpgafgiljffhaaGreatDoor
open Go.RowKit
set_option linter.unusedSimpArgs false
set_option linter.unusedVariables false
theorem results_prs {fn : Func} {p : Tmp} {e k : Tmp} (h : fn.results = #[.cell p 26, .tmp e, .tmp k]) (tmps : Array Value) (w : World) (b : Nat) (u0 u1 u2 u3 v1 v2 : Value) (hp : tmps.getD p undef = .pointer (some ⟨b, 0, none⟩)) (he : tmps.getD e undef = v1) (hk : tmps.getD k undef = v2) (hb : Bk w b 26 #[u0, u1, u2, u3]) :
    (results fn tmps).run Tryz.prog w = .ok (.tuple #[.agg #[u0, u1, u2, u3], v1, v2]) w := by
  have y0 := hb.cell 0
  have y1 := hb.cell 1
  have y2 := hb.cell 2
  have y3 := hb.cell 3
  have hp2 : tmps[p]?.getD undef = .pointer (some ⟨b, 0, none⟩) := by simpa using hp
  have he2 : tmps[e]?.getD undef = v1 := by simpa using he
  have hk2 : tmps[k]?.getD undef = v2 := by simpa using hk
  simp only [results, h]
  simp [hp2, he2, hk2, go_sem, y0, y1, y2, y3]
theorem below_setq {B b : Nat} {w w' : World} (h : Below B w w') (hb : B ≤ b) (x0 x1 x2 x3 : Value) : Below B w ((((w'.setCell ⟨b, 0, none⟩ x0).setCell ⟨b, 1, none⟩ x1).setCell ⟨b, 2, none⟩ x2).setCell ⟨b, 3, none⟩ x3) :=
  (((h.setCell (p := ⟨b, 0, none⟩) hb _).setCell (p := ⟨b, 1, none⟩) hb _).setCell (p := ⟨b, 2, none⟩) hb _).setCell (p := ⟨b, 3, none⟩) hb _
theorem bel_al2 (w : World) (o p : Obj) : Below w.heap.size w ((w.alloc o).alloc p) := ((Below.refl _ _).alloc (Nat.le_refl _) o).alloc (by rw [alloc_size]; omega) p
theorem bel_al (w : World) (o : Obj) : Below w.heap.size w (w.alloc o) := (Below.refl _ _).alloc (Nat.le_refl _) o
theorem scan_big (s : List UInt8) : (scanL s).1.length ≤ 100000 ∧ TokOK (scanL s).1 := by
  by_cases h20 : 20000 < s.length
  · have e : scanL s = ([], 2, 20000) := if_pos h20
    rw [e]
    exact ⟨Nat.zero_le _, fun i => by unfold tokO; rw [List.getElem?_eq_none (by simp)]; simp⟩
  · exact ⟨by have := scan_few s (by omega); omega, scan_tokOK s (by omega)⟩
theorem sown_shape2 {w : World} {B : Nat} {v : Value} {xs : List St} (h : SOwn w B v xs) : ∃ ad cap, v = .slice ad xs.length cap := by
  obtain ⟨ts, h1, h2, _⟩ := h
  obtain ⟨ad, cap, hv, _⟩ := own_shape h2
  exact ⟨ad, cap, by rw [hv, ← h1, List.length_map]⟩
set_option maxRecDepth 100000 in
set_option maxHeartbeats 16000000 in
theorem rprog_any (s : ByteArray) (w : World) (hl : s.size ≤ maxLen) :
    Calls Tryz.prog 28 #[.string s] w fun e w' => ∃ a b c, e = .returned (.tuple #[.agg #[.int .i64 (rparseG s.data.toList).1.mod, a, b, c], .int .i64 ((rparseG s.data.toList).2.1 : Nat), .int .i64 ((rparseG s.data.toList).2.2 : Nat)]) ∧ POwn w' w.heap.size a b c (rparseG s.data.toList).1 ∧ Below w.heap.size w w' := by
  have HSC := Lib.hid (fun W => rscan_any s W hl)
  unfold rparseG
  have hbig := scan_big s.data.toList
  have hnum := scan_num s.data.toList
  obtain ⟨⟨l, k, a⟩, hR⟩ : ∃ R, R = scanL s.data.toList := ⟨_, rfl⟩
  rw [← hR] at HSC hbig hnum ⊢
  simp only [] at hbig hnum ⊢
  have HBIG := Lib.hid hbig
  have HNUM := Lib.hid hnum
  have HBN := Lib.hid (Bk.new w 26 #[.int .i64 0, .slice none 0 0, .slice none 0 0, .slice none 0 0])
  clear hR hbig hnum hl
  by_cases hk : k = 0
  · subst hk
    simp only [ne_eq, not_true, if_false]
    obtain ⟨qz, hqz⟩ : ∃ q : Pq, q = ⟨0, 0, 0⟩ := ⟨_, rfl⟩
    obtain ⟨q0, hq0⟩ : ∃ q : Pq, q = if kyB l qz [109, 111, 100] = true then ⟨qz.n + 1, qz.k, qz.a⟩ else wrP l qz := ⟨_, rfl⟩
    obtain ⟨mm, hmm⟩ : ∃ m, m = rnuP l q0 := ⟨_, rfl⟩
    obtain ⟨q2, hq2⟩ : ∃ q, q = rsgP l mm.2 [59] := ⟨_, rfl⟩
    obtain ⟨A, hA⟩ : ∃ A, A = locL l (l.length + 2) q2 [] := ⟨_, rfl⟩
    obtain ⟨B, hB⟩ : ∃ B, B = thrL l (l.length + 2) A.2 [] := ⟨_, rfl⟩
    obtain ⟨C, hC⟩ : ∃ C, C = clmL l (l.length + 2) B.2 [] := ⟨_, rfl⟩
    obtain ⟨q9, hq9⟩ : ∃ q, q = if C.2.n < l.length then wrP l C.2 else C.2 := ⟨_, rfl⟩
    have hrr : rprP l = if q9.k ≠ 0 then (⟨0, [], [], []⟩, q9.k, q9.a) else (⟨mm.1, A.1, B.1, C.1⟩, 0, 0) := by
      subst hq9 hC hB hA hq2 hmm hq0 hqz; rfl
    obtain ⟨RR, hRR⟩ : ∃ RR, RR = rprP l := ⟨_, rfl⟩
    rw [← hRR]
    have HRR := Lib.hid (hRR.trans hrr)
    have HQ0 := Lib.hid hq0
    have HQZ := Lib.hid hqz
    have HA := Lib.hid hA
    have HB := Lib.hid hB
    have HC := Lib.hid hC
    have HQ9 := Lib.hid hq9
    have HMM := Lib.hid hmm
    have HQ2 := Lib.hid hq2
    obtain ⟨m0, hm0⟩ : ∃ m : Int, m = (mm.1 : Nat) := ⟨_, rfl⟩
    have HM0 := Lib.hid hm0
    clear hrr hRR hqz hq0 hmm hq2 hA hB hC hq9 hm0
    go_enter Tryz.func28, Tryz.ntmps28
    go_wp2_with fail
    refine (HSC.out _).mono ?_
    rintro e w1 ⟨v, rfl, o1, b1⟩
    have TS := toks_of_own o1 w1.heap.size (fun g hg => by have := (o1.lt g hg).2; omega)
    obtain ⟨ad, cap, rfl, _⟩ := own_shape o1
    have rb1 := HBN.out.below b1
    have hlw : w.heap.size < w1.heap.size := rb1.lt
    have hb2 := bel_al2 w1 (.cells #[.slice ad l.length cap, .int .i64 0, .int .i64 0, .int .i64 0] 86) (.cells #[.int .i64 0, .slice none 0 0, .slice none 0 0, .slice none 0 0] 26)
    have P0 : Hid (PFx w w1 l (.slice ad l.length cap) qz ((w1.alloc (.cells #[.slice ad l.length cap, .int .i64 0, .int .i64 0, .int .i64 0] 86)).alloc (.cells #[.int .i64 0, .slice none 0 0, .slice none 0 0, .slice none 0 0] 26)) ⟨0, [], [], []⟩ (.slice none 0 0) (.slice none 0 0) (.slice none 0 0)) := by
      rw [HQZ.out]
      exact Lib.hid ⟨⟨hbk_alloc (Bk.new w1 _ _) _, TS.keep (Below.keep hb2), HBIG.out.1, HBIG.out.2, HNUM.out⟩, hb2, TS, below_a b1, hlw, rb1.below hb2, hbk_new (by rw [alloc_size]), POwn.nil _ _ _, Nat.zero_le _, fun _ => Nat.zero_le _⟩
    clear o1 b1 TS rb1 hlw hb2 HBN HSC HBIG HNUM
    go_wp2_with fail
    generalize World.alloc (World.alloc _ _) _ = w2 at P0 ⊢
    obtain ⟨r, hr⟩ : ∃ r, kyB l qz [109, 111, 100] = r := ⟨_, rfl⟩
    refine (skey_any ⟨#[109, 111, 100]⟩ P0.out.rs).mono ?_
    rintro e w3 ⟨rfl, b3⟩
    have P1 := Lib.hid (P0.out.below b3)
    rw [show kyB l qz (⟨#[109, 111, 100]⟩ : ByteArray).data.toList = r from hr]
    clear b3 P0
    go_upto_if 29 with fail
    go_cut [] (fun wx => Hid (PFx w w1 l (.slice ad l.length cap) q0 wx ⟨0, [], [], []⟩ (.slice none 0 0) (.slice none 0 0) (.slice none 0 0)))
    case first =>
      cases r
      · have e : q0 = wrP l qz := by rw [HQ0.out, if_neg (by rw [hr]; decide)]
        clear hr HQ0
        go_wp2_with fail
        refine (swrong_any P1.out.rs).mono ?_
        rintro e w4 ⟨rfl, h4, k4⟩
        go_wp2_with fail
        go_meet
        rw [e]
        exact Lib.hid (P1.out.call h4 k4 (adv_wr l _))
      · have e : q0 = ⟨qz.n + 1, qz.k, qz.a⟩ := by rw [HQ0.out, if_pos hr]
        have hlt := (kyB_lt hr).2
        have d1 : w3.cell? ⟨w1.heap.size, 1, none⟩ = some (.int .i64 (qz.n : Int)) := P1.out.rs.cells.2.1
        have d2 := P1.out.rs.fz.1
        have d3 := P1.out.rs.bk.lt
        have e4 : IntKind.i64.wrap ((qz.n : Int) + 1) = (qz.n : Int) + 1 := IntWalk.i64_in _ (by have := P1.out.rs.hn; omega)
        have P2 := Lib.hid (P1.out.next hlt ((qz.n : Int) + 1) (by omega))
        clear hr HQ0 hlt
        go_wp2_with fail
        go_meet
        rw [e]
        exact P2
    case rest =>
      obtain ⟨w2, rfl⟩ : ∃ z, z = wc := ⟨_, rfl⟩
      have P1 := hcut
      clear hcut
      go_wp2_with fail
      refine (snumber_any P1.out.rs).mono ?_
      rintro e w4 ⟨rfl, h4, k4⟩
      have P2 := Lib.hid (P1.out.call h4 k4 (adv_nu l _))
      rw [← HMM.out] at P2 ⊢
      rw [← HM0.out]
      have x0 := P2.out.xb.cell 0
      have x1 := P2.out.xb.fz 0
      have x2 := P2.out.xb.lt
      have P3 := Lib.hid (P2.out.mod m0)
      clear h4 k4 P1 P2
      go_wp2_with fail
      clear x0 x1 x2
      generalize World.setCell _ _ _ = w5 at P3 ⊢
      refine (ssign_any ⟨#[59]⟩ P3.out.rs).mono ?_
      rintro e w6 ⟨rfl, h6, k6⟩
      have h6 : Rs w6 w1.heap.size l (.slice ad l.length cap) q2 := by rw [HQ2.out]; exact h6
      have P4 := Lib.hid (P3.out.call h6 k6 (by rw [HQ2.out]; exact adv_sg l _ _))
      clear h6 k6 P3
      have P3 : Hid (PFx w w1 l (.slice ad l.length cap) q2 w6 ⟨m0, [], [], []⟩ (.slice none 0 0) (.slice none 0 0) (.slice none 0 0)) := P4
      clear P4
      go_wp2_with fail
      go_loopg [] (l.length + 2) (fun fuel wr => ∃ (q' : Pq) (a' : List Vr) (x y z : Value), locL l fuel q' a' = A ∧ (q'.k = 0 → l.length < q'.n + fuel) ∧ Hid (PFx w w1 l (.slice ad l.length cap) q' wr ⟨m0, a', [], []⟩ x y z))
      case atStart => exact ⟨q2, [], _, _, _, HA.out.symm, fun _ => by omega, P3⟩
      case round =>
        clear P3
        obtain ⟨q', a', x, y, z, hA, hfu, hp⟩ := hrel
        obtain ⟨r, hr⟩ : ∃ r, kyB l q' [108, 111, 99] = r := ⟨_, rfl⟩
        go_wp2_with fail
        refine (skey_any ⟨#[108, 111, 99]⟩ hp.out.rs).mono ?_
        rintro e w2 ⟨rfl, b2⟩
        have HP2 := Lib.hid (hp.out.below b2)
        rw [show kyB l q' (⟨#[108, 111, 99]⟩ : ByteArray).data.toList = r from hr]
        clear b2 hp
        cases r
        · have HX : Hid (A = (a', q')) := Lib.hid (by rw [← hA]; rcases gk with _ | f9; (· rfl); (· unfold locL; rw [if_neg (by rw [hr]; decide)]))
          clear hA hfu hr
          have P3 : Hid (PFx w w1 l (.slice ad l.length cap) A.2 w2 ⟨m0, A.1, [], []⟩ x y z) := by rw [HX.out]; exact HP2
          clear HP2 HX
          go_wp2_with fail
          go_loopg [] (l.length + 2) (fun fuel wr => ∃ (q' : Pq) (a' : List Th) (x y z : Value), thrL l fuel q' a' = B ∧ (q'.k = 0 → l.length < q'.n + fuel) ∧ Hid (PFx w w1 l (.slice ad l.length cap) q' wr ⟨m0, A.1, a', []⟩ x y z))
          case atStart => exact ⟨A.2, [], _, _, _, HB.out.symm, fun _ => by omega, P3⟩
          case round =>
            clear P3
            obtain ⟨q', a', x, y, z, hA, hfu, hp⟩ := hrel
            obtain ⟨r, hr⟩ : ∃ r, kyB l q' [116, 104, 114, 101, 97, 100] = r := ⟨_, rfl⟩
            go_wp2_with fail
            refine (skey_any ⟨#[116, 104, 114, 101, 97, 100]⟩ hp.out.rs).mono ?_
            rintro e w2 ⟨rfl, b2⟩
            have HP2 := Lib.hid (hp.out.below b2)
            rw [show kyB l q' (⟨#[116, 104, 114, 101, 97, 100]⟩ : ByteArray).data.toList = r from hr]
            clear b2 hp
            cases r
            · have HX : Hid (B = (a', q')) := Lib.hid (by rw [← hA]; rcases gk with _ | f9; (· rfl); (· unfold thrL; rw [if_neg (by rw [hr]; decide)]))
              clear hA hfu hr
              have P3 : Hid (PFx w w1 l (.slice ad l.length cap) B.2 w2 ⟨m0, A.1, B.1, []⟩ x y z) := by rw [HX.out]; exact HP2
              clear HP2 HX
              go_wp2_with fail
              go_loopg [] (l.length + 2) (fun fuel wr => ∃ (q' : Pq) (a' : List Cl) (x y z : Value), clmL l fuel q' a' = C ∧ (q'.k = 0 → l.length < q'.n + fuel) ∧ Hid (PFx w w1 l (.slice ad l.length cap) q' wr ⟨m0, A.1, B.1, a'⟩ x y z))
              case atStart => exact ⟨B.2, [], _, _, _, HC.out.symm, fun _ => by omega, P3⟩
              case round =>
                clear P3
                obtain ⟨q', a', x, y, z, hA, hfu, hp⟩ := hrel
                obtain ⟨kd, hkd⟩ : ∃ k, kdP l q' = k := ⟨_, rfl⟩
                go_wp2_with fail
                refine (skind_any hp.out.rs).mono ?_
                rintro e w2 ⟨rfl, b2⟩
                have HP2 := Lib.hid (hp.out.below b2)
                rw [hkd]
                clear b2 hp
                by_cases hpos : 0 < kd
                · have hpos' : 0 < kdP l q' := by rw [hkd]; exact hpos
                  obtain ⟨hk, hlt⟩ := kdP_lt hpos'
                  obtain ⟨f, rfl⟩ : ∃ f, gk = f + 1 := ⟨gk - 1, by have := hfu hk; omega⟩
                  have HT := Lib.hid (fun (W : World) (hW : Rs W w1.heap.size l (.slice ad l.length cap) q') => sclaim_any hW (kd : Int) hk hlt)
                  have hkk : (rclP l q' (kd : Int)).1.kind = kd := by unfold rclP; split <;> rfl
                  have hpl : (rclP l q' (kd : Int)).1.pl = ((tokO l q'.n).2.2.2 : Nat) := by unfold rclP; split <;> rfl
                  have hadv := adv_cl HP2.out.rs.hok hlt (kd : Int)
                  obtain ⟨X, hX⟩ : ∃ X, X = (rclP l q' (kd : Int)).1 := ⟨_, rfl⟩
                  obtain ⟨q4, hq4⟩ : ∃ q, q = (rclP l q' (kd : Int)).2 := ⟨_, rfl⟩
                  rw [← hX, ← hq4] at HT
                  rw [← hX] at hpl hkk
                  rw [← hpl] at HT
                  rw [← hq4] at hadv
                  have HX : Hid (clmL l f q4 (a' ++ [X]) = C) := Lib.hid (by rw [← hA, hX, hq4]; conv => rhs; unfold clmL; rw [if_pos hpos', hkd])
                  have HKD := Lib.hid fun (W : World) (hW : Rs W w1.heap.size l (.slice ad l.length cap) q') => skind_any hW
                  rw [hkd] at HKD
                  have HADV := Lib.hid hadv
                  have HFU := Lib.hid (hfu hk)
                  have HLT := Lib.hid hlt
                  have HKK := Lib.hid hkk
                  have HN : Hid (l.length ≤ 100000) := Lib.hid HP2.out.rs.hn
                  have HLK : Hid (A.1.length + B.1.length + a'.length ≤ q'.n) := Lib.hid (by have := HP2.out.lek hk; simpa using this)
                  have hpz : (0 : Int) < (kd : Int) := by omega
                  clear hX hA hfu hq4 hpl hadv hpos' hpos hkd hkk
                  go_wp2_with fail
                  refine (HKD.out _ HP2.out.rs).mono ?_
                  rintro e w3 ⟨rfl, b3⟩
                  have HP3 := Lib.hid (HP2.out.below b3)
                  clear b3 HP2
                  go_wp2_with fail
                  refine (HT.out _ HP3.out.rs).mono ?_
                  rintro e w4 ⟨ve, rfl, h4, k4, i1⟩
                  have HP4 := Lib.hid (HP3.out.call h4 k4 ((adv_step HLT.out).trans HADV.out))
                  have I1 := Lib.hid (own_mono i1 (Nat.zero_le _))
                  have HV1 := Lib.hid (own_one i1)
                  clear h4 k4 HT HP3 HKD
                  obtain ⟨ad1, cap1, rfl, _⟩ := own_shape i1
                  clear i1
                  obtain ⟨n1, hn1⟩ : ∃ n, n = X.e.length := ⟨_, rfl⟩
                  rw [← hn1] at I1 HV1 ⊢
                  rw [← HKK.out]
                  have HN1 := Lib.hid hn1
                  have x0 := HP4.out.xb.cell 3
                  have xl := HP4.out.xb.lt
                  have HPA := Lib.hid (HP4.out.below (bel_al2 w4 (.cells #[.int .i64 X.kind, .slice ad1 n1 cap1, .int .i64 X.pl] 49) (.cells #[.int .i64 X.kind, .slice ad1 n1 cap1, .int .i64 X.pl] 49)))
                  have J1 := Lib.hid (own_below I1.out (bel_al2 w4 (.cells #[.int .i64 X.kind, .slice ad1 n1 cap1, .int .i64 X.pl] 49) (.cells #[.int .i64 X.kind, .slice ad1 n1 cap1, .int .i64 X.pl] 49)))
                  obtain ⟨ts, e1, hv, hT⟩ := HPA.out.po.c
                  have hel : ts.length = a'.length := by rw [← List.length_map (f := (·.1)), e1]
                  have hla : ts.length ≤ 1000000 := by have := HLK.out; have := HLT.out; have := HN.out; omega
                  have hsz9 := HPA.out.bl.size
                  have E1 := Lib.hid e1
                  have HTT := Lib.hid hT
                  have HEL := Lib.hid hel
                  clear e1 hT hel hn1 hpz
                  go_wp2_with (at_builtin; refine append_oneG 24 49 3 40 (.agg #[.int .i64 0, .slice none 0 0, .int .i64 0]) Tryz.underlying24 info_clm rfl (by decide) (by decide) rfl (.tmp 96) (.tmp 98) rfl w1.heap.size ts.length _ _ [.int .i64 X.kind, .slice ad1 n1 cap1, .int .i64 X.pl] rfl (w4.heap.size + 1) (by simp [Act.eval, alloc_size]) hv rfl (fun j _ => by simp [alloc_size]) (fun u hu => by simp only [List.mem_cons, List.not_mem_nil, or_false] at hu; rcases hu with rfl | rfl | rfl; (· rfl); (· exact HV1.out); (· rfl)) hla hsz9 ?_)
                  intro v9 w10 ho10 hb10 hg10
                  obtain ⟨ad9, cap9, rfl, _⟩ := own_shape ho10
                  have hgx := HPA.out.grownX hv (by decide) (by decide) hg10
                  have t0 := hgx.2.2.2.cell 3
                  have t1 := hgx.2.2.2.fz 3
                  have t2 := hgx.2.2.2.lt
                  have HPB := Lib.hid (HPA.out.appC (X := X) (by have := HLK.out; have := HLT.out; simp only [List.length_nil]; omega) (fun h4 => by have := (HADV.out h4).2.1; have := HLK.out; simp only [] at *; omega) E1.out hv HTT.out (by rw [← HN1.out]; exact J1.out) ho10 hg10)
                  clear hgx hv hsz9 ho10 hg10 hb10 x0 xl HPA HP4
                  go_wp2_with fail
                  go_roundg f
                  case measure => omega
                  case rel => exact ⟨q4, _, x, y, _, HX.out, fun h4 => by have := (HADV.out h4).2.1; have := HFU.out; simp only [] at *; omega, HPB⟩
                · have HX : Hid (C = (a', q')) := Lib.hid (by rw [← hA]; rcases gk with _ | f9; (· rfl); (· unfold clmL; rw [if_neg (by rw [hkd]; exact hpos)]))
                  have hpz : ¬ (0 : Int) < (kd : Int) := by omega
                  clear hA hfu hkd hpos
                  have P3 : Hid (PFx w w1 l (.slice ad l.length cap) C.2 w2 ⟨m0, A.1, B.1, C.1⟩ x y z) := by rw [HX.out]; exact HP2
                  clear HP2 HX
                  have d1 : w2.cell? ⟨w1.heap.size, 1, none⟩ = some (.int .i64 (C.2.n : Int)) := P3.out.rs.cells.2.1
                  have d3 := P3.out.rs.bk.lt
                  go_upto_if 107 with fail
                  go_cut [] (fun wx => Hid (PFx w w1 l (.slice ad l.length cap) q9 wx ⟨m0, A.1, B.1, C.1⟩ x y z))
                  case first =>
                    by_cases hlt : C.2.n < l.length
                    · have e : q9 = wrP l C.2 := by rw [HQ9.out, if_pos hlt]
                      have e2 : (C.2.n : Int) < (l.length : Int) := by omega
                      go_wp2_with fail
                      refine (swrong_any P3.out.rs).mono ?_
                      rintro e w4 ⟨rfl, h4, k4⟩
                      go_wp2_with fail
                      go_meet
                      rw [e]
                      exact Lib.hid (P3.out.call h4 k4 (adv_wr l _))
                    · have e : q9 = C.2 := by rw [HQ9.out, if_neg hlt]
                      have e2 : ¬ (C.2.n : Int) < (l.length : Int) := by omega
                      go_wp2_with fail
                      go_meet
                      rw [e]
                      exact P3
                  case rest =>
                    clear d1 d3 P3
                    obtain ⟨w3, rfl⟩ : ∃ z, z = wc := ⟨_, rfl⟩
                    have P4 := hcut
                    clear hcut HQ9 HA HB HC HMM HQ2 HQ0
                    have d2 : w3.cell? ⟨w1.heap.size, 2, none⟩ = some (.int .i64 (q9.k : Int)) := P4.out.rs.cells.2.2.1
                    have d4 : w3.cell? ⟨w1.heap.size, 3, none⟩ = some (.int .i64 (q9.a : Int)) := P4.out.rs.cells.2.2.2
                    have d3 := P4.out.rs.bk.lt
                    have e0 := P4.out.rb.cell 0
                    have e1 := P4.out.rb.cell 1
                    have e2 := P4.out.rb.cell 2
                    have e3 := P4.out.rb.cell 3
                    have g0 := P4.out.rb.fz 0
                    have g1 := P4.out.rb.fz 1
                    have g2 := P4.out.rb.fz 2
                    have g3 := P4.out.rb.fz 3
                    have rl := P4.out.rb.lt
                    obtain ⟨a1, n1, c1, rfl⟩ : ∃ a n c, x = .slice a n c := by obtain ⟨a, c, h, _⟩ := own_shape P4.out.po.l; exact ⟨a, _, c, h⟩
                    obtain ⟨a2, n2, c2, rfl⟩ : ∃ a n c, y = .slice a n c := by obtain ⟨a, c, h⟩ := P4.out.po.t.shape; exact ⟨a, _, c, h⟩
                    obtain ⟨a3, n3, c3, rfl⟩ : ∃ a n c, z = .slice a n c := by obtain ⟨a, c, h⟩ := P4.out.po.c.shape; exact ⟨a, _, c, h⟩
                    have x0 := P4.out.xb.cell 0
                    have x1 := P4.out.xb.cell 1
                    have x2 := P4.out.xb.cell 2
                    have x3 := P4.out.xb.cell 3
                    have xl := P4.out.xb.lt
                    have HBE : Hid (Below w.heap.size w w3) := Lib.hid (P4.out.b0.trans (P4.out.bl.mono (Nat.le_of_lt P4.out.lw)))
                    have HPO := Lib.hid (pown_mono P4.out.po (Nat.le_of_lt P4.out.lw))
                    have HRB := Lib.hid P4.out.rb
                    have hlw := P4.out.lw
                    have hne1 : w1.heap.size ≠ w.heap.size := by omega
                    have hne2 : w.heap.size ≠ w1.heap.size := by omega
                    clear P4
                    by_cases hk : q9.k = 0
                    · have e : RR = (⟨m0, A.1, B.1, C.1⟩, 0, 0) := by rw [HRR.out, if_neg (fun h => h hk), HM0.out]
                      have q1 : ((q9.k : Int) != 0) = false := by simp; omega
                      subst e
                      clear HRR hk
                      go_wp2
                      have j0 := HRB.out
                      have j1 := j0.set 0 (.int .i64 m0)
                      have j2 := j1.set 1 (.slice a1 n1 c1)
                      have j3 := j2.set 2 (.slice a2 n2 c2)
                      have j4 := j3.set 3 (.slice a3 n3 c3)
                      refine bodyPost_ret (v := .tuple #[.agg #[.int .i64 m0, .slice a1 n1 c1, .slice a2 n2 c2, .slice a3 n3 c3], .int .i64 0, .int .i64 0]) (results_prs rfl _ _ _ _ _ _ _ _ _ rfl rfl rfl j4) rfl ?_
                      exact ⟨_, _, _, rfl, (((HPO.out.setBk j0).setBk j1).setBk j2).setBk j3, below_setq HBE.out (Nat.le_refl _) _ _ _ _⟩
                    · have e : RR = (⟨0, [], [], []⟩, q9.k, q9.a) := by rw [HRR.out, if_pos hk]
                      have q1 : ((q9.k : Int) != 0) = true := by simp; omega
                      subst e
                      clear HRR hk
                      go_wp2
                      go_region
                      go_wp2
                      have j0 := HRB.out
                      have j1 := j0.set 0 (.int .i64 0)
                      have j2 := j1.set 1 (.slice none 0 0)
                      have j3 := j2.set 2 (.slice none 0 0)
                      have j4 := j3.set 3 (.slice none 0 0)
                      refine bodyPost_ret (v := .tuple #[.agg #[.int .i64 0, .slice none 0 0, .slice none 0 0, .slice none 0 0], .int .i64 q9.k, .int .i64 q9.a]) (results_prs rfl _ _ _ _ _ _ _ _ _ rfl rfl rfl (hbk_drew j4)) rfl ?_
                      exact ⟨_, _, _, rfl, POwn.nil _ _ _, (below_setq HBE.out (Nat.le_refl _) _ _ _ _).drew⟩
            · obtain ⟨hk, hlt⟩ := kyB_lt hr
              obtain ⟨f, rfl⟩ : ∃ f, gk = f + 1 := ⟨gk - 1, by have := hfu hk; omega⟩
              have HT := Lib.hid (sthread_any HP2.out.rs hk hlt)
              have hpl : (rthP l q').1.pl = ((tokO l q'.n).2.2.2 : Nat) := rfl
              have hadv := adv_th HP2.out.rs.hok hlt
              obtain ⟨X, hX⟩ : ∃ X, X = (rthP l q').1 := ⟨_, rfl⟩
              obtain ⟨q4, hq4⟩ : ∃ q, q = (rthP l q').2 := ⟨_, rfl⟩
              rw [← hX, ← hq4] at HT
              rw [← hX] at hpl
              rw [← hpl] at HT
              rw [← hq4] at hadv
              have HX : Hid (thrL l f q4 (a' ++ [X]) = B) := Lib.hid (by rw [← hA, hX, hq4]; conv => rhs; unfold thrL; rw [if_pos hr])
              have HADV := Lib.hid hadv
              have HFU := Lib.hid (hfu hk)
              have HLT := Lib.hid hlt
              have HN : Hid (l.length ≤ 100000) := Lib.hid HP2.out.rs.hn
              have HLK : Hid (A.1.length + a'.length ≤ q'.n) := Lib.hid (by have := HP2.out.lek hk; simpa using this)
              clear hX hA hfu hr hq4 hpl hadv
              go_wp2_with fail
              refine HT.out.mono ?_
              rintro e w3 ⟨vr, vb, rfl, h3, k3, i1, i2⟩
              have HP3 := Lib.hid (HP2.out.call h3 k3 ((adv_step HLT.out).trans HADV.out))
              have I1 := Lib.hid (own_mono i1 (Nat.zero_le _))
              have I2 := Lib.hid (i2.mono (Nat.zero_le _))
              have HV1 := Lib.hid (own_one i1)
              have HV2 := Lib.hid (sown_one i2)
              clear h3 k3 HT HP2
              obtain ⟨ad1, cap1, rfl, _⟩ := own_shape i1
              obtain ⟨ad2, cap2, rfl⟩ := sown_shape2 i2
              clear i1 i2
              obtain ⟨n1, hn1⟩ : ∃ n, n = X.regs.length := ⟨_, rfl⟩
              obtain ⟨n2, hn2⟩ : ∃ n, n = X.body.length := ⟨_, rfl⟩
              rw [← hn1] at I1 HV1 ⊢
              rw [← hn2] at I2 HV2 ⊢
              have HN1 := Lib.hid hn1
              have x0 := HP3.out.xb.cell 2
              have xl := HP3.out.xb.lt
              have HPA := Lib.hid (HP3.out.below (bel_al2 w3 (.cells #[.string X.nm, .slice ad1 n1 cap1, .slice ad2 n2 cap2, .int .i64 X.pl] 43) (.cells #[.string X.nm, .slice ad1 n1 cap1, .slice ad2 n2 cap2, .int .i64 X.pl] 43)))
              have J1 := Lib.hid (own_below I1.out (bel_al2 w3 (.cells #[.string X.nm, .slice ad1 n1 cap1, .slice ad2 n2 cap2, .int .i64 X.pl] 43) (.cells #[.string X.nm, .slice ad1 n1 cap1, .slice ad2 n2 cap2, .int .i64 X.pl] 43)))
              have J2 := Lib.hid (I2.out.below (bel_al2 w3 (.cells #[.string X.nm, .slice ad1 n1 cap1, .slice ad2 n2 cap2, .int .i64 X.pl] 43) (.cells #[.string X.nm, .slice ad1 n1 cap1, .slice ad2 n2 cap2, .int .i64 X.pl] 43)))
              obtain ⟨ts, e1, hv, hT⟩ := HPA.out.po.t
              have hel : ts.length = a'.length := by rw [← List.length_map (f := (·.1)), e1]
              have hla : ts.length ≤ 1000000 := by have := HLK.out; have := HLT.out; have := HN.out; omega
              have hsz9 := HPA.out.bl.size
              have E1 := Lib.hid e1
              have HTT := Lib.hid hT
              have HEL := Lib.hid hel
              clear e1 hT hel hn1 hn2
              go_wp2_with (at_builtin; refine append_oneG 23 43 4 72 (.agg #[.string ⟨#[]⟩, .slice none 0 0, .slice none 0 0, .int .i64 0]) Tryz.underlying23 info_thr rfl (by decide) (by decide) rfl (.tmp 83) (.tmp 85) rfl w1.heap.size ts.length _ _ [.string X.nm, .slice ad1 n1 cap1, .slice ad2 n2 cap2, .int .i64 X.pl] rfl (w3.heap.size + 1) (by simp [Act.eval, alloc_size]) hv rfl (fun j _ => by simp [alloc_size]) (fun u hu => by simp only [List.mem_cons, List.not_mem_nil, or_false] at hu; rcases hu with rfl | rfl | rfl | rfl; (· rfl); (· exact HV1.out); (· exact HV2.out); (· rfl)) hla hsz9 ?_)
              intro v9 w10 ho10 hb10 hg10
              obtain ⟨ad9, cap9, rfl, _⟩ := own_shape ho10
              have hgx := HPA.out.grownX hv (by decide) (by decide) hg10
              have t0 := hgx.2.2.2.cell 2
              have t1 := hgx.2.2.2.fz 2
              have t2 := hgx.2.2.2.lt
              have HPB := Lib.hid (HPA.out.appT (X := X) (by have := HLK.out; have := HLT.out; simp only [List.length_nil]; omega) (fun h4 => by have := (HADV.out h4).2.1; have := HLK.out; simp only [List.length_nil] at *; omega) E1.out hv HTT.out (by rw [← HN1.out]; exact J1.out) J2.out ho10 hg10)
              clear hgx hv hsz9 ho10 hg10 hb10 x0 xl HPA HP3
              go_wp2_with fail
              go_roundg f
              case measure => omega
              case rel => exact ⟨q4, _, x, _, z, HX.out, fun h4 => by have := (HADV.out h4).2.1; have := HFU.out; simp only [] at *; omega, HPB⟩
        · obtain ⟨hk, hlt⟩ := kyB_lt hr
          obtain ⟨f, rfl⟩ : ∃ f, gk = f + 1 := ⟨gk - 1, by have := hfu hk; omega⟩
          obtain ⟨g, hg, _, hgl, _, _, _, k3⟩ := HP2.out.rs.tok q'.n hlt
          have HAD := Lib.hid hg
          obtain ⟨pl, hpl⟩ : ∃ pl : Nat, pl = (tokO l q'.n).2.2.2 := ⟨_, rfl⟩
          rw [← hpl] at k3
          obtain ⟨m1, hm1⟩ : ∃ m, m = rnmP l ⟨q'.n + 1, q'.k, q'.a⟩ := ⟨_, rfl⟩
          obtain ⟨q3, hq3⟩ : ∃ q, q = rsgP l m1.2 [61] := ⟨_, rfl⟩
          obtain ⟨m2, hm2⟩ : ∃ m, m = rnuP l q3 := ⟨_, rfl⟩
          obtain ⟨q4, hq4⟩ : ∃ q, q = rsgP l m2.2 [59] := ⟨_, rfl⟩
          have hX : rlcP l q' = (⟨m1.1, m2.1, pl⟩, q4) := by rw [hq4, hm2, hq3, hm1, hpl]; rfl
          have HX : Hid (locL l f q4 (a' ++ [⟨m1.1, m2.1, pl⟩]) = A) := Lib.hid (by rw [← hA]; conv => rhs; unfold locL; rw [if_pos hr, hX])
          have HADV : Hid (AdvR l ⟨q'.n + 1, q'.k, q'.a⟩ q4) := Lib.hid (by have := adv_lc l q'; rw [hX] at this; exact this)
          have HM1 : Hid (∀ (W : World), Rs W w1.heap.size l (.slice ad l.length cap) ⟨q'.n + 1, q'.k, q'.a⟩ → Calls Tryz.prog 55 #[.pointer (some ⟨w1.heap.size, 0, none⟩)] W fun e w' => e = .returned (.string m1.1) ∧ Rs w' w1.heap.size l (.slice ad l.length cap) m1.2 ∧ Keep w1.heap.size W w') := Lib.hid (by rw [hm1]; exact fun W hW => sname_any hW)
          have HQ3 : Hid (∀ (W : World), Rs W w1.heap.size l (.slice ad l.length cap) m1.2 → Calls Tryz.prog 54 #[.pointer (some ⟨w1.heap.size, 0, none⟩), .string ⟨#[61]⟩] W fun e w' => e = .returned (.tuple #[]) ∧ Rs w' w1.heap.size l (.slice ad l.length cap) q3 ∧ Keep w1.heap.size W w') := Lib.hid (by rw [hq3]; exact fun W hW => ssign_any ⟨#[61]⟩ hW)
          have HM2 : Hid (∀ (W : World), Rs W w1.heap.size l (.slice ad l.length cap) q3 → Calls Tryz.prog 53 #[.pointer (some ⟨w1.heap.size, 0, none⟩)] W fun e w' => e = .returned (.int .i64 m2.1) ∧ Rs w' w1.heap.size l (.slice ad l.length cap) m2.2 ∧ Keep w1.heap.size W w') := Lib.hid (by rw [hm2]; exact fun W hW => snumber_any hW)
          have HQ4 : Hid (∀ (W : World), Rs W w1.heap.size l (.slice ad l.length cap) m2.2 → Calls Tryz.prog 54 #[.pointer (some ⟨w1.heap.size, 0, none⟩), .string ⟨#[59]⟩] W fun e w' => e = .returned (.tuple #[]) ∧ Rs w' w1.heap.size l (.slice ad l.length cap) q4 ∧ Keep w1.heap.size W w') := Lib.hid (by rw [hq4]; exact fun W hW => ssign_any ⟨#[59]⟩ hW)
          have a1 : Hid (AdvR l ⟨q'.n + 1, q'.k, q'.a⟩ m1.2) := Lib.hid (by rw [hm1]; exact adv_nm l _)
          have a2 : Hid (AdvR l m1.2 q3) := Lib.hid (by rw [hq3]; exact adv_sg l _ _)
          have a3 : Hid (AdvR l q3 m2.2) := Lib.hid (by rw [hm2]; exact adv_nu l _)
          have a4 : Hid (AdvR l m2.2 q4) := Lib.hid (by rw [hq4]; exact adv_sg l _ _)
          have HFU := Lib.hid (hfu hk)
          have HK := Lib.hid hk
          have HLT := Lib.hid hlt
          have HN : Hid (l.length ≤ 100000) := Lib.hid HP2.out.rs.hn
          have HLK : Hid (a'.length ≤ q'.n) := Lib.hid (by have := HP2.out.lek hk; simpa using this)
          clear hX hA hfu hr hm1 hq3 hm2 hq4 hpl
          have d1 : w2.cell? ⟨w1.heap.size, 1, none⟩ = some (.int .i64 (q'.n : Int)) := HP2.out.rs.cells.2.1
          have d2 := HP2.out.rs.fz.1
          have d3 := HP2.out.rs.bk.lt
          have e2 : (0 : Int) ≤ (q'.n : Int) := by omega
          have e3 : (q'.n : Int) < (l.length : Int) := by omega
          have e4 : IntKind.i64.wrap ((q'.n : Int) + 1) = (q'.n : Int) + 1 := IntWalk.i64_in _ (by have := HN.out; omega)
          have hxg : x.ownBlock ≠ some w2.heap.size := fun he => by have := (HP2.out.po.l.lt _ he).2; omega
          have hgv : w1.heap.size + 1 < w2.heap.size := HP2.out.xb.lt
          have HXG := Lib.hid hxg
          have HGV := Lib.hid hgv
          have HP3 := Lib.hid ((HP2.out.next hlt ((q'.n : Int) + 1) (by omega)).below (bel_al _ (.cells #[.string ⟨#[]⟩, .int .i64 0, .int .i64 pl] 40)))
          have HV3 : Hid (Bk ((w2.setCell ⟨w1.heap.size, 1, none⟩ (.int .i64 ((q'.n : Int) + 1))).alloc (.cells #[.string ⟨#[]⟩, .int .i64 0, .int .i64 pl] 40)) w2.heap.size 40 #[.string ⟨#[]⟩, .int .i64 0, .int .i64 pl]) := Lib.hid (hbk_new (by simp [World.setCell]))
          clear hxg hgv
          subst hg
          go_wp2_with fail
          obtain ⟨gv, hgv⟩ : ∃ gv, gv = w2.heap.size := ⟨_, rfl⟩
          rw [← hgv] at HV3 HXG HGV ⊢
          clear d1 d2 d3 e2 e3 e4 k3 hgl HP2 hgv
          generalize World.alloc (World.setCell _ _ _) _ = w3 at HP3 HV3 ⊢
          refine (HM1.out _ HP3.out.rs).mono ?_
          rintro e w4 ⟨rfl, h4, k4⟩
          have HP4 := Lib.hid (HP3.out.call h4 k4 a1.out)
          have HV4 := Lib.hid (HV3.out.keep k4 (by have := HGV.out; omega))
          have x1 := HV4.out.cell 0
          have x2 := HV4.out.fz 0
          have x3 := HV4.out.lt
          have HP5 := Lib.hid (HP4.out.oth (o := 0) (.string m1.1) HGV.out HXG.out HV4.out)
          have HV5 : Hid (Bk (w4.setCell ⟨gv, 0, none⟩ (.string m1.1)) gv 40 #[.string m1.1, .int .i64 0, .int .i64 pl]) := Lib.hid (by simpa using HV4.out.set 0 (.string m1.1))
          clear h4 k4 HP3 HV3 HP4 HV4
          go_wp2_with fail
          clear x1 x2 x3
          generalize World.setCell _ _ _ = w5 at HP5 HV5 ⊢
          refine (HQ3.out _ HP5.out.rs).mono ?_
          rintro e w6 ⟨rfl, h6, k6⟩
          have HP6 := Lib.hid (HP5.out.call h6 k6 a2.out)
          have HV6 := Lib.hid (HV5.out.keep k6 (by have := HGV.out; omega))
          clear h6 k6 HP5 HV5
          go_wp2_with fail
          refine (HM2.out _ HP6.out.rs).mono ?_
          rintro e w7 ⟨rfl, h7, k7⟩
          have HP7 := Lib.hid (HP6.out.call h7 k7 a3.out)
          have HV7 := Lib.hid (HV6.out.keep k7 (by have := HGV.out; omega))
          have x1 := HV7.out.cell 1
          have x2 := HV7.out.fz 1
          have x3 := HV7.out.lt
          have HP8 := Lib.hid (HP7.out.oth (o := 1) (.int .i64 m2.1) HGV.out HXG.out HV7.out)
          have HV8 : Hid (Bk (w7.setCell ⟨gv, 1, none⟩ (.int .i64 m2.1)) gv 40 #[.string m1.1, .int .i64 m2.1, .int .i64 pl]) := Lib.hid (by simpa using HV7.out.set 1 (.int .i64 m2.1))
          clear h7 k7 HP6 HV6 HP7 HV7
          go_wp2_with fail
          clear x1 x2 x3
          generalize World.setCell _ _ _ = w8 at HP8 HV8 ⊢
          refine (HQ4.out _ HP8.out.rs).mono ?_
          rintro e w9 ⟨rfl, h9, k9⟩
          have HP9 := Lib.hid (HP8.out.call h9 k9 a4.out)
          have HV9 := Lib.hid (HV8.out.keep k9 (by have := HGV.out; omega))
          clear h9 k9 HP8 HV8
          have y0 := HV9.out.cell 0
          have y1 := HV9.out.cell 1
          have y2 := HV9.out.cell 2
          have yl := HV9.out.lt
          have x0 := HP9.out.xb.cell 1
          have xl := HP9.out.xb.lt
          have HPA := Lib.hid (HP9.out.below (bel_al w9 (.cells #[.string m1.1, .int .i64 m2.1, .int .i64 pl] 40)))
          have hown9 : (w9.alloc (.cells #[.string m1.1, .int .i64 m2.1, .int .i64 pl] 40)).ownsRow w1.heap.size 40 3 x a'.length (rowV a') := HPA.out.po.l
          have hla : a'.length ≤ 1000000 := by have := HLK.out; have := HLT.out; have := HN.out; omega
          have hsz9 := HPA.out.bl.size
          go_wp2_with (at_builtin; refine append_oneG 22 40 3 32 (.agg #[.string ⟨#[]⟩, .int .i64 0, .int .i64 0]) Tryz.underlying22 info_var rfl (by decide) (by decide) rfl (.tmp 73) (.tmp 75) rfl w1.heap.size a'.length _ _ [.string m1.1, .int .i64 m2.1, .int .i64 pl] rfl w9.heap.size rfl hown9 rfl (fun j _ => by simp) (fun u hu => by simp only [List.mem_cons, List.not_mem_nil, or_false] at hu; rcases hu with rfl | rfl | rfl; (· rfl); (· rfl); (· rfl)) hla hsz9 ?_)
          intro v9 w10 ho10 hb10 hg10
          obtain ⟨ad9, cap9, rfl, _⟩ := own_shape ho10
          have hgx := HPA.out.grownX hown9 (by decide) (by decide) hg10
          have t0 := hgx.2.2.2.cell 1
          have t1 := hgx.2.2.2.fz 1
          have t2 := hgx.2.2.2.lt
          have HPB := Lib.hid (HPA.out.appV (X := ⟨m1.1, m2.1, pl⟩) (by have := HLK.out; have := HLT.out; simp only [List.length_nil]; omega) (fun h4 => by have := (HADV.out h4).2.1; have := HLK.out; simp only [List.length_nil] at *; omega) ho10 hg10)
          clear hgx hown9 hsz9 ho10 hg10 hb10 y0 y1 y2 yl x0 xl HPA HP9 HV9
          go_wp2_with fail
          go_roundg f
          case measure => omega
          case rel => exact ⟨q4, _, _, y, z, HX.out, fun h4 => by have := (HADV.out h4).2.1; have := HFU.out; simp only [] at *; omega, HPB⟩
  · rw [if_pos hk]
    have q1 : ((k : Int) != 0) = true := by simp; omega
    clear hk
    go_enter Tryz.func28, Tryz.ntmps28
    go_wp2_with fail
    refine (HSC.out _).mono ?_
    rintro e w1 ⟨v, rfl, o1, b1⟩
    have B1 := HBN.out.below b1
    have e0 := B1.cell 0
    have e1 := B1.cell 1
    have e2 := B1.cell 2
    have e3 := B1.cell 3
    have g0 := B1.fz 0
    have g1 := B1.fz 1
    have g2 := B1.fz 2
    have g3 := B1.fz 3
    have rl := B1.lt
    have KB := Lib.hid (below_a b1)
    have HB1 := Lib.hid B1
    clear o1 b1 B1
    go_wp2
    refine bodyPost_ret (v := .tuple #[.agg #[.int .i64 0, .slice none 0 0, .slice none 0 0, .slice none 0 0], .int .i64 k, .int .i64 a]) (results_prs rfl _ _ _ _ _ _ _ _ _ rfl rfl rfl (HB1.out.set4 _ _ _ _)) rfl ⟨_, _, _, rfl, POwn.nil _ _ _, ?_⟩
    exact below_setq KB.out (Nat.le_refl _) _ _ _ _

end Go.Proofs.YtlpgafgiljffhaaGreatDoor
