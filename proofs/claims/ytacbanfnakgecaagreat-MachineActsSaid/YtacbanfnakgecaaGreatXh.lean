/- Layer 6: the value of right code. Layer 6: code.Value. -/
import Derived.Test.YtacbanfnakgecaaGreatXe
namespace Go.Proofs.YtacbanfnakgecaaGreat
set_option linter.unusedSimpArgs false
set_option linter.unusedVariables false
open Go.RowKit
set_option maxRecDepth 100000 in
set_option maxHeartbeats 8000000 in
theorem cvalue_any (s : Nbs) (rs : List (List Int × Value)) (ov av mv : Value) (l : List Opn) (v : Value) (w : World) (hd : NbD w ov av mv rs s) (hv : OpsD w v l) (hn : l.length ≤ 100000) (hN : rightN s = true) (hr : rightO l (lenI rs) s.own.length s.mem.length = true) (z : Int) (hz : (runO s l []).getD 0 0 = z) :
    Calls Tryz.prog 128 #[.agg #[.int .i64 s.mod, ov, av, mv], v] w fun e w' => e = .returned (.int .i64 z) ∧ Below w.heap.size w w' := by
  have HD := Lib.hid hd
  have HRN := Lib.hid hN
  have hr2 := hr
  unfold rightO at hr2
  rw [Bool.and_eq_true] at hr2
  have HG0 : Hid (Go1 l 0 0) := ⟨0, of_decide_eq_true hr2.1⟩
  have HALL := Lib.hid hr2.2
  have HR0 : Hid ((runO s (l.drop 0) []).getD 0 0 = z) := Lib.hid hz
  have hmod : 2 ≤ s.mod ∧ s.mod ≤ 16 := by
    unfold rightN at hN
    rw [Bool.and_eq_true] at hN
    exact of_decide_eq_true hN.1
  obtain ⟨m, hM⟩ : ∃ m, m = s.mod := ⟨_, rfl⟩
  have HM := Lib.hid hM
  rw [← hM] at hmod ⊢
  obtain ⟨hm1, hm2⟩ := hmod
  obtain ⟨ado, capo, hov⟩ := hd.o.shape0
  obtain ⟨ada, capa, hav⟩ := hd.a.shape0
  obtain ⟨adm, capm, hmv⟩ := hd.m.shape0
  generalize s.own.length = no at hov
  generalize rs.length = na at hav
  generalize s.mem.length = nm at hmv
  obtain ⟨ad, cap, rfl, hcap1, hcap2, hc⟩ := hv
  have HC := Lib.hid hc
  obtain ⟨n, hnn⟩ : ∃ n, n = l.length := ⟨_, rfl⟩
  rw [← hnn] at hn ⊢
  have HN := Lib.hid hnn
  have HREAD := Lib.hid (fun (W : World) (h : Below w.heap.size w W) (xo xn xt : Int) (hok : okO (lenI rs) s.own.length s.mem.length ⟨xo, xn, xt⟩ = true) (y : Int) (hy : rdO s ⟨xo, xn, xt⟩ = y) => read_any s rs ov av mv W (hd.below h) xo xn xt hok y hy)
  rw [← hM] at HREAD
  subst hov hav hmv
  obtain ⟨wb, hwb⟩ : ∃ wb, wb = w.alloc (.cells #[.int .i64 m, .slice ado no capo, .slice ada na capa, .slice adm nm capm] 147) := ⟨_, rfl⟩
  have KB : Hid (Bk wb w.heap.size 147 #[.int .i64 m, .slice ado no capo, .slice ada na capa, .slice adm nm capm]) := by rw [hwb]; exact Bk.new w _ _
  have BB : Hid (Below w.heap.size w wb) := by rw [hwb]; exact (Below.refl _ _).alloc (Nat.le_refl _) _
  have hsb : wb.heap.size = w.heap.size + 1 := by rw [hwb]; exact alloc_size _ _
  have hsb1 : w.heap.size < wb.heap.size := by omega
  have HWB := Lib.hid hwb
  clear hd hN hr hr2 hz hM hc hnn hcap1 hcap2 hwb hsb
  go_enter Tryz.func128, Tryz.ntmps128
  go_wp2_with fail
  rw [← HWB.out]
  go_loopg [5, 13] n (fun fuel v' i' wr => ∃ (k : Nat) (st : List Int) (ad2 : Option Addr) (cap2 : Nat), i' = .int .i64 k ∧ k ≤ n ∧ n - k ≤ fuel ∧ v' = .slice ad2 st.length cap2 ∧ st.length ≤ k ∧ Go1 l k st.length ∧ (∀ x ∈ st, 0 ≤ x ∧ x < m) ∧ (runO s (l.drop k) st).getD 0 0 = z ∧ wr.ownsRow wb.heap.size 3 1 (.slice ad2 st.length cap2) st.length (intV st.reverse) ∧ Below wb.heap.size wb wr)
  case atStart => exact ⟨0, [], none, 0, rfl, Nat.zero_le _, Nat.le_refl _, rfl, Nat.le_refl _, HG0.out, (fun x hx => by cases hx), HR0.out, ⟨rfl, .inl ⟨rfl, rfl⟩⟩, Below.refl _ _⟩
  case round =>
    obtain ⟨k, st, ad2, cap2, rfl, hk, hf, rfl, hsk, hg, hst, hrun, ho, hb⟩ := hrel
    have HB := Lib.hid hb
    have HO := Lib.hid ho
    have HG := Lib.hid hg
    have HST := Lib.hid hst
    have HRUN := Lib.hid hrun
    have hww := hb.size
    have KW := Lib.hid (KB.out.below hb)
    have hcp := own_cap ho
    clear hb ho hg hst hrun
    by_cases hlt : k < n
    · have hk' : k < l.length := by have := HN.out; omega
      obtain ⟨⟨ha0, ha1⟩, hgn⟩ := HG.out.step hk'
      have HGN := Lib.hid hgn
      have HRA := Lib.hid (runO_at s l k hk' st)
      have hok := List.all_eq_true.1 HALL.out _ (List.getElem_mem hk')
      obtain ⟨b, off, rfl, hbl, x0, x1, x2⟩ := HC.out k hk'
      obtain ⟨⟨xo, xn, xt⟩, hx⟩ : ∃ x, x = l[k] := ⟨_, rfl⟩
      rw [← hx] at x0 x1 x2 HGN HRA hok ha0 ha1
      simp only [] at x0 x1 x2 HGN ha0 ha1
      have BW := Lib.hid (BB.out.trans (HB.out.mono (by omega)))
      have c0 : wr.cell? ⟨b, off + k * 3, none⟩ = some (.int .i64 xo) := (BW.out.cell (p := ⟨b, _, none⟩) hbl).trans x0
      have c1 : wr.cell? ⟨b, off + k * 3 + 1, none⟩ = some (.int .i64 xn) := (BW.out.cell (p := ⟨b, _, none⟩) hbl).trans x1
      have c2 : wr.cell? ⟨b, off + k * 3 + 2, none⟩ = some (.int .i64 xt) := (BW.out.cell (p := ⟨b, _, none⟩) hbl).trans x2
      clear x0 x1 x2 hx hgn
      have hac := ar_cases xo
      by_cases h0 : ar xo = 0
      · have HOP := Lib.hid (opOf_leaf xo h0)
        obtain ⟨y, hy⟩ : ∃ y, rdO s ⟨xo, xn, xt⟩ = y := ⟨_, rfl⟩
        have hyb := rdO_bound s ⟨xo, xn, xt⟩ HRN.out (by rw [← HD.out.e, List.map_map]; exact hok) h0
        rw [hy] at hyb
        obtain ⟨hy1, hy2⟩ := hyb
        have HRD := Lib.hid (fun W h => HREAD.out W h xo xn xt hok y hy)
        have hr3 := HRUN.out
        rw [HRA.out, stO_zero s ⟨xo, xn, xt⟩ st h0, hy, ← HM.out] at hr3
        have HR3 := Lib.hid hr3
        have HH0 := Lib.hid h0
        obtain ⟨u, hu⟩ : ∃ u, u = y % m := ⟨_, rfl⟩
        have hu0 : 0 ≤ u := by rw [hu]; exact Int.emod_nonneg _ (by omega)
        have hu1 : u < m := by rw [hu]; exact Int.emod_lt_of_pos _ (by omega)
        have hyw : IntKind.i64.wrap (y + m) = y + m := IntWalk.i64_in _ (by omega)
        have hym : (y + m).tmod m = u := by rw [Int.tmod_eq_emod_of_nonneg (by omega), Int.add_emod_right, hu]
        have HGN1 := Lib.hid (HGN.out (st.length + 1) (by rw [h0]; omega))
        rw [← hu] at HR3
        have HUM := Lib.hid (And.intro hyw hym)
        clear hok hy h0 hac ha0 ha1 hr3 hu hyw hym
        go_wp2_with fail
        refine (HOP.out _).mono ?_
        rintro e w2 ⟨rfl, hb2⟩
        have hbw2 : Below wr.heap.size wr w2 := ((Below.refl _ _).alloc (Nat.le_refl _) _).trans (hb2.mono (by simp))
        have KB2 := KW.out.below hbw2
        have KO2 := (Bk.new wr 86 #[.int .i64 xo, .int .i64 xn, .int .i64 xt]).below hb2
        have BW2 := Lib.hid (BW.out.trans (hbw2.mono BW.out.size))
        have BB2 := Lib.hid (HB.out.trans (hbw2.mono hww))
        have O2 := Lib.hid (own_below HO.out hbw2)
        have KB2h := Lib.hid KB2
        have d0 := KB2.cell 0
        have d1 := KB2.cell 1
        have d2 := KB2.cell 2
        have d3 := KB2.cell 3
        have dl := KB2.lt
        have e0 := KO2.cell 0
        have e1 := KO2.cell 1
        have e2 := KO2.cell 2
        have el := KO2.lt
        clear hb2 hbw2 KB2 KO2 c0 c1 c2
        go_wp2_with fail
        refine (HRD.out _ (BW2.out.alloc BW2.out.size _)).mono ?_
        rintro e w3 ⟨rfl, hb3⟩
        have hbw3 : Below w2.heap.size w2 w3 := ((Below.refl _ _).alloc (Nat.le_refl _) _).trans (hb3.mono (by simp))
        have KB3 := KB2h.out.below hbw3
        have BB3 := Lib.hid (BB2.out.trans (hbw3.mono BB2.out.size))
        have O3 := Lib.hid (own_below O2.out hbw3)
        clear hb3 hbw3 d0 d1 d2 d3 dl e0 e1 e2 el
        have d0 := KB3.cell 0
        have dl := KB3.lt
        clear KB3
        have hm0 : ¬ m = 0 := by omega
        have f1 := HUM.out.1
        have f2 := HUM.out.2
        go_wp2_with fail
        have s3 := BB3.out.size
        go_region_law (refine step_append_int (hgd := rfl) (s := .tmp 39) (x := .tmp 47) (ho := rfl) (base := wb.heap.size) (n := st.length) (v := .slice ad2 st.length cap2) (xs := intV st.reverse) (z := u) (hs := by simp [Act.eval]) (g := w3.heap.size) (hx := by simp [Act.eval]) (hown := own_below O3.out ((Below.refl _ _).drew.alloc (by simp) _)) (hc := heap_alloc_new _ _) (hn := by omega) (hbase := by simp; omega) (h := ?_); intro g' cap' w4 hown4 hb4)
        all_goals
          go_wp2
          go_roundg (gk - 1)
          case measure => omega
          case rel =>
            refine ⟨k + 1, u :: st, _, cap', by go_num, by omega, by omega, rfl, by simp; omega, HGN1.out, ?_, HR3.out, ?_, ?_⟩
            · intro x hx
              rcases List.mem_cons.1 hx with rfl | hx
              · exact ⟨hu0, hu1⟩
              · exact HST.out x hx
            · rw [intV_rev]; exact hown4
            · exact (BB3.out.drew.alloc (by simp; omega) _).trans hb4
      · by_cases h0 : ar xo = 1
        · obtain ⟨bq, r, rfl⟩ : ∃ bq r, st = bq :: r := by
            cases st with
            | nil => simp at ha1; omega
            | cons bq r => exact ⟨_, _, rfl⟩
          have ho := HO.out
          rw [intV_rev] at ho
          obtain ⟨q, hq⟩ : ∃ q, q = r.length := ⟨_, rfl⟩
          obtain ⟨L, hL⟩ : ∃ L, L = (bq :: r).length := ⟨_, rfl⟩
          have hLq : L = q + 1 := by rw [hL, hq]; rfl
          rw [← hL] at ho HGN hsk hcp ⊢
          obtain ⟨g, rfl, hgB, hgl, hc0, hop, _⟩ := own_top ho q hLq
          have hbq := HST.out bq (List.mem_cons_self ..)
          have hr3 := HRUN.out
          rw [HRA.out, stO_one s ⟨xo, xn, xt⟩ bq r h0] at hr3
          obtain ⟨y, hy⟩ : ∃ y, y = tru (decide (bq = 0)) := ⟨_, rfl⟩
          obtain ⟨u, hu⟩ : ∃ u, u = y := ⟨_, rfl⟩
          have hyb := tru_b (decide (bq = 0))
          rw [← hy] at hr3 hyb
          rw [← hu] at hr3
          obtain ⟨hy1, hy2⟩ := hyb
          have hxo : xo = 5 := by have := ar_kind xo; omega
          have hF5 : fnF xo = 141 := by rw [hxo]; rfl
          have HF := Lib.hid (fun (W : World) (h : W.cell? ⟨g, q, none⟩ = some (.int .i64 bq)) => hy ▸ op1_any g q (cap2 - q) bq W h)
          have HST2 : Hid (∀ x ∈ r, 0 ≤ x ∧ x < m) := fun x hx => HST.out x (List.mem_cons_of_mem _ hx)
          have hu0 : 0 ≤ u := by omega
          have hu1 : u < m := by omega
          have hyw : IntKind.i64.wrap (y + m) = y + m := IntWalk.i64_in _ (by omega)
          have hym : (y + m).tmod m = u := by rw [Int.tmod_eq_emod_of_nonneg (by omega), Int.add_emod_right, Int.emod_eq_of_lt (by omega) (by omega), hu]
          have hrl : r.length = q := hq.symm
          have HOP := Lib.hid (opOf_fn xo 1 h0 (by omega) 141 hF5)
          have HR3 := Lib.hid hr3
          have HGN1 := Lib.hid (HGN.out (q + 1) (by rw [h0]; omega))
          have HUM := Lib.hid (And.intro hyw hym)
          have HRL := Lib.hid hrl
          have HPOP := Lib.hid hop
          have HCS := Lib.hid hc0
          have hq1 : q ≤ L := by omega
          have hq2 : L ≤ cap2 := hcp
          have hq3 : ¬ cap2 = q := by omega
          have hq4 : q ≤ 100000 := by omega
          have HLq := Lib.hid hLq
          have e2 : (L : Int) - 1 = (q : Int) := by omega
          have HE2 := Lib.hid e2
          clear hok h0 hac ha0 ha1 hr3 hyw hym hrl hop hL hq hLq ho hy hu e2 hF5 hxo hc0 hbq
          have ee : (L : Int) - 1 = (q : Int) := HE2.out
          go_wp2_with fail
          refine (HOP.out _).mono ?_
          rintro e w2 ⟨rfl, hb2⟩
          have hbw2 : Below wr.heap.size wr w2 := ((Below.refl _ _).alloc (Nat.le_refl _) _).trans (hb2.mono (by simp))
          have KB2 := KW.out.below hbw2
          have BB2 := Lib.hid (HB.out.trans (hbw2.mono hww))
          have O2 := Lib.hid (own_below HPOP.out hbw2)
          have hg2 : g < w2.heap.size := Nat.lt_of_lt_of_le hgl hbw2.size
          have HF2 : Hid (∀ (o : Obj) (k : Nat), Calls Tryz.prog 141 #[.slice (some ⟨g, q, none⟩) (L - q) (cap2 - q)] ((w2.alloc o).drewN k) fun e w' => e = .returned (.int .i64 y) ∧ ∃ m, w' = (w2.alloc o).drewN m) := Lib.hid fun o k => by
            have hbk : Below wr.heap.size wr ((w2.alloc o).drewN k) := (hbw2.alloc hbw2.size o).trans (below_end _)
            rw [show L - q = 1 by have := HLq.out; omega]
            exact (HF.out _ ((hbk.cell (p := ⟨g, _, none⟩) hgl).trans HCS.out)).mono fun _ _ ⟨h, m, h2⟩ => ⟨h, k + m, by rw [h2, drewN_plus]⟩
          have d0 := KB2.cell 0
          have dl := KB2.lt
          clear hb2 hbw2 KB2 c0 c1 c2
          go_wp2_with fail
          go_quiet (with_reducible exact HF2.out _ _)
          have hk3 : Below w2.heap.size w2 ((w2.alloc (.cells #[.int .i64 1, .func (.func 141) #[] #[]] 155)).drewN nq) := ((Below.refl _ _).alloc (Nat.le_refl _) _).trans (below_end _)
          generalize ((w2.alloc (.cells #[.int .i64 1, .func (.func 141) #[] #[]] 155)).drewN nq) = w3 at hk3 ⊢
          have BB3 := Lib.hid (BB2.out.trans (hk3.mono BB2.out.size))
          have O3 := Lib.hid (own_below O2.out hk3)
          have c9 : w3.cell? ⟨w.heap.size, 0, none⟩ = some (.int .i64 m) := (hk3.cell (p := ⟨w.heap.size, _, none⟩) dl).trans d0
          have dl3 : w.heap.size < w3.heap.size := Nat.lt_of_lt_of_le dl hk3.size
          have hq5 : q ≤ cap2 := by omega
          have hm0 : ¬ m = 0 := by omega
          have s3 := BB3.out.size
          have f1 := HUM.out.1
          have f2 := HUM.out.2
          clear hk3 d0 dl ee
          go_wp2_with fail
          go_region_law (refine step_append_int (hgd := rfl) (s := .tmp 39) (x := .tmp 47) (ho := rfl) (base := wb.heap.size) (n := q) (v := .slice (some ⟨g, 0, none⟩) q cap2) (xs := intV r.reverse) (z := u) (hs := by simp [Act.eval]) (g := w3.heap.size) (hx := by simp [Act.eval]) (hown := own_below O3.out ((Below.refl _ _).drew.alloc (by simp) _)) (hc := heap_alloc_new _ _) (hn := by omega) (hbase := by simp; omega) (h := ?_); intro g' cap' w4 hown4 hb4)
          all_goals
            go_wp2
            go_roundg (gk - 1)
            case measure => omega
            case rel =>
              refine ⟨k + 1, u :: r, _, cap', by go_num, by omega, by omega, by rw [List.length_cons, HRL.out], ?_, ?_, ?_, HR3.out, ?_, ?_⟩
              · rw [List.length_cons, HRL.out]; have := HLq.out; omega
              · rw [List.length_cons, HRL.out]; exact HGN1.out
              · intro x hx
                rcases List.mem_cons.1 hx with rfl | hx
                · exact ⟨hu0, hu1⟩
                · exact HST2.out x hx
              · rw [intV_rev, List.length_cons, HRL.out]; exact hown4
              · exact (BB3.out.drew.alloc (by simp; omega) _).trans hb4
        · have h0 : ar xo = 2 := by omega
          obtain ⟨bq, aq, r, rfl⟩ : ∃ bq aq r, st = bq :: aq :: r := by
            match st, ha1 with
            | [], h => simp at h; omega
            | [_], h => simp at h; omega
            | bq :: aq :: r, _ => exact ⟨_, _, _, rfl⟩
          have ho := HO.out
          rw [intV_rev] at ho
          obtain ⟨q, hq⟩ : ∃ q, q = r.length := ⟨_, rfl⟩
          obtain ⟨L, hL⟩ : ∃ L, L = (bq :: aq :: r).length := ⟨_, rfl⟩
          have hLq : L = q + 2 := by rw [hL, hq]; rfl
          rw [← hL] at ho HGN hsk hcp ⊢
          obtain ⟨g, rfl, hgB, hgl, hc1, hop1, _⟩ := own_top ho (q + 1) hLq
          rw [intV_rev] at hop1
          obtain ⟨g', hgg, _, _, hc0, hop, _⟩ := own_top hop1 q rfl
          obtain rfl : g = g' := by injection hgg with h; injection h
          have hbq := HST.out bq (List.mem_cons_self ..)
          have haq := HST.out aq (List.mem_cons_of_mem _ (List.mem_cons_self ..))
          have hr3 := HRUN.out
          rw [HRA.out, stO_two s ⟨xo, xn, xt⟩ aq bq r h0, ← HM.out] at hr3
          obtain ⟨y, hy⟩ : ∃ y, y = rawO xo aq bq := ⟨_, rfl⟩
          obtain ⟨u, hu⟩ : ∃ u, u = twoO xo aq bq m := ⟨_, rfl⟩
          have hxo : 6 ≤ xo ∧ xo ≤ 14 := by have := ar_kind xo; omega
          obtain ⟨r1, hu0, hu1, hy1, hy2, hy3⟩ := raw_two xo aq bq m hxo.1 hxo.2 ⟨hm1, hm2⟩ haq hbq
          have hu' : twoO xo aq bq m = u := hu.symm
          have hr3' : (runO s (List.drop (k + 1) l) (u :: r)).getD 0 0 = z := by rw [← hu'] ; exact hr3
          rw [← hy] at r1 hy1 hy2 hy3
          rw [← hu] at r1 hu0 hu1
          have hcall := callF xo hxo.1 hxo.2
          obtain ⟨F, hF5⟩ : ∃ F, fnF xo = F := ⟨_, rfl⟩
          rw [hF5] at hcall
          have HCALL := Lib.hid hcall
          clear hcall
          have HF := Lib.hid (fun (W : World) (h : W.cell? ⟨g, q, none⟩ = some (.int .i64 aq)) (h2 : W.cell? ⟨g, q + 1, none⟩ = some (.int .i64 bq)) => (hy ▸ hF5 ▸ opF_any xo hxo.1 hxo.2 g q (cap2 - q) aq bq W ⟨haq.1, by omega⟩ ⟨hbq.1, by omega⟩ h h2 : Calls Tryz.prog F #[.slice (some ⟨g, q, none⟩) 2 (cap2 - q)] W (QAns y W)))
          have HST2 : Hid (∀ x ∈ r, 0 ≤ x ∧ x < m) := fun x hx => HST.out x (List.mem_cons_of_mem _ (List.mem_cons_of_mem _ hx))
          have hyw : IntKind.i64.wrap (y + m) = y + m := IntWalk.i64_in _ (by omega)
          have hym : (y + m).tmod m = u := by rw [Int.tmod_eq_emod_of_nonneg (by omega), r1]
          have hrl : r.length = q := hq.symm
          replace hr3 := hr3'
          have HOP := Lib.hid (opOf_fn xo 2 h0 (by omega) F hF5)
          have HR3 := Lib.hid hr3
          have HGN1 := Lib.hid (HGN.out (q + 1) (by rw [h0]; omega))
          have HUM := Lib.hid (And.intro hyw hym)
          have HRL := Lib.hid hrl
          have HPOP := Lib.hid hop
          have HCS := Lib.hid (And.intro hc0 hc1)
          have hq1 : q ≤ L := by omega
          have hq2 : L ≤ cap2 := hcp
          have hq3 : ¬ cap2 = q := by omega
          have hq4 : q ≤ 100000 := by omega
          have HLq := Lib.hid hLq
          have e2 : (L : Int) - 2 = (q : Int) := by omega
          have HE2 := Lib.hid e2
          clear hok h0 hac ha0 ha1 hr3 hyw hym hrl hop hL hq hLq ho hy hu e2 hF5 hxo hc0 hc1 hbq haq hop1 hgg r1 hu' hr3'
          have ee : (L : Int) - 2 = (q : Int) := HE2.out
          go_wp2_with fail
          refine (HOP.out _).mono ?_
          rintro e w2 ⟨rfl, hb2⟩
          have hbw2 : Below wr.heap.size wr w2 := ((Below.refl _ _).alloc (Nat.le_refl _) _).trans (hb2.mono (by simp))
          have KB2 := KW.out.below hbw2
          have BB2 := Lib.hid (HB.out.trans (hbw2.mono hww))
          have O2 := Lib.hid (own_below HPOP.out hbw2)
          have hg2 : g < w2.heap.size := Nat.lt_of_lt_of_le hgl hbw2.size
          have HF2 : Hid (∀ (o : Obj) (k : Nat), Calls Tryz.prog F #[.slice (some ⟨g, q, none⟩) (L - q) (cap2 - q)] ((w2.alloc o).drewN k) fun e w' => e = .returned (.int .i64 y) ∧ ∃ m, w' = (w2.alloc o).drewN m) := Lib.hid fun o k => by
            have hbk : Below wr.heap.size wr ((w2.alloc o).drewN k) := (hbw2.alloc hbw2.size o).trans (below_end _)
            rw [show L - q = 2 by have := HLq.out; omega]
            exact (HF.out _ ((hbk.cell (p := ⟨g, _, none⟩) hgl).trans HCS.out.1) ((hbk.cell (p := ⟨g, _, none⟩) hgl).trans HCS.out.2)).mono fun _ _ ⟨h, m, h2⟩ => ⟨h, k + m, by rw [h2, drewN_plus]⟩
          have d0 := KB2.cell 0
          have dl := KB2.lt
          clear hb2 hbw2 KB2 c0 c1 c2
          go_wp2_with fail
          have hcall := HCALL.out
          go_quiet (with_reducible exact HF2.out _ _)
          have hk3 : Below w2.heap.size w2 ((w2.alloc (.cells #[.int .i64 2, .func (.func F) #[] #[]] 155)).drewN nq) := ((Below.refl _ _).alloc (Nat.le_refl _) _).trans (below_end _)
          generalize ((w2.alloc (.cells #[.int .i64 2, .func (.func F) #[] #[]] 155)).drewN nq) = w3 at hk3 ⊢
          have BB3 := Lib.hid (BB2.out.trans (hk3.mono BB2.out.size))
          have O3 := Lib.hid (own_below O2.out hk3)
          have c9 : w3.cell? ⟨w.heap.size, 0, none⟩ = some (.int .i64 m) := (hk3.cell (p := ⟨w.heap.size, _, none⟩) dl).trans d0
          have dl3 : w.heap.size < w3.heap.size := Nat.lt_of_lt_of_le dl hk3.size
          have hq5 : q ≤ cap2 := by omega
          have hm0 : ¬ m = 0 := by omega
          have s3 := BB3.out.size
          have f1 := HUM.out.1
          have f2 := HUM.out.2
          clear hk3 d0 dl ee hcall
          go_wp2_with fail
          go_region_law (refine step_append_int (hgd := rfl) (s := .tmp 39) (x := .tmp 47) (ho := rfl) (base := wb.heap.size) (n := q) (v := .slice (some ⟨g, 0, none⟩) q cap2) (xs := intV r.reverse) (z := u) (hs := by simp [Act.eval]) (g := w3.heap.size) (hx := by simp [Act.eval]) (hown := own_below O3.out ((Below.refl _ _).drew.alloc (by simp) _)) (hc := heap_alloc_new _ _) (hn := by omega) (hbase := by simp; omega) (h := ?_); intro g' cap' w4 hown4 hb4)
          all_goals
            go_wp2
            go_roundg (gk - 1)
            case measure => omega
            case rel =>
              refine ⟨k + 1, u :: r, _, cap', by go_num, by omega, by omega, by rw [List.length_cons, HRL.out], ?_, ?_, ?_, HR3.out, ?_, ?_⟩
              · rw [List.length_cons, HRL.out]; have := HLq.out; omega
              · rw [List.length_cons, HRL.out]; exact HGN1.out
              · intro x hx
                rcases List.mem_cons.1 hx with rfl | hx
                · exact ⟨hu0, hu1⟩
                · exact HST2.out x hx
              · rw [intV_rev, List.length_cons, HRL.out]; exact hown4
              · exact (BB3.out.drew.alloc (by simp; omega) _).trans hb4
    · have HE := Lib.hid (runO_over s l k (by have := HN.out; omega) st)
      have h1 := HG.out.over (by have := HN.out; omega)
      obtain ⟨y, rfl⟩ : ∃ y, st = [y] := by
        match st, h1 with
        | [y], _ => exact ⟨y, rfl⟩
      have ho := HO.out
      rw [intV_rev] at ho
      obtain ⟨g, rfl, hgB, hgl, hc0, _, _⟩ := own_top ho 0 rfl
      have hr3 := HRUN.out
      rw [HE.out] at hr3
      have hr4 : y = z := hr3
      clear ho hr3
      subst hr4
      have HF := Lib.hid (BB.out.trans (HB.out.mono (by omega)))
      have hL : [y].length = 1 := rfl
      rw [hL]
      go_wp2
      go_ret
      exact ⟨rfl, HF.out⟩
end Go.Proofs.YtacbanfnakgecaaGreat

namespace Go.Proofs.YtacbanfnakgecaaGreat
set_option linter.unusedSimpArgs false
set_option linter.unusedVariables false
open Go.RowKit
theorem lenI_of {rs : List (List Int × Value)} {all : List (List Int)} (h : rs.map (·.1) = all) : lenI rs = all.map fun x => (x.length : Int) := by
  rw [← h, List.map_map]; rfl
theorem valO_no {l : List Opn} {s : Nbs} (h : (rightN s && rightO l (s.all.map fun x => (x.length : Int)) s.own.length s.mem.length) = false) : valO l s = (0, false) := by
  unfold valO; rw [h]; rfl
theorem valO_yes {l : List Opn} {s : Nbs} (h : (rightN s && rightO l (s.all.map fun x => (x.length : Int)) s.own.length s.mem.length) = true) : valO l s = ((runO s l []).getD 0 0, true) := by
  unfold valO; rw [h]; rfl
theorem intV_flat (l : List Int) : intV l = l.flatMap fun x => [Value.int .i64 x] := by
  induction l with
  | nil => rfl
  | cons a r ih => simp only [intV, List.map_cons, List.flatMap_cons, List.singleton_append] at ih ⊢; rw [ih]
theorem intsD_intV {w : World} {B : Nat} {v : Value} {l : List Int} (h : w.ownsRow B 3 1 v l.length (intV l)) : IntsD w v l := by
  rw [intV_flat] at h
  exact intsD_of_own h
theorem lengths_ints (rs : List (List Int × Value)) (v : Value) (w : World) (hv : AllD w v rs) (hn : rs.length ≤ 100000) (hn2 : ∀ x ∈ rs, x.1.length ≤ 100000) :
    Calls Tryz.prog 127 #[v] w fun e w' => ∃ z, e = .returned z ∧ IntsD w' z (lenI rs) ∧ Below w.heap.size w w' := by
  refine (lengths_any rs v w hv hn hn2).mono ?_
  rintro e w' ⟨z, h1, h2, h3⟩
  rw [show rs.length = (lenI rs).length by simp [lenI]] at h2
  exact ⟨z, h1, intsD_intV h2, h3⟩
set_option maxRecDepth 100000 in
set_option maxHeartbeats 4000000 in
theorem value_code (l : List Opn) (s : Nbs) (rs : List (List Int × Value)) (ov av mv v : Value) (w : World) (hd : NbD w ov av mv rs s) (hv : OpsD w v l) (hn : l.length ≤ 100000) (z : Int) (b : Bool) (hz : valO l s = (z, b)) :
    Calls Tryz.prog 118 #[v, .int .i64 s.mod, ov, av, mv] w fun e w' => e = .returned (.tuple #[.int .i64 z, .bool b]) ∧ Below w.heap.size w w' := by
  have HD := Lib.hid hd
  have HV := Lib.hid hv
  have HZ := Lib.hid hz
  obtain ⟨q1, hq1⟩ : ∃ q, rightN s = q := ⟨_, rfl⟩
  obtain ⟨q2, hq2⟩ : ∃ q, rightO l (lenI rs) s.own.length s.mem.length = q := ⟨_, rfl⟩
  have HNR := Lib.hid (fun (W : World) (h : Below w.heap.size w W) => vright_any s rs ov av mv W (hd.below h) q1 hq1)
  have HLE := Lib.hid (fun (W : World) (h : Below w.heap.size w W) => lengths_ints rs av W (AllD.below hd.a h) hd.la hd.lr)
  have HRC := Lib.hid (fun (W : World) (h : Below w.heap.size w W) (rv : Value) (hr : IntsD W rv (lenI rs)) => right_code l (lenI rs) v rv s.own.length s.mem.length W (OpsD.below hv h) hr hn q2 hq2)
  have HVA := Lib.hid (fun (W : World) (h : Below w.heap.size w W) (h1 : rightN s = true) (h2 : rightO l (lenI rs) s.own.length s.mem.length = true) (y : Int) (hy : (runO s l []).getD 0 0 = y) => cvalue_any s rs ov av mv l v W (hd.below h) (OpsD.below hv h) hn h1 h2 y hy)
  have HQ1 := Lib.hid hq1
  have HQ2 := Lib.hid hq2
  have HLI := Lib.hid (lenI_of hd.e)
  have hlo := hd.lo
  have hlm := hd.lm
  obtain ⟨m, hM⟩ : ∃ m, m = s.mod := ⟨_, rfl⟩
  rw [← hM] at HNR HVA ⊢
  obtain ⟨ad, cap, rfl⟩ := hv.shape0
  obtain ⟨ado, capo, hov⟩ := hd.o.shape0
  obtain ⟨ada, capa, hav⟩ := hd.a.shape0
  obtain ⟨adm, capm, hmv⟩ := hd.m.shape0
  obtain ⟨no, hno⟩ : ∃ n, n = s.own.length := ⟨_, rfl⟩
  obtain ⟨nm, hnm⟩ : ∃ n, n = s.mem.length := ⟨_, rfl⟩
  rw [← hno] at hov HRC hlo
  rw [← hnm] at hmv HRC hlm
  generalize rs.length = na at hav HLE
  subst hov hav hmv
  generalize l.length = n at HV HNR HLE HRC HVA ⊢
  have KB := Lib.hid (Bk.new w 147 #[.int .i64 m, .slice ado no capo, .slice ada na capa, .slice adm nm capm])
  have BB : Hid (Below w.heap.size w (w.alloc (.cells #[.int .i64 m, .slice ado no capo, .slice ada na capa, .slice adm nm capm] 147))) := (Below.refl _ _).alloc (Nat.le_refl _) _
  clear hd hv hn hz hq1 hq2 hM hno hnm
  cases q1 with
  | false =>
    go_enter Tryz.func118, Tryz.ntmps118
    go_wp2_with fail
    refine (HNR.out _ BB.out).mono ?_
    rintro e w2 ⟨rfl, b2⟩
    have B2 := Lib.hid (BB.out.trans (b2.mono BB.out.size))
    clear b2
    go_wp2
    have hz := HZ.out
    rw [valO_no (by rw [HQ1.out]; rfl)] at hz
    obtain ⟨rfl, rfl⟩ := Prod.mk.inj hz
    go_ret2
    exact ⟨rfl, B2.out⟩
  | true =>
    go_enter Tryz.func118, Tryz.ntmps118
    go_wp2_with fail
    refine (HNR.out _ BB.out).mono ?_
    rintro e w2 ⟨rfl, b2⟩
    have B2 := Lib.hid (BB.out.trans (b2.mono BB.out.size))
    have K2 := Lib.hid (KB.out.below b2)
    clear b2
    go_wp2_with fail
    refine (HLE.out _ B2.out).mono ?_
    rintro e w3 ⟨y3, rfl, o3, b3⟩
    have B3 := Lib.hid (B2.out.trans (b3.mono B2.out.size))
    have K3 := Lib.hid (K2.out.below b3)
    obtain ⟨ad3, cap3, rfl⟩ := o3.shape0
    have HR3 := Lib.hid (HRC.out _ B3.out _ o3)
    generalize (lenI rs).length = n3 at HR3 ⊢
    clear b3 o3
    go_wp2_with fail
    refine HR3.out.mono ?_
    rintro e w4 ⟨rfl, b4⟩
    have B4 := Lib.hid (B3.out.trans (b4.mono B3.out.size))
    have K4 := K3.out.below b4
    have hz := HZ.out
    clear b4 HR3
    cases q2 with
    | false =>
      rw [valO_no (by rw [HQ1.out, ← HLI.out, HQ2.out]; rfl)] at hz
      obtain ⟨rfl, rfl⟩ := Prod.mk.inj hz
      clear K4
      go_wp2
      go_ret2
      exact ⟨rfl, B4.out⟩
    | true =>
      rw [valO_yes (by rw [HQ1.out, ← HLI.out, HQ2.out]; rfl)] at hz
      obtain ⟨hz1, rfl⟩ := Prod.mk.inj hz
      have HV4 := Lib.hid (HVA.out _ B4.out HQ1.out HQ2.out z hz1)
      have d0 := K4.cell 0
      have d1 := K4.cell 1
      have d2 := K4.cell 2
      have d3 := K4.cell 3
      have dl := K4.lt
      clear K4 hz hz1
      go_wp2_with fail
      refine HV4.out.mono ?_
      rintro e w5 ⟨rfl, b5⟩
      go_wp2
      go_ret2
      exact ⟨rfl, B4.out.trans (b5.mono B4.out.size)⟩
end Go.Proofs.YtacbanfnakgecaaGreat
