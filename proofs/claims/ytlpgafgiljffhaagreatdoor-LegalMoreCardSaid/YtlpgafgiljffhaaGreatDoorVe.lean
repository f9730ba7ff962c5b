/- What the reference's Parse of expressions does. -/
import Derived.Test.YtlpgafgiljffhaaGreatDoorVd
import Derived.Test.YtlpgafgiljffhaaGreatDoorNk
namespace Go.Proofs.YtlpgafgiljffhaaGreatDoor
open Go.RowKit
theorem okN_size' {x : Nd} (h : okN x = true) : x.nm.size ≤ 16 ∧ x.inn.size ≤ 16 := by
  by_cases h1 : x.op = 1
  · obtain ⟨_, _, h2, h3⟩ := okN_num h h1
    rw [h2, h3]; exact ⟨by decide, by decide⟩
  · by_cases h4 : x.op = 4
    · obtain ⟨h2, h3, _⟩ := okN_of' h h4
      exact ⟨nameB_size _ h2, nameB_size _ h3⟩
    · unfold okN at h
      rw [if_neg h1] at h
      by_cases h2 : x.op = 2 ∨ x.op = 3
      · rw [if_pos h2] at h
        simp only [Bool.and_eq_true, decide_eq_true_eq] at h
        exact ⟨nameB_size _ h.2.2.1, by have := h.2.2.2; omega⟩
      · rw [if_neg h2, if_neg h4] at h
        simp only [Bool.and_eq_true, decide_eq_true_eq] at h
        exact ⟨by have := h.2.2.1; omega, by have := h.2.2.2; omega⟩
theorem RCtx.plOK {l : List Tok} {v : Value} {w : World} (h : RCtx l v w) : ∀ i, (tokO l i).2.2.2 + (tokO l i).2.1.length ≤ 200000 := fun i => by
  have := h.hok i
  omega
set_option maxRecDepth 100000 in
set_option maxHeartbeats 4000000 in
theorem rparse_run (l : List Tok) (v : Value) (i f : Nat) (r : Res) (w : World) (hx : RCtx l v w) (hi : i ≤ l.length) (hr : run l f (.lv 0) 0 i = some r) (hw : ∀ x j, r = .ok x j → x.wf) :
    Calls Tryz.prog 88 #[v, .int .i64 i] w (ParseAns w.heap.size (finR l i r) w) := by
  have HC := Lib.hid (read_any l v f 0 0 i r (by omega) (by omega) hi hr w hx).1
  have hfit := run_fit f (.lv 0) 0 i r 0 hi (fun n h => rfl) (fun n e h => by cases h) hr
  have HX := Lib.hid hx
  have hlen := hx.hn
  obtain ⟨ad0, cap0, rfl, _⟩ := hx.ht
  obtain ⟨N, hN⟩ : ∃ N, N = l.length := ⟨_, rfl⟩
  have HN := Lib.hid hN
  rw [← hN] at HC HX hlen hi ⊢
  clear hx hN hr
  cases r with
  | err k a =>
    have hk : k ≠ 0 := hfit.1
    have q1 : ((k : Int) != 0) = true := by simp; omega
    clear hfit hw
    go_enter Tryz.func88, Tryz.ntmps88
    go_wp2_with fail
    refine HC.out.mono ?_
    rintro e w2 ⟨tu, htu, rfl, hb⟩
    have HB := Lib.hid hb
    have hs : w.heap.size ≤ w2.heap.size := hb.size
    clear hb HC
    have HR := Lib.hid (BlkG.new w2 (.slice none 0 0) (.int .i64 tu) (.int .i64 k) (.int .i64 a))
    obtain ⟨⟨r0, r1, r2, r3⟩, _⟩ := HR.out.facts
    go_wp2
    go_quiet (fail)
    go_wp2
    refine bodyPost_ret (v := .tuple #[.slice none 0 0, .int .i64 0, .int .i64 k, .int .i64 a]) (by simp [results, Tryz.results88, go_sem]) rfl ⟨rfl, ?_⟩
    exact below_drewN (HB.out.alloc HB.out.size _) _
  | ok x j =>
    have hij : i < j := hfit.2 0 x j rfl rfl
    obtain ⟨_, hjl, hxs⟩ := hfit.1
    have hwx : x.wf := hw x j rfl
    have hil : i < l.length := by omega
    obtain ⟨gt, rfl, hgt⟩ : ∃ gt, ad0 = some ⟨gt, 0, none⟩ ∧ gt < w.heap.size := by
      obtain ⟨ad', cap', hv, hc⟩ := HX.out.ht
      obtain ⟨g', hg', hl', _⟩ := hc i hil
      cases hv
      exact ⟨g', hg', hl'⟩
    have hiN : i < N := by have := HN.out; omega
    obtain ⟨R, hR⟩ : ∃ R, R = finR l i (.ok x j) := ⟨_, rfl⟩
    rw [← hR]
    have HRR := Lib.hid hR
    clear hfit hw hij hR
    go_enter Tryz.func88, Tryz.ntmps88
    go_wp2_with fail
    refine HC.out.mono ?_
    rintro e w2 ⟨v1, rfl, ho, hb⟩
    obtain ⟨ad, cap, rfl, _⟩ := own_shape ho
    have HB3 : Hid (Below w.heap.size w (w2.alloc (.cells #[.slice ad x.flat.length cap, .int .i64 j, .int .i64 0, .int .i64 0] 135))) := hb.alloc hb.size _
    have HO3 : Hid ((w2.alloc (.cells #[.slice ad x.flat.length cap, .int .i64 j, .int .i64 0, .int .i64 0] 135)).ownsRow w.heap.size 65 5 (.slice ad x.flat.length cap) x.flat.length (rowN x.flat)) := own_below ho ((Below.refl _ _).alloc (Nat.le_refl _) _)
    have HR3 := Lib.hid (BlkG.new w2 (.slice ad x.flat.length cap) (.int .i64 j) (.int .i64 0) (.int .i64 0))
    have HD : Hid (Calls Tryz.prog 97 #[.slice ad x.flat.length cap, .int .i64 0] (w2.alloc (.cells #[.slice ad x.flat.length cap, .int .i64 j, .int .i64 0, .int .i64 0] 135)) fun e' w' => e' = .returned (.int .i64 x.depth) ∧ (w2.alloc (.cells #[.slice ad x.flat.length cap, .int .i64 j, .int .i64 0, .int .i64 0] 135)) = w') := (deep_any x.flat (by rw [x.flat_length]; have := HN.out; omega) x.size x 0 [] (.slice ad x.flat.length cap) (w2.alloc (.cells #[.slice ad x.flat.length cap, .int .i64 j, .int .i64 0, .int .i64 0] 135)) (Nat.le_refl _) hwx (by simp) (ndsC_of_own HO3.out).nds)
    obtain ⟨_, _, _, c3⟩ := ((HX.out.below HB3.out).ht.at2 rfl hil : _ ∧ _ ∧ _ ∧ _)
    obtain ⟨tp, htp⟩ : ∃ t, t = plc l i := ⟨_, rfl⟩
    have HFIN : Hid (R = if 30 < x.depth then .err 7 tp else if 200 < x.size then .err 2 tp else .ok x j) := by rw [htp]; exact HRR.out
    rw [← htp] at c3
    have hgt2 : gt < (w2.alloc (.cells #[.slice ad x.flat.length cap, .int .i64 j, .int .i64 0, .int .i64 0] 135)).heap.size := Nat.lt_of_lt_of_le hgt HB3.out.size
    have hmm : x.flat.length = x.size := x.flat_length
    have hm1 : x.flat.length ≤ 100000 := by have := HN.out; omega
    have hdp : x.depth ≤ 100000 := by have := x.depth_le; omega
    obtain ⟨m, hm⟩ : ∃ m, m = x.flat.length := ⟨_, rfl⟩
    have HM := Lib.hid hm
    rw [← hm] at HB3 HO3 HR3 HD hgt2 c3 hmm hm1 ⊢
    obtain ⟨D, hD⟩ : ∃ D, D = x.depth := ⟨_, rfl⟩
    rw [← hD] at HD HFIN hdp
    obtain ⟨S, hS⟩ : ∃ S, S = x.size := ⟨_, rfl⟩
    rw [← hS] at hmm HFIN
    have HMM := Lib.hid hmm
    clear ho hb htp hm hD hS HC hwx HRR hxs hjl hil hmm
    go_wp2_with fail
    generalize (w2.alloc (.cells #[.slice ad m cap, .int .i64 j, .int .i64 0, .int .i64 0] 135)) = w3 at HB3 HO3 HR3 HD c3 hgt2 ⊢
    obtain ⟨⟨r0, r1, r2, r3⟩, _⟩ := HR3.out.facts
    have hb3 : w2.heap.size < w3.heap.size := HR3.out.lt
    refine HD.out.mono ?_
    rintro e w4 ⟨rfl, rfl⟩
    by_cases hd : 30 < D
    · have hRe : R = .err 7 tp := by rw [HFIN.out, if_pos hd]
      subst hRe
      go_wp2
      go_quiet (fail)
      go_wp2
      refine bodyPost_ret (v := .tuple #[.slice none 0 0, .int .i64 0, .int .i64 7, .int .i64 tp]) (by simp [results, Tryz.results88, go_sem]) rfl ⟨rfl, ?_⟩
      exact below_drewN HB3.out _
    · by_cases hs : 200 < S
      · have hRe : R = .err 2 tp := by rw [HFIN.out, if_neg hd, if_pos hs]
        subst hRe
        have hs' : 200 < m := by have := HMM.out; omega
        go_wp2
        go_quiet (fail)
        go_wp2
        refine bodyPost_ret (v := .tuple #[.slice none 0 0, .int .i64 0, .int .i64 2, .int .i64 tp]) (by simp [results, Tryz.results88, go_sem]) rfl ⟨rfl, ?_⟩
        exact below_drewN HB3.out _
      · have hRe : R = .ok x j := by rw [HFIN.out, if_neg hd, if_neg hs]
        subst hRe
        have hs' : ¬ 200 < m := by have := HMM.out; omega
        go_wp2
        go_quiet (fail)
        go_wp2
        refine bodyPost_ret (v := .tuple #[.slice ad m cap, .int .i64 j, .int .i64 0, .int .i64 0]) (by simp [results, Tryz.results88, go_sem]) rfl ⟨.slice ad m cap, rfl, ?_, below_drewN HB3.out _⟩
        rw [← HM.out]
        exact own_below HO3.out (below_drewN (Below.refl _ _) _)
theorem rparse_any (l : List Tok) (v : Value) (i : Nat) (w : World) (hx : RCtx l v w) (hi : i ≤ l.length) :
    Calls Tryz.prog 88 #[v, .int .i64 i] w (ParseAns w.heap.size (parseR l i) w) := by
  obtain ⟨r, hr, _⟩ := run_total l (7 * l.length + 6) (.lv 0) 0 i hi (fun n h => by cases h; omega) (fun n e h => by cases h) (by simp only [need]; omega)
  rw [parse_of l i _ r hi hr]
  refine rparse_run l v i _ r w hx hi hr fun x j h => ?_
  subst h
  exact (run_good (N := 200000) hx.plOK _ _ _ _ _ (fun n e h => by cases h) hr).1
def ParseOut' (L i : Nat) : Res → Prop
  | .ok e j => Fit e ∧ e.depth ≤ 30 ∧ e.size ≤ 200 ∧ i < j ∧ j ≤ L
  | .err k _ => k ≠ 0
theorem parse_out' (l : List Tok) (i : Nat) (hi : i ≤ l.length) (hp : ∀ i, (tokO l i).2.2.2 + (tokO l i).2.1.length ≤ 200000) : ParseOut' l.length i (parseR l i) := by
  obtain ⟨r, hr, _⟩ := run_total l (7 * l.length + 6) (.lv 0) 0 i hi (fun n h => by cases h; omega) (fun n e h => by cases h) (by simp only [need]; omega)
  rw [parse_of l i _ r hi hr]
  have h1 := run_good (N := 200000) hp _ _ _ _ _ (fun n e h => by cases h) hr
  have h2 := run_fit _ (.lv 0) 0 i r 0 hi (fun n h => rfl) (fun n e h => by cases h) hr
  cases r with
  | err k a => exact h1.1
  | ok x j =>
    rw [finR_ok]
    by_cases hd : 30 < x.depth
    · rw [if_pos hd]; show 7 ≠ 0; decide
    · rw [if_neg hd]
      by_cases hs : 200 < x.size
      · rw [if_pos hs]; show 2 ≠ 0; decide
      · rw [if_neg hs]
        exact ⟨h1, by omega, by omega, h2.2 0 x j rfl rfl, h2.1.2.1⟩
def regsB (l : List Nd) : Bool := (namesL l).all fun x => decide (x.op = 2)
noncomputable def plainR (l : List Tok) (i : Nat) : Res := match parseR l i with
  | .err k a => .err k a
  | .ok e j => if regsB e.flat then .ok e j else .err 5 (plc l i)
theorem all_cons_at (p : Nd → Bool) (l : List Nd) (k : Nat) (h : k < l.length) : (l.drop k).all p = (p l[k] && (l.drop (k + 1)).all p) := by
  rw [List.drop_eq_getElem_cons h, List.all_cons]
set_option maxRecDepth 100000 in
set_option maxHeartbeats 2000000 in
theorem rPlain_any (l : List Nd) (v : Value) (w : World) (hv : NdsC w v l) (hn : l.length ≤ 100000) (hz : NmOK l) (hr : rightP l) :
    Calls Tryz.prog 92 #[v] w fun e w' => e = .returned (.bool (regsB l)) ∧ Below w.heap.size w w' := by
  have HN := Lib.hid (rnames_any l v w hv.nds hn)
  have HR : Hid (∀ w', Below w.heap.size w w' → Calls Tryz.prog 66 #[v] w' fun e w'' => e = .returned (.bool true) ∧ Below w'.heap.size w' w'') := fun w' hb => rright_any l v w' (hv.below hb).nds hn hz true (right_yes l hr)
  obtain ⟨R, hR⟩ : ∃ R, regsB l = R := ⟨_, rfl⟩
  rw [hR]
  have HRR : Hid (((namesL l).drop 0).all (fun x => decide (x.op = 2)) = R) := hR
  have hnl : (namesL l).length ≤ 100000 := Nat.le_trans (List.length_filter_le _ _) hn
  obtain ⟨ns, hns⟩ : ∃ ns, ns = namesL l := ⟨_, rfl⟩
  unfold NamesAns at HN
  rw [← hns] at HN HRR hnl
  clear hv hn hz hr hR hns
  go_enter Tryz.func92, Tryz.ntmps92
  go_wp2_with fail
  refine HN.out.mono ?_
  rintro e w1 ⟨nv, rfl, ho, hb⟩
  have HB := Lib.hid hb
  have HNS := ndsC_of_own ho
  obtain ⟨ad, cap, rfl, _, _, hc⟩ := HNS
  have HC := Lib.hid hc
  obtain ⟨n, hN⟩ : ∃ n, n = ns.length := ⟨_, rfl⟩
  have HNN := Lib.hid hN
  rw [← hN] at hnl ⊢
  clear ho hb hc HN hN
  go_wp2
  go_loopg [4] n (fun fuel i' wr => ∃ k : Nat, i' = .int .i64 k ∧ k ≤ n ∧ n - k ≤ fuel ∧ (ns.drop k).all (fun x => decide (x.op = 2)) = R ∧ w1 = wr)
  case atStart => exact ⟨0, rfl, Nat.zero_le _, Nat.le_refl _, HRR.out, rfl⟩
  case round =>
    obtain ⟨k, rfl, hk, hf, ha, rfl⟩ := hrel
    have HA := Lib.hid ha; clear ha
    by_cases hlt : k < n
    · have hk' : k < ns.length := by have := HNN.out; omega
      have HE := Lib.hid (all_cons_at (fun x => decide (x.op = 2)) ns k hk')
      obtain ⟨b, off, rfl, _, c0, _⟩ := HC.out k hk'
      obtain ⟨o, ho⟩ : ∃ o, o = (ns[k]).op := ⟨_, rfl⟩
      have HO := Lib.hid ho
      rw [← ho] at c0
      clear ho
      by_cases h2 : o = 2
      · have q : (o != 2) = false := by simp [h2]
        have HN2 : Hid ((ns.drop (k + 1)).all (fun x => decide (x.op = 2)) = R) := by
          have h := HA.out
          rw [HE.out, ← HO.out, h2] at h
          exact h
        clear h2
        go_wp2
        go_roundg (gk - 1)
        case measure => omega
        case rel => exact ⟨k + 1, by go_num, by omega, by omega, HN2.out, rfl⟩
      · have q : (o != 2) = true := by simp [h2]
        have hre : R = false := by
          rw [← HA.out, HE.out, ← HO.out]; simp [h2]
        subst hre
        clear h2
        go_wp2
        go_ret
        exact ⟨rfl, HB.out⟩
    · have hre : R = true := by
        rw [← HA.out, List.drop_eq_nil_of_le (by have := HNN.out; omega)]; rfl
      subst hre
      go_wp2_with fail
      refine (HR.out _ HB.out).mono ?_
      rintro e w2 ⟨rfl, hb2⟩
      go_wp2
      go_ret
      exact ⟨rfl, HB.out.trans (hb2.mono HB.out.size)⟩
set_option maxRecDepth 100000 in
set_option maxHeartbeats 2000000 in
theorem rplain_any (l : List Tok) (v : Value) (i : Nat) (w : World) (hx : RCtx l v w) (hi : i ≤ l.length) :
    Calls Tryz.prog 134 #[v, .int .i64 i] w (ParseAns w.heap.size (plainR l i) w) := by
  have HP := Lib.hid (rparse_any l v i w hx hi)
  have hout := parse_out' l i hi hx.plOK
  obtain ⟨R, hR⟩ : ∃ R, R = plainR l i := ⟨_, rfl⟩
  rw [← hR]
  unfold plainR at hR
  have HX := Lib.hid hx
  obtain ⟨ad0, cap0, rfl, _⟩ := hx.ht
  obtain ⟨N, hN⟩ : ∃ N, N = l.length := ⟨_, rfl⟩
  have HN := Lib.hid hN
  rw [← hN] at HP HX hi ⊢
  have hlen := HX.out.hn
  rw [← hN] at hlen
  clear hx hN
  cases hp : parseR l i with
  | err k a =>
    rw [hp] at HP hR hout
    have hk : k ≠ 0 := hout
    have q1 : ((k : Int) != 0) = true := by simp; omega
    have hre : R = .err k a := hR
    subst hre
    clear hR hout hp
    go_enter Tryz.func134, Tryz.ntmps134
    go_wp2_with fail
    refine HP.out.mono ?_
    rintro e w2 ⟨rfl, hb⟩
    go_wp2
    refine bodyPost_ret (v := .tuple #[.slice none 0 0, .int .i64 0, .int .i64 k, .int .i64 a]) (by simp [results, Tryz.results134, go_sem]) rfl ⟨rfl, hb⟩
  | ok x j =>
    rw [hp] at HP hR hout
    obtain ⟨hfit, hd, hs, hij, hjl⟩ := hout
    have hil : i < l.length := by omega
    obtain ⟨gt, rfl, hgt⟩ : ∃ gt, ad0 = some ⟨gt, 0, none⟩ ∧ gt < w.heap.size := by
      obtain ⟨ad', cap', hv, hc⟩ := HX.out.ht
      obtain ⟨g', hg', hl', _⟩ := hc i hil
      cases hv
      exact ⟨g', hg', hl'⟩
    have hiN : i < N := by have := HN.out; omega
    have HPL : Hid (∀ v w, NdsC w v x.flat → Calls Tryz.prog 92 #[v] w fun e w' => e = .returned (.bool (regsB x.flat)) ∧ Below w.heap.size w w') := fun v w hv => rPlain_any x.flat v w hv (by rw [x.flat_length]; omega) (fun k hk => by
      have h := okN_size' (hfit.2 _ (List.getElem_mem hk)).1
      omega) (fit_right hfit hd hs)
    replace hR : R = if regsB x.flat then .ok x j else .err 5 (plc l i) := hR
    obtain ⟨b, hb⟩ : ∃ b, b = regsB x.flat := ⟨_, rfl⟩
    rw [← hb] at HPL hR
    have hxl : x.flat.length ≤ 200 := by rw [x.flat_length]; exact hs
    have HRR : Hid (R = if b then .ok x j else .err 5 (plc l i)) := hR
    clear hR hp hfit hd hs hij hb hjl
    go_enter Tryz.func134, Tryz.ntmps134
    go_wp2_with fail
    refine HP.out.mono ?_
    rintro e w2 ⟨v1, rfl, ho, hb2⟩
    obtain ⟨ad, cap, rfl, _⟩ := own_shape ho
    have HO := Lib.hid ho
    have HB := Lib.hid hb2
    go_wp2_with fail
    refine (HPL.out _ _ (ndsC_of_own HO.out)).mono ?_
    rintro e w3 ⟨rfl, hb3⟩
    have HB3 := Lib.hid (HB.out.trans (hb3.mono HB.out.size))
    have HO3 := Lib.hid (own_below HO.out hb3)
    obtain ⟨_, _, _, c3⟩ := ((HX.out.below HB3.out).ht.at2 rfl hil : _ ∧ _ ∧ _ ∧ _)
    obtain ⟨tp, htp⟩ : ∃ t, t = plc l i := ⟨_, rfl⟩
    rw [← htp] at HRR c3
    have hgt3 : gt < w3.heap.size := Nat.lt_of_lt_of_le hgt HB3.out.size
    clear ho hb2 hb3 HO HB HP HPL htp hil
    cases b with
    | true =>
      have hre : R = .ok x j := HRR.out
      subst hre
      obtain ⟨m, hm⟩ : ∃ m, m = x.flat.length := ⟨_, rfl⟩
      have HM := Lib.hid hm
      rw [← hm] at HO3 ⊢
      clear hm
      go_wp2
      refine bodyPost_ret (v := .tuple #[.slice ad m cap, .int .i64 j, .int .i64 0, .int .i64 0]) (by simp [results, Tryz.results134, go_sem]) rfl ⟨.slice ad m cap, rfl, ?_, HB3.out⟩
      rw [← HM.out]; exact HO3.out
    | false =>
      have hre : R = .err 5 tp := HRR.out
      subst hre
      go_wp2
      go_quiet (fail)
      go_wp2
      refine bodyPost_ret (v := .tuple #[.slice none 0 0, .int .i64 0, .int .i64 5, .int .i64 tp]) (by simp [results, Tryz.results134, go_sem]) rfl ⟨rfl, below_drewN HB3.out _⟩
end Go.Proofs.YtlpgafgiljffhaaGreatDoor
