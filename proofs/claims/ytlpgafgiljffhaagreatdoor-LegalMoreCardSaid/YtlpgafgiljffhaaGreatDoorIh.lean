/- legal: claims, Check. legal: Check. -/
import Derived.Test.YtlpgafgiljffhaaGreatDoorIf
namespace Go.Proofs.YtlpgafgiljffhaaGreatDoor
open Go.RowKit
open Go.Maps (Keyed IsMap Tidy setOf)
set_option linter.unusedSimpArgs false
set_option linter.unusedVariables false
def kn2 (LL : List ByteArray) (a : List NR) (x : Nd) : Bool := if x.op = 3 then inB LL x.nm else match lookN a x.inn with | some rs => inB rs x.nm | none => false
def clsC (m : Int) (LL : List ByteArray) (a : List NR) : List Cl → Nat → Nat × Int
  | [], _ => (0, 0)
  | c :: l, i => if i = 8 then (12, c.pl) else if (ndsC m (kn2 LL a) c.e).1 ≠ 0 then ndsC m (kn2 LL a) c.e else clsC m LL a l (i + 1)
theorem clsC_cons (m : Int) (LL : List ByteArray) (a : List NR) (c : Cl) (l : List Cl) (i : Nat) : clsC m LL a (c :: l) i = if i = 8 then (12, c.pl) else if (ndsC m (kn2 LL a) c.e).1 ≠ 0 then ndsC m (kn2 LL a) c.e else clsC m LL a l (i + 1) := rfl
noncomputable def chkC (g : Pg) : Nat × Int := if rightPB g = false then (8, 0) else if g.mod < 2 ∨ 16 < g.mod then (11, 0) else if (locsC g.mod g.locs []).1 ≠ 0 then locsC g.mod g.locs []
  else if (thtC g.mod (nms g.locs) g.ths).1 ≠ 0 then thtC g.mod (nms g.locs) g.ths else clsC g.mod (nms g.locs) ((g.ths.map nrT).reverse) g.cls 0
section
variable {w0 w w' : World} {cb LB RB B : Nat} {m : Int} {LL : List ByteArray} {T : List TE}
theorem TabR.keep (h : TabR w RB LB T) (hk : Keep B w w') (h1 : RB ≠ B) (h2 : ∀ p ∈ T, p.2.2 ≠ B) : TabR w' RB LB T := by
  refine ⟨?_, fun p hp => (h.st p hp).keep hk (h2 p hp), h.n1⟩
  have hl : RB < w.heap.size := World.ownsMap.lt h.mp
  obtain ⟨es, clock, hB, r⟩ := h.mp
  exact ⟨es, clock, by rw [hk.block RB hl h1]; exact hB, r⟩
theorem TabR.new (w : World) (LB : Nat) : TabR (w.alloc (.map #[] 0)) w.heap.size LB [] := ⟨World.ownsMap_made _ _ _ _, fun p hp => (List.not_mem_nil hp).elim, fun p hp => (List.not_mem_nil hp).elim⟩
set_option maxRecDepth 100000 in
set_option maxHeartbeats 4000000 in
theorem known2_any (x : Nd) (pb : Nat) (hp : Bk w pb 72 #[.pointer (some ⟨cb, 0, none⟩)]) (hc : CK w0 w cb LB RB m) (hs : SetB w LB LL) (ht : TabR w RB LB T) (hz : x.nm.size ≤ 100000 ∧ x.inn.size ≤ 100000) :
    Calls Tryz.prog 46 #[.agg #[.int .i64 x.op, .int .i64 x.n, .string x.nm, .string x.inn, .int .i64 x.pl], .pointer (some ⟨pb, 0, none⟩)] w fun e w' => e = .returned (.bool (kn2 LL (T.map nrE) x)) ∧ Below w.heap.size w w' := by
  have HAL := Lib.hid (bel_al w (.cells #[.int .i64 x.op, .int .i64 x.n, .string x.nm, .string x.inn, .int .i64 x.pl] 65))
  have HB := Lib.hid (Bk.new w 65 #[.int .i64 x.op, .int .i64 x.n, .string x.nm, .string x.inn, .int .i64 x.pl])
  have HC := Lib.hid (hc.below HAL.out)
  have HP := Lib.hid (hp.below HAL.out)
  have HS := Lib.hid (hs.below HAL.out)
  have HT := Lib.hid (ht.below HAL.out)
  have HZ := Lib.hid hz
  clear hp hc hs ht hz
  go_enter Tryz.func46, Tryz.ntmps46
  go_upto_region 1 with fail
  generalize World.alloc _ _ = w1 at HAL HB HC HP HS HT ⊢
  have x0 : w1.cell? ⟨w.heap.size, 0, none⟩ = some (.int .i64 x.op) := HB.out.cell 0
  have x2 : w1.cell? ⟨w.heap.size, 2, none⟩ = some (.string x.nm) := HB.out.cell 2
  have x3 : w1.cell? ⟨w.heap.size, 3, none⟩ = some (.string x.inn) := HB.out.cell 3
  have p0 : w1.cell? ⟨pb, 0, none⟩ = some (.pointer (some ⟨cb, 0, none⟩)) := HP.out.cell 0
  have c1 : w1.cell? ⟨cb, 1, none⟩ = some (.map (some LB)) := HC.out.bk.cell 1
  have c2 : w1.cell? ⟨cb, 2, none⟩ = some (.map (some RB)) := HC.out.bk.cell 2
  have l1 := HB.out.lt
  have l2 := HP.out.lt
  have l3 := HC.out.bk.lt
  by_cases h3 : x.op = 3
  · have e3 : (x.op == 3) = true := by rw [h3]; rfl
    have e : kn2 LL (T.map nrE) x = inB LL x.nm := by unfold kn2; rw [if_pos h3]
    have HH := Lib.hid (fun (W : World) (hb : Below w1.heap.size w1 W) => has_any (HS.out.below hb) x.nm (by have := HZ.out.1; unfold maxLen; omega))
    have HE := Lib.hid e
    clear h3 e
    go_wp2_with fail
    go_region_law (go_simp; go_at_call 42; (refine Calls.mono (HH.out _ (below_drewN (Below.refl _ _) 1)) ?_); rintro e wn ⟨rfl, b9⟩)
    all_goals
      go_wp2_with fail
      go_ret
      exact ⟨by rw [HE.out]; rfl, HAL.out.trans (((below_drewN (Below.refl _ w1) 1).trans (b9.mono (Nat.le_refl _))).mono HAL.out.size)⟩
  · have e3 : (x.op == 3) = false := by rw [beq_eq_false_iff_ne]; exact h3
    have e : kn2 LL (T.map nrE) x = (match lookN (T.map nrE) x.inn with | some rs => inB rs x.nm | none => false) := by unfold kn2; rw [if_neg h3]
    rw [lookN_map] at e
    have hlk := (HT.out.below (bel_drew w1)).look x.inn (by have := HZ.out.2; unfold maxLen; omega)
    unfold valT at hlk
    cases hl : lookT T x.inn with
    | none =>
      rw [hl] at e hlk
      simp only [Option.map] at e hlk
      have HH := Lib.hid (fun (W : World) => has_nil W x.nm (by have := HZ.out.1; unfold maxLen; omega))
      have HE := Lib.hid e
      clear h3 e hl
      go_wp2_with fail
      go_region_law (go_simp; go_at_call 42; (refine Calls.mono (HH.out _) ?_); rintro e wn ⟨rfl, b9⟩)
      all_goals
        go_wp2_with fail
        go_ret
        exact ⟨by rw [HE.out]; rfl, HAL.out.trans (((bel_drew w1).trans (b9.mono (Nat.le_refl _))).mono HAL.out.size)⟩
    | some q =>
      have hsq := HT.out.st _ (lookT_mem hl)
      rw [hl] at e hlk
      simp only [Option.map] at e hlk hsq
      have HH := Lib.hid (fun (W : World) (hb : Below w1.heap.size w1 W) => has_any (hsq.below hb) x.nm (by have := HZ.out.1; unfold maxLen; omega))
      have HE := Lib.hid e
      clear h3 e hl hsq
      go_wp2_with fail
      go_region_law (go_simp; go_at_call 42; (refine Calls.mono (HH.out _ (bel_drew w1)) ?_); rintro e wn ⟨rfl, b9⟩)
      all_goals
        go_wp2_with fail
        go_ret
        exact ⟨by rw [HE.out]; rfl, HAL.out.trans (((bel_drew w1).trans (b9.mono (Nat.le_refl _))).mono HAL.out.size)⟩
set_option maxRecDepth 100000 in
set_option maxHeartbeats 4000000 in
theorem claims_any (us : List CI) (v : Value) (hc : CK w0 w cb LB RB m) (hs : SetB w LB LL) (ht : TabR w RB LB T) (hv : ClsD w0 v us) (hn : us.length ≤ 100000) (hz : ∀ c ∈ us, CmOK c.1) (r : Nat × Int) (hrr : clsC m LL (T.map nrE) (us.map (·.1)) 0 = r) :
    Calls Tryz.prog 24 #[.pointer (some ⟨cb, 0, none⟩), v] w fun e w' => e = .returned (.tuple #[.int .i64 (r.1 : Nat), .int .i64 r.2]) ∧ Below w.heap.size w w' := by
  have HV := Lib.hid hv
  obtain ⟨ad, cap, rfl⟩ := SlD.shape hv
  obtain ⟨n, hnn⟩ : ∃ n, n = us.length := ⟨_, rfl⟩
  rw [← hnn] at hn ⊢
  have HN := Lib.hid hnn
  have HZ := Lib.hid hz
  have hal := bel_al w (.cells #[.pointer (some ⟨cb, 0, none⟩)] 72)
  have HC := Lib.hid (hc.below hal)
  have HS := Lib.hid (hs.below hal)
  have HT := Lib.hid (ht.below hal)
  have HP := Lib.hid (Bk.new w 72 #[.pointer (some ⟨cb, 0, none⟩)])
  have HAL := Lib.hid hal
  have HR := Lib.hid hrr
  clear hv hz hc hs ht hrr hnn hal
  go_enter Tryz.func24, Tryz.ntmps24
  go_wp2_with fail
  obtain ⟨wB, hwB⟩ : ∃ z, z = w.alloc (.cells #[.pointer (some ⟨cb, 0, none⟩)] 72) := ⟨_, rfl⟩
  rw [← hwB] at HC HS HT HP HAL ⊢
  clear hwB
  go_loopg [14] n (fun fuel i' wr => ∃ (k : Nat), i' = .int .i64 k ∧ k ≤ n ∧ n - k ≤ fuel ∧ clsC m LL (T.map nrE) ((us.drop k).map (·.1)) k = r ∧ Hid (Below wB.heap.size wB wr))
  case atStart => exact ⟨0, rfl, Nat.zero_le _, Nat.le_refl _, HR.out, Lib.hid (Below.refl _ _)⟩
  case round =>
    obtain ⟨k, rfl, hk, hf, ha, hb⟩ := hrel
    clear HR
    have HC1 := Lib.hid (HC.out.below hb.out)
    by_cases hlt : k < n
    · have hky : k < us.length := by have := HN.out; omega
      obtain ⟨ad', cap', hve, _, _, hcc⟩ := HV.out
      obtain ⟨bb, off, hba, hbl, hcl, hnd⟩ := hcc k hky
      have he1 : ad = ad' := by injection hve
      rw [← he1] at hba
      subst hba
      obtain ⟨t, htt⟩ : ∃ t, t = us[k] := ⟨_, rfl⟩
      rw [← htt] at hcl hnd
      have hmem : t ∈ us := by rw [htt]; exact List.getElem_mem hky
      have hzt := HZ.out t hmem
      have hdr : (us.drop k).map (·.1) = t.1 :: (us.drop (k + 1)).map (·.1) := by rw [htt, List.drop_eq_getElem_cons hky]; rfl
      rw [hdr, clsC_cons] at ha
      obtain ⟨x0, x1, x2⟩ := hcl
      have y0 := (HC1.out.bl.cell (p := ⟨bb, off + k * 3, none⟩) hbl).trans x0
      have y1 := (HC1.out.bl.cell (p := ⟨bb, off + k * 3 + 1, none⟩) hbl).trans x1
      have y2 := (HC1.out.bl.cell (p := ⟨bb, off + k * 3 + 2, none⟩) hbl).trans x2
      obtain ⟨x, ve⟩ := t
      simp only [] at y0 y1 y2 hnd hzt ha
      obtain ⟨z1, z2⟩ := hzt
      obtain ⟨ae, ce, rfl, _⟩ := id hnd
      obtain ⟨ne, hne⟩ : ∃ n, n = x.e.length := ⟨_, rfl⟩
      rw [← hne] at y1 hnd
      have HND := Lib.hid hnd
      have HZ1 := Lib.hid z1
      have HZ2 := Lib.hid z2
      have HA := Lib.hid ha
      clear htt hdr hcc hve he1 hmem hnd z1 z2 x0 x1 x2 ha hne HC1
      have hal := bel_al wr (.cells #[.int .i64 x.kind, .slice ae ne ce, .int .i64 x.pl] 49)
      have HB1 := Lib.hid (hb.out.trans (hal.mono hb.out.size))
      have HBK := Lib.hid (Bk.new wr 49 #[.int .i64 x.kind, .slice ae ne ce, .int .i64 x.pl])
      clear hal hb
      go_upto_region 5 with fail
      clear y0 y1 y2
      generalize World.alloc _ _ = w1 at HB1 HBK ⊢
      have ha := HA.out
      clear HA
      have y2 : w1.cell? ⟨wr.heap.size, 2, none⟩ = some (.int .i64 x.pl) := HBK.out.cell 2
      by_cases h8 : k = 8
      · have e8 : ((k : Int) == 8) = true := by rw [h8]; rfl
        rw [if_pos h8] at ha
        subst ha
        clear h8
        go_wp2_with fail
        go_quiet (fail)
        go_wp2_with fail
        exact bodyPost_ret (v := .tuple #[.int .i64 12, .int .i64 x.pl]) (by simp [results, Tryz.results24, go_sem]) rfl ⟨rfl, HAL.out.trans ((HB1.out.trans ((below_drewN (Below.refl _ w1) nq).mono HB1.out.size)).mono HAL.out.size)⟩
      · have e8 : ((k : Int) == 8) = false := by rw [beq_eq_false_iff_ne]; omega
        rw [if_neg h8] at ha
        clear h8 y2
        have y1 : w1.cell? ⟨wr.heap.size, 1, none⟩ = some (.slice ae ne ce) := HBK.out.cell 1
        have p0 : w1.cell? ⟨w.heap.size, 0, none⟩ = some (.pointer (some ⟨cb, 0, none⟩)) := (HP.out.below HB1.out).cell 0
        have l1 := HBK.out.lt
        have l2 := (HP.out.below HB1.out).lt
        obtain ⟨q, hq⟩ : ∃ q, ndsC m (kn2 LL (T.map nrE)) x.e = q := ⟨_, rfl⟩
        rw [hq] at ha
        have HN1 := Lib.hid (nodes2_any (m := m) x.e (.slice ae ne ce) w.heap.size (kn2 LL (T.map nrE)) (HC.out.below HB1.out) HND.out HZ1.out (fun W hb n hn => known2_any n w.heap.size ((HP.out.below HB1.out).below hb) ((HC.out.below HB1.out).below hb) ((HS.out.below HB1.out).below hb) ((HT.out.below HB1.out).below hb) (nmok_mem HZ2.out hn)))
        rw [hq] at HN1
        clear hq
        go_wp2_with fail
        refine HN1.out.mono ?_
        rintro e w4 ⟨rfl, b4⟩
        have HB4 := Lib.hid (HB1.out.trans (b4.mono HB1.out.size))
        clear b4 y1 p0 l1 l2 HB1 HBK HN1
        by_cases hz1 : q.1 = 0
        · have e1 : ((q.1 : Int) != 0) = false := by simp; omega
          rw [if_neg (fun h => h hz1)] at ha
          clear hz1
          go_wp2_with fail
          go_roundg (gk - 1)
          case measure => omega
          case rel => exact ⟨k + 1, by go_num, by omega, by omega, ha, HB4⟩
        · have e1 : ((q.1 : Int) != 0) = true := by simp; omega
          rw [if_pos hz1] at ha
          subst ha
          clear hz1
          go_wp2_with fail
          exact bodyPost_ret (v := .tuple #[.int .i64 (q.1 : Nat), .int .i64 q.2]) (by simp [results, Tryz.results24, go_sem]) rfl ⟨rfl, HAL.out.trans (HB4.out.mono HAL.out.size)⟩
    · obtain rfl : k = n := by omega
      rw [show us.drop k = [] by rw [HN.out]; exact List.drop_length] at ha
      have ha : ((0, 0) : Nat × Int) = r := ha
      subst ha
      go_wp2_with fail
      exact bodyPost_ret (v := .tuple #[.int .i64 0, .int .i64 0]) (by simp [results, Tryz.results24, go_sem]) rfl ⟨rfl, HAL.out.trans (hb.out.mono HAL.out.size)⟩
end

end Go.Proofs.YtlpgafgiljffhaaGreatDoor

namespace Go.Proofs.YtlpgafgiljffhaaGreatDoor
open Go.RowKit
open Go.Maps (Keyed IsMap Tidy setOf)
set_option linter.unusedSimpArgs false
set_option linter.unusedVariables false
theorem map_fst_len {α β : Type} (l : List (α × β)) (xs : List α) (h : l.map (·.1) = xs) : l.length = xs.length := by rw [← h, List.length_map]
theorem flds_below {w w' : World} (h : Flds w) (hb : Below w.heap.size w w') : Flds w' := Flds.below h hb
section
variable {w : World}
set_option maxRecDepth 100000 in
set_option maxHeartbeats 8000000 in
theorem check_any (g : Pg) (x y z : Value) (hd : PgD w x y z g) (hz : PmOK g) (hf : Flds w) (hbd : rightPB g = true → ∀ t ∈ g.ths, ∀ s ∈ t.body, 0 ≤ s.body ∧ s.body ≤ 1000000) :
    Calls Tryz.prog 10 #[.agg #[.int .i64 g.mod, x, y, z]] w fun e w' => e = .returned (.tuple #[.int .i64 ((chkC g).1 : Nat), .int .i64 (chkC g).2]) ∧ Below w.heap.size w w' := by
  obtain ⟨r, hr⟩ : ∃ r, chkC g = r := ⟨_, rfl⟩
  rw [hr]
  unfold chkC at hr
  obtain ⟨dl, ⟨ts, hts, dt⟩, us, hus, dc⟩ := id hd
  obtain ⟨a1, n1, c1, rfl⟩ : ∃ a n c, x = .slice a n c := by obtain ⟨a, c, h⟩ := SlD.shape dl; exact ⟨a, _, c, h⟩
  obtain ⟨a2, n2, c2, rfl⟩ : ∃ a n c, y = .slice a n c := by obtain ⟨a, c, h⟩ := SlD.shape dt; exact ⟨a, _, c, h⟩
  obtain ⟨a3, n3, c3, rfl⟩ : ∃ a n c, z = .slice a n c := by obtain ⟨a, c, h⟩ := SlD.shape dc; exact ⟨a, _, c, h⟩
  have hal := bel_al w (.cells #[.int .i64 g.mod, .slice a1 n1 c1, .slice a2 n2 c2, .slice a3 n3 c3] 26)
  have HRT := Lib.hid (pright_any g _ _ _ _ (hd.below hal) hz (flds_below hf hal))
  have HB := Lib.hid (Bk.new w 26 #[.int .i64 g.mod, .slice a1 n1 c1, .slice a2 n2 c2, .slice a3 n3 c3])
  have HAL := Lib.hid hal
  have HDL := Lib.hid dl
  have HDT := Lib.hid dt
  have HDC := Lib.hid dc
  have HTS := Lib.hid hts
  have HUS := Lib.hid hus
  have HZ := Lib.hid hz
  have HBD := Lib.hid hbd
  obtain ⟨t0, ht0⟩ : ∃ t, rightPB g = t := ⟨_, rfl⟩
  rw [ht0] at HRT HBD hr
  have hmm := @run_makeMap Tryz.prog
  clear hd dl dt dc hts hus hz hf hbd hal ht0
  go_enter Tryz.func10, Tryz.ntmps10
  have b0 := HB.out.cell 0
  have b1 := HB.out.cell 1
  have b2 := HB.out.cell 2
  have b3 := HB.out.cell 3
  go_wp2_with fail
  refine HRT.out.mono ?_
  rintro e w1 ⟨rfl, bl1⟩
  have HB1 := Lib.hid (HB.out.below bl1)
  have HBL1 := Lib.hid (HAL.out.trans (bl1.mono HAL.out.size))
  clear bl1 b0 b1 b2 b3 HB HAL HRT
  cases t0
  · rw [if_pos rfl] at hr
    subst hr
    go_wp2_with fail
    exact bodyPost_ret (v := .tuple #[.int .i64 8, .int .i64 0]) (by simp [results, Tryz.results10, go_sem]) rfl ⟨rfl, HBL1.out⟩
  · rw [if_neg (by decide)] at hr
    obtain ⟨m, hm⟩ : ∃ m, m = g.mod := ⟨_, rfl⟩
    rw [← hm] at hr HB1
    have HM := Lib.hid hm
    have b0 : w1.cell? ⟨w.heap.size, 0, none⟩ = some (.int .i64 m) := HB1.out.cell 0
    have bl := HB1.out.lt
    by_cases h2 : m < 2
    · rw [if_pos (Or.inl h2)] at hr
      subst hr
      go_wp2_with fail
      exact bodyPost_ret (v := .tuple #[.int .i64 11, .int .i64 0]) (by simp [results, Tryz.results10, go_sem]) rfl ⟨rfl, HBL1.out⟩
    · by_cases h16 : 16 < m
      · rw [if_pos (Or.inr h16)] at hr
        subst hr
        go_wp2_with fail
        exact bodyPost_ret (v := .tuple #[.int .i64 11, .int .i64 0]) (by simp [results, Tryz.results10, go_sem]) rfl ⟨rfl, HBL1.out⟩
      · rw [if_neg (fun h => h.elim h2 h16)] at hr
        have b1 : w1.cell? ⟨w.heap.size, 1, none⟩ = some (.slice a1 n1 c1) := HB1.out.cell 1
        clear b1
        obtain ⟨W, hW⟩ : ∃ z, z = ((w1.alloc (.map #[] 0)).alloc (.map #[] 0)).alloc (.cells #[.int .i64 m, .map (some w1.heap.size), .map (some (w1.heap.size + 1))] 54) := ⟨_, rfl⟩
        have hbw : Below w1.heap.size w1 W := by rw [hW]; exact (bel_al2 w1 _ _).trans ((bel_al _ _).mono (by rw [alloc_size, alloc_size]; omega))
        have hge : w.heap.size < w1.heap.size := bl
        have HC : Hid (CK w W (w1.heap.size + 1 + 1) w1.heap.size (w1.heap.size + 1) m) := Lib.hid ⟨by rw [hW]; exact hbk_new (by rw [alloc_size, alloc_size]), HBL1.out.trans (hbw.mono HBL1.out.size), by omega, by omega, by omega, by omega, by omega, by omega⟩
        have HS : Hid (SetB W w1.heap.size []) := Lib.hid (by rw [hW]; exact ((SetB.new w1).below (bel_al _ _)).below (bel_al _ _))
        have HT : Hid (TabR W (w1.heap.size + 1) w1.heap.size []) := Lib.hid (by
          rw [hW]
          have := (TabR.new (w1.alloc (.map #[] 0)) w1.heap.size).below (bel_al _ (.cells #[.int .i64 m, .map (some w1.heap.size), .map (some (w1.heap.size + 1))] 54))
          rw [alloc_size] at this
          exact this)
        have HB2 := Lib.hid (HB1.out.below hbw)
        have HBL2 := Lib.hid (HBL1.out.trans (hbw.mono HBL1.out.size))
        obtain ⟨q1, hq1⟩ : ∃ q, locsC m g.locs [] = q := ⟨_, rfl⟩
        rw [hq1] at hr
        have HLO := Lib.hid (locations_any g.locs (.slice a1 n1 c1) HC.out HS.out HDL.out HZ.out.l.1 HZ.out.l.2 q1 hq1)
        have HW := Lib.hid hW
        clear hq1 hm hbw hW
        go_upto_region 6 with fail
        rw [← HW.out]
        have b1 : W.cell? ⟨w.heap.size, 1, none⟩ = some (.slice a1 n1 c1) := HB2.out.cell 1
        have bl2 := HB2.out.lt
        go_wp2_with fail
        refine HLO.out.mono ?_
        rintro e w2 ⟨rfl, hls, hk1⟩
        have HC2 := Lib.hid (HC.out.keep hk1 HC.out.g2 HC.out.n1)
        have HT2 := Lib.hid (HT.out.keep hk1 (by omega) (fun p hp => (List.not_mem_nil hp).elim))
        have HB3 := Lib.hid (HB2.out.keep hk1 (by omega))
        have HBL3 := Lib.hid (HBL2.out.trans (keep_low hk1 HC.out.g2 HBL2.out.size))
        clear hk1 HC HS HT HB2 HBL2 HLO HW b0 b1 bl2
        by_cases hz1 : q1.1 = 0
        · have e1 : ((q1.1 : Int) != 0) = false := by simp; omega
          rw [if_neg (fun h => h hz1)] at hr
          have HS2 := Lib.hid (hls hz1)
          clear hls hz1
          have b2 : w2.cell? ⟨w.heap.size, 2, none⟩ = some (.slice a2 n2 c2) := HB3.out.cell 2
          have bl3 := HB3.out.lt
          obtain ⟨q2, hq2⟩ : ∃ q, thtC m (nms g.locs) g.ths = q := ⟨_, rfl⟩
          rw [hq2] at hr
          have HTH := Lib.hid (threads_any ts (.slice a2 n2 c2) HC2.out HS2.out HT2.out HDT.out (by rw [map_fst_len ts _ HTS.out]; exact HZ.out.t.1) (fun t ht => HZ.out.t.2 _ (by rw [← HTS.out]; exact List.mem_map_of_mem ht)) (fun t ht => HBD.out trivial _ (by rw [← HTS.out]; exact List.mem_map_of_mem ht)) q2 (by rw [HTS.out]; exact hq2))
          clear hq2
          go_wp2_with fail
          refine HTH.out.mono ?_
          rintro e w3 ⟨rfl, hc3, hs3, hk3, htab⟩
          have HC3 := Lib.hid hc3
          have HS3 := Lib.hid hs3
          have HB4 := Lib.hid (HB3.out.keep hk3 (by omega))
          have HBL4 := Lib.hid (HBL3.out.trans (keep_low hk3 HC2.out.g3 HBL3.out.size))
          clear hc3 hs3 hk3 HC2 HS2 HT2 HB3 HBL3 HTH b2 bl3 e1
          by_cases hz2 : q2.1 = 0
          · have e1 : ((q2.1 : Int) != 0) = false := by simp; omega
            rw [if_neg (fun h => h hz2)] at hr
            obtain ⟨T, ht3, hTe⟩ := htab hz2
            rw [HTS.out] at hTe
            have HT3 := Lib.hid ht3
            have HTE := Lib.hid hTe
            clear htab hz2 ht3 hTe
            have b3 : w3.cell? ⟨w.heap.size, 3, none⟩ = some (.slice a3 n3 c3) := HB4.out.cell 3
            have bl4 := HB4.out.lt
            have HCL := Lib.hid (claims_any us (.slice a3 n3 c3) HC3.out HS3.out HT3.out HDC.out (by rw [map_fst_len us _ HUS.out]; exact HZ.out.c.1) (fun c hc => HZ.out.c.2 _ (by rw [← HUS.out]; exact List.mem_map_of_mem hc)) r (by rw [HUS.out, HTE.out]; exact hr))
            clear hr
            go_wp2_with fail
            refine HCL.out.mono ?_
            rintro e w4 ⟨rfl, b4⟩
            have HBL5 := Lib.hid (HBL4.out.trans (b4.mono HBL4.out.size))
            clear b4
            go_wp2_with fail
            exact bodyPost_ret (v := .tuple #[.int .i64 (r.1 : Nat), .int .i64 r.2]) (by simp [results, Tryz.results10, go_sem]) rfl ⟨rfl, HBL5.out⟩
          · have e1 : ((q2.1 : Int) != 0) = true := by simp; omega
            rw [if_pos hz2] at hr
            subst hr
            clear hz2 htab
            go_wp2_with fail
            exact bodyPost_ret (v := .tuple #[.int .i64 (q2.1 : Nat), .int .i64 q2.2]) (by simp [results, Tryz.results10, go_sem]) rfl ⟨rfl, HBL4.out⟩
        · have e1 : ((q1.1 : Int) != 0) = true := by simp; omega
          rw [if_pos hz1] at hr
          subst hr
          clear hz1 hls
          go_wp2_with fail
          exact bodyPost_ret (v := .tuple #[.int .i64 (q1.1 : Nat), .int .i64 q1.2]) (by simp [results, Tryz.results10, go_sem]) rfl ⟨rfl, HBL3.out⟩
end

end Go.Proofs.YtlpgafgiljffhaaGreatDoor
