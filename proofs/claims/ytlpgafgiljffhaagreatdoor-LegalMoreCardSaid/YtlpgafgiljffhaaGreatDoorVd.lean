/- The reference's floor. -/
import Derived.Test.YtlpgafgiljffhaaGreatDoorVc
import Derived.Deep.RegionWith
import Derived.Deep.DeepCutAuto
namespace Go.Proofs.YtlpgafgiljffhaaGreatDoor
open Go.RowKit
def FlX (d : Nat) (w : World) (b : Nat) (rx : Res) (wr : World) : Prop := match rx with
  | .err k a => k ≠ 0 ∧ ∃ tu : Nat, tu + d ≤ 31 ∧ BlkG wr b (.slice none 0 0) (.int .i64 tu) (.int .i64 k) (.int .i64 a)
  | .ok e j => ∃ ad cap, BlkG wr b (.slice ad e.flat.length cap) (.int .i64 j) (.int .i64 0) (.int .i64 0) ∧ wr.ownsRow w.heap.size 65 5 (.slice ad e.flat.length cap) e.flat.length (rowN e.flat) ∧ ∀ g, ad = some ⟨g, 0, none⟩ → g ≠ b ∧ g ≠ w.heap.size
def FlR (l : List Tok) (n d f : Nat) (r rx : Res) : Prop := match rx with
  | .err k a => r = .err k a
  | .ok e j => run l f (.more n e) d j = some r ∧ j ≤ l.length ∧ e.flat.length ≤ j
theorem own_ne {w : World} {B e size m cap n : Nat} {ad : Option Addr} {xs : List Value} (h : w.ownsRow B e size (.slice ad m cap) n xs) (b : Nat) (hb : b < B ∨ w.heap.size ≤ b) : ∀ g, ad = some ⟨g, 0, none⟩ → g ≠ b := by
  intro g hg
  rcases h.2 with ⟨h1, _⟩ | ⟨g', _, cur, hv, hB, hh, _⟩
  · cases h1; cases hg
  · cases hv
    cases hg
    have := (Array.getElem?_eq_some_iff.1 hh).1
    omega
theorem own_lt {w : World} {B e size m cap n : Nat} {ad : Option Addr} {xs : List Value} (h : w.ownsRow B e size (.slice ad m cap) n xs) : ∀ g, ad = some ⟨g, 0, none⟩ → g < w.heap.size := by
  intro g hg
  rcases h.2 with ⟨h1, _⟩ | ⟨g', _, cur, hv, hB, hh, _⟩
  · cases h1; cases hg
  · cases hv
    cases hg
    exact (Array.getElem?_eq_some_iff.1 hh).1
theorem own_lim {w w' : World} {B C e size m cap n : Nat} {ad : Option Addr} {xs : List Value} (h : w.ownsRow B e size (.slice ad m cap) n xs) (hb : Below C w w') (hlt : ∀ g, ad = some ⟨g, 0, none⟩ → g < C) : w'.ownsRow B e size (.slice ad m cap) n xs := by
  obtain ⟨h1, h2⟩ := h
  refine ⟨h1, ?_⟩
  rcases h2 with h2 | ⟨g, cap', cur, hv, hg, hh, r⟩
  · exact .inl h2
  · refine .inr ⟨g, cap', cur, hv, hg, ?_, r⟩
    cases hv
    rw [hb.block g (hlt g rfl)]; exact hh
theorem opsOf_le (n : Nat) : (opsOf n).length ≤ 4 := by unfold opsOf; split <;> decide
theorem opsOf_in (n o : Nat) (h : o ∈ opsOf n) : 5 ≤ o ∧ o < 15 := by
  unfold opsOf at h
  split at h <;> simp at h <;> omega
set_option maxRecDepth 100000 in
set_option maxHeartbeats 8000000 in
theorem floor_step (l : List Tok) (v : Value) (f n d i : Nat) (r : Res) (w : World) (hx : RCtx l v w) (_hd : d ≤ 30) (hi : i ≤ l.length) (hn5 : n < 5) (hr : run l (f + 1) (.lv n) d i = some r)
    (hL : ∀ f' i' r', f' ≤ f → i' ≤ l.length → run l f' (.lv (n + 1)) d i' = some r' → ∀ W, RCtx l v W → Calls Tryz.prog 114 #[v, .int .i64 i', .int .i64 d, .int .i64 ((n : Int) + 1)] W (RAns d r' W)) :
    Calls Tryz.prog 114 #[v, .int .i64 i, .int .i64 d, .int .i64 n] w (RAns d r w) := by
  rw [run_lv _ _ _ _ _ (by omega)] at hr
  have hlen := hx.hn
  cases h1 : run l f (.lv (n + 1)) d i with
  | none => rw [h1] at hr; cases hr
  | some r1 =>
    rw [h1] at hr
    have hfit := (run_fit f (.lv (n + 1)) d i r1 0 hi (fun n h => rfl) (fun n e h => by cases h) h1).1
    have hrel : FlR l n d f r r1 := by
      cases r1 with
      | err k a => cases hr; rfl
      | ok e j => exact ⟨hr, hfit.2.1, by have := hfit.2.2; have := hfit.1; rw [e.flat_length]; omega⟩
    have hk0 : ∀ k a, r1 = .err k a → k ≠ 0 := by
      intro k a h; subst h; exact hfit
    have HK0 := Lib.hid hk0
    have HREL := Lib.hid hrel
    have HC := Lib.hid (hL f i r1 (Nat.le_refl _) hi h1)
    have HL := Lib.hid hL
    have HX := Lib.hid hx
    clear hfit hk0 hrel hr h1 hL
    obtain ⟨ad0, cap0, rfl, _⟩ := hx.ht
    obtain ⟨N, hN⟩ : ∃ N, N = l.length := ⟨_, rfl⟩
    have HN := Lib.hid hN
    rw [← hN] at HC HL HX hlen ⊢
    clear hx hN hi
    have HB1 : Hid (Below w.heap.size w (w.alloc (.cells #[.slice none 0 0, .int .i64 0, .int .i64 0, .int .i64 0] 135))) := (Below.refl _ _).alloc (Nat.le_refl _) _
    have HG1 : Hid (BlkG (w.alloc (.cells #[.slice none 0 0, .int .i64 0, .int .i64 0, .int .i64 0] 135)) w.heap.size (.slice none 0 0) (.int .i64 0) (.int .i64 0) (.int .i64 0)) := heap_alloc_new w _
    have hne5 : ¬ n = 5 := by omega
    have q0 : ((n : Int) == 5) = false := by simp; omega
    go_enter Tryz.func114, Tryz.ntmps114
    go_wp2_with fail
    refine (HC.out _ (HX.out.below HB1.out)).mono ?_
    intro e w2 hans
    have hu : ∃ (xa : Option Addr) (xm xc : Nat) (z1 z2 z3 : Int), e = .returned (.agg #[.slice xa xm xc, .int .i64 z1, .int .i64 z2, .int .i64 z3]) ∧ Below w.heap.size w w2 ∧ BlkG w2 w.heap.size (.slice none 0 0) (.int .i64 0) (.int .i64 0) (.int .i64 0) ∧ FlX d w w2.heap.size r1 (w2.alloc (.cells #[.slice xa xm xc, .int .i64 z1, .int .i64 z2, .int .i64 z3] 135)) := by
      cases r1 with
      | err k a =>
        obtain ⟨tu, htu, rfl, hb⟩ := hans
        exact ⟨_, _, _, _, _, _, rfl, HB1.out.trans (hb.mono HB1.out.size), HG1.out.under hb, HK0.out k a rfl, tu, htu, BlkG.new w2 _ _ _ _⟩
      | ok x j =>
        obtain ⟨v1, rfl, ho, hb⟩ := hans
        obtain ⟨ad, cap, rfl, _⟩ := own_shape ho
        have hb' := HB1.out.trans (hb.mono HB1.out.size)
        refine ⟨_, _, _, _, _, _, rfl, hb', HG1.out.under hb, ad, cap, BlkG.new w2 _ _ _ _, own_mono (own_below ho ((Below.refl _ _).alloc (Nat.le_refl _) _)) HB1.out.size, fun g hg => ⟨own_ne ho _ (.inr (Nat.le_refl _)) g hg, own_ne ho _ (.inl (by simp)) g hg⟩⟩
    clear hans
    obtain ⟨xa, xm, xc, z1, z2, z3, rfl, hb2, hg2, hfl⟩ := hu
    have HB2 : Hid (Below w.heap.size w (w2.alloc (.cells #[.slice xa xm xc, .int .i64 z1, .int .i64 z2, .int .i64 z3] 135))) := hb2.alloc hb2.size _
    have HG2 : Hid (BlkG (w2.alloc (.cells #[.slice xa xm xc, .int .i64 z1, .int .i64 z2, .int .i64 z3] 135)) w.heap.size (.slice none 0 0) (.int .i64 0) (.int .i64 0) (.int .i64 0)) := hg2.under ((Below.refl _ _).alloc (Nat.le_refl _) _)
    have HF2 := Lib.hid hfl
    have hlb : w.heap.size < w2.heap.size := hg2.lt
    clear hb2 hg2 hfl HB1 HG1
    go_wp2_with fail
    obtain ⟨b, hb⟩ : ∃ b, b = w2.heap.size := ⟨_, rfl⟩
    rw [← hb] at HF2 hlb ⊢
    generalize (w2.alloc (.cells #[.slice xa xm xc, .int .i64 z1, .int .i64 z2, .int .i64 z3] 135)) = w3 at HB2 HG2 HF2 ⊢
    clear hb
    go_loopg [10, 11, 12] f (fun fuel o y z wr => ∃ rx, fuel ≤ f ∧ FlX d w b rx wr ∧ FlR l n d fuel r rx ∧ Below w.heap.size w wr ∧ BlkG wr w.heap.size (.slice none 0 0) (.int .i64 0) (.int .i64 0) (.int .i64 0))
    case atStart => exact ⟨r1, Nat.le_refl _, HF2.out, HREL.out, HB2.out, HG2.out⟩
    case round =>
      obtain ⟨rx, hfu, hfx, hfr, hbr, hgr⟩ := hrel
      clear HF2 HREL HB2 HG2 HK0 HC
      have HB := Lib.hid hbr
      have HG := Lib.hid hgr
      obtain ⟨⟨g0, g1, g2, g3⟩, f0, f1, f2, f3⟩ := hgr.facts
      have hwl : w.heap.size < wr.heap.size := hgr.lt
      clear hbr hgr
      cases rx with
      | err k a =>
        obtain ⟨hk0, tu, htu, hbx⟩ := hfx
        have hre : r = .err k a := hfr
        subst hre
        obtain ⟨⟨b0, b1, b2, b3⟩, _⟩ := hbx.facts
        clear hbx hfr
        have q1 : ((k : Int) == 0) = false := by simp; omega
        go_wp2
        refine bodyPost_ret (v := .agg #[.slice none 0 0, .int .i64 tu, .int .i64 k, .int .i64 a]) (results_got Tryz.results114 _ _ w.heap.size _ _ _ _ rfl (HG.out.set4 _ _ _ _)) rfl ⟨tu, htu, rfl, ?_⟩
        exact below_set4' HB.out (Nat.le_refl _) _ _ _ _
      | ok x j =>
        obtain ⟨ad, cap, hbx, hox, hne⟩ := hfx
        obtain ⟨hrun, hjl, hxl⟩ := hfr
        have HBX := Lib.hid hbx
        have HOX := Lib.hid hox
        have HNE := Lib.hid hne
        obtain ⟨⟨b0, b1, b2, b3⟩, bf0, bf1, bf2, bf3⟩ := hbx.facts
        have hbl : b < wr.heap.size := hbx.lt
        obtain ⟨m, hm⟩ : ∃ m, m = x.flat.length := ⟨_, rfl⟩
        have HM := Lib.hid hm
        rw [← hm] at b0 hxl HBX HOX
        obtain ⟨F, rfl⟩ := run_pos hrun
        rw [run_mo] at hrun
        have HRUN := Lib.hid hrun
        have HJL := Lib.hid hjl
        clear hbx hox hne hm hrun hjl
        have HWH : ∀ w' ov, Below wr.heap.size wr w' → Ints w' ov (opsOf n) → Calls Tryz.prog 129 #[.slice ad0 N cap0, .int .i64 j, ov] w' fun e w'' => e = .returned (.int .i64 (which l j (opsOf n))) ∧ Below w'.heap.size w' w'' := fun w' ov hb hi => rwhich_any l _ j ov (opsOf n) w' (HX.out.below (HB.out.trans (hb.mono HB.out.size))) hi (opsOf_in n) (opsOf_le n)
        obtain ⟨op, hop⟩ : ∃ op, op = which l j (opsOf n) := ⟨_, rfl⟩
        rw [← hop] at HWH
        have HOP := Lib.hid hop
        have HW := Lib.hid HWH
        clear HWH hop
        have hz : (0 : Int) ≤ (n : Int) ∧ (n : Int) < 5 := by omega
        go_wp2_with fail
        go_cut [10] (fun s10 wx => s10 = .int .i64 op ∧ Below wr.heap.size wr wx)
        case first =>
          have b1d : wr.drew.cell? ⟨b, 1, none⟩ = some (.int .i64 j) := b1
          go_region_with (first
            | (go_at_call 130; refine (floors_any _).mono ?_; rintro e w4 ⟨gF, rfl, hbF, hgF, hflF⟩; have hb3 : Below wr.heap.size wr w4 := (Below.refl _ wr).drew.trans hbF; have b1w : w4.cell? ⟨b, 1, none⟩ = some (.int .i64 j) := (hb3.cell (p := ⟨b, 1, none⟩) hbl).trans b1; obtain ⟨ov, hov, hin⟩ := hflF n hn5; obtain ⟨gI, capI, rfl, hI⟩ := id hin)
            | (go_at_call 129; refine (HW.out _ _ hb3 hin).mono ?_; rintro e w5 ⟨rfl, hbW⟩; have hb5 : Below wr.heap.size wr w5 := hb3.trans (hbW.mono hb3.size)))
          all_goals
            go_wp2_with fail
            go_meet
            exact ⟨rfl, hb5⟩
        case rest =>
          obtain ⟨rfl, hb5⟩ := hcut
          have HB5 := Lib.hid (HB.out.trans (hb5.mono HB.out.size))
          have HG5 := Lib.hid (HG.out.under hb5)
          have HBX5 := Lib.hid (HBX.out.under hb5)
          have HOX5 := Lib.hid (own_below HOX.out hb5)
          have HNE5 := HNE
          clear HB HG HBX HOX HNE HW g0 g1 g2 g3 f0 f1 f2 f3 b0 b1 b2 b3 bf0 bf1 bf2 bf3 hb5
          obtain ⟨⟨g0, g1, g2, g3⟩, f0, f1, f2, f3⟩ := HG5.out.facts
          obtain ⟨⟨b0, b1, b2, b3⟩, bf0, bf1, bf2, bf3⟩ := HBX5.out.facts
          have hwl5 : w.heap.size < wc.heap.size := HG5.out.lt
          have hbl5 : b < wc.heap.size := HBX5.out.lt
          have hnb : w.heap.size ≠ b := by omega
          have hnb2 : b ≠ w.heap.size := by omega
          by_cases ho : op = 0
          · have q1 : ((op : Int) == 0) = true := by rw [ho]; rfl
            have hre : r = .ok x j := by
              have h := HRUN.out
              rw [← HOP.out, if_pos ho] at h
              exact (Option.some.inj h).symm
            subst hre
            go_wp2
            refine bodyPost_ret (v := .agg #[.slice ad m cap, .int .i64 j, .int .i64 0, .int .i64 0]) (results_got Tryz.results114 _ _ w.heap.size _ _ _ _ rfl (HG5.out.set4 _ _ _ _)) rfl ⟨.slice ad m cap, rfl, ?_, ?_⟩
            · rw [← HM.out]
              have h1 := own_setB HOX5.out w.heap.size 0 (.slice ad m cap) (fun g h => (HNE5.out g h).2)
              have h2 := own_setB h1 w.heap.size 1 (.int .i64 j) (fun g h => (HNE5.out g h).2)
              have h3 := own_setB h2 w.heap.size 2 (.int .i64 0) (fun g h => (HNE5.out g h).2)
              exact own_setB h3 w.heap.size 3 (.int .i64 0) (fun g h => (HNE5.out g h).2)
            · exact below_set4' HB5.out (Nat.le_refl _) _ _ _ _
          · have q1 : ((op : Int) == 0) = false := by simp; omega
            have h := HRUN.out
            rw [← HOP.out, if_neg ho] at h
            have hjlt : j < l.length := which_lt (by rw [← HOP.out]; exact ho)
            obtain ⟨gt, rfl, hgt⟩ : ∃ gt, ad0 = some ⟨gt, 0, none⟩ ∧ gt < w.heap.size := by
              obtain ⟨ad', cap', hv, hc⟩ := HX.out.ht
              obtain ⟨g', hg', hl', _⟩ := hc j hjlt
              cases hv
              exact ⟨g', hg', hl'⟩
            cases hy : run l F (.lv (n + 1)) d (j + 1) with
            | none => rw [hy] at h; cases h
            | some ry =>
              rw [hy] at h
              have hyf := (run_fit F (.lv (n + 1)) d (j + 1) ry 0 (by omega) (fun n h => rfl) (fun n e h => by cases h) hy).1
              have HY : Calls Tryz.prog 114 #[.slice (some ⟨gt, 0, none⟩) N cap0, .int .i64 ((j : Int) + 1), .int .i64 d, .int .i64 ((n : Int) + 1)] wc (RAns d ry wc) := HL.out F (j + 1) ry (by omega) (by have := HN.out; omega) hy wc (HX.out.below HB5.out)
              have HH := Lib.hid h
              have hjN : j < N := by have := HN.out; omega
              clear h hy HRUN hjlt
              have HY2 := Lib.hid HY
              clear HY
              go_wp2_with fail
              refine HY2.out.mono ?_
              clear HY2
              cases ry with
              | err k a =>
                have hre : r = .err k a := (Option.some.inj HH.out).symm
                subst hre
                rintro e w6 ⟨tu, htu, rfl, hb6⟩
                have HB6 := Lib.hid (HB5.out.trans (hb6.mono HB5.out.size))
                have HG6 := Lib.hid (HG5.out.under hb6)
                clear HB5 HG5 HBX5 HOX5 g0 g1 g2 g3 f0 f1 f2 f3 b0 b1 b2 b3 bf0 bf1 bf2 bf3 hb6
                have HR6 := Lib.hid (BlkG.new w6 (.slice none 0 0) (.int .i64 tu) (.int .i64 k) (.int .i64 a))
                obtain ⟨⟨g0, g1, g2, g3⟩, f0, f1, f2, f3⟩ := HG6.out.facts
                obtain ⟨⟨r0, r1, r2, r3⟩, _⟩ := HR6.out.facts
                have hgb : w.heap.size < w6.heap.size := HG6.out.lt
                have hk0 : k ≠ 0 := hyf
                have q2 : ((k : Int) != 0) = true := by simp; omega
                clear hyf hk0
                go_wp2
                refine bodyPost_ret (v := .agg #[.slice none 0 0, .int .i64 tu, .int .i64 k, .int .i64 a]) (results_got Tryz.results114 _ _ w.heap.size _ _ _ _ rfl ((HG6.out.set4 _ _ _ _).under ((Below.refl _ _).alloc (Nat.le_refl _) _))) rfl ⟨tu, htu, rfl, ?_⟩
                have h := below_set4' HB6.out (Nat.le_refl _) (.slice none 0 0) (.int .i64 tu) (.int .i64 k) (.int .i64 a)
                exact h.alloc h.size _
              | ok y k =>
                obtain ⟨hy1, hy2, hy3⟩ := hyf
                rintro e w6 ⟨vy, rfl, hoy, hb6⟩
                have HB6 := Lib.hid (HB5.out.trans (hb6.mono HB5.out.size))
                have HG6 := Lib.hid (HG5.out.under hb6)
                have HBX6 := Lib.hid (HBX5.out.under hb6)
                have HOX6 := Lib.hid (own_below HOX5.out hb6)
                have HOY6 := Lib.hid hoy
                obtain ⟨ad2, cap2, rfl, _⟩ := own_shape hoy
                have HLTY := Lib.hid (own_lt hoy)
                obtain ⟨m2, hm2⟩ : ∃ m, m = y.flat.length := ⟨_, rfl⟩
                have HM2 := Lib.hid hm2
                have hsum : 1 + m + m2 ≤ k ∧ k ≤ N := by
                  have h1 := y.flat_length
                  have h2 := HN.out
                  omega
                rw [← hm2] at HOY6 ⊢
                obtain ⟨_, _, _, c3⟩ := ((HX.out.below HB6.out).ht.at2 rfl (by have := HN.out; omega : j < l.length) : _ ∧ _ ∧ _ ∧ _)
                obtain ⟨tp, htp⟩ : ∃ t, t = plc l j := ⟨_, rfl⟩
                rw [← htp] at c3
                have HTP := Lib.hid htp
                have hgt6 : gt < w6.heap.size := Nat.lt_of_lt_of_le hgt HB6.out.size
                clear HB5 HG5 HBX5 HOX5 g0 g1 g2 g3 f0 f1 f2 f3 b0 b1 b2 b3 bf0 bf1 bf2 bf3 hb6 hoy hm2 htp hy1 hy2 hy3
                obtain ⟨⟨g0, g1, g2, g3⟩, f0, f1, f2, f3⟩ := HG6.out.facts
                obtain ⟨⟨b0, b1, b2, b3⟩, bf0, bf1, bf2, bf3⟩ := HBX6.out.facts
                have hwl6 : w.heap.size < w6.heap.size := HG6.out.lt
                have hbl6 : b < w6.heap.size := HBX6.out.lt
                have HB7 : Hid (Below w.heap.size w (w6.alloc (.cells #[.slice ad2 m2 cap2, .int .i64 k, .int .i64 0, .int .i64 0] 135))) := HB6.out.alloc HB6.out.size _
                have HR7 := Lib.hid (BlkG.new w6 (.slice ad2 m2 cap2) (.int .i64 k) (.int .i64 0) (.int .i64 0))
                obtain ⟨⟨r0, r1, r2, r3⟩, _⟩ := HR7.out.facts
                have HNEW : Hid (((w6.alloc (.cells #[.slice ad2 m2 cap2, .int .i64 k, .int .i64 0, .int .i64 0] 135)).alloc (.cells #[.int .i64 op, .int .i64 0, .string ⟨#[]⟩, .string ⟨#[]⟩, .int .i64 tp] 65)).ownsRow (w6.heap.size + 1) 65 5 (.slice (some ⟨w6.heap.size + 1, 0, none⟩) 1 1) 1 (rowN [opN op tp])) := by
                  have := own_new (w6.alloc (.cells #[.slice ad2 m2 cap2, .int .i64 k, .int .i64 0, .int .i64 0] 135)) (opN op tp)
                  rw [show (w6.alloc (.cells #[.slice ad2 m2 cap2, .int .i64 k, .int .i64 0, .int .i64 0] 135)).heap.size = w6.heap.size + 1 by simp] at this
                  exact this
                go_wp2_with (at_builtin; refine append_nds rfl (.tmp 51) (.tmp 60) rfl (w6.heap.size + 1) (w6.heap.size + 1) 0 1 _ _ [] [opN op tp] rfl rfl (World.ownsRow_nil _ _ _ _) HNEW.out rfl (by omega) (by simp) ?_)
                intro v8 w8 ho8 hb8
                replace ho8 : w8.ownsRow (w6.heap.size + 1) 65 5 v8 1 (rowN [opN op tp]) := ho8
                have hb68 : Below (w6.heap.size + 1) (w6.alloc (.cells #[.slice ad2 m2 cap2, .int .i64 k, .int .i64 0, .int .i64 0] 135)) w8 := ((Below.refl _ _).alloc (by simp) _).trans hb8
                have hb608 : Below w6.heap.size w6 w8 := ((Below.refl _ _).alloc (Nat.le_refl _) _).trans (hb68.mono (by omega))
                have HB8 := Lib.hid (HB6.out.trans (hb608.mono HB6.out.size))
                have HG8 := Lib.hid (HG6.out.under hb608)
                have HBX8 := Lib.hid (HBX6.out.under hb608)
                have HOX8 := Lib.hid (own_below HOX6.out hb608)
                have HOY8 := Lib.hid (own_below HOY6.out hb608)
                have HR8 := Lib.hid (HR7.out.below hb68 (by omega))
                have hs8 : w6.heap.size + 1 ≤ w8.heap.size := by have := hb68.size; simpa using this
                obtain ⟨ad8, cap8, rfl, _⟩ := own_shape ho8
                have HO8 := Lib.hid ho8
                obtain ⟨N6, hN6⟩ : ∃ x, x = w6.heap.size := ⟨_, rfl⟩
                have hbx8 : b < w8.heap.size := HBX8.out.lt
                rw [← hN6] at HR8 HO8 hs8 hwl6 hbl6 HLTY ⊢
                clear g0 g1 g2 g3 f0 f1 f2 f3 b0 b1 b2 b3 bf0 bf1 bf2 bf3 r0 r1 r2 r3 HB6 HG6 HBX6 HOX6 HOY6 HB7 HR7 HNEW hb8 hb68 hb608 ho8 hN6 c3 hgt6
                obtain ⟨⟨b0, b1, b2, b3⟩, bf0, bf1, bf2, bf3⟩ := HBX8.out.facts
                go_wp2_with (at_builtin; refine append_nds rfl (.tmp 62) (.tmp 64) rfl (N6 + 1) w.heap.size 1 m _ _ (rowN [opN op tp]) x.flat rfl rfl HO8.out HOX8.out HM.out (by omega) hs8 ?_)
                intro v9 w9 ho9 hb9
                have hb89 : Below w8.heap.size w8 w8 := Below.refl _ _
                have HB9 := Lib.hid (HB8.out.trans (hb9.mono (by omega)))
                have HG9 := Lib.hid (HG8.out.below hb9 (by omega))
                have HBX9 := Lib.hid (HBX8.out.below hb9 (by omega))
                have HOY9 := Lib.hid (own_lim HOY8.out hb9 (fun g h => by have := HLTY.out g h; omega))
                have HR9 := Lib.hid (HR8.out.below hb9 (by omega))
                have hs9 : N6 + 1 ≤ w9.heap.size := Nat.le_trans hs8 hb9.size
                obtain ⟨ad9, cap9, rfl, _⟩ := own_shape ho9
                have HO9 := Lib.hid ho9
                clear b0 b1 b2 b3 bf0 bf1 bf2 bf3 HB8 HG8 HBX8 HOX8 HOY8 HR8 HO8 ho9 hb9 hs8 hb89
                obtain ⟨⟨r0, r1, r2, r3⟩, _⟩ := HR9.out.facts
                go_wp2_with (at_builtin; refine append_nds rfl (.tmp 66) (.tmp 68) rfl (N6 + 1) wc.heap.size (1 + m) m2 _ _ (rowN [opN op tp] ++ rowN x.flat) y.flat rfl rfl HO9.out HOY9.out HM2.out (by omega) hs9 ?_)
                intro v10 w10 ho10 hb10
                have HB10 := Lib.hid (HB9.out.trans (hb10.mono (by omega)))
                have HG10 := Lib.hid (HG9.out.below hb10 (by omega))
                have HBX10 := Lib.hid (HBX9.out.below hb10 (by omega))
                have HR10 := Lib.hid (HR9.out.below hb10 (by omega))
                obtain ⟨ad10, cap10, rfl, _⟩ := own_shape ho10
                have HO10 := Lib.hid ho10
                clear r0 r1 r2 r3 HB9 HG9 HBX9 HOY9 HR9 HO9 ho10 hb10 hs9
                obtain ⟨⟨r0, r1, r2, r3⟩, _⟩ := HR10.out.facts
                obtain ⟨⟨b0, b1, b2, b3⟩, bf0, bf1, bf2, bf3⟩ := HBX10.out.facts
                obtain ⟨⟨g0, g1, g2, g3⟩, f0, f1, f2, f3⟩ := HG10.out.facts
                obtain ⟨q, hq⟩ : ∃ q, q = 1 + m + m2 := ⟨_, rfl⟩
                have HQ := Lib.hid hq
                rw [← hq] at HO10 ⊢
                have hnN : N6 ≠ b := by omega
                have hnN2 : b ≠ N6 := by omega
                have HLEN : Hid ((Ex.bin (opN op (plc l j)) x y).flat.length = q) := by
                  show ((opN op (plc l j)) :: (x.flat ++ y.flat)).length = q
                  rw [List.length_cons, List.length_append, hq, ← HM.out, ← HM2.out]; omega
                have HROW : Hid (rowN (Ex.bin (opN op (plc l j)) x y).flat = rowN [opN op tp] ++ rowN x.flat ++ rowN y.flat) := by
                  show rowN ([opN op (plc l j)] ++ (x.flat ++ y.flat)) = _
                  rw [rowN_append, rowN_append, ← HTP.out, List.append_assoc]
                clear hq
                have HSB : Hid (BlkG ((((w10.setCell ⟨b, 0, none⟩ (.slice ad10 q cap10)).setCell ⟨b, 1, none⟩ (.int .i64 k)).setCell ⟨b, 2, none⟩ (.int .i64 0)).setCell ⟨b, 3, none⟩ (.int .i64 0)) b (.slice ad10 q cap10) (.int .i64 k) (.int .i64 0) (.int .i64 0)) := HBX10.out.set4 _ _ _ _
                have HSG : Hid (BlkG ((((w10.setCell ⟨b, 0, none⟩ (.slice ad10 q cap10)).setCell ⟨b, 1, none⟩ (.int .i64 k)).setCell ⟨b, 2, none⟩ (.int .i64 0)).setCell ⟨b, 3, none⟩ (.int .i64 0)) w.heap.size (.slice none 0 0) (.int .i64 0) (.int .i64 0) (.int .i64 0)) := (((HG10.out.other b 0 hnb _).other b 1 hnb _).other b 2 hnb _).other b 3 hnb _
                have HSO : Hid (((((w10.setCell ⟨b, 0, none⟩ (.slice ad10 q cap10)).setCell ⟨b, 1, none⟩ (.int .i64 k)).setCell ⟨b, 2, none⟩ (.int .i64 0)).setCell ⟨b, 3, none⟩ (.int .i64 0)).ownsRow (N6 + 1) 65 5 (.slice ad10 q cap10) q (rowN [opN op tp] ++ rowN x.flat ++ rowN y.flat)) :=
                  ownsRow_setCell_below (ownsRow_setCell_below (ownsRow_setCell_below (ownsRow_setCell_below HO10.out (by show b < N6 + 1; omega) _) (by show b < N6 + 1; omega) _) (by show b < N6 + 1; omega) _) (by show b < N6 + 1; omega) _
                have hwb : w.heap.size ≤ b := by omega
                have HSW : Hid (Below w.heap.size w ((((w10.setCell ⟨b, 0, none⟩ (.slice ad10 q cap10)).setCell ⟨b, 1, none⟩ (.int .i64 k)).setCell ⟨b, 2, none⟩ (.int .i64 0)).setCell ⟨b, 3, none⟩ (.int .i64 0))) := below_set4' HB10.out hwb _ _ _ _
                by_cases hn2 : n = 2
                · have q2 : ((n : Int) == 2) = true := by rw [hn2]; rfl
                  have hre : r = .ok (.bin (opN op (plc l j)) x y) k := by
                    have h := HH.out
                    simp only [if_pos hn2] at h
                    exact (Option.some.inj h).symm
                  subst hre
                  go_wp2
                  refine bodyPost_ret (v := .agg #[.slice ad10 q cap10, .int .i64 k, .int .i64 0, .int .i64 0]) (results_got Tryz.results114 _ _ w.heap.size _ _ _ _ rfl (HSG.out.set4 _ _ _ _)) rfl ⟨.slice ad10 q cap10, rfl, ?_, below_set4' HSW.out (Nat.le_refl _) _ _ _ _⟩
                  rw [HLEN.out, HROW.out]
                  exact own_mono (ownsRow_setCell_below (ownsRow_setCell_below (ownsRow_setCell_below (ownsRow_setCell_below HSO.out (by show w.heap.size < N6 + 1; omega) _) (by show w.heap.size < N6 + 1; omega) _) (by show w.heap.size < N6 + 1; omega) _) (by show w.heap.size < N6 + 1; omega) _) (by omega)
                · have q2 : ((n : Int) == 2) = false := by simp; omega
                  have hrun2 : run l F (.more n (.bin (opN op (plc l j)) x y)) d k = some r := by
                    have h := HH.out
                    simp only [if_neg hn2] at h
                    exact h
                  have HRUN2 := Lib.hid hrun2
                  clear hrun2
                  go_wp2
                  go_roundg F
                  case measure => omega
                  case rel =>
                    refine ⟨.ok (.bin (opN op (plc l j)) x y) k, by omega, ⟨ad10, cap10, ?_, ?_, ?_⟩, ⟨HRUN2.out, by have := HN.out; omega, by rw [HLEN.out, HQ.out]; omega⟩, HSW.out, HSG.out⟩
                    · rw [HLEN.out]; exact HSB.out
                    · rw [HLEN.out, HROW.out]; exact own_mono HSO.out (by omega)
                    · intro g hg
                      exact ⟨own_ne HSO.out b (.inl (by omega)) g hg, own_ne HSO.out w.heap.size (.inl (by omega)) g hg⟩
set_option maxRecDepth 100000 in
set_option maxHeartbeats 1000000 in
theorem floor_prim (l : List Tok) (v : Value) (d i : Nat) (r : Res) (w : World) (hx : RCtx l v w) (hP : ∀ W, RCtx l v W → Calls Tryz.prog 128 #[v, .int .i64 i, .int .i64 d] W (RAns d r W)) :
    Calls Tryz.prog 114 #[v, .int .i64 i, .int .i64 d, .int .i64 5] w (RAns d r w) := by
  have HX := Lib.hid hx
  have HP := Lib.hid hP
  obtain ⟨ad0, cap0, rfl, _⟩ := hx.ht
  obtain ⟨N, hN⟩ : ∃ N, N = l.length := ⟨_, rfl⟩
  rw [← hN] at HX HP ⊢
  clear hx hP hN
  have HB1 : Hid (Below w.heap.size w (w.alloc (.cells #[.slice none 0 0, .int .i64 0, .int .i64 0, .int .i64 0] 135))) := (Below.refl _ _).alloc (Nat.le_refl _) _
  have HG1 : Hid (BlkG (w.alloc (.cells #[.slice none 0 0, .int .i64 0, .int .i64 0, .int .i64 0] 135)) w.heap.size (.slice none 0 0) (.int .i64 0) (.int .i64 0) (.int .i64 0)) := heap_alloc_new w _
  go_enter Tryz.func114, Tryz.ntmps114
  go_wp2_with fail
  refine (HP.out _ (HX.out.below HB1.out)).mono ?_
  intro e w2 hans
  cases r with
  | err k a =>
    obtain ⟨tu, htu, rfl, hb⟩ := hans
    have HB2 := Lib.hid (HB1.out.trans (hb.mono HB1.out.size))
    have HG2 := Lib.hid (HG1.out.under hb)
    obtain ⟨⟨g0, g1, g2, g3⟩, f0, f1, f2, f3⟩ := HG2.out.facts
    clear HP HX HB1 HG1 hb
    go_wp2
    refine bodyPost_ret (v := .agg #[.slice none 0 0, .int .i64 tu, .int .i64 k, .int .i64 a]) (results_got Tryz.results114 _ _ w.heap.size _ _ _ _ rfl (HG2.out.set4 _ _ _ _)) rfl ⟨tu, htu, rfl, ?_⟩
    exact below_set4' HB2.out (Nat.le_refl _) _ _ _ _
  | ok x j =>
    obtain ⟨v1, rfl, ho, hb⟩ := hans
    have HB2 := Lib.hid (HB1.out.trans (hb.mono HB1.out.size))
    have HG2 := Lib.hid (HG1.out.under hb)
    obtain ⟨ad, cap, rfl, _⟩ := own_shape ho
    have HO := Lib.hid ho
    obtain ⟨m, hm⟩ : ∃ m, m = x.flat.length := ⟨_, rfl⟩
    have HM := Lib.hid hm
    rw [← hm] at HO ⊢
    obtain ⟨⟨g0, g1, g2, g3⟩, f0, f1, f2, f3⟩ := HG2.out.facts
    clear HP HX HB1 HG1 hb ho hm
    go_wp2
    refine bodyPost_ret (v := .agg #[.slice ad m cap, .int .i64 j, .int .i64 0, .int .i64 0]) (results_got Tryz.results114 _ _ w.heap.size _ _ _ _ rfl (HG2.out.set4 _ _ _ _)) rfl ⟨.slice ad m cap, rfl, ?_, below_set4' HB2.out (Nat.le_refl _) _ _ _ _⟩
    rw [← HM.out]
    have hlt : w.heap.size < (w.alloc (.cells #[.slice none 0 0, .int .i64 0, .int .i64 0, .int .i64 0] 135)).heap.size := by simp
    exact own_mono (ownsRow_setCell_below (ownsRow_setCell_below (ownsRow_setCell_below (ownsRow_setCell_below HO.out hlt _) hlt _) hlt _) hlt _) (Nat.le_of_lt hlt)
theorem read_any (l : List Tok) (v : Value) : ∀ f n d i r, n ≤ 5 → d ≤ 30 → i ≤ l.length → run l f (.lv n) d i = some r → ∀ w, RCtx l v w →
    Calls Tryz.prog 114 #[v, .int .i64 i, .int .i64 d, .int .i64 n] w (RAns d r w) ∧ (n = 5 → Calls Tryz.prog 128 #[v, .int .i64 i, .int .i64 d] w (RAns d r w)) := by
  intro f
  induction f using Nat.strongRecOn with
  | _ f ih =>
    intro n d i r hn hd hi hr w hx
    obtain ⟨f, rfl⟩ := run_pos hr
    by_cases h5 : n = 5
    · subst h5
      have H : ∀ W, RCtx l v W → Calls Tryz.prog 128 #[v, .int .i64 i, .int .i64 d] W (RAns d r W) := fun W hW =>
        prim_step l v f d i r W hW hd hi hr
          (fun d' i' r' h1 h2 h3 W' hW' => (ih f (by omega) 5 d' i' r' (by omega) h1 h2 h3 W' hW').2 rfl)
          (fun d' i' r' h1 h2 h3 W' hW' => (ih f (by omega) 0 d' i' r' (by omega) h1 h2 h3 W' hW').1)
      exact ⟨floor_prim l v d i r w hx H, fun _ => H w hx⟩
    · refine ⟨floor_step l v f n d i r w hx hd hi (by omega) hr fun f' i' r' h1 h2 h3 W hW => ?_, fun h => absurd h h5⟩
      exact (ih f' (by omega) (n + 1) d i' r' (by omega) hd h2 h3 W hW).1
end Go.Proofs.YtlpgafgiljffhaaGreatDoor
