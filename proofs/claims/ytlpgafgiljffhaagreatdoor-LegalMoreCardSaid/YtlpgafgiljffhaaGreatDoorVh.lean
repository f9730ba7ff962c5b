/- What the reference's fields does. -/
import Derived.Test.YtlpgafgiljffhaaGreatDoorVg
namespace Go.Proofs.YtlpgafgiljffhaaGreatDoor
open Go.RowKit
theorem fld_cons (l : List Tok) (c : UInt8) (cs : List UInt8) (i : Nat) (x : St) : fld l (c :: cs) i x =
    if c = 114 then (if nmAt l i then fld l cs (i + 1) { x with reg := txt l i } else .err (refK l i).1 (refK l i).2)
    else if c = 108 then (if nmAt l i then fld l cs (i + 1) { x with loc := txt l i } else .err (refK l i).1 (refK l i).2)
    else if c = 101 then (match plainR l i with
      | .err k a => .err k a
      | .ok y j => fld l cs j { x with e := y.flat })
    else if c = 102 then (match plainR l i with
      | .err k a => .err k a
      | .ok y j => fld l cs j { x with f := y.flat })
    else if c = 113 then (if sgAt l i [33, 61] then fld l cs (i + 1) { x with ne := true } else if sgAt l i [61, 61] then fld l cs (i + 1) { x with ne := false } else .err (refK l i).1 (refK l i).2)
    else if sgAt l i [c] then fld l cs (i + 1) x else .err (refK l i).1 (refK l i).2 := rfl
def FlS (N : Nat) (w wr : World) (x : St) (ve vf : Value) : Prop :=
  BlkS wr N x ve vf ∧ BlkS wr (N + 1) (st0 0 0) (.slice none 0 0) (.slice none 0 0) ∧ wr.ownsRow (N + 2) 65 5 ve x.e.length (rowN x.e) ∧ wr.ownsRow (N + 2) 65 5 vf x.f.length (rowN x.f) ∧ Below N w wr ∧ N + 2 ≤ wr.heap.size
theorem FlS.under {N : Nat} {w wr w2 : World} {x : St} {ve vf : Value} (h : FlS N w wr x ve vf) (hb : Below wr.heap.size wr w2) (hN : N ≤ wr.heap.size) : FlS N w w2 x ve vf :=
  ⟨h.1.under hb, h.2.1.under hb, own_below h.2.2.1 hb, own_below h.2.2.2.1 hb, h.2.2.2.2.1.trans (hb.mono hN), Nat.le_trans h.2.2.2.2.2 hb.size⟩
theorem FlS.fin {w wr : World} {x : St} {ve vf : Value} (h : FlS w.heap.size w wr x ve vf) :
    BlkS (set9 wr (w.heap.size + 1) (.int .i64 x.kind) (.string x.reg) (.string x.loc) ve vf (.bool x.ne) (.int .i64 x.body) (.int .i64 x.els) (.int .i64 x.pl)) (w.heap.size + 1) x ve vf ∧
    (set9 wr (w.heap.size + 1) (.int .i64 x.kind) (.string x.reg) (.string x.loc) ve vf (.bool x.ne) (.int .i64 x.body) (.int .i64 x.els) (.int .i64 x.pl)).ownsRow w.heap.size 65 5 ve x.e.length (rowN x.e) ∧
    (set9 wr (w.heap.size + 1) (.int .i64 x.kind) (.string x.reg) (.string x.loc) ve vf (.bool x.ne) (.int .i64 x.body) (.int .i64 x.els) (.int .i64 x.pl)).ownsRow w.heap.size 65 5 vf x.f.length (rowN x.f) ∧
    Below w.heap.size w (set9 wr (w.heap.size + 1) (.int .i64 x.kind) (.string x.reg) (.string x.loc) ve vf (.bool x.ne) (.int .i64 x.body) (.int .i64 x.els) (.int .i64 x.pl)) :=
  ⟨h.2.1.set9 x ve vf, own_mono (own_set9 h.2.2.1 (by omega) _ _ _ _ _ _ _ _ _) (by omega), own_mono (own_set9 h.2.2.2.1 (by omega) _ _ _ _ _ _ _ _ _) (by omega), below_set9 h.2.2.2.2.1 (by omega) _ _ _ _ _ _ _ _ _⟩
theorem u8_ne {c : UInt8} {n : Nat} (h : ¬ c = UInt8.ofNat n) (hn : n < 256) : (((c.toNat : Nat) : Int) == (n : Int)) = false := by
  simp only [beq_eq_false_iff_ne, ne_eq]
  intro h2
  apply h
  have h3 : c.toNat = n := by omega
  apply UInt8.toNat_inj.1
  rw [h3]
  simp [Nat.mod_eq_of_lt hn]
theorem plain_out (l : List Tok) (i : Nat) (hi : i ≤ l.length) (hp : ∀ i, (tokO l i).2.2.2 + (tokO l i).2.1.length ≤ 200000) : match plainR l i with | .err k _ => k ≠ 0 | .ok _ j => i < j ∧ j ≤ l.length := by
  have h := parse_out' l i hi hp
  unfold plainR
  cases hq : parseR l i with
  | err k a => rw [hq] at h; exact h
  | ok e j =>
    rw [hq] at h
    obtain ⟨_, _, _, h1, h2⟩ := h
    show (match (if regsB e.flat then Res.ok e j else Res.err 5 (plc l i)) with | .err k _ => k ≠ 0 | .ok _ j => i < j ∧ j ≤ l.length)
    cases regsB e.flat with
    | true => exact ⟨h1, h2⟩
    | false => show 5 ≠ 0; decide
theorem FlS.set1 {w wr : World} {x : St} {ve vf : Value} (h : FlS w.heap.size w wr x ve vf) (u : ByteArray) : FlS w.heap.size w (wr.setCell ⟨w.heap.size, 1, none⟩ (.string u)) { x with reg := u } ve vf :=
  ⟨h.1.set.1 u, h.2.1.other _ _ (by omega) _, ownsRow_setCell_below h.2.2.1 (by show w.heap.size < _; omega) _, ownsRow_setCell_below h.2.2.2.1 (by show w.heap.size < _; omega) _, h.2.2.2.2.1.setCell (p := ⟨w.heap.size, 1, none⟩) (Nat.le_refl _) _, by have := h.2.2.2.2.2; simpa [World.setCell] using this⟩
theorem FlS.set2 {w wr : World} {x : St} {ve vf : Value} (h : FlS w.heap.size w wr x ve vf) (u : ByteArray) : FlS w.heap.size w (wr.setCell ⟨w.heap.size, 2, none⟩ (.string u)) { x with loc := u } ve vf :=
  ⟨h.1.set.2.1 u, h.2.1.other _ _ (by omega) _, ownsRow_setCell_below h.2.2.1 (by show w.heap.size < _; omega) _, ownsRow_setCell_below h.2.2.2.1 (by show w.heap.size < _; omega) _, h.2.2.2.2.1.setCell (p := ⟨w.heap.size, 2, none⟩) (Nat.le_refl _) _, by have := h.2.2.2.2.2; simpa [World.setCell] using this⟩
theorem FlS.set3 {w wr : World} {x : St} {ve vf u : Value} {l : List Nd} (h : FlS w.heap.size w wr x ve vf) (hu : wr.ownsRow (w.heap.size + 2) 65 5 u l.length (rowN l)) : FlS w.heap.size w (wr.setCell ⟨w.heap.size, 3, none⟩ u) { x with e := l } u vf :=
  ⟨h.1.set.2.2.1 u l, h.2.1.other _ _ (by omega) _, ownsRow_setCell_below hu (by show w.heap.size < _; omega) _, ownsRow_setCell_below h.2.2.2.1 (by show w.heap.size < _; omega) _, h.2.2.2.2.1.setCell (p := ⟨w.heap.size, 3, none⟩) (Nat.le_refl _) _, by have := h.2.2.2.2.2; simpa [World.setCell] using this⟩
theorem FlS.set4 {w wr : World} {x : St} {ve vf u : Value} {l : List Nd} (h : FlS w.heap.size w wr x ve vf) (hu : wr.ownsRow (w.heap.size + 2) 65 5 u l.length (rowN l)) : FlS w.heap.size w (wr.setCell ⟨w.heap.size, 4, none⟩ u) { x with f := l } ve u :=
  ⟨h.1.set.2.2.2.1 u l, h.2.1.other _ _ (by omega) _, ownsRow_setCell_below h.2.2.1 (by show w.heap.size < _; omega) _, ownsRow_setCell_below hu (by show w.heap.size < _; omega) _, h.2.2.2.2.1.setCell (p := ⟨w.heap.size, 4, none⟩) (Nat.le_refl _) _, by have := h.2.2.2.2.2; simpa [World.setCell] using this⟩
theorem FlS.set5 {w wr : World} {x : St} {ve vf : Value} (h : FlS w.heap.size w wr x ve vf) (u : Bool) : FlS w.heap.size w (wr.setCell ⟨w.heap.size, 5, none⟩ (.bool u)) { x with ne := u } ve vf :=
  ⟨h.1.set.2.2.2.2 u, h.2.1.other _ _ (by omega) _, ownsRow_setCell_below h.2.2.1 (by show w.heap.size < _; omega) _, ownsRow_setCell_below h.2.2.2.1 (by show w.heap.size < _; omega) _, h.2.2.2.2.1.setCell (p := ⟨w.heap.size, 5, none⟩) (Nat.le_refl _) _, by have := h.2.2.2.2.2; simpa [World.setCell] using this⟩
set_option maxRecDepth 100000 in
set_option maxHeartbeats 8000000 in
theorem rfields_any (l : List Tok) (v : Value) (i k pl : Nat) (w : World) (hx : RCtx l v w) (hi : i ≤ l.length) (h1 : 1 ≤ k) (h13 : k ≤ 13) :
    Calls Tryz.prog 126 #[v, .int .i64 i, .agg ((st0 k pl).cells (.slice none 0 0) (.slice none 0 0))] w (FAns (fld l (formL k) i (st0 k pl)) w) := by
  have HFO : Hid (∀ w, Calls Tryz.prog 133 #[.int .i64 k] w fun e w' => e = .returned (.string ⟨(formL k).toArray⟩) ∧ w = w') := fun w => rform_any k w h1 h13
  obtain ⟨s, hs⟩ : ∃ s : ByteArray, s = ⟨(formL k).toArray⟩ := ⟨_, rfl⟩
  have hsl : s.data.toList = formL k := by rw [hs]
  have hss : s.size ≤ 8 := by
    rw [Lib.size_eq, hsl]
    have hk : k = 1 ∨ k = 2 ∨ k = 3 ∨ k = 4 ∨ k = 5 ∨ k = 6 ∨ k = 7 ∨ k = 8 ∨ k = 9 ∨ k = 10 ∨ k = 11 ∨ k = 12 ∨ k = 13 := by omega
    rcases hk with rfl | rfl | rfl | rfl | rfl | rfl | rfl | rfl | rfl | rfl | rfl | rfl | rfl <;> decide
  rw [← hs] at HFO
  rw [← hsl]
  obtain ⟨R, hR⟩ : ∃ R, fld l s.data.toList i (st0 k pl) = R := ⟨_, rfl⟩
  rw [hR]
  have HR : Hid (fld l (s.data.toList.drop 0) i (st0 k pl) = R) := hR
  have HX := Lib.hid hx
  have hlen := hx.hn
  obtain ⟨ad0, cap0, rfl, hj0⟩ := hx.ht
  clear hj0
  obtain ⟨N, hN⟩ : ∃ N, N = l.length := ⟨_, rfl⟩
  have HN := Lib.hid hN
  rw [← hN] at HX hlen hi ⊢
  clear hx hN hs hsl hR h1 h13
  have H2 : Hid (FlS w.heap.size w ((w.alloc (.cells ((st0 k pl).cells (.slice none 0 0) (.slice none 0 0)) 61)).alloc (.cells ((st0 0 0).cells (.slice none 0 0) (.slice none 0 0)) 61)) (st0 k pl) (.slice none 0 0) (.slice none 0 0)) :=
    ⟨(show BlkS (w.alloc _) w.heap.size _ _ _ from heap_alloc_new w _).under ((Below.refl _ _).alloc (Nat.le_refl _) _), by have := heap_alloc_new (w.alloc (.cells ((st0 k pl).cells (.slice none 0 0) (.slice none 0 0)) 61)) (.cells ((st0 0 0).cells (.slice none 0 0) (.slice none 0 0)) 61); simpa [BlkS] using this,
      World.ownsRow_nil _ _ _ _, World.ownsRow_nil _ _ _ _, below_al2 w _ _, by simp⟩
  unfold st0 St.cells at H2 ⊢
  simp only [] at H2 ⊢
  go_enter Tryz.func126, Tryz.ntmps126
  go_wp2_with (go_at_call 133; refine (HFO.out _).mono ?_; rintro e w' ⟨rfl, rfl⟩)
  generalize ((w.alloc (.cells #[.int .i64 k, .string ⟨#[]⟩, .string ⟨#[]⟩, .slice none 0 0, .slice none 0 0, .bool false, .int .i64 0, .int .i64 0, .int .i64 pl] 61)).alloc (.cells #[.int .i64 0, .string ⟨#[]⟩, .string ⟨#[]⟩, .slice none 0 0, .slice none 0 0, .bool false, .int .i64 0, .int .i64 0, .int .i64 0] 61)) = w1 at H2 ⊢
  go_loopg [1, 11] s.size (fun fuel i' q' wr => ∃ (q j : Nat) (x : St) (ve vf : Value), i' = .int .i64 j ∧ q' = .int .i64 q ∧ q ≤ s.size ∧ s.size - q ≤ fuel ∧ j ≤ N ∧ fld l (s.data.toList.drop q) j x = R ∧ FlS w.heap.size w wr x ve vf)
  case atStart => exact ⟨0, i, st0 k pl, _, _, rfl, rfl, Nat.zero_le _, Nat.le_refl _, hi, HR.out, H2.out⟩
  case round =>
    obtain ⟨q, j, x, ve, vf, rfl, rfl, hq, hfu, hj, hr, hfs⟩ := hrel
    have HR2 := Lib.hid hr
    have HF := Lib.hid hfs
    obtain ⟨hbs, hbz, hoe, hof, hbw, hsz⟩ := hfs
    obtain ⟨ade, cape, rfl, hj1⟩ := own_shape hoe
    obtain ⟨adf, capf, rfl, hj2⟩ := own_shape hof
    clear hj1 hj2
    obtain ⟨me, hme⟩ : ∃ m, m = x.e.length := ⟨_, rfl⟩
    obtain ⟨mf, hmf⟩ : ∃ m, m = x.f.length := ⟨_, rfl⟩
    have HME := Lib.hid hme
    have HMF := Lib.hid hmf
    rw [← hme] at HF hbs
    rw [← hmf] at HF hbs
    obtain ⟨⟨x0, x1, x2, x3, x4, x5, x6, x7, x8⟩, xfr⟩ := hbs.facts
    obtain ⟨⟨z0, z1, z2, z3, z4, z5, z6, z7, z8⟩, zfr⟩ := hbz.facts
    have xf1 := xfr 1
    have xf2 := xfr 2
    have xf3 := xfr 3
    have xf4 := xfr 4
    have xf5 := xfr 5
    have zf0 := zfr 0
    have zf1 := zfr 1
    have zf2 := zfr 2
    have zf3 := zfr 3
    have zf4 := zfr 4
    have zf5 := zfr 5
    have zf6 := zfr 6
    have zf7 := zfr 7
    have zf8 := zfr 8
    clear hr hoe hof hbw hbs hbz hme hmf xfr zfr HR H2 HFO
    simp only [st0] at z0 z1 z2 z3 z4 z5 z6 z7 z8
    have hwr : w.heap.size ≤ wr.heap.size := by omega
    by_cases hlt : q < s.size
    · have HD := Lib.hid (drop_at s q hlt)
      have HFC : Hid (fld l (s[q] :: s.data.toList.drop (q + 1)) j x = R) := by rw [← HD.out]; exact HR2.out
      have m1 : gk - 1 < gk := by omega
      have m2 : s.size - (q + 1) ≤ gk - 1 := by omega
      have m3 : q + 1 ≤ s.size := by omega
      by_cases h114 : s[q] = 114
      · have HNM0 := HFC.out
        rw [fld_cons, if_pos h114] at HNM0
        have e114 : ((s[q].toNat : Int) == 114) = true := by rw [h114]; rfl
        skip
        cases hnm : nmAt l j with
        | true =>
          rw [if_pos hnm] at HNM0
          have HNX := Lib.hid HNM0
          have hjl : j < l.length := nmAt_lt hnm
          have HNMB := Lib.hid hnm
          have hjN : j + 1 ≤ N := by have := HN.out; omega
          obtain ⟨gt, rfl, hgt⟩ : ∃ gt, ad0 = some ⟨gt, 0, none⟩ ∧ gt < w.heap.size := by
            obtain ⟨ad', cap', hv, hc⟩ := HX.out.ht
            obtain ⟨g', hg', hl', _⟩ := hc j hjl
            cases hv
            exact ⟨g', hg', hl'⟩

          clear HFC HNM0 HR2 hnm
          have HXR := Lib.hid (HX.out.below HF.out.2.2.2.2.1)
          go_wp2_with fail
          refine (rnameAt_any l _ j _ HXR.out true HNMB.out).mono ?_
          rintro e w4 ⟨rfl, hb4⟩
          have HF4 := Lib.hid (HF.out.under hb4 hwr)
          have HX4 := Lib.hid (HX.out.below HF4.out.2.2.2.2.1)
          have hwr4 : w.heap.size ≤ w4.heap.size := HF4.out.2.2.2.2.1.size
          clear x0 x1 x2 x3 x4 x5 x6 x7 x8 xf1 xf2 xf3 xf4 xf5 z0 z1 z2 z3 z4 z5 z6 z7 z8 zf0 zf1 zf2 zf3 zf4 zf5 zf6 zf7 zf8
          obtain ⟨⟨y0, y1, y2, y3, y4, y5, y6, y7, y8⟩, yfr⟩ := HF4.out.1.facts
          obtain ⟨⟨z0, z1, z2, z3, z4, z5, z6, z7, z8⟩, zfr⟩ := HF4.out.2.1.facts
          have yf1 := yfr 1
          have yf2 := yfr 2
          have yf3 := yfr 3
          have yf4 := yfr 4
          have yf5 := yfr 5
          have zf0 := zfr 0
          have zf1 := zfr 1
          have zf2 := zfr 2
          have zf3 := zfr 3
          have zf4 := zfr 4
          have zf5 := zfr 5
          have zf6 := zfr 6
          have zf7 := zfr 7
          have zf8 := zfr 8
          simp only [st0] at z0 z1 z2 z3 z4 z5 z6 z7 z8
          clear yfr zfr

          obtain ⟨_, c1, _, _⟩ := (HX4.out.ht.at2 rfl hjl : _ ∧ _ ∧ _ ∧ _)
          have hg4 : gt < w4.heap.size := Nat.lt_of_lt_of_le hgt hwr4
          clear hb4
          go_wp2
          go_roundg (gk - 1)
          case measure => exact m1
          case rel =>
            refine ⟨q + 1, j + 1, { x with reg := txt l j }, (.slice ade me cape), (.slice adf mf capf), by go_num, by go_num, m3, m2, hjN, HNX.out, ?_⟩
            exact FlS.set1 HF4.out _

        | false =>
          rw [if_neg (by rw [hnm]; decide)] at HNM0
          subst HNM0
          have HNMB := Lib.hid hnm
          clear HFC HR2 hnm
          have HXR := Lib.hid (HX.out.below HF.out.2.2.2.2.1)
          go_wp2_with fail
          refine (rnameAt_any l _ j _ HXR.out false HNMB.out).mono ?_
          rintro e w4 ⟨rfl, hb4⟩
          have HF4 := Lib.hid (HF.out.under hb4 hwr)
          have HX4 := Lib.hid (HX.out.below HF4.out.2.2.2.2.1)
          have hwr4 : w.heap.size ≤ w4.heap.size := HF4.out.2.2.2.2.1.size
          clear x0 x1 x2 x3 x4 x5 x6 x7 x8 xf1 xf2 xf3 xf4 xf5 z0 z1 z2 z3 z4 z5 z6 z7 z8 zf0 zf1 zf2 zf3 zf4 zf5 zf6 zf7 zf8
          go_wp2_with (go_at_call 82; refine (rwrong_any l _ j _ HX4.out).mono ?_; rintro e w5 ⟨rfl, hb5⟩; have HF5 := Lib.hid (HF4.out.under hb5 hwr4); obtain ⟨⟨t0, t1, t2, t3, t4, t5, t6, t7, t8⟩, _⟩ := HF5.out.1.facts; obtain ⟨⟨s0, s1, s2, s3, s4, s5, s6, s7, s8⟩, sfr⟩ := HF5.out.2.1.facts; have sf0 := sfr 0; have sf1 := sfr 1; have sf2 := sfr 2; have sf3 := sfr 3; have sf4 := sfr 4; have sf5 := sfr 5; have sf6 := sfr 6; have sf7 := sfr 7; have sf8 := sfr 8; simp only [st0] at s0 s1 s2 s3 s4 s5 s6 s7 s8; clear sfr)
          obtain ⟨hf1, hf2, hf3, hf4⟩ := HF5.out.fin
          refine bodyPost_ret (v := .tuple #[.agg ((x : St).cells (.slice ade me cape) (.slice adf mf capf)), .int .i64 0, .int .i64 (refK l j).1, .int .i64 (refK l j).2]) (results_flds Tryz.results126 _ _ (w.heap.size + 1) x _ _ _ _ _ rfl rfl rfl rfl hf1) rfl ⟨x, _, _, rfl, hf2, hf3, hf4⟩


      · by_cases h108 : s[q] = 108
        · have HNM0 := HFC.out
          rw [fld_cons, if_neg h114, if_pos h108] at HNM0
          have e108 : ((s[q].toNat : Int) == 108) = true := by rw [h108]; rfl
          have e114 : ((s[q].toNat : Int) == 114) = false := u8_ne h114 (by decide)
          cases hnm : nmAt l j with
          | true =>
            rw [if_pos hnm] at HNM0
            have HNX := Lib.hid HNM0
            have hjl : j < l.length := nmAt_lt hnm
            have HNMB := Lib.hid hnm
            have hjN : j + 1 ≤ N := by have := HN.out; omega
            obtain ⟨gt, rfl, hgt⟩ : ∃ gt, ad0 = some ⟨gt, 0, none⟩ ∧ gt < w.heap.size := by
              obtain ⟨ad', cap', hv, hc⟩ := HX.out.ht
              obtain ⟨g', hg', hl', _⟩ := hc j hjl
              cases hv
              exact ⟨g', hg', hl'⟩

            clear HFC HNM0 HR2 hnm
            have HXR := Lib.hid (HX.out.below HF.out.2.2.2.2.1)
            go_wp2_with fail
            refine (rnameAt_any l _ j _ HXR.out true HNMB.out).mono ?_
            rintro e w4 ⟨rfl, hb4⟩
            have HF4 := Lib.hid (HF.out.under hb4 hwr)
            have HX4 := Lib.hid (HX.out.below HF4.out.2.2.2.2.1)
            have hwr4 : w.heap.size ≤ w4.heap.size := HF4.out.2.2.2.2.1.size
            clear x0 x1 x2 x3 x4 x5 x6 x7 x8 xf1 xf2 xf3 xf4 xf5 z0 z1 z2 z3 z4 z5 z6 z7 z8 zf0 zf1 zf2 zf3 zf4 zf5 zf6 zf7 zf8
            obtain ⟨⟨y0, y1, y2, y3, y4, y5, y6, y7, y8⟩, yfr⟩ := HF4.out.1.facts
            obtain ⟨⟨z0, z1, z2, z3, z4, z5, z6, z7, z8⟩, zfr⟩ := HF4.out.2.1.facts
            have yf1 := yfr 1
            have yf2 := yfr 2
            have yf3 := yfr 3
            have yf4 := yfr 4
            have yf5 := yfr 5
            have zf0 := zfr 0
            have zf1 := zfr 1
            have zf2 := zfr 2
            have zf3 := zfr 3
            have zf4 := zfr 4
            have zf5 := zfr 5
            have zf6 := zfr 6
            have zf7 := zfr 7
            have zf8 := zfr 8
            simp only [st0] at z0 z1 z2 z3 z4 z5 z6 z7 z8
            clear yfr zfr

            obtain ⟨_, c1, _, _⟩ := (HX4.out.ht.at2 rfl hjl : _ ∧ _ ∧ _ ∧ _)
            have hg4 : gt < w4.heap.size := Nat.lt_of_lt_of_le hgt hwr4
            clear hb4
            go_wp2
            go_roundg (gk - 1)
            case measure => exact m1
            case rel =>
              refine ⟨q + 1, j + 1, { x with loc := txt l j }, (.slice ade me cape), (.slice adf mf capf), by go_num, by go_num, m3, m2, hjN, HNX.out, ?_⟩
              exact FlS.set2 HF4.out _

          | false =>
            rw [if_neg (by rw [hnm]; decide)] at HNM0
            subst HNM0
            have HNMB := Lib.hid hnm
            clear HFC HR2 hnm
            have HXR := Lib.hid (HX.out.below HF.out.2.2.2.2.1)
            go_wp2_with fail
            refine (rnameAt_any l _ j _ HXR.out false HNMB.out).mono ?_
            rintro e w4 ⟨rfl, hb4⟩
            have HF4 := Lib.hid (HF.out.under hb4 hwr)
            have HX4 := Lib.hid (HX.out.below HF4.out.2.2.2.2.1)
            have hwr4 : w.heap.size ≤ w4.heap.size := HF4.out.2.2.2.2.1.size
            clear x0 x1 x2 x3 x4 x5 x6 x7 x8 xf1 xf2 xf3 xf4 xf5 z0 z1 z2 z3 z4 z5 z6 z7 z8 zf0 zf1 zf2 zf3 zf4 zf5 zf6 zf7 zf8
            go_wp2_with (go_at_call 82; refine (rwrong_any l _ j _ HX4.out).mono ?_; rintro e w5 ⟨rfl, hb5⟩; have HF5 := Lib.hid (HF4.out.under hb5 hwr4); obtain ⟨⟨t0, t1, t2, t3, t4, t5, t6, t7, t8⟩, _⟩ := HF5.out.1.facts; obtain ⟨⟨s0, s1, s2, s3, s4, s5, s6, s7, s8⟩, sfr⟩ := HF5.out.2.1.facts; have sf0 := sfr 0; have sf1 := sfr 1; have sf2 := sfr 2; have sf3 := sfr 3; have sf4 := sfr 4; have sf5 := sfr 5; have sf6 := sfr 6; have sf7 := sfr 7; have sf8 := sfr 8; simp only [st0] at s0 s1 s2 s3 s4 s5 s6 s7 s8; clear sfr)
            obtain ⟨hf1, hf2, hf3, hf4⟩ := HF5.out.fin
            refine bodyPost_ret (v := .tuple #[.agg ((x : St).cells (.slice ade me cape) (.slice adf mf capf)), .int .i64 0, .int .i64 (refK l j).1, .int .i64 (refK l j).2]) (results_flds Tryz.results126 _ _ (w.heap.size + 1) x _ _ _ _ _ rfl rfl rfl rfl hf1) rfl ⟨x, _, _, rfl, hf2, hf3, hf4⟩


        · by_cases h101 : s[q] = 101
          · have HNM0 := HFC.out
            rw [fld_cons, if_neg h114, if_neg h108, if_pos h101] at HNM0
            have e114 : ((s[q].toNat : Int) == 114) = false := u8_ne h114 (by decide)
            have e108 : ((s[q].toNat : Int) == 108) = false := u8_ne h108 (by decide)
            have e101 : ((s[q].toNat : Int) == 101) = true := by rw [h101]; rfl
            have hjl : j ≤ l.length := by have := HN.out; omega
            have hpo := plain_out l j hjl HX.out.plOK
            have HXR := Lib.hid (HX.out.below HF.out.2.2.2.2.1)
            have HPL := Lib.hid (rplain_any l _ j wr HXR.out hjl)
            cases hp : plainR l j with
            | err k1 a1 =>
              rw [hp] at HNM0 hpo HPL
              replace HNM0 : FRes.err k1 a1 = R := HNM0
              subst HNM0
              have hk1 : k1 ≠ 0 := hpo
              have q1 : ((k1 : Int) != 0) = true := by simp; omega
              clear HFC HR2 hp hpo hk1
              go_wp2_with fail
              refine (HPL.out).mono ?_
              rintro e w4 ⟨rfl, hb4⟩
              have HF4 := Lib.hid (HF.out.under hb4 hwr)
              have HX4 := Lib.hid (HX.out.below HF4.out.2.2.2.2.1)
              have hwr4 : w.heap.size ≤ w4.heap.size := HF4.out.2.2.2.2.1.size
              clear x0 x1 x2 x3 x4 x5 x6 x7 x8 xf1 xf2 xf3 xf4 xf5 z0 z1 z2 z3 z4 z5 z6 z7 z8 zf0 zf1 zf2 zf3 zf4 zf5 zf6 zf7 zf8
              obtain ⟨⟨y0, y1, y2, y3, y4, y5, y6, y7, y8⟩, yfr⟩ := HF4.out.1.facts
              obtain ⟨⟨z0, z1, z2, z3, z4, z5, z6, z7, z8⟩, zfr⟩ := HF4.out.2.1.facts
              have yf1 := yfr 1
              have yf2 := yfr 2
              have yf3 := yfr 3
              have yf4 := yfr 4
              have yf5 := yfr 5
              have zf0 := zfr 0
              have zf1 := zfr 1
              have zf2 := zfr 2
              have zf3 := zfr 3
              have zf4 := zfr 4
              have zf5 := zfr 5
              have zf6 := zfr 6
              have zf7 := zfr 7
              have zf8 := zfr 8
              simp only [st0] at z0 z1 z2 z3 z4 z5 z6 z7 z8
              clear yfr zfr

              clear HPL hb4
              go_wp2
              obtain ⟨hf1, hf2, hf3, hf4⟩ := HF4.out.fin
              refine bodyPost_ret (v := .tuple #[.agg ((x : St).cells (.slice ade me cape) (.slice adf mf capf)), .int .i64 0, .int .i64 k1, .int .i64 a1]) (results_flds Tryz.results126 _ _ (w.heap.size + 1) x _ _ _ _ _ rfl rfl rfl rfl hf1) rfl ⟨x, _, _, rfl, hf2, hf3, hf4⟩

            | ok y j1 =>
              rw [hp] at HNM0 hpo HPL
              have HNX : Hid (fld l (s.data.toList.drop (q + 1)) j1 { x with e := y.flat } = R) := HNM0
              have hj1 : j1 ≤ N := by have := HN.out; have := hpo.2; omega
              clear HFC HR2 hp hpo HNM0
              go_wp2_with fail
              refine (HPL.out).mono ?_
              rintro e w4 ⟨v1, rfl, ho, hb4⟩
              have HF4 := Lib.hid (HF.out.under hb4 hwr)
              have HX4 := Lib.hid (HX.out.below HF4.out.2.2.2.2.1)
              have hwr4 : w.heap.size ≤ w4.heap.size := HF4.out.2.2.2.2.1.size
              clear x0 x1 x2 x3 x4 x5 x6 x7 x8 xf1 xf2 xf3 xf4 xf5 z0 z1 z2 z3 z4 z5 z6 z7 z8 zf0 zf1 zf2 zf3 zf4 zf5 zf6 zf7 zf8
              obtain ⟨⟨y0, y1, y2, y3, y4, y5, y6, y7, y8⟩, yfr⟩ := HF4.out.1.facts
              obtain ⟨⟨z0, z1, z2, z3, z4, z5, z6, z7, z8⟩, zfr⟩ := HF4.out.2.1.facts
              have yf1 := yfr 1
              have yf2 := yfr 2
              have yf3 := yfr 3
              have yf4 := yfr 4
              have yf5 := yfr 5
              have zf0 := zfr 0
              have zf1 := zfr 1
              have zf2 := zfr 2
              have zf3 := zfr 3
              have zf4 := zfr 4
              have zf5 := zfr 5
              have zf6 := zfr 6
              have zf7 := zfr 7
              have zf8 := zfr 8
              simp only [st0] at z0 z1 z2 z3 z4 z5 z6 z7 z8
              clear yfr zfr

              obtain ⟨ad9, cap9, rfl, hj9⟩ := own_shape ho
              have HO9 := Lib.hid (own_mono ho HF.out.2.2.2.2.2)
              obtain ⟨m9, hm9⟩ : ∃ m, m = y.flat.length := ⟨_, rfl⟩
              have HM9 := Lib.hid hm9
              rw [← hm9]
              clear hj9 ho hm9 HPL hb4
              go_wp2
              go_roundg (gk - 1)
              case measure => exact m1
              case rel =>
                refine ⟨q + 1, j1, { x with e := y.flat }, (.slice ad9 m9 cap9), (.slice adf mf capf), by go_num, by go_num, m3, m2, hj1, HNX.out, ?_⟩
                exact FlS.set3 HF4.out (by rw [← HM9.out]; exact (HM9.out ▸ HO9.out))


          · by_cases h102 : s[q] = 102
            · have HNM0 := HFC.out
              rw [fld_cons, if_neg h114, if_neg h108, if_neg h101, if_pos h102] at HNM0
              have e114 : ((s[q].toNat : Int) == 114) = false := u8_ne h114 (by decide)
              have e108 : ((s[q].toNat : Int) == 108) = false := u8_ne h108 (by decide)
              have e101 : ((s[q].toNat : Int) == 101) = false := u8_ne h101 (by decide)
              have e102 : ((s[q].toNat : Int) == 102) = true := by rw [h102]; rfl
              have hjl : j ≤ l.length := by have := HN.out; omega
              have hpo := plain_out l j hjl HX.out.plOK
              have HXR := Lib.hid (HX.out.below HF.out.2.2.2.2.1)
              have HPL := Lib.hid (rplain_any l _ j wr HXR.out hjl)
              cases hp : plainR l j with
              | err k1 a1 =>
                rw [hp] at HNM0 hpo HPL
                replace HNM0 : FRes.err k1 a1 = R := HNM0
                subst HNM0
                have hk1 : k1 ≠ 0 := hpo
                have q1 : ((k1 : Int) != 0) = true := by simp; omega
                clear HFC HR2 hp hpo hk1
                go_wp2_with fail
                refine (HPL.out).mono ?_
                rintro e w4 ⟨rfl, hb4⟩
                have HF4 := Lib.hid (HF.out.under hb4 hwr)
                have HX4 := Lib.hid (HX.out.below HF4.out.2.2.2.2.1)
                have hwr4 : w.heap.size ≤ w4.heap.size := HF4.out.2.2.2.2.1.size
                clear x0 x1 x2 x3 x4 x5 x6 x7 x8 xf1 xf2 xf3 xf4 xf5 z0 z1 z2 z3 z4 z5 z6 z7 z8 zf0 zf1 zf2 zf3 zf4 zf5 zf6 zf7 zf8
                obtain ⟨⟨y0, y1, y2, y3, y4, y5, y6, y7, y8⟩, yfr⟩ := HF4.out.1.facts
                obtain ⟨⟨z0, z1, z2, z3, z4, z5, z6, z7, z8⟩, zfr⟩ := HF4.out.2.1.facts
                have yf1 := yfr 1
                have yf2 := yfr 2
                have yf3 := yfr 3
                have yf4 := yfr 4
                have yf5 := yfr 5
                have zf0 := zfr 0
                have zf1 := zfr 1
                have zf2 := zfr 2
                have zf3 := zfr 3
                have zf4 := zfr 4
                have zf5 := zfr 5
                have zf6 := zfr 6
                have zf7 := zfr 7
                have zf8 := zfr 8
                simp only [st0] at z0 z1 z2 z3 z4 z5 z6 z7 z8
                clear yfr zfr

                clear HPL hb4
                go_wp2
                obtain ⟨hf1, hf2, hf3, hf4⟩ := HF4.out.fin
                refine bodyPost_ret (v := .tuple #[.agg ((x : St).cells (.slice ade me cape) (.slice adf mf capf)), .int .i64 0, .int .i64 k1, .int .i64 a1]) (results_flds Tryz.results126 _ _ (w.heap.size + 1) x _ _ _ _ _ rfl rfl rfl rfl hf1) rfl ⟨x, _, _, rfl, hf2, hf3, hf4⟩

              | ok y j1 =>
                rw [hp] at HNM0 hpo HPL
                have HNX : Hid (fld l (s.data.toList.drop (q + 1)) j1 { x with f := y.flat } = R) := HNM0
                have hj1 : j1 ≤ N := by have := HN.out; have := hpo.2; omega
                clear HFC HR2 hp hpo HNM0
                go_wp2_with fail
                refine (HPL.out).mono ?_
                rintro e w4 ⟨v1, rfl, ho, hb4⟩
                have HF4 := Lib.hid (HF.out.under hb4 hwr)
                have HX4 := Lib.hid (HX.out.below HF4.out.2.2.2.2.1)
                have hwr4 : w.heap.size ≤ w4.heap.size := HF4.out.2.2.2.2.1.size
                clear x0 x1 x2 x3 x4 x5 x6 x7 x8 xf1 xf2 xf3 xf4 xf5 z0 z1 z2 z3 z4 z5 z6 z7 z8 zf0 zf1 zf2 zf3 zf4 zf5 zf6 zf7 zf8
                obtain ⟨⟨y0, y1, y2, y3, y4, y5, y6, y7, y8⟩, yfr⟩ := HF4.out.1.facts
                obtain ⟨⟨z0, z1, z2, z3, z4, z5, z6, z7, z8⟩, zfr⟩ := HF4.out.2.1.facts
                have yf1 := yfr 1
                have yf2 := yfr 2
                have yf3 := yfr 3
                have yf4 := yfr 4
                have yf5 := yfr 5
                have zf0 := zfr 0
                have zf1 := zfr 1
                have zf2 := zfr 2
                have zf3 := zfr 3
                have zf4 := zfr 4
                have zf5 := zfr 5
                have zf6 := zfr 6
                have zf7 := zfr 7
                have zf8 := zfr 8
                simp only [st0] at z0 z1 z2 z3 z4 z5 z6 z7 z8
                clear yfr zfr

                obtain ⟨ad9, cap9, rfl, hj9⟩ := own_shape ho
                have HO9 := Lib.hid (own_mono ho HF.out.2.2.2.2.2)
                obtain ⟨m9, hm9⟩ : ∃ m, m = y.flat.length := ⟨_, rfl⟩
                have HM9 := Lib.hid hm9
                rw [← hm9]
                clear hj9 ho hm9 HPL hb4
                go_wp2
                go_roundg (gk - 1)
                case measure => exact m1
                case rel =>
                  refine ⟨q + 1, j1, { x with f := y.flat }, (.slice ade me cape), (.slice ad9 m9 cap9), by go_num, by go_num, m3, m2, hj1, HNX.out, ?_⟩
                  exact FlS.set4 HF4.out (by rw [← HM9.out]; exact (HM9.out ▸ HO9.out))


            · by_cases h113 : s[q] = 113
              · have HNM0 := HFC.out
                rw [fld_cons, if_neg h114, if_neg h108, if_neg h101, if_neg h102, if_pos h113] at HNM0
                have e114 : ((s[q].toNat : Int) == 114) = false := u8_ne h114 (by decide)
                have e108 : ((s[q].toNat : Int) == 108) = false := u8_ne h108 (by decide)
                have e101 : ((s[q].toNat : Int) == 101) = false := u8_ne h101 (by decide)
                have e102 : ((s[q].toNat : Int) == 102) = false := u8_ne h102 (by decide)
                have e113 : ((s[q].toNat : Int) == 113) = true := by rw [h113]; rfl
                have HXR := Lib.hid (HX.out.below HF.out.2.2.2.2.1)
                cases hsg : sgAt l j [33, 61] with
                | true =>
                  rw [if_pos hsg] at HNM0
                  have HNX := Lib.hid HNM0
                  have HIS := Lib.hid (ris_any l _ j ⟨#[33, 61]⟩ wr HXR.out.ht (by have := HXR.out.hn; exact this) true hsg)
                  have hjN : j + 1 ≤ N := by have := HN.out; have := sgAt_lt hsg; omega
                  clear HFC HNM0 HR2 hsg
                  go_wp2_with (go_at_call 83; refine HIS.out.mono ?_; rintro e w4 ⟨rfl, rfl⟩)
                  go_roundg (gk - 1)
                  case measure => exact m1
                  case rel =>
                    refine ⟨q + 1, j + 1, { x with ne := true }, (.slice ade me cape), (.slice adf mf capf), by go_num, by go_num, m3, m2, hjN, HNX.out, ?_⟩
                    exact FlS.set5 HF.out true

                | false =>
                  rw [if_neg (by rw [hsg]; decide)] at HNM0
                  have HIS := Lib.hid (ris_any l _ j ⟨#[33, 61]⟩ wr HXR.out.ht (by have := HXR.out.hn; exact this) false hsg)
                  have HFE := Lib.hid (FlS.set5 HF.out false)
                  have HXE := Lib.hid (HX.out.below HFE.out.2.2.2.2.1)
                  cases hsg2 : sgAt l j [61, 61] with
                  | true =>
                    rw [if_pos hsg2] at HNM0
                    have HNX := Lib.hid HNM0
                    have HI2 := Lib.hid (ris_any l _ j ⟨#[61, 61]⟩ _ HXE.out.ht (by have := HXR.out.hn; exact this) true hsg2)
                    have hjN : j + 1 ≤ N := by have := HN.out; have := sgAt_lt hsg2; omega
                    clear HFC HNM0 HR2 hsg hsg2
                    go_wp2_with fail
                    refine HIS.out.mono ?_
                    rintro e w4 ⟨rfl, rfl⟩
                    go_wp2_with fail
                    refine HI2.out.mono ?_
                    rintro e w4 ⟨rfl, rfl⟩
                    go_wp2
                    go_roundg (gk - 1)
                    case measure => exact m1
                    case rel =>
                      refine ⟨q + 1, j + 1, { x with ne := false }, (.slice ade me cape), (.slice adf mf capf), by go_num, by go_num, m3, m2, hjN, HNX.out, ?_⟩
                      exact HFE.out

                  | false =>
                    rw [if_neg (by rw [hsg2]; decide)] at HNM0
                    subst HNM0
                    have HI2 := Lib.hid (ris_any l _ j ⟨#[61, 61]⟩ _ HXE.out.ht (by have := HXR.out.hn; exact this) false hsg2)
                    clear HFC HR2 hsg hsg2
                    go_wp2_with fail
                    refine HIS.out.mono ?_
                    rintro e w4 ⟨rfl, rfl⟩
                    go_wp2_with fail
                    refine HI2.out.mono ?_
                    rintro e w4 ⟨rfl, rfl⟩
                    have hwrE : w.heap.size ≤ (wr.setCell ⟨w.heap.size, 5, none⟩ (.bool false)).heap.size := HFE.out.2.2.2.2.1.size
                    go_wp2_with (go_at_call 82; refine (rwrong_any l _ j _ HXE.out).mono ?_; rintro e w5 ⟨rfl, hb5⟩; have HF5 := Lib.hid (HFE.out.under hb5 hwrE); obtain ⟨⟨t0, t1, t2, t3, t4, t5, t6, t7, t8⟩, _⟩ := HF5.out.1.facts; obtain ⟨⟨s0, s1, s2, s3, s4, s5, s6, s7, s8⟩, sfr⟩ := HF5.out.2.1.facts; have sf0 := sfr 0; have sf1 := sfr 1; have sf2 := sfr 2; have sf3 := sfr 3; have sf4 := sfr 4; have sf5 := sfr 5; have sf6 := sfr 6; have sf7 := sfr 7; have sf8 := sfr 8; simp only [st0] at s0 s1 s2 s3 s4 s5 s6 s7 s8; clear sfr)
                    obtain ⟨hf1, hf2, hf3, hf4⟩ := HF5.out.fin
                    refine bodyPost_ret (v := .tuple #[.agg (({ x with ne := false } : St).cells (.slice ade me cape) (.slice adf mf capf)), .int .i64 0, .int .i64 (refK l j).1, .int .i64 (refK l j).2]) (results_flds Tryz.results126 _ _ (w.heap.size + 1) { x with ne := false } _ _ _ _ _ rfl rfl rfl rfl hf1) rfl ⟨{ x with ne := false }, _, _, rfl, hf2, hf3, hf4⟩


              · have HNM0 := HFC.out
                rw [fld_cons, if_neg h114, if_neg h108, if_neg h101, if_neg h102, if_neg h113] at HNM0
                have e114 : ((s[q].toNat : Int) == 114) = false := u8_ne h114 (by decide)
                have e108 : ((s[q].toNat : Int) == 108) = false := u8_ne h108 (by decide)
                have e101 : ((s[q].toNat : Int) == 101) = false := u8_ne h101 (by decide)
                have e102 : ((s[q].toNat : Int) == 102) = false := u8_ne h102 (by decide)
                have e113 : ((s[q].toNat : Int) == 113) = false := u8_ne h113 (by decide)
                have hex : (s.extract q (q + 1)).data.toList = [s[q]] := by
                  rw [← Lib.toList_data, Lib.extract_toList, HD.out, show q + 1 - q = 1 by omega]; rfl
                obtain ⟨z, hz⟩ : ∃ z, z = s.extract q (q + 1) := ⟨_, rfl⟩
                have HZ := Lib.hid hz
                have HXR := Lib.hid (HX.out.below HF.out.2.2.2.2.1)
                cases hsg : sgAt l j [s[q]] with
                | true =>
                  rw [if_pos hsg] at HNM0
                  have HNX := Lib.hid HNM0
                  have HIS := Lib.hid (ris_any l _ j (s.extract q (q + 1)) wr HXR.out.ht (by have := HXR.out.hn; exact this) true (by rw [hex]; exact hsg))
                  have hjN : j + 1 ≤ N := by have := HN.out; have := sgAt_lt hsg; omega
                  clear HFC HNM0 HR2 hsg hex hz
                  go_wp2_with (go_at_call 83; refine HIS.out.mono ?_; rintro e w4 ⟨rfl, rfl⟩)
                  go_roundg (gk - 1)
                  case measure => exact m1
                  case rel =>
                    refine ⟨q + 1, j + 1, x, (.slice ade me cape), (.slice adf mf capf), by go_num, by go_num, m3, m2, hjN, HNX.out, ?_⟩
                    exact HF.out

                | false =>
                  rw [if_neg (by rw [hsg]; decide)] at HNM0
                  subst HNM0
                  have HIS := Lib.hid (ris_any l _ j (s.extract q (q + 1)) wr HXR.out.ht (by have := HXR.out.hn; exact this) false (by rw [hex]; exact hsg))
                  clear HFC HR2 hsg hex hz
                  go_wp2_with (first | (go_at_call 83; refine HIS.out.mono ?_; rintro e w4 ⟨rfl, rfl⟩) | (go_at_call 82; refine (rwrong_any l _ j _ HXR.out).mono ?_; rintro e w5 ⟨rfl, hb5⟩; have HF5 := Lib.hid (HF.out.under hb5 hwr); obtain ⟨⟨t0, t1, t2, t3, t4, t5, t6, t7, t8⟩, _⟩ := HF5.out.1.facts; obtain ⟨⟨s0, s1, s2, s3, s4, s5, s6, s7, s8⟩, sfr⟩ := HF5.out.2.1.facts; have sf0 := sfr 0; have sf1 := sfr 1; have sf2 := sfr 2; have sf3 := sfr 3; have sf4 := sfr 4; have sf5 := sfr 5; have sf6 := sfr 6; have sf7 := sfr 7; have sf8 := sfr 8; simp only [st0] at s0 s1 s2 s3 s4 s5 s6 s7 s8; clear sfr))
                  obtain ⟨hf1, hf2, hf3, hf4⟩ := HF5.out.fin
                  refine bodyPost_ret (v := .tuple #[.agg ((x : St).cells (.slice ade me cape) (.slice adf mf capf)), .int .i64 0, .int .i64 (refK l j).1, .int .i64 (refK l j).2]) (results_flds Tryz.results126 _ _ (w.heap.size + 1) x _ _ _ _ _ rfl rfl rfl rfl hf1) rfl ⟨x, _, _, rfl, hf2, hf3, hf4⟩


    · have hre : R = .ok x j := by
        rw [← HR2.out, List.drop_eq_nil_of_le (by rw [← Lib.size_eq]; omega)]; rfl
      subst hre
      go_wp2
      obtain ⟨hf1, hf2, hf3, hf4⟩ := HF.out.fin
      refine bodyPost_ret (v := .tuple #[.agg (x.cells (.slice ade me cape) (.slice adf mf capf)), .int .i64 j, .int .i64 0, .int .i64 0]) (results_flds Tryz.results126 _ _ (w.heap.size + 1) x _ _ _ _ _ rfl rfl rfl rfl hf1) rfl ⟨_, _, rfl, hf2, hf3, hf4⟩
end Go.Proofs.YtlpgafgiljffhaaGreatDoor
