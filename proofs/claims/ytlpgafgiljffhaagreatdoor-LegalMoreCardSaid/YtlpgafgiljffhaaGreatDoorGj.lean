/- What the reference's Light tells of a program. -/
import Derived.Test.YtlpgafgiljffhaaGreatDoorPo
import Derived.Test.YtlpgafgiljffhaaGreatDoorZg
import Derived.Shelf.Strings.Builder1
import Derived.Shelf.Strings.Builder2
import Derived.Shelf.Strings.BuilderF
import Derived.Shelf.Strings.Prefix
import Derived.Shelf.Bits.Mul64
import Derived.Shelf.Strings.Repeat
import Derived.Test.YtlpgafgiljffhaaGreatDoorProg
import Derived.Shelf.LaysM
import Derived.Shelf.Strconv.Clone
import Derived.Shelf.Strconv.Itoa3
import Derived.Lib.Slices
import Derived.Lib.Walk
import Derived.Lib.Builder
import Derived.Lib.AppendStr
import Derived.WalkKit
import Derived.Laws.Externs
import Derived.Lib.OthersKept
import Derived.Test.YtlpgafgiljffhaaGreatDoorWc
namespace Go.Proofs.YtlpgafgiljffhaaGreatDoor
open Go.RowKit
def lightL (l : List St) : Bool := decide (l.length ≤ 60) && l.all lightSt
theorem lightS_map (ss : List SI) : lightS ss = lightL (ss.map (·.1)) := by
  unfold lightS lightL
  rw [List.length_map, List.all_map]
  rfl
def lightT (x : TI) : Bool := decide (x.1.nm.size ≤ 100) && (decide (x.1.regs.length ≤ 20) && (lightL x.1.body && x.1.regs.all fun s => decide (s.size ≤ 100)))
def lightP (vs : List Vr) (ts : List TI) (cs : List CI) : Bool :=
  decide (vs.length ≤ 20 ∧ ts.length ≤ 8 ∧ cs.length ≤ 12) && (vs.all (fun x => decide (x.nm.size ≤ 100)) && (ts.all lightT && cs.all fun c => lightB c.1.e))
def BigL (l : List St) : Prop := l.length ≤ maxLen ∧ ∀ s ∈ l, s.e.length ≤ maxLen ∧ s.f.length ≤ maxLen
theorem bigOK_of {ss : List SI} {l : List St} (h : ss.map (·.1) = l) (hl : BigL l) : BigOK ss := by
  subst h
  exact ⟨by simpa using hl.1, fun t ht => hl.2 t.1 (List.mem_map_of_mem ht)⟩
def BigT (x : TI) : Prop := x.1.regs.length ≤ maxLen ∧ BigL x.1.body
structure PgL (w : World) (pv : Value) (m : Int) (vs : List Vr) (ts : List TI) (cs : List CI) : Prop where
  v : ∃ lv tv cv, pv = .agg #[.int .i64 m, lv, tv, cv] ∧ VrsD w lv vs ∧ ThsD w tv ts ∧ ClsD w cv cs
  n1 : vs.length ≤ maxLen
  n2 : ts.length ≤ maxLen
  n3 : cs.length ≤ maxLen
  n4 : ∀ x ∈ ts, BigT x
  n5 : ∀ c ∈ cs, c.1.e.length ≤ maxLen
theorem all_drop {α : Type} (p : α → Bool) (l : List α) (k : Nat) (h : k < l.length) : (l.drop k).all p = (p l[k] && (l.drop (k + 1)).all p) := by
  rw [List.drop_eq_getElem_cons h, List.all_cons]
theorem all_end {α : Type} (p : α → Bool) (l : List α) (k : Nat) (h : ¬ k < l.length) : (l.drop k).all p = true := by
  rw [List.drop_eq_nil_of_le (by omega)]; rfl
set_option maxRecDepth 100000 in
set_option maxHeartbeats 4000000 in
theorem light4_many (pv : Value) (m : Int) (vs : List Vr) (ts : List TI) (cs : List CI) (w : World) (hp : PgL w pv m vs ts cs) (hb : ¬ (vs.length ≤ 20 ∧ ts.length ≤ 8 ∧ cs.length ≤ 12)) :
    Calls Tryz.prog 8 #[pv] w fun e w' => e = .returned (.bool false) ∧ Below w.heap.size w w' := by
  obtain ⟨lv, tv, cv, rfl, h1, h2, h3⟩ := hp.v
  obtain ⟨n1, n2, n3⟩ := (⟨hp.n1, hp.n2, hp.n3⟩ : vs.length ≤ maxLen ∧ ts.length ≤ maxLen ∧ cs.length ≤ maxLen)
  have BB : Hid (Below w.heap.size w (w.alloc (.cells #[.int .i64 m, lv, tv, cv] 26))) := Lib.hid ((Below.refl _ _).alloc (Nat.le_refl _) _)
  obtain ⟨ad1, cap1, rfl⟩ := h1.shape
  obtain ⟨ad2, cap2, rfl⟩ := h2.shape
  obtain ⟨ad3, cap3, rfl⟩ := h3.shape
  unfold maxLen at n1 n2 n3
  generalize vs.length = a at *
  generalize ts.length = b at *
  generalize cs.length = c at *
  clear h1 h2 h3 hp
  by_cases g1 : 20 < a
  · have q1 : decide ((20 : Int) < (a : Int)) = true := decide_eq_true (by omega)
    have q2 : decide (20 < a) = true := decide_eq_true (by omega)
    go_enter Tryz.func8, Tryz.ntmps8
    go_wp2
    go_ret
    exact ⟨rfl, BB.out⟩
  · have q1 : decide ((20 : Int) < (a : Int)) = false := decide_eq_false (by omega)
    have q2 : decide (20 < a) = false := decide_eq_false (by omega)
    by_cases g2 : 8 < b
    · have q3 : decide ((8 : Int) < (b : Int)) = true := decide_eq_true (by omega)
      have q4 : decide (8 < b) = true := decide_eq_true (by omega)
      go_enter Tryz.func8, Tryz.ntmps8
      go_wp2
      go_ret
      exact ⟨rfl, BB.out⟩
    · have q3 : decide ((8 : Int) < (b : Int)) = false := decide_eq_false (by omega)
      have q4 : decide (8 < b) = false := decide_eq_false (by omega)
      have q5 : decide ((12 : Int) < (c : Int)) = true := decide_eq_true (by omega)
      have q6 : decide (12 < c) = true := decide_eq_true (by omega)
      go_enter Tryz.func8, Tryz.ntmps8
      go_wp2
      go_ret
      exact ⟨rfl, BB.out⟩
set_option maxRecDepth 100000 in
set_option maxHeartbeats 8000000 in
theorem light4_few (pv : Value) (m : Int) (vs : List Vr) (ts : List TI) (cs : List CI) (w : World) (hp : PgL w pv m vs ts cs) (ha : vs.length ≤ 20) (hbb : ts.length ≤ 8) (hcc : cs.length ≤ 12) (R : Bool) (hR : (vs.all (fun x => decide (x.nm.size ≤ 100)) && (ts.all lightT && cs.all fun c => lightB c.1.e)) = R) :
    Calls Tryz.prog 8 #[pv] w fun e w' => e = .returned (.bool R) ∧ Below w.heap.size w w' := by
  obtain ⟨lv, tv, cv, rfl, h1, h2, h3⟩ := hp.v
  have N4 := Lib.hid hp.n4
  have N5 := Lib.hid hp.n5
  have BB : Hid (Below w.heap.size w (w.alloc (.cells #[.int .i64 m, lv, tv, cv] 26))) := Lib.hid ((Below.refl _ _).alloc (Nat.le_refl _) _)
  have KB := Lib.hid (Bk.new w 26 #[.int .i64 m, lv, tv, cv])
  have HV := Lib.hid (VrsD.below h1 BB.out)
  have HT := Lib.hid (ThsD.below h2 BB.out)
  have HC := Lib.hid (ClsD.below h3 BB.out)
  obtain ⟨ad1, cap1, rfl⟩ := h1.shape
  obtain ⟨ad2, cap2, rfl⟩ := h2.shape
  obtain ⟨ad3, cap3, rfl⟩ := h3.shape
  obtain ⟨a, hna⟩ : ∃ n, n = vs.length := ⟨_, rfl⟩
  obtain ⟨b, hnb⟩ : ∃ n, n = ts.length := ⟨_, rfl⟩
  obtain ⟨c, hnc⟩ : ∃ n, n = cs.length := ⟨_, rfl⟩
  rw [← hna] at BB KB ha HV HT HC ⊢
  rw [← hnb] at BB KB hbb HV HT HC ⊢
  rw [← hnc] at BB KB hcc HV HT HC ⊢
  have HNA := Lib.hid hna
  have HNB := Lib.hid hnb
  have HNC := Lib.hid hnc
  have HR0 : Hid (((vs.drop 0).all (fun x => decide (x.nm.size ≤ 100)) && (ts.all lightT && cs.all fun c => lightB c.1.e)) = R) := Lib.hid hR
  have q1 : decide ((20 : Int) < (a : Int)) = false := decide_eq_false (by omega)
  have q2 : decide (20 < a) = false := decide_eq_false (by omega)
  have q3 : decide ((8 : Int) < (b : Int)) = false := decide_eq_false (by omega)
  have q4 : decide (8 < b) = false := decide_eq_false (by omega)
  have q5 : decide ((12 : Int) < (c : Int)) = false := decide_eq_false (by omega)
  have q6 : decide (12 < c) = false := decide_eq_false (by omega)
  obtain ⟨wb, hwb⟩ : ∃ wb, wb = w.alloc (.cells #[.int .i64 m, .slice ad1 a cap1, .slice ad2 b cap2, .slice ad3 c cap3] 26) := ⟨_, rfl⟩
  rw [← hwb] at BB KB HV HT HC
  have HWB := Lib.hid hwb
  clear h1 h2 h3 hp hna hnb hnc hR hwb
  go_enter Tryz.func8, Tryz.ntmps8
  go_wp2_with fail
  rw [← HWB.out]
  have e1 := KB.out.cell 1
  have e2 := KB.out.cell 2
  have e3 := KB.out.cell 3
  have kl := KB.out.lt
  go_loopg [3] a (fun fuel i' wr => ∃ k : Nat, i' = .int .i64 k ∧ k ≤ a ∧ a - k ≤ fuel ∧ ((vs.drop k).all (fun x => decide (x.nm.size ≤ 100)) && (ts.all lightT && cs.all fun c => lightB c.1.e)) = R ∧ wb = wr)
  case atStart => exact ⟨0, rfl, Nat.zero_le _, Nat.le_refl _, HR0.out, rfl⟩
  case round =>
    obtain ⟨k, rfl, hk, hf, hr, rfl⟩ := hrel
    have HR := Lib.hid hr
    clear hr
    by_cases hlt : k < a
    · have hk' : k < vs.length := by have := HNA.out; omega
      have HD := Lib.hid (all_drop (fun x : Vr => decide (x.nm.size ≤ 100)) vs k hk')
      obtain ⟨adv, capv, hvv, hcv1, hcv2, hcv⟩ := HV.out
      obtain ⟨rfl, hzz, rfl⟩ := Value.slice.inj hvv
      clear hzz
      obtain ⟨g, off, rfl, hbl, c0, c1, c2⟩ := hcv k hk'
      obtain ⟨⟨xn, xv, xp⟩, hx⟩ : ∃ x, x = vs[k] := ⟨_, rfl⟩
      rw [← hx] at c0 c1 c2 HD
      simp only [] at c0 c1 c2 HD
      clear hx hvv hcv hcv1 hcv2
      by_cases g4 : 100 < xn.size
      · have hrr := HR.out
        rw [HD.out, decide_eq_false (by omega : ¬ xn.size ≤ 100), Bool.false_and, Bool.false_and] at hrr
        subst hrr
        go_wp2
        go_ret
        exact ⟨rfl, BB.out⟩
      · have hrr := HR.out
        rw [HD.out, decide_eq_true (by omega : xn.size ≤ 100), Bool.true_and] at hrr
        have HR2 := Lib.hid hrr
        clear hrr
        go_wp2
        go_roundg (gk - 1)
        case measure => omega
        case rel => exact ⟨k + 1, by go_num, by omega, by omega, HR2.out, rfl⟩
    · have hrr := HR.out
      rw [all_end _ _ _ (by have := HNA.out; omega), Bool.true_and] at hrr
      have HR2 : Hid (((ts.drop 0).all lightT && cs.all fun c => lightB c.1.e) = R) := Lib.hid hrr
      clear hrr HR
      go_wp2_with fail
      go_loopg [4] b (fun fuel i' wr => ∃ k : Nat, i' = .int .i64 k ∧ k ≤ b ∧ b - k ≤ fuel ∧ ((ts.drop k).all lightT && cs.all fun c => lightB c.1.e) = R ∧ Below wb.heap.size wb wr)
      case atStart => exact ⟨0, rfl, Nat.zero_le _, Nat.le_refl _, HR2.out, Below.refl _ _⟩
      case round =>
        obtain ⟨k2, rfl, hk2, hf2, hr, hb2⟩ := hrel
        obtain ⟨gk2, hgk2⟩ : ∃ g, g = gk := ⟨_, rfl⟩
        have HR3 := Lib.hid hr
        have HB2 := Lib.hid hb2
        have hsz2 := hb2.size
        clear hr
        have hq1 := (KB.out.below hb2).cell 1
        have hq2 := (KB.out.below hb2).cell 2
        have hq3 := (KB.out.below hb2).cell 3
        have hql := (KB.out.below hb2).lt
        obtain ⟨w3, hw3⟩ : ∃ w3, w3 = wr := ⟨_, rfl⟩
        rw [← hw3] at hb2 hsz2 HB2 hq1 hq2 hq3 hql ⊢
        clear hw3 e1 e2 e3 kl
        by_cases hlt2 : k2 < b
        · have hk' : k2 < ts.length := by have := HNB.out; omega
          have HD := Lib.hid (all_drop lightT ts k2 hk')
          have hbig := N4.out _ (List.getElem_mem hk')
          obtain ⟨adv, capv, hvv, hcv1, hcv2, hcv⟩ := HT.out
          obtain ⟨rfl, hzz, rfl⟩ := Value.slice.inj hvv
          clear hzz
          obtain ⟨g, off, rfl, hbl, ⟨x0, x1, x2, x3⟩, hst, ss, hss, hsts⟩ := hcv k2 hk'
          obtain ⟨⟨⟨xn, tr, bd, tp⟩, trv, tbv⟩, hx⟩ : ∃ x : TI, x = ts[k2]'hk' := ⟨_, rfl⟩
          rw [← hx] at x0 x1 x2 x3 HD hst hss hsts hbig
          simp only [] at x0 x1 x2 x3 HD hst hss hsts hbig
          obtain ⟨hbr, hbs0⟩ : tr.length ≤ maxLen ∧ BigL bd := hbig
          have hbs : BigOK ss := bigOK_of hss hbs0
          obtain ⟨tba, tbl, tbc, rfl⟩ : ∃ a l c, tbv = .slice a l c := by obtain ⟨a, c, h, _⟩ := hsts; exact ⟨a, _, c, h⟩
          unfold maxLen at hbr
          have HS := Lib.hid hst
          obtain ⟨ra, rc, rfl⟩ := hst.shape
          obtain ⟨nr, hnr⟩ : ∃ n, n = tr.length := ⟨_, rfl⟩
          rw [← hnr] at x1 hbr HS HD
          have HNR := Lib.hid hnr
          have c0 : w3.cell? ⟨g, off + k2 * 4, none⟩ = some (.string xn) := (hb2.cell (p := ⟨g, _, none⟩) hbl).trans x0
          have c1 : w3.cell? ⟨g, off + k2 * 4 + 1, none⟩ = some (.slice ra nr rc) := (hb2.cell (p := ⟨g, _, none⟩) hbl).trans x1
          have c2 : w3.cell? ⟨g, off + k2 * 4 + 2, none⟩ = some (.slice tba tbl tbc) := (hb2.cell (p := ⟨g, _, none⟩) hbl).trans x2
          have c3 : w3.cell? ⟨g, off + k2 * 4 + 3, none⟩ = some (.int .i64 tp) := (hb2.cell (p := ⟨g, _, none⟩) hbl).trans x3
          have HL := Lib.hid (fun (W : World) (h : Below wb.heap.size wb W) (b : Bool) (hb : lightL bd = b) => lightS_any ss (.slice tba tbl tbc) W (hsts.below h) hbs b (by rw [lightS_map, hss]; exact hb))
          have HRS := Lib.hid (fun (W : World) (h : Below wb.heap.size wb W) => StrsD.below hst h)
          obtain ⟨w4, hw4⟩ : ∃ w4, w4 = w3.alloc (.cells #[.string xn, .slice ra nr rc, .slice tba tbl tbc, .int .i64 tp] 43) := ⟨_, rfl⟩
          have K4 : Hid (Bk w4 w3.heap.size 43 #[.string xn, .slice ra nr rc, .slice tba tbl tbc, .int .i64 tp]) := Lib.hid (by rw [hw4]; exact Bk.new w3 _ _)
          have B4 : Hid (Below wb.heap.size wb w4) := Lib.hid (by rw [hw4]; exact hb2.alloc hsz2 _)
          have hnr' := hx
          clear x0 x1 x2 x3 hx hvv hcv hcv1 hcv2 hst hsts hbs hnr hb2
          have HLT : Hid ((decide (xn.size ≤ 100) && (decide (nr ≤ 20) && (lightL bd && tr.all fun s => decide (s.size ≤ 100)))) = lightT ((⟨xn, tr, bd, tp⟩, .slice ra nr rc, .slice tba tbl tbc) : TI)) := Lib.hid (by unfold lightT; simp only []; rw [HNR.out])
          clear hnr'
          by_cases g1 : 100 < xn.size
          · have hrr := HR3.out
            rw [HD.out, ← HLT.out, decide_eq_false (by omega : ¬ xn.size ≤ 100), Bool.false_and, Bool.false_and, Bool.false_and] at hrr
            subst hrr
            go_wp2
            go_ret
            exact ⟨rfl, BB.out.trans ((HB2.out.alloc hsz2 _).mono BB.out.size)⟩
          · by_cases g2 : 20 < nr
            · have hrr := HR3.out
              rw [HD.out, ← HLT.out, decide_eq_false (by omega : ¬ nr ≤ 20), Bool.false_and, Bool.and_false, Bool.false_and, Bool.false_and] at hrr
              subst hrr
              have q7 : decide ((20 : Int) < (nr : Int)) = true := decide_eq_true (by omega)
              have q8 : decide (20 < nr) = true := decide_eq_true (by omega)
              go_wp2
              go_ret
              exact ⟨rfl, BB.out.trans ((HB2.out.alloc hsz2 _).mono BB.out.size)⟩
            · have q7 : decide ((20 : Int) < (nr : Int)) = false := decide_eq_false (by omega)
              have q8 : decide (20 < nr) = false := decide_eq_false (by omega)
              obtain ⟨bs, hbs⟩ : ∃ b, lightL bd = b := ⟨_, rfl⟩
              have hl2 := HLT.out
              rw [hbs, decide_eq_true (by omega : xn.size ≤ 100), decide_eq_true (by omega : nr ≤ 20), Bool.true_and, Bool.true_and] at hl2
              have HL3 := Lib.hid (HL.out w4 B4.out bs hbs)
              have HW4 := Lib.hid hw4
              have HLT2 := Lib.hid hl2
              clear hl2 hbs hw4 HL HLT
              go_wp2_with fail
              rw [← HW4.out]
              refine HL3.out.mono ?_
              rintro e5 w5 ⟨rfl, b5⟩
              have B5 := Lib.hid (B4.out.trans (b5.mono B4.out.size))
              have K5 := Lib.hid (K4.out.below b5)
              clear b5
              have hrr := HR3.out
              rw [HD.out, ← HLT2.out] at hrr
              cases bs with
              | false =>
                rw [Bool.false_and, Bool.false_and] at hrr
                subst hrr
                go_wp2
                go_ret
                exact ⟨rfl, BB.out.trans (B5.out.mono BB.out.size)⟩
              | true =>
                rw [Bool.true_and] at hrr
                have HR5 : Hid (((tr.drop 0).all (fun s => decide (s.size ≤ 100)) && ((ts.drop (k2 + 1)).all lightT && cs.all fun c => lightB c.1.e)) = R) := Lib.hid (by rw [← hrr, Bool.and_assoc]; rfl)
                have u0 := K5.out.cell 0
                have u1 := K5.out.cell 1
                have u2 := K5.out.cell 2
                have u3 := K5.out.cell 3
                have ul := K5.out.lt
                have hq1 := (KB.out.below B5.out).cell 1
                have hq2 := (KB.out.below B5.out).cell 2
                have hq3 := (KB.out.below B5.out).cell 3
                have hql := (KB.out.below B5.out).lt
                have HS5 := Lib.hid (HRS.out w5 B5.out)
                clear hrr HLT2 HL3 HW4 HD HR3 c0 c1 c2 c3
                go_wp2_with fail
                go_loopg [6] nr (fun fuel i' wr => ∃ k3 : Nat, i' = .int .i64 k3 ∧ k3 ≤ nr ∧ nr - k3 ≤ fuel ∧ ((tr.drop k3).all (fun s => decide (s.size ≤ 100)) && ((ts.drop (k2 + 1)).all lightT && cs.all fun c => lightB c.1.e)) = R ∧ w5 = wr)
                case atStart => exact ⟨0, rfl, Nat.zero_le _, Nat.le_refl _, HR5.out, rfl⟩
                case round =>
                  obtain ⟨k3, rfl, hk3, hf3, hr, rfl⟩ := hrel
                  have HR6 := Lib.hid hr
                  clear hr
                  by_cases hlt3 : k3 < nr
                  · have hk3' : k3 < tr.length := by have := HNR.out; omega
                    have HD2 := Lib.hid (all_drop (fun s : ByteArray => decide (s.size ≤ 100)) tr k3 hk3')
                    obtain ⟨adr, capr, hvv, hcr1, hcr2, hcr⟩ := HS5.out
                    obtain ⟨rfl, hzz, rfl⟩ := Value.slice.inj hvv
                    clear hzz
                    obtain ⟨g9, off9, rfl, hbl9, y0⟩ := hcr k3 hk3'
                    obtain ⟨yn, hy⟩ : ∃ x, x = tr[k3]'hk3' := ⟨_, rfl⟩
                    rw [← hy] at y0 HD2
                    have d0 : w5.cell? ⟨g9, off9 + k3, none⟩ = some (.string yn) := by unfold StrAt at y0; rw [Nat.mul_one] at y0; exact y0
                    clear y0 hy hvv hcr hcr1 hcr2
                    by_cases g4 : 100 < yn.size
                    · have hrr := HR6.out
                      rw [HD2.out, decide_eq_false (by omega : ¬ yn.size ≤ 100), Bool.false_and, Bool.false_and] at hrr
                      subst hrr
                      go_wp2
                      go_ret
                      exact ⟨rfl, BB.out.trans (B5.out.mono BB.out.size)⟩
                    · have hrr := HR6.out
                      rw [HD2.out, decide_eq_true (by omega : yn.size ≤ 100), Bool.true_and] at hrr
                      have HR7 := Lib.hid hrr
                      clear hrr
                      go_wp2
                      go_roundg (gk - 1)
                      case measure => omega
                      case rel => exact ⟨k3 + 1, by go_num, by omega, by omega, HR7.out, rfl⟩
                  · have hrr := HR6.out
                    rw [all_end _ _ _ (by have := HNR.out; omega), Bool.true_and] at hrr
                    have HR7 := Lib.hid hrr
                    clear hrr
                    go_wp2
                    go_roundg (gk2 - 1)
                    case measure => omega
                    case rel => exact ⟨k2 + 1, by go_num, by omega, by omega, HR7.out, B5.out⟩
        · have hrr := HR3.out
          rw [all_end _ _ _ (by have := HNB.out; omega), Bool.true_and] at hrr
          have HR4 : Hid (((cs.drop 0).all fun c => lightB c.1.e) = R) := Lib.hid hrr
          have HC3 := Lib.hid (ClsD.below HC.out HB2.out)
          clear hrr HR3 hb2
          go_wp2_with fail
          go_loopg [7] c (fun fuel i' wr => ∃ k : Nat, i' = .int .i64 k ∧ k ≤ c ∧ c - k ≤ fuel ∧ ((cs.drop k).all fun c => lightB c.1.e) = R ∧ w3 = wr)
          case atStart => exact ⟨0, rfl, Nat.zero_le _, Nat.le_refl _, HR4.out, rfl⟩
          case round =>
            obtain ⟨k4, rfl, hk4, hf4, hr, rfl⟩ := hrel
            have HR5 := Lib.hid hr
            clear hr
            by_cases hlt4 : k4 < c
            · have hk' : k4 < cs.length := by have := HNC.out; omega
              have HD := Lib.hid (all_drop (fun c : CI => lightB c.1.e) cs k4 hk')
              have hbig := N5.out _ (List.getElem_mem hk')
              obtain ⟨adv, capv, hvv, hcv1, hcv2, hcv⟩ := HC3.out
              obtain ⟨rfl, hzz, rfl⟩ := Value.slice.inj hvv
              clear hzz
              obtain ⟨g, off, rfl, hbl, ⟨c0, c1, c2⟩, hnd⟩ := hcv k4 hk'
              obtain ⟨⟨⟨xk, xe, xp⟩, xv⟩, hx⟩ : ∃ x : CI, x = cs[k4]'hk' := ⟨_, rfl⟩
              rw [← hx] at c0 c1 c2 HD hnd hbig
              simp only [] at c0 c1 c2 HD hnd hbig
              obtain ⟨bl, hbl2⟩ : ∃ b, lightB xe = b := ⟨_, rfl⟩
              have HL := Lib.hid (light_any xe xv w3 hnd.nds hbig bl hbl2)
              rw [hbl2] at HD
              obtain ⟨ea, ec, hev⟩ : ∃ ea ec, xv = .slice ea xe.length ec := by obtain ⟨a, c, h, _⟩ := hnd; exact ⟨a, c, h⟩
              clear hvv hcv hcv1 hcv2 hx hnd hbl2 hbig
              subst hev
              generalize xe.length = en at c1 HL
              go_wp2_with fail
              refine HL.out.mono ?_
              rintro e5 w5 ⟨rfl, rfl⟩
              have hrr := HR5.out
              rw [HD.out] at hrr
              cases bl with
              | false =>
                rw [Bool.false_and] at hrr
                subst hrr
                go_wp2
                go_ret
                exact ⟨rfl, BB.out.trans (HB2.out.mono BB.out.size)⟩
              | true =>
                rw [Bool.true_and] at hrr
                have HR6 := Lib.hid hrr
                clear hrr
                go_wp2
                go_roundg (gk - 1)
                case measure => omega
                case rel => exact ⟨k4 + 1, by go_num, by omega, by omega, HR6.out, rfl⟩
            · have hrr := HR5.out
              rw [all_end _ _ _ (by have := HNC.out; omega)] at hrr
              subst hrr
              go_wp2
              go_ret
              exact ⟨rfl, BB.out.trans (HB2.out.mono BB.out.size)⟩
theorem light4_any (pv : Value) (m : Int) (vs : List Vr) (ts : List TI) (cs : List CI) (w : World) (hp : PgL w pv m vs ts cs) (R : Bool) (hR : lightP vs ts cs = R) :
    Calls Tryz.prog 8 #[pv] w fun e w' => e = .returned (.bool R) ∧ Below w.heap.size w w' := by
  unfold lightP at hR
  by_cases h : vs.length ≤ 20 ∧ ts.length ≤ 8 ∧ cs.length ≤ 12
  · rw [decide_eq_true h, Bool.true_and] at hR
    exact light4_few pv m vs ts cs w hp h.1 h.2.1 h.2.2 R hR
  · rw [decide_eq_false h, Bool.false_and] at hR
    subst hR
    exact light4_many pv m vs ts cs w hp h
end Go.Proofs.YtlpgafgiljffhaaGreatDoor
