/- Layer 10's law: what must come of fixed calls, plainly. Layer 10's law: known. -/
import Derived.Test.YtacbanfnakgecaaGreatVh
import Derived.Test.YtacbanfnakgecaaGreatWa
import Derived.Test.YtacbanfnakgecaaGreatYn
namespace Go.Proofs.YtacbanfnakgecaaGreat
set_option linter.unusedSimpArgs false
set_option linter.unusedVariables false
open Go.RowKit

def pf0 : Pf := ⟨[0, 0], [[], []], [0], [[], []]⟩
def pf1 : Pf := ⟨[1, 0], [[], []], [0], [[(0, 1)], []]⟩
def pf2 : Pf := ⟨[1, 0], [[], []], [1], [[], []]⟩
theorem startK (v va vb : Value) : startP (unitK v va vb) = pf0 := by rfl
theorem rightK (v va vb : Value) (p : Pf) (model : Int) (h : (p.pc.length = 2 ∧ p.regs.length = 2 ∧ p.buf.length = 2 ∧ p.mem.length = 1) ∧ (p.mem.all fun n => inB n 4) = true ∧ thB 4 model 1 1 (p.pc.getD 0 0) (p.regs.getD 0 []) (p.buf.getD 0 []) 0 3 = true ∧ thB 4 model 1 1 (p.pc.getD 1 0) (p.regs.getD 1 []) (p.buf.getD 1 []) 0 2 = true ∧ rightL [] model 1 4 1 = true) : RightP (unitK v va vb) p model 1 := by
  obtain ⟨⟨h1, h2, h3, h4⟩, h5, h6, h7, h8⟩ := h
  refine ⟨rfl, h1, h2, h3, h4, fun n hn => List.all_eq_true.1 h5 n hn, fun k hk => ?_, h8⟩
  have hk2 : k = 0 ∨ k = 1 := by have : k < 2 := hk; omega
  rcases hk2 with rfl | rfl
  · exact h6
  · exact h7
theorem r0 (v va vb : Value) : RightP (unitK v va vb) pf0 2 1 := rightK v va vb _ _ ⟨⟨rfl, rfl, rfl, rfl⟩, rfl, rfl, rfl, rfl⟩
theorem r0s (v va vb : Value) : RightP (unitK v va vb) pf0 1 1 := rightK v va vb _ _ ⟨⟨rfl, rfl, rfl, rfl⟩, rfl, rfl, rfl, rfl⟩
theorem r1 (v va vb : Value) : RightP (unitK v va vb) pf1 2 1 := rightK v va vb _ _ ⟨⟨rfl, rfl, rfl, rfl⟩, rfl, rfl, rfl, rfl⟩
theorem r2 (v va vb : Value) : RightP (unitK v va vb) pf2 2 1 := rightK v va vb _ _ ⟨⟨rfl, rfl, rfl, rfl⟩, rfl, rfl, rfl, rfl⟩
theorem a0 (v va vb : Value) : enT (unitK v va vb) pf0 2 1 0 = true ∧ actT (unitK v va vb) pf0 2 1 0 = pf1 := ⟨by rfl, by rfl⟩
theorem a0s (v va vb : Value) : enT (unitK v va vb) pf0 1 1 0 = true ∧ actT (unitK v va vb) pf0 1 1 0 = pf2 := ⟨by rfl, by rfl⟩
theorem e01 (v va vb : Value) : enT (unitK v va vb) pf0 2 1 1 = false := by rfl
theorem e11 (v va vb : Value) : enT (unitK v va vb) pf1 2 1 1 = false := by rfl
theorem e10 (v va vb : Value) : enT (unitK v va vb) pf1 2 1 0 = false := by rfl
theorem e21 (v va vb : Value) : enT (unitK v va vb) pf2 2 1 1 = true := by rfl
theorem e02 (v va vb : Value) : enT (unitK v va vb) pf0 1 1 2 = false := by rfl
theorem p10 : popL ((pf1.buf.getD 0 [])) 2 (-1) = ([], (0, 1), true) ∧ popL ((pf1.buf.getD 0 [])) 2 0 = ([], (0, 1), true) := ⟨by rfl, by rfl⟩
theorem p00 : popL ((pf0.buf.getD 0 [])) 2 (-1) = ([], (0, 0), false) ∧ popL ((pf0.buf.getD 0 [])) 2 0 = ([], (0, 0), false) := ⟨by rfl, by rfl⟩
theorem rd1 : readsP pf1 0 0 = 1 ∧ readsP pf1 1 0 = 0 := ⟨by rfl, by rfl⟩
theorem usK (v va vb : Value) : ∀ k pc, (iiAt (unitK v va vb) k pc).x.e.length ≤ 100000 ∧ (iiAt (unitK v va vb) k pc).x.f.length ≤ 100000 := by
  intro k pc
  have key : ∀ (l : List II) (i : Nat), (∀ t ∈ l, t.x.e.length ≤ 100000 ∧ t.x.f.length ≤ 100000) → ((l.getD i noII).x.e.length ≤ 100000 ∧ (l.getD i noII).x.f.length ≤ 100000) := by
    intro l i hl
    rw [List.getD_eq_getElem?_getD]
    cases hg : l[i]? with
    | none => exact ⟨by simp [noII], by simp [noII]⟩
    | some t => exact hl t (List.mem_of_getElem? hg)
  unfold iiAt
  refine key _ _ fun t ht => ?_
  match k, ht with
  | 0, ht =>
    simp [unitK, codeA] at ht
    rcases ht with rfl | rfl | rfl <;> simp [insK, oneL]
  | 1, ht =>
    simp [unitK, codeB] at ht
    rcases ht with rfl | rfl <;> simp [insK, oneL]
  | k + 2, ht => simp [unitK] at ht
theorem shortK (v va vb : Value) : ShortU (unitK v va vb) := by
  refine ⟨by simp [unitK], by simp [unitK], fun r hr => ?_⟩
  simp [unitK] at hr
  rcases hr with rfl | rfl
  · refine ⟨by simp [codeA], fun t ht => ?_⟩
    simp [codeA] at ht
    rcases ht with rfl | rfl | rfl <;> simp [insK, oneL]
  · refine ⟨by simp [codeB], fun t ht => ?_⟩
    simp [codeB] at ht
    rcases ht with rfl | rfl <;> simp [insK, oneL]

/-- What a configuration of these holds. -/
theorem pf_short {c : Cf} (h : c.pf = pf0 ∨ c.pf = pf1 ∨ c.pf = pf2) : ShortC c := by
  have hl : c.pf.pc.length = 2 ∧ c.pf.regs.length = 2 ∧ c.pf.mem.length = 1 ∧ c.pf.buf.length = 2 ∧ (∀ r ∈ c.pf.regs, r.length ≤ 100000) ∧ ∀ r ∈ c.pf.buf, r.length ≤ 100000 := by
    rcases h with h | h | h <;> rw [h] <;> exact ⟨rfl, rfl, rfl, rfl, by decide, by decide⟩
  obtain ⟨h1, h2, h3, h4, h5, h6⟩ := hl
  have h2' : c.regs.length = 2 := by simpa [Cf.pf] using h2
  have h4' : c.buf.length = 2 := by simpa [Cf.pf] using h4
  exact ⟨by have : c.pc.length = 2 := h1; omega, by omega, by have : c.mem.length = 1 := h3; omega, by omega, fun x hx => h5 _ (List.mem_map_of_mem hx), fun x hx => h6 _ (List.mem_map_of_mem hx)⟩

end Go.Proofs.YtacbanfnakgecaaGreat

namespace Go.Proofs.YtacbanfnakgecaaGreat
set_option linter.unusedSimpArgs false
set_option linter.unusedVariables false
open Go.RowKit

theorem i_unit : (Tryz.prog.info? 25).map (·.size) = some 4 := by kernel_rfl
theorem i_conf : (Tryz.prog.info? 29).map (·.size) = some 4 := by kernel_rfl
def zU : Array Value := #[.int .i64 0, .slice none 0 0, .slice none 0 0, .slice none 0 0]
def zC : Array Value := #[.slice none 0 0, .slice none 0 0, .slice none 0 0, .slice none 0 0]
/-- A variable that is made and set. -/
theorem newv (w : World) (T : TypeId) (z cs : Array Value) : Below w.heap.size w (World.setRow (World.alloc w (.cells z T)) w.heap.size cs) ∧ Bk (World.setRow (World.alloc w (.cells z T)) w.heap.size cs) w.heap.size T cs :=
  ⟨below_setRow (bal (Below.refl _ _) _) (Nat.le_refl _) _, setRow_heap _ _ _ _ _ _ (Bk.new w T z)⟩


/-- The shapes of a configuration of these. -/
theorem cf_sh {w : World} {B : Nat} {xp xr xm xb : Value} {c : Cf} (h : OwnC w B xp xr xm xb c) (hp : c.pf = pf0 ∨ c.pf = pf1 ∨ c.pf = pf2) :
    ∃ a0 k0 a1 k1 gm k2 gb k3, xp = .slice a0 2 k0 ∧ xr = .slice a1 2 k1 ∧ xm = .slice (some ⟨gm, 0, none⟩) 1 k2 ∧ xb = .slice (some ⟨gb, 0, none⟩) 2 k3 ∧ gm < w.heap.size ∧ gb < w.heap.size ∧
      (c.pf = pf2 → w.cell? ⟨gm, 0, none⟩ = some (.int .i64 1)) ∧ (c.pf = pf1 → ∃ be ke, w.cell? ⟨gb, 0, none⟩ = some (.slice be 1 ke)) := by
  have hl : c.pf.pc.length = 2 ∧ c.pf.regs.length = 2 ∧ c.pf.mem.length = 1 ∧ c.pf.buf.length = 2 := by
    rcases hp with h | h | h <;> rw [h] <;> exact ⟨rfl, rfl, rfl, rfl⟩
  obtain ⟨h1, h2, h3, h4⟩ := hl
  have h1' : c.pc.length = 2 := h1
  have h2' : c.regs.length = 2 := by simpa [Cf.pf] using h2
  have h3' : c.mem.length = 1 := h3
  have h4' : c.buf.length = 2 := by simpa [Cf.pf] using h4
  obtain ⟨a0, k0, e0, _⟩ := own_shape' h.p
  obtain ⟨a1, k1, e1, _⟩ := own_shape' h.r.h
  obtain ⟨gm, k2, e2, _, l2⟩ := World.ownsRow.form h.m (by rw [h3']; decide)
  obtain ⟨gb, k3, e3, _, l3, cb, _⟩ := h.bufAt 0 (by omega)
  rw [h1'] at e0
  rw [h2'] at e1
  rw [h3'] at e2
  rw [h4'] at e3
  refine ⟨a0, k0, a1, k1, gm, k2, gb, k3, e0, e1, e2, e3, l2, l3, fun hq => ?_, fun hq => ?_⟩
  · subst e2
    have hm : c.mem = [1] := by have := congrArg Pf.mem hq; exact this
    have hh := h.m
    rw [hm] at hh
    exact hh.cellAt 0 (by decide)
  · have hb : c.buf.map (·.1) = [[(0, 1)], []] := by have := congrArg Pf.buf hq; exact this
    have hx : (c.buf[0]'(by omega)).1 = [(0, 1)] := by
      have : (c.buf.map (·.1))[0]'(by simp; omega) = [(0, 1)] := by simp only [hb]; rfl
      simpa using this
    have he := h.b.r _ (List.getElem_mem (by omega : 0 < c.buf.length))
    rw [hx] at he
    obtain ⟨be, ke, e4, _⟩ := own_shape' he
    exact ⟨be, ke, by rw [cb, e4]; rfl⟩


theorem flush_pf1 {c : Cf} (hp : c.pf = pf1) {xp xr xm xb : Value} {w : World} (hc : CfD w xp xr xm xb c) :
    Calls Tryz.prog 28 #[.agg #[xp, xr, xm, xb], .int .i64 2, .int .i64 0, .int .i64 (-1)] w fun e w' => ∃ (d : Cf) (yp yr ym yb : Value), e = .returned (.tuple #[.agg #[yp, yr, ym, yb], .bool true]) ∧ OwnC w' w.heap.size yp yr ym yb d ∧ d.pf = pf2 ∧ Below w.heap.size w w' := by
  have e1 : c.pc = [1, 0] := congrArg Pf.pc hp
  have e2 : c.regs.map (·.1) = [[], []] := congrArg Pf.regs hp
  have e3 : c.mem = [0] := congrArg Pf.mem hp
  have e4 : c.buf.map (·.1) = [[(0, 1)], []] := congrArg Pf.buf hp
  have l4 : c.buf.length = 2 := by have := congrArg List.length e4; simpa using this
  refine (flush_any c 2 0 (-1) xp xr xm xb w hc (pf_short (Or.inr (Or.inl hp))) [] 0 1 true (by rw [popC_pf, hp]; rfl) (fun _ => ⟨by decide, by rw [l4]; decide, by decide, by rw [e3]; decide⟩)).mono ?_
  rintro e w' ⟨d, yp, yr, ym, yb, he, ho, hd, hb⟩
  refine ⟨d, yp, yr, ym, yb, he, ho, ?_, hb⟩
  rw [hd, if_pos rfl, e1, e2, e3, e4]
  rfl
theorem flush_pf0 {c : Cf} (hp : c.pf = pf0) {xp xr xm xb : Value} {w : World} (hc : CfD w xp xr xm xb c) :
    Calls Tryz.prog 28 #[.agg #[xp, xr, xm, xb], .int .i64 2, .int .i64 0, .int .i64 (-1)] w fun e w' => ∃ (d : Cf) (yp yr ym yb : Value), e = .returned (.tuple #[.agg #[yp, yr, ym, yb], .bool false]) ∧ OwnC w' w.heap.size yp yr ym yb d ∧ d.pf = pf0 ∧ Below w.heap.size w w' := by
  refine (flush_any c 2 0 (-1) xp xr xm xb w hc (pf_short (Or.inl hp)) [] 0 0 false (by rw [popC_pf, hp]; rfl) (fun h => by simp at h)).mono ?_
  rintro e w' ⟨d, yp, yr, ym, yb, he, ho, hd, hb⟩
  refine ⟨d, yp, yr, ym, yb, he, ho, ?_, hb⟩
  rw [hd, if_neg (by simp), hp]

attribute [local go_sem ↓] Go.wp_at_zero Go.wp_at_succ
set_option maxRecDepth 100000 in
set_option maxHeartbeats 16000000 in
theorem known_any (w : World) :
    Calls Tryz.prog 6 #[] w fun e w' => e = .returned (.bool true) ∧ Below w.heap.size w w' := by
  have HUN := Lib.hid unit10_any
  go_enter Tryz.func6, Tryz.ntmps6
  go_wp2_with fail
  refine (HUN.out _).mono ?_
  rintro e w1 ⟨ai, ar, ac, v, va, vb, rfl, du, b1⟩
  have B1 := Lib.hid b1
  have DU := Lib.hid du
  clear b1 du HUN
  have BB := Lib.hid B1.out
  clear B1
  have Ku := Lib.hid (Bk.new w1 25 #[.int .i64 4, .slice ai 1 1, .slice ar 2 2, .slice ac 2 2])
  have Aw2 : Hid (Below w1.heap.size w1 (World.alloc w1 (.cells #[.int .i64 4, .slice ai 1 1, .slice ar 2 2, .slice ac 2 2] 25))) := Lib.hid (bal (Below.refl _ _) _)
  obtain ⟨pu, hpu⟩ : ∃ n, n = w1.heap.size := ⟨_, rfl⟩
  rw [← hpu] at Ku
  obtain ⟨w2, hww2⟩ : ∃ z, World.alloc w1 (.cells #[.int .i64 4, .slice ai 1 1, .slice ar 2 2, .slice ac 2 2] 25) = z := ⟨_, rfl⟩
  rw [hww2] at Ku Aw2
  replace DU := Lib.hid (DU.out.below Aw2.out)
  replace BB := Lib.hid (BB.out.trans (Aw2.out.mono BB.out.size))
  subst hpu
  obtain ⟨uc0, uc1, uc2, uc3, ucl⟩ : w2.cell? ⟨w1.heap.size, 0, none⟩ = some (.int .i64 4) ∧ w2.cell? ⟨w1.heap.size, 1, none⟩ = some (.slice ai 1 1) ∧ w2.cell? ⟨w1.heap.size, 2, none⟩ = some (.slice ar 2 2) ∧ w2.cell? ⟨w1.heap.size, 3, none⟩ = some (.slice ac 2 2) ∧ w1.heap.size < w2.heap.size := ⟨Ku.out.cell 0, Ku.out.cell 1, Ku.out.cell 2, Ku.out.cell 3, Ku.out.lt⟩
  go_wp2_with fail
  clear uc0 uc1 uc2 uc3 ucl
  refine (rstart_yes (unitK v va vb) _ _ _ w2 DU.out (shortK v va vb) (unitK_right v va vb)).mono ?_
  rintro e w3 ⟨c, xp, xr, xm, xb, rfl, oc, pcf, b3⟩
  rw [startK] at pcf
  obtain ⟨ca0, ck0, ca1, ck1, cgm, ck2, cgb, ck3, rfl, rfl, rfl, rfl, clm, clb, ccm, ccb⟩ := cf_sh oc (Or.inl pcf)
  clear clm clb ccm ccb
  have Oc := Lib.hid oc
  clear oc
  replace Ku := Lib.hid (Ku.out.below b3)
  replace DU := Lib.hid (DU.out.below b3)
  replace BB := Lib.hid (BB.out.trans (b3.mono BB.out.size))
  clear b3
  have Kc := Lib.hid (Bk.new w3 29 #[.slice ca0 2 ck0, .slice ca1 2 ck1, .slice (some ⟨cgm, 0, none⟩) 1 ck2, .slice (some ⟨cgb, 0, none⟩) 2 ck3])
  have Aw4 : Hid (Below w3.heap.size w3 (World.alloc w3 (.cells #[.slice ca0 2 ck0, .slice ca1 2 ck1, .slice (some ⟨cgm, 0, none⟩) 1 ck2, .slice (some ⟨cgb, 0, none⟩) 2 ck3] 29))) := Lib.hid (bal (Below.refl _ _) _)
  obtain ⟨pc, hpc⟩ : ∃ n, n = w3.heap.size := ⟨_, rfl⟩
  rw [← hpc] at Kc
  obtain ⟨w4, hww4⟩ : ∃ z, World.alloc w3 (.cells #[.slice ca0 2 ck0, .slice ca1 2 ck1, .slice (some ⟨cgm, 0, none⟩) 1 ck2, .slice (some ⟨cgb, 0, none⟩) 2 ck3] 29) = z := ⟨_, rfl⟩
  rw [hww4] at Kc Aw4
  replace Ku := Lib.hid (Ku.out.below Aw4.out)
  replace Oc := Lib.hid (Oc.out.below Aw4.out)
  replace DU := Lib.hid (DU.out.below Aw4.out)
  replace BB := Lib.hid (BB.out.trans (Aw4.out.mono BB.out.size))
  subst hpc
  obtain ⟨uc0, uc1, uc2, uc3, ucl⟩ : w4.cell? ⟨w1.heap.size, 0, none⟩ = some (.int .i64 4) ∧ w4.cell? ⟨w1.heap.size, 1, none⟩ = some (.slice ai 1 1) ∧ w4.cell? ⟨w1.heap.size, 2, none⟩ = some (.slice ar 2 2) ∧ w4.cell? ⟨w1.heap.size, 3, none⟩ = some (.slice ac 2 2) ∧ w1.heap.size < w4.heap.size := ⟨Ku.out.cell 0, Ku.out.cell 1, Ku.out.cell 2, Ku.out.cell 3, Ku.out.lt⟩
  obtain ⟨cc0, cc1, cc2, cc3, ccl⟩ : w4.cell? ⟨w3.heap.size, 0, none⟩ = some (.slice ca0 2 ck0) ∧ w4.cell? ⟨w3.heap.size, 1, none⟩ = some (.slice ca1 2 ck1) ∧ w4.cell? ⟨w3.heap.size, 2, none⟩ = some (.slice (some ⟨cgm, 0, none⟩) 1 ck2) ∧ w4.cell? ⟨w3.heap.size, 3, none⟩ = some (.slice (some ⟨cgb, 0, none⟩) 2 ck3) ∧ w3.heap.size < w4.heap.size := ⟨Kc.out.cell 0, Kc.out.cell 1, Kc.out.cell 2, Kc.out.cell 3, Kc.out.lt⟩
  have HA := act_any (unitK v va vb) c 2 1 0 _ _ _ _ _ _ _ w4 DU.out Oc.out.data (pf_short (Or.inl pcf)) (usK v va vb) (by rw [pcf]; exact r0 v va vb)
  rw [pcf, (a0 v va vb).1, (a0 v va vb).2] at HA
  replace HA := Lib.hid HA
  go_wp2_with fail
  clear uc0 uc1 uc2 uc3 ucl cc0 cc1 cc2 cc3 ccl
  refine HA.out.mono ?_
  rintro e w5 ⟨d, dxp, dxr, dxm, dxb, rfl, oc, pdf, b⟩
  obtain ⟨da0, dk0, da1, dk1, dgm, dk2, dgb, dk3, rfl, rfl, rfl, rfl, dlm, dlb, dcm, dcb⟩ := cf_sh oc (Or.inr (Or.inl pdf))
  have Od := Lib.hid oc
  clear oc HA
  replace Ku := Lib.hid (Ku.out.below b)
  replace Kc := Lib.hid (Kc.out.below b)
  replace Oc := Lib.hid (Oc.out.below b)
  replace DU := Lib.hid (DU.out.below b)
  replace BB := Lib.hid (BB.out.trans (b.mono BB.out.size))
  clear b
  obtain ⟨be, ke, dcb⟩ := dcb pdf
  have FD := Lib.hid dcb
  have FDl := Lib.hid dlb
  clear dcm dlm dlb dcb
  have Kd := Lib.hid (Bk.new w5 29 #[.slice da0 2 dk0, .slice da1 2 dk1, .slice (some ⟨dgm, 0, none⟩) 1 dk2, .slice (some ⟨dgb, 0, none⟩) 2 dk3])
  have Aw6 : Hid (Below w5.heap.size w5 (World.alloc w5 (.cells #[.slice da0 2 dk0, .slice da1 2 dk1, .slice (some ⟨dgm, 0, none⟩) 1 dk2, .slice (some ⟨dgb, 0, none⟩) 2 dk3] 29))) := Lib.hid (bal (Below.refl _ _) _)
  obtain ⟨pd, hpd⟩ : ∃ n, n = w5.heap.size := ⟨_, rfl⟩
  rw [← hpd] at Kd
  obtain ⟨w6, hww6⟩ : ∃ z, World.alloc w5 (.cells #[.slice da0 2 dk0, .slice da1 2 dk1, .slice (some ⟨dgm, 0, none⟩) 1 dk2, .slice (some ⟨dgb, 0, none⟩) 2 dk3] 29) = z := ⟨_, rfl⟩
  rw [hww6] at Kd Aw6
  replace Ku := Lib.hid (Ku.out.below Aw6.out)
  replace Kc := Lib.hid (Kc.out.below Aw6.out)
  replace Oc := Lib.hid (Oc.out.below Aw6.out)
  replace Od := Lib.hid (Od.out.below Aw6.out)
  replace DU := Lib.hid (DU.out.below Aw6.out)
  replace BB := Lib.hid (BB.out.trans (Aw6.out.mono BB.out.size))
  replace FD := Lib.hid ((Aw6.out.cell (p := ⟨dgb, 0, none⟩) FDl.out).trans FD.out)
  replace FDl := Lib.hid (Nat.lt_of_lt_of_le FDl.out Aw6.out.size)
  subst hpd
  obtain ⟨uc0, uc1, uc2, uc3, ucl⟩ : w6.cell? ⟨w1.heap.size, 0, none⟩ = some (.int .i64 4) ∧ w6.cell? ⟨w1.heap.size, 1, none⟩ = some (.slice ai 1 1) ∧ w6.cell? ⟨w1.heap.size, 2, none⟩ = some (.slice ar 2 2) ∧ w6.cell? ⟨w1.heap.size, 3, none⟩ = some (.slice ac 2 2) ∧ w1.heap.size < w6.heap.size := ⟨Ku.out.cell 0, Ku.out.cell 1, Ku.out.cell 2, Ku.out.cell 3, Ku.out.lt⟩
  obtain ⟨cc0, cc1, cc2, cc3, ccl⟩ : w6.cell? ⟨w3.heap.size, 0, none⟩ = some (.slice ca0 2 ck0) ∧ w6.cell? ⟨w3.heap.size, 1, none⟩ = some (.slice ca1 2 ck1) ∧ w6.cell? ⟨w3.heap.size, 2, none⟩ = some (.slice (some ⟨cgm, 0, none⟩) 1 ck2) ∧ w6.cell? ⟨w3.heap.size, 3, none⟩ = some (.slice (some ⟨cgb, 0, none⟩) 2 ck3) ∧ w3.heap.size < w6.heap.size := ⟨Kc.out.cell 0, Kc.out.cell 1, Kc.out.cell 2, Kc.out.cell 3, Kc.out.lt⟩
  obtain ⟨dc0, dc1, dc2, dc3, dcl⟩ : w6.cell? ⟨w5.heap.size, 0, none⟩ = some (.slice da0 2 dk0) ∧ w6.cell? ⟨w5.heap.size, 1, none⟩ = some (.slice da1 2 dk1) ∧ w6.cell? ⟨w5.heap.size, 2, none⟩ = some (.slice (some ⟨dgm, 0, none⟩) 1 dk2) ∧ w6.cell? ⟨w5.heap.size, 3, none⟩ = some (.slice (some ⟨dgb, 0, none⟩) 2 dk3) ∧ w5.heap.size < w6.heap.size := ⟨Kd.out.cell 0, Kd.out.cell 1, Kd.out.cell 2, Kd.out.cell 3, Kd.out.lt⟩
  have FDv := FD.out
  have FDlv := FDl.out
  have HB := Lib.hid (enabled_any (unitK v va vb) c 2 1 1 _ _ _ _ _ _ _ w6 DU.out Oc.out.data (pf_short (Or.inl pcf)) (usK v va vb) (by rw [pcf]; exact r0 v va vb) false (by rw [pcf]; exact e01 v va vb))
  go_wp2_with fail
  clear uc0 uc1 uc2 uc3 ucl cc0 cc1 cc2 cc3 ccl dc0 dc1 dc2 dc3 dcl
  clear FDv FDlv
  refine HB.out.mono ?_
  rintro e w7 ⟨rfl, b⟩
  clear HB
  replace Ku := Lib.hid (Ku.out.below b)
  replace Kc := Lib.hid (Kc.out.below b)
  replace Kd := Lib.hid (Kd.out.below b)
  replace Oc := Lib.hid (Oc.out.below b)
  replace Od := Lib.hid (Od.out.below b)
  replace DU := Lib.hid (DU.out.below b)
  replace BB := Lib.hid (BB.out.trans (b.mono BB.out.size))
  replace FD := Lib.hid ((b.cell (p := ⟨dgb, 0, none⟩) FDl.out).trans FD.out)
  replace FDl := Lib.hid (Nat.lt_of_lt_of_le FDl.out b.size)
  clear b
  obtain ⟨uc0, uc1, uc2, uc3, ucl⟩ : w7.cell? ⟨w1.heap.size, 0, none⟩ = some (.int .i64 4) ∧ w7.cell? ⟨w1.heap.size, 1, none⟩ = some (.slice ai 1 1) ∧ w7.cell? ⟨w1.heap.size, 2, none⟩ = some (.slice ar 2 2) ∧ w7.cell? ⟨w1.heap.size, 3, none⟩ = some (.slice ac 2 2) ∧ w1.heap.size < w7.heap.size := ⟨Ku.out.cell 0, Ku.out.cell 1, Ku.out.cell 2, Ku.out.cell 3, Ku.out.lt⟩
  obtain ⟨cc0, cc1, cc2, cc3, ccl⟩ : w7.cell? ⟨w3.heap.size, 0, none⟩ = some (.slice ca0 2 ck0) ∧ w7.cell? ⟨w3.heap.size, 1, none⟩ = some (.slice ca1 2 ck1) ∧ w7.cell? ⟨w3.heap.size, 2, none⟩ = some (.slice (some ⟨cgm, 0, none⟩) 1 ck2) ∧ w7.cell? ⟨w3.heap.size, 3, none⟩ = some (.slice (some ⟨cgb, 0, none⟩) 2 ck3) ∧ w3.heap.size < w7.heap.size := ⟨Kc.out.cell 0, Kc.out.cell 1, Kc.out.cell 2, Kc.out.cell 3, Kc.out.lt⟩
  obtain ⟨dc0, dc1, dc2, dc3, dcl⟩ : w7.cell? ⟨w5.heap.size, 0, none⟩ = some (.slice da0 2 dk0) ∧ w7.cell? ⟨w5.heap.size, 1, none⟩ = some (.slice da1 2 dk1) ∧ w7.cell? ⟨w5.heap.size, 2, none⟩ = some (.slice (some ⟨dgm, 0, none⟩) 1 dk2) ∧ w7.cell? ⟨w5.heap.size, 3, none⟩ = some (.slice (some ⟨dgb, 0, none⟩) 2 dk3) ∧ w5.heap.size < w7.heap.size := ⟨Kd.out.cell 0, Kd.out.cell 1, Kd.out.cell 2, Kd.out.cell 3, Kd.out.lt⟩
  have FDv := FD.out
  have FDlv := FDl.out
  have HB := Lib.hid (enabled_any (unitK v va vb) d 2 1 1 _ _ _ _ _ _ _ w7 DU.out Od.out.data (pf_short (Or.inr (Or.inl pdf))) (usK v va vb) (by rw [pdf]; exact r1 v va vb) false (by rw [pdf]; exact e11 v va vb))
  go_wp2_with fail
  clear uc0 uc1 uc2 uc3 ucl cc0 cc1 cc2 cc3 ccl dc0 dc1 dc2 dc3 dcl
  clear FDv FDlv
  refine HB.out.mono ?_
  rintro e w8 ⟨rfl, b⟩
  clear HB
  replace Ku := Lib.hid (Ku.out.below b)
  replace Kc := Lib.hid (Kc.out.below b)
  replace Kd := Lib.hid (Kd.out.below b)
  replace Oc := Lib.hid (Oc.out.below b)
  replace Od := Lib.hid (Od.out.below b)
  replace DU := Lib.hid (DU.out.below b)
  replace BB := Lib.hid (BB.out.trans (b.mono BB.out.size))
  replace FD := Lib.hid ((b.cell (p := ⟨dgb, 0, none⟩) FDl.out).trans FD.out)
  replace FDl := Lib.hid (Nat.lt_of_lt_of_le FDl.out b.size)
  clear b
  obtain ⟨uc0, uc1, uc2, uc3, ucl⟩ : w8.cell? ⟨w1.heap.size, 0, none⟩ = some (.int .i64 4) ∧ w8.cell? ⟨w1.heap.size, 1, none⟩ = some (.slice ai 1 1) ∧ w8.cell? ⟨w1.heap.size, 2, none⟩ = some (.slice ar 2 2) ∧ w8.cell? ⟨w1.heap.size, 3, none⟩ = some (.slice ac 2 2) ∧ w1.heap.size < w8.heap.size := ⟨Ku.out.cell 0, Ku.out.cell 1, Ku.out.cell 2, Ku.out.cell 3, Ku.out.lt⟩
  obtain ⟨cc0, cc1, cc2, cc3, ccl⟩ : w8.cell? ⟨w3.heap.size, 0, none⟩ = some (.slice ca0 2 ck0) ∧ w8.cell? ⟨w3.heap.size, 1, none⟩ = some (.slice ca1 2 ck1) ∧ w8.cell? ⟨w3.heap.size, 2, none⟩ = some (.slice (some ⟨cgm, 0, none⟩) 1 ck2) ∧ w8.cell? ⟨w3.heap.size, 3, none⟩ = some (.slice (some ⟨cgb, 0, none⟩) 2 ck3) ∧ w3.heap.size < w8.heap.size := ⟨Kc.out.cell 0, Kc.out.cell 1, Kc.out.cell 2, Kc.out.cell 3, Kc.out.lt⟩
  obtain ⟨dc0, dc1, dc2, dc3, dcl⟩ : w8.cell? ⟨w5.heap.size, 0, none⟩ = some (.slice da0 2 dk0) ∧ w8.cell? ⟨w5.heap.size, 1, none⟩ = some (.slice da1 2 dk1) ∧ w8.cell? ⟨w5.heap.size, 2, none⟩ = some (.slice (some ⟨dgm, 0, none⟩) 1 dk2) ∧ w8.cell? ⟨w5.heap.size, 3, none⟩ = some (.slice (some ⟨dgb, 0, none⟩) 2 dk3) ∧ w5.heap.size < w8.heap.size := ⟨Kd.out.cell 0, Kd.out.cell 1, Kd.out.cell 2, Kd.out.cell 3, Kd.out.lt⟩
  have FDv := FD.out
  have FDlv := FDl.out
  have HB := Lib.hid (enabled_any (unitK v va vb) d 2 1 0 _ _ _ _ _ _ _ w8 DU.out Od.out.data (pf_short (Or.inr (Or.inl pdf))) (usK v va vb) (by rw [pdf]; exact r1 v va vb) false (by rw [pdf]; exact e10 v va vb))
  go_wp2_with fail
  clear uc0 uc1 uc2 uc3 ucl cc0 cc1 cc2 cc3 ccl dc0 dc1 dc2 dc3 dcl
  clear FDv FDlv
  refine HB.out.mono ?_
  rintro e w9 ⟨rfl, b⟩
  clear HB
  replace Ku := Lib.hid (Ku.out.below b)
  replace Kc := Lib.hid (Kc.out.below b)
  replace Kd := Lib.hid (Kd.out.below b)
  replace Oc := Lib.hid (Oc.out.below b)
  replace Od := Lib.hid (Od.out.below b)
  replace DU := Lib.hid (DU.out.below b)
  replace BB := Lib.hid (BB.out.trans (b.mono BB.out.size))
  replace FD := Lib.hid ((b.cell (p := ⟨dgb, 0, none⟩) FDl.out).trans FD.out)
  replace FDl := Lib.hid (Nat.lt_of_lt_of_le FDl.out b.size)
  clear b
  obtain ⟨uc0, uc1, uc2, uc3, ucl⟩ : w9.cell? ⟨w1.heap.size, 0, none⟩ = some (.int .i64 4) ∧ w9.cell? ⟨w1.heap.size, 1, none⟩ = some (.slice ai 1 1) ∧ w9.cell? ⟨w1.heap.size, 2, none⟩ = some (.slice ar 2 2) ∧ w9.cell? ⟨w1.heap.size, 3, none⟩ = some (.slice ac 2 2) ∧ w1.heap.size < w9.heap.size := ⟨Ku.out.cell 0, Ku.out.cell 1, Ku.out.cell 2, Ku.out.cell 3, Ku.out.lt⟩
  obtain ⟨cc0, cc1, cc2, cc3, ccl⟩ : w9.cell? ⟨w3.heap.size, 0, none⟩ = some (.slice ca0 2 ck0) ∧ w9.cell? ⟨w3.heap.size, 1, none⟩ = some (.slice ca1 2 ck1) ∧ w9.cell? ⟨w3.heap.size, 2, none⟩ = some (.slice (some ⟨cgm, 0, none⟩) 1 ck2) ∧ w9.cell? ⟨w3.heap.size, 3, none⟩ = some (.slice (some ⟨cgb, 0, none⟩) 2 ck3) ∧ w3.heap.size < w9.heap.size := ⟨Kc.out.cell 0, Kc.out.cell 1, Kc.out.cell 2, Kc.out.cell 3, Kc.out.lt⟩
  obtain ⟨dc0, dc1, dc2, dc3, dcl⟩ : w9.cell? ⟨w5.heap.size, 0, none⟩ = some (.slice da0 2 dk0) ∧ w9.cell? ⟨w5.heap.size, 1, none⟩ = some (.slice da1 2 dk1) ∧ w9.cell? ⟨w5.heap.size, 2, none⟩ = some (.slice (some ⟨dgm, 0, none⟩) 1 dk2) ∧ w9.cell? ⟨w5.heap.size, 3, none⟩ = some (.slice (some ⟨dgb, 0, none⟩) 2 dk3) ∧ w5.heap.size < w9.heap.size := ⟨Kd.out.cell 0, Kd.out.cell 1, Kd.out.cell 2, Kd.out.cell 3, Kd.out.lt⟩
  have FDv := FD.out
  have FDlv := FDl.out
  have HF := Lib.hid (flush_pf1 pdf Od.out.data)
  go_wp2_with fail
  clear uc0 uc1 uc2 uc3 ucl cc0 cc1 cc2 cc3 ccl dc0 dc1 dc2 dc3 dcl
  clear FDv FDlv
  refine HF.out.mono ?_
  rintro e w10 ⟨f, fxp, fxr, fxm, fxb, rfl, oc, pff, b⟩
  obtain ⟨fa0, fk0, fa1, fk1, fgm, fk2, fgb, fk3, rfl, rfl, rfl, rfl, flm, flb, fcm, fcb⟩ := cf_sh oc (Or.inr (Or.inr pff))
  have Of := Lib.hid oc
  clear oc HF
  replace Ku := Lib.hid (Ku.out.below b)
  replace Kc := Lib.hid (Kc.out.below b)
  replace Kd := Lib.hid (Kd.out.below b)
  replace Oc := Lib.hid (Oc.out.below b)
  replace Od := Lib.hid (Od.out.below b)
  replace DU := Lib.hid (DU.out.below b)
  replace BB := Lib.hid (BB.out.trans (b.mono BB.out.size))
  replace FD := Lib.hid ((b.cell (p := ⟨dgb, 0, none⟩) FDl.out).trans FD.out)
  replace FDl := Lib.hid (Nat.lt_of_lt_of_le FDl.out b.size)
  clear b
  have fmv := fcm pff
  have FF := Lib.hid fmv
  have FFl := Lib.hid flm
  clear fcm fcb flm flb fmv
  have Kf := Lib.hid (Bk.new w10 29 #[.slice fa0 2 fk0, .slice fa1 2 fk1, .slice (some ⟨fgm, 0, none⟩) 1 fk2, .slice (some ⟨fgb, 0, none⟩) 2 fk3])
  have Aw11 : Hid (Below w10.heap.size w10 (World.alloc w10 (.cells #[.slice fa0 2 fk0, .slice fa1 2 fk1, .slice (some ⟨fgm, 0, none⟩) 1 fk2, .slice (some ⟨fgb, 0, none⟩) 2 fk3] 29))) := Lib.hid (bal (Below.refl _ _) _)
  obtain ⟨pf, hpf⟩ : ∃ n, n = w10.heap.size := ⟨_, rfl⟩
  rw [← hpf] at Kf
  obtain ⟨w11, hww11⟩ : ∃ z, World.alloc w10 (.cells #[.slice fa0 2 fk0, .slice fa1 2 fk1, .slice (some ⟨fgm, 0, none⟩) 1 fk2, .slice (some ⟨fgb, 0, none⟩) 2 fk3] 29) = z := ⟨_, rfl⟩
  rw [hww11] at Kf Aw11
  replace Ku := Lib.hid (Ku.out.below Aw11.out)
  replace Kc := Lib.hid (Kc.out.below Aw11.out)
  replace Kd := Lib.hid (Kd.out.below Aw11.out)
  replace Oc := Lib.hid (Oc.out.below Aw11.out)
  replace Od := Lib.hid (Od.out.below Aw11.out)
  replace Of := Lib.hid (Of.out.below Aw11.out)
  replace DU := Lib.hid (DU.out.below Aw11.out)
  replace BB := Lib.hid (BB.out.trans (Aw11.out.mono BB.out.size))
  replace FD := Lib.hid ((Aw11.out.cell (p := ⟨dgb, 0, none⟩) FDl.out).trans FD.out)
  replace FDl := Lib.hid (Nat.lt_of_lt_of_le FDl.out Aw11.out.size)
  replace FF := Lib.hid ((Aw11.out.cell (p := ⟨fgm, 0, none⟩) FFl.out).trans FF.out)
  replace FFl := Lib.hid (Nat.lt_of_lt_of_le FFl.out Aw11.out.size)
  subst hpf
  obtain ⟨uc0, uc1, uc2, uc3, ucl⟩ : w11.cell? ⟨w1.heap.size, 0, none⟩ = some (.int .i64 4) ∧ w11.cell? ⟨w1.heap.size, 1, none⟩ = some (.slice ai 1 1) ∧ w11.cell? ⟨w1.heap.size, 2, none⟩ = some (.slice ar 2 2) ∧ w11.cell? ⟨w1.heap.size, 3, none⟩ = some (.slice ac 2 2) ∧ w1.heap.size < w11.heap.size := ⟨Ku.out.cell 0, Ku.out.cell 1, Ku.out.cell 2, Ku.out.cell 3, Ku.out.lt⟩
  obtain ⟨cc0, cc1, cc2, cc3, ccl⟩ : w11.cell? ⟨w3.heap.size, 0, none⟩ = some (.slice ca0 2 ck0) ∧ w11.cell? ⟨w3.heap.size, 1, none⟩ = some (.slice ca1 2 ck1) ∧ w11.cell? ⟨w3.heap.size, 2, none⟩ = some (.slice (some ⟨cgm, 0, none⟩) 1 ck2) ∧ w11.cell? ⟨w3.heap.size, 3, none⟩ = some (.slice (some ⟨cgb, 0, none⟩) 2 ck3) ∧ w3.heap.size < w11.heap.size := ⟨Kc.out.cell 0, Kc.out.cell 1, Kc.out.cell 2, Kc.out.cell 3, Kc.out.lt⟩
  obtain ⟨dc0, dc1, dc2, dc3, dcl⟩ : w11.cell? ⟨w5.heap.size, 0, none⟩ = some (.slice da0 2 dk0) ∧ w11.cell? ⟨w5.heap.size, 1, none⟩ = some (.slice da1 2 dk1) ∧ w11.cell? ⟨w5.heap.size, 2, none⟩ = some (.slice (some ⟨dgm, 0, none⟩) 1 dk2) ∧ w11.cell? ⟨w5.heap.size, 3, none⟩ = some (.slice (some ⟨dgb, 0, none⟩) 2 dk3) ∧ w5.heap.size < w11.heap.size := ⟨Kd.out.cell 0, Kd.out.cell 1, Kd.out.cell 2, Kd.out.cell 3, Kd.out.lt⟩
  obtain ⟨fc0, fc1, fc2, fc3, fcl⟩ : w11.cell? ⟨w10.heap.size, 0, none⟩ = some (.slice fa0 2 fk0) ∧ w11.cell? ⟨w10.heap.size, 1, none⟩ = some (.slice fa1 2 fk1) ∧ w11.cell? ⟨w10.heap.size, 2, none⟩ = some (.slice (some ⟨fgm, 0, none⟩) 1 fk2) ∧ w11.cell? ⟨w10.heap.size, 3, none⟩ = some (.slice (some ⟨fgb, 0, none⟩) 2 fk3) ∧ w10.heap.size < w11.heap.size := ⟨Kf.out.cell 0, Kf.out.cell 1, Kf.out.cell 2, Kf.out.cell 3, Kf.out.lt⟩
  have FDv := FD.out
  have FDlv := FDl.out
  have FFv := FF.out
  have FFlv := FFl.out
  have HA := act_any (unitK v va vb) c 1 1 0 _ _ _ _ _ _ _ w11 DU.out Oc.out.data (pf_short (Or.inl pcf)) (usK v va vb) (by rw [pcf]; exact r0s v va vb)
  rw [pcf, (a0s v va vb).1, (a0s v va vb).2] at HA
  replace HA := Lib.hid HA
  go_wp2_with fail
  clear uc0 uc1 uc2 uc3 ucl cc0 cc1 cc2 cc3 ccl dc0 dc1 dc2 dc3 dcl fc0 fc1 fc2 fc3 fcl
  clear FDv FDlv
  clear FFv FFlv
  refine HA.out.mono ?_
  rintro e w12 ⟨s, sxp, sxr, sxm, sxb, rfl, oc, psf, b⟩
  obtain ⟨sa0, sk0, sa1, sk1, sgm, sk2, sgb, sk3, rfl, rfl, rfl, rfl, slm, slb, scm, scb⟩ := cf_sh oc (Or.inr (Or.inr psf))
  have Os := Lib.hid oc
  clear oc HA
  replace Ku := Lib.hid (Ku.out.below b)
  replace Kc := Lib.hid (Kc.out.below b)
  replace Kd := Lib.hid (Kd.out.below b)
  replace Kf := Lib.hid (Kf.out.below b)
  replace Oc := Lib.hid (Oc.out.below b)
  replace Od := Lib.hid (Od.out.below b)
  replace Of := Lib.hid (Of.out.below b)
  replace DU := Lib.hid (DU.out.below b)
  replace BB := Lib.hid (BB.out.trans (b.mono BB.out.size))
  replace FD := Lib.hid ((b.cell (p := ⟨dgb, 0, none⟩) FDl.out).trans FD.out)
  replace FDl := Lib.hid (Nat.lt_of_lt_of_le FDl.out b.size)
  replace FF := Lib.hid ((b.cell (p := ⟨fgm, 0, none⟩) FFl.out).trans FF.out)
  replace FFl := Lib.hid (Nat.lt_of_lt_of_le FFl.out b.size)
  clear b
  have smv := scm psf
  have FS := Lib.hid smv
  have FSl := Lib.hid slm
  clear scm scb slm slb smv
  have Ks := Lib.hid (Bk.new w12 29 #[.slice sa0 2 sk0, .slice sa1 2 sk1, .slice (some ⟨sgm, 0, none⟩) 1 sk2, .slice (some ⟨sgb, 0, none⟩) 2 sk3])
  have Aw13 : Hid (Below w12.heap.size w12 (World.alloc w12 (.cells #[.slice sa0 2 sk0, .slice sa1 2 sk1, .slice (some ⟨sgm, 0, none⟩) 1 sk2, .slice (some ⟨sgb, 0, none⟩) 2 sk3] 29))) := Lib.hid (bal (Below.refl _ _) _)
  obtain ⟨ps, hps⟩ : ∃ n, n = w12.heap.size := ⟨_, rfl⟩
  rw [← hps] at Ks
  obtain ⟨w13, hww13⟩ : ∃ z, World.alloc w12 (.cells #[.slice sa0 2 sk0, .slice sa1 2 sk1, .slice (some ⟨sgm, 0, none⟩) 1 sk2, .slice (some ⟨sgb, 0, none⟩) 2 sk3] 29) = z := ⟨_, rfl⟩
  rw [hww13] at Ks Aw13
  replace Ku := Lib.hid (Ku.out.below Aw13.out)
  replace Kc := Lib.hid (Kc.out.below Aw13.out)
  replace Kd := Lib.hid (Kd.out.below Aw13.out)
  replace Kf := Lib.hid (Kf.out.below Aw13.out)
  replace Oc := Lib.hid (Oc.out.below Aw13.out)
  replace Od := Lib.hid (Od.out.below Aw13.out)
  replace Of := Lib.hid (Of.out.below Aw13.out)
  replace Os := Lib.hid (Os.out.below Aw13.out)
  replace DU := Lib.hid (DU.out.below Aw13.out)
  replace BB := Lib.hid (BB.out.trans (Aw13.out.mono BB.out.size))
  replace FD := Lib.hid ((Aw13.out.cell (p := ⟨dgb, 0, none⟩) FDl.out).trans FD.out)
  replace FDl := Lib.hid (Nat.lt_of_lt_of_le FDl.out Aw13.out.size)
  replace FF := Lib.hid ((Aw13.out.cell (p := ⟨fgm, 0, none⟩) FFl.out).trans FF.out)
  replace FFl := Lib.hid (Nat.lt_of_lt_of_le FFl.out Aw13.out.size)
  replace FS := Lib.hid ((Aw13.out.cell (p := ⟨sgm, 0, none⟩) FSl.out).trans FS.out)
  replace FSl := Lib.hid (Nat.lt_of_lt_of_le FSl.out Aw13.out.size)
  subst hps
  obtain ⟨uc0, uc1, uc2, uc3, ucl⟩ : w13.cell? ⟨w1.heap.size, 0, none⟩ = some (.int .i64 4) ∧ w13.cell? ⟨w1.heap.size, 1, none⟩ = some (.slice ai 1 1) ∧ w13.cell? ⟨w1.heap.size, 2, none⟩ = some (.slice ar 2 2) ∧ w13.cell? ⟨w1.heap.size, 3, none⟩ = some (.slice ac 2 2) ∧ w1.heap.size < w13.heap.size := ⟨Ku.out.cell 0, Ku.out.cell 1, Ku.out.cell 2, Ku.out.cell 3, Ku.out.lt⟩
  obtain ⟨cc0, cc1, cc2, cc3, ccl⟩ : w13.cell? ⟨w3.heap.size, 0, none⟩ = some (.slice ca0 2 ck0) ∧ w13.cell? ⟨w3.heap.size, 1, none⟩ = some (.slice ca1 2 ck1) ∧ w13.cell? ⟨w3.heap.size, 2, none⟩ = some (.slice (some ⟨cgm, 0, none⟩) 1 ck2) ∧ w13.cell? ⟨w3.heap.size, 3, none⟩ = some (.slice (some ⟨cgb, 0, none⟩) 2 ck3) ∧ w3.heap.size < w13.heap.size := ⟨Kc.out.cell 0, Kc.out.cell 1, Kc.out.cell 2, Kc.out.cell 3, Kc.out.lt⟩
  obtain ⟨dc0, dc1, dc2, dc3, dcl⟩ : w13.cell? ⟨w5.heap.size, 0, none⟩ = some (.slice da0 2 dk0) ∧ w13.cell? ⟨w5.heap.size, 1, none⟩ = some (.slice da1 2 dk1) ∧ w13.cell? ⟨w5.heap.size, 2, none⟩ = some (.slice (some ⟨dgm, 0, none⟩) 1 dk2) ∧ w13.cell? ⟨w5.heap.size, 3, none⟩ = some (.slice (some ⟨dgb, 0, none⟩) 2 dk3) ∧ w5.heap.size < w13.heap.size := ⟨Kd.out.cell 0, Kd.out.cell 1, Kd.out.cell 2, Kd.out.cell 3, Kd.out.lt⟩
  obtain ⟨fc0, fc1, fc2, fc3, fcl⟩ : w13.cell? ⟨w10.heap.size, 0, none⟩ = some (.slice fa0 2 fk0) ∧ w13.cell? ⟨w10.heap.size, 1, none⟩ = some (.slice fa1 2 fk1) ∧ w13.cell? ⟨w10.heap.size, 2, none⟩ = some (.slice (some ⟨fgm, 0, none⟩) 1 fk2) ∧ w13.cell? ⟨w10.heap.size, 3, none⟩ = some (.slice (some ⟨fgb, 0, none⟩) 2 fk3) ∧ w10.heap.size < w13.heap.size := ⟨Kf.out.cell 0, Kf.out.cell 1, Kf.out.cell 2, Kf.out.cell 3, Kf.out.lt⟩
  obtain ⟨sc0, sc1, sc2, sc3, scl⟩ : w13.cell? ⟨w12.heap.size, 0, none⟩ = some (.slice sa0 2 sk0) ∧ w13.cell? ⟨w12.heap.size, 1, none⟩ = some (.slice sa1 2 sk1) ∧ w13.cell? ⟨w12.heap.size, 2, none⟩ = some (.slice (some ⟨sgm, 0, none⟩) 1 sk2) ∧ w13.cell? ⟨w12.heap.size, 3, none⟩ = some (.slice (some ⟨sgb, 0, none⟩) 2 sk3) ∧ w12.heap.size < w13.heap.size := ⟨Ks.out.cell 0, Ks.out.cell 1, Ks.out.cell 2, Ks.out.cell 3, Ks.out.lt⟩
  have FDv := FD.out
  have FDlv := FDl.out
  have FFv := FF.out
  have FFlv := FFl.out
  have FSv := FS.out
  have FSlv := FSl.out
  have HF := Lib.hid (flush_pf0 pcf Oc.out.data)
  go_wp2_with fail
  clear uc0 uc1 uc2 uc3 ucl cc0 cc1 cc2 cc3 ccl dc0 dc1 dc2 dc3 dcl fc0 fc1 fc2 fc3 fcl sc0 sc1 sc2 sc3 scl
  clear FDv FDlv
  clear FFv FFlv
  clear FSv FSlv
  refine HF.out.mono ?_
  rintro e w14 ⟨n, nxp, nxr, nxm, nxb, rfl, oc, pnf, b⟩
  obtain ⟨na0, nk0, na1, nk1, ngm, nk2, ngb, nk3, rfl, rfl, rfl, rfl, nlm, nlb, ncm, ncb⟩ := cf_sh oc (Or.inl pnf)
  have On := Lib.hid oc
  clear oc HF
  replace Ku := Lib.hid (Ku.out.below b)
  replace Kc := Lib.hid (Kc.out.below b)
  replace Kd := Lib.hid (Kd.out.below b)
  replace Kf := Lib.hid (Kf.out.below b)
  replace Ks := Lib.hid (Ks.out.below b)
  replace Oc := Lib.hid (Oc.out.below b)
  replace Od := Lib.hid (Od.out.below b)
  replace Of := Lib.hid (Of.out.below b)
  replace Os := Lib.hid (Os.out.below b)
  replace DU := Lib.hid (DU.out.below b)
  replace BB := Lib.hid (BB.out.trans (b.mono BB.out.size))
  replace FD := Lib.hid ((b.cell (p := ⟨dgb, 0, none⟩) FDl.out).trans FD.out)
  replace FDl := Lib.hid (Nat.lt_of_lt_of_le FDl.out b.size)
  replace FF := Lib.hid ((b.cell (p := ⟨fgm, 0, none⟩) FFl.out).trans FF.out)
  replace FFl := Lib.hid (Nat.lt_of_lt_of_le FFl.out b.size)
  replace FS := Lib.hid ((b.cell (p := ⟨sgm, 0, none⟩) FSl.out).trans FS.out)
  replace FSl := Lib.hid (Nat.lt_of_lt_of_le FSl.out b.size)
  clear b
  clear ncm ncb nlm nlb
  have Kn := Lib.hid (Bk.new w14 29 #[.slice na0 2 nk0, .slice na1 2 nk1, .slice (some ⟨ngm, 0, none⟩) 1 nk2, .slice (some ⟨ngb, 0, none⟩) 2 nk3])
  have Aw15 : Hid (Below w14.heap.size w14 (World.alloc w14 (.cells #[.slice na0 2 nk0, .slice na1 2 nk1, .slice (some ⟨ngm, 0, none⟩) 1 nk2, .slice (some ⟨ngb, 0, none⟩) 2 nk3] 29))) := Lib.hid (bal (Below.refl _ _) _)
  obtain ⟨pn, hpn⟩ : ∃ n, n = w14.heap.size := ⟨_, rfl⟩
  rw [← hpn] at Kn
  obtain ⟨w15, hww15⟩ : ∃ z, World.alloc w14 (.cells #[.slice na0 2 nk0, .slice na1 2 nk1, .slice (some ⟨ngm, 0, none⟩) 1 nk2, .slice (some ⟨ngb, 0, none⟩) 2 nk3] 29) = z := ⟨_, rfl⟩
  rw [hww15] at Kn Aw15
  replace Ku := Lib.hid (Ku.out.below Aw15.out)
  replace Kc := Lib.hid (Kc.out.below Aw15.out)
  replace Kd := Lib.hid (Kd.out.below Aw15.out)
  replace Kf := Lib.hid (Kf.out.below Aw15.out)
  replace Ks := Lib.hid (Ks.out.below Aw15.out)
  replace Oc := Lib.hid (Oc.out.below Aw15.out)
  replace Od := Lib.hid (Od.out.below Aw15.out)
  replace Of := Lib.hid (Of.out.below Aw15.out)
  replace Os := Lib.hid (Os.out.below Aw15.out)
  replace On := Lib.hid (On.out.below Aw15.out)
  replace DU := Lib.hid (DU.out.below Aw15.out)
  replace BB := Lib.hid (BB.out.trans (Aw15.out.mono BB.out.size))
  replace FD := Lib.hid ((Aw15.out.cell (p := ⟨dgb, 0, none⟩) FDl.out).trans FD.out)
  replace FDl := Lib.hid (Nat.lt_of_lt_of_le FDl.out Aw15.out.size)
  replace FF := Lib.hid ((Aw15.out.cell (p := ⟨fgm, 0, none⟩) FFl.out).trans FF.out)
  replace FFl := Lib.hid (Nat.lt_of_lt_of_le FFl.out Aw15.out.size)
  replace FS := Lib.hid ((Aw15.out.cell (p := ⟨sgm, 0, none⟩) FSl.out).trans FS.out)
  replace FSl := Lib.hid (Nat.lt_of_lt_of_le FSl.out Aw15.out.size)
  subst hpn
  obtain ⟨uc0, uc1, uc2, uc3, ucl⟩ : w15.cell? ⟨w1.heap.size, 0, none⟩ = some (.int .i64 4) ∧ w15.cell? ⟨w1.heap.size, 1, none⟩ = some (.slice ai 1 1) ∧ w15.cell? ⟨w1.heap.size, 2, none⟩ = some (.slice ar 2 2) ∧ w15.cell? ⟨w1.heap.size, 3, none⟩ = some (.slice ac 2 2) ∧ w1.heap.size < w15.heap.size := ⟨Ku.out.cell 0, Ku.out.cell 1, Ku.out.cell 2, Ku.out.cell 3, Ku.out.lt⟩
  obtain ⟨cc0, cc1, cc2, cc3, ccl⟩ : w15.cell? ⟨w3.heap.size, 0, none⟩ = some (.slice ca0 2 ck0) ∧ w15.cell? ⟨w3.heap.size, 1, none⟩ = some (.slice ca1 2 ck1) ∧ w15.cell? ⟨w3.heap.size, 2, none⟩ = some (.slice (some ⟨cgm, 0, none⟩) 1 ck2) ∧ w15.cell? ⟨w3.heap.size, 3, none⟩ = some (.slice (some ⟨cgb, 0, none⟩) 2 ck3) ∧ w3.heap.size < w15.heap.size := ⟨Kc.out.cell 0, Kc.out.cell 1, Kc.out.cell 2, Kc.out.cell 3, Kc.out.lt⟩
  obtain ⟨dc0, dc1, dc2, dc3, dcl⟩ : w15.cell? ⟨w5.heap.size, 0, none⟩ = some (.slice da0 2 dk0) ∧ w15.cell? ⟨w5.heap.size, 1, none⟩ = some (.slice da1 2 dk1) ∧ w15.cell? ⟨w5.heap.size, 2, none⟩ = some (.slice (some ⟨dgm, 0, none⟩) 1 dk2) ∧ w15.cell? ⟨w5.heap.size, 3, none⟩ = some (.slice (some ⟨dgb, 0, none⟩) 2 dk3) ∧ w5.heap.size < w15.heap.size := ⟨Kd.out.cell 0, Kd.out.cell 1, Kd.out.cell 2, Kd.out.cell 3, Kd.out.lt⟩
  obtain ⟨fc0, fc1, fc2, fc3, fcl⟩ : w15.cell? ⟨w10.heap.size, 0, none⟩ = some (.slice fa0 2 fk0) ∧ w15.cell? ⟨w10.heap.size, 1, none⟩ = some (.slice fa1 2 fk1) ∧ w15.cell? ⟨w10.heap.size, 2, none⟩ = some (.slice (some ⟨fgm, 0, none⟩) 1 fk2) ∧ w15.cell? ⟨w10.heap.size, 3, none⟩ = some (.slice (some ⟨fgb, 0, none⟩) 2 fk3) ∧ w10.heap.size < w15.heap.size := ⟨Kf.out.cell 0, Kf.out.cell 1, Kf.out.cell 2, Kf.out.cell 3, Kf.out.lt⟩
  obtain ⟨sc0, sc1, sc2, sc3, scl⟩ : w15.cell? ⟨w12.heap.size, 0, none⟩ = some (.slice sa0 2 sk0) ∧ w15.cell? ⟨w12.heap.size, 1, none⟩ = some (.slice sa1 2 sk1) ∧ w15.cell? ⟨w12.heap.size, 2, none⟩ = some (.slice (some ⟨sgm, 0, none⟩) 1 sk2) ∧ w15.cell? ⟨w12.heap.size, 3, none⟩ = some (.slice (some ⟨sgb, 0, none⟩) 2 sk3) ∧ w12.heap.size < w15.heap.size := ⟨Ks.out.cell 0, Ks.out.cell 1, Ks.out.cell 2, Ks.out.cell 3, Ks.out.lt⟩
  have FDv := FD.out
  have FDlv := FDl.out
  have FFv := FF.out
  have FFlv := FFl.out
  have FSv := FS.out
  have FSlv := FSl.out
  have HB := Lib.hid (reads_any d 0 0 _ _ _ _ w15 Od.out.data (pf_short (Or.inr (Or.inl pdf))).bb 1 (by rw [readsC_pf, pdf]; rfl))
  go_wp2_with fail
  clear uc0 uc1 uc2 uc3 ucl cc0 cc1 cc2 cc3 ccl dc0 dc1 dc2 dc3 dcl fc0 fc1 fc2 fc3 fcl sc0 sc1 sc2 sc3 scl
  clear FDv FDlv
  clear FFv FFlv
  clear FSv FSlv
  refine HB.out.mono ?_
  rintro e w16 ⟨rfl, b⟩
  clear HB
  replace Ku := Lib.hid (Ku.out.below b)
  replace Kc := Lib.hid (Kc.out.below b)
  replace Kd := Lib.hid (Kd.out.below b)
  replace Kf := Lib.hid (Kf.out.below b)
  replace Ks := Lib.hid (Ks.out.below b)
  replace Kn := Lib.hid (Kn.out.below b)
  replace Oc := Lib.hid (Oc.out.below b)
  replace Od := Lib.hid (Od.out.below b)
  replace Of := Lib.hid (Of.out.below b)
  replace Os := Lib.hid (Os.out.below b)
  replace On := Lib.hid (On.out.below b)
  replace DU := Lib.hid (DU.out.below b)
  replace BB := Lib.hid (BB.out.trans (b.mono BB.out.size))
  replace FD := Lib.hid ((b.cell (p := ⟨dgb, 0, none⟩) FDl.out).trans FD.out)
  replace FDl := Lib.hid (Nat.lt_of_lt_of_le FDl.out b.size)
  replace FF := Lib.hid ((b.cell (p := ⟨fgm, 0, none⟩) FFl.out).trans FF.out)
  replace FFl := Lib.hid (Nat.lt_of_lt_of_le FFl.out b.size)
  replace FS := Lib.hid ((b.cell (p := ⟨sgm, 0, none⟩) FSl.out).trans FS.out)
  replace FSl := Lib.hid (Nat.lt_of_lt_of_le FSl.out b.size)
  clear b
  obtain ⟨uc0, uc1, uc2, uc3, ucl⟩ : w16.cell? ⟨w1.heap.size, 0, none⟩ = some (.int .i64 4) ∧ w16.cell? ⟨w1.heap.size, 1, none⟩ = some (.slice ai 1 1) ∧ w16.cell? ⟨w1.heap.size, 2, none⟩ = some (.slice ar 2 2) ∧ w16.cell? ⟨w1.heap.size, 3, none⟩ = some (.slice ac 2 2) ∧ w1.heap.size < w16.heap.size := ⟨Ku.out.cell 0, Ku.out.cell 1, Ku.out.cell 2, Ku.out.cell 3, Ku.out.lt⟩
  obtain ⟨cc0, cc1, cc2, cc3, ccl⟩ : w16.cell? ⟨w3.heap.size, 0, none⟩ = some (.slice ca0 2 ck0) ∧ w16.cell? ⟨w3.heap.size, 1, none⟩ = some (.slice ca1 2 ck1) ∧ w16.cell? ⟨w3.heap.size, 2, none⟩ = some (.slice (some ⟨cgm, 0, none⟩) 1 ck2) ∧ w16.cell? ⟨w3.heap.size, 3, none⟩ = some (.slice (some ⟨cgb, 0, none⟩) 2 ck3) ∧ w3.heap.size < w16.heap.size := ⟨Kc.out.cell 0, Kc.out.cell 1, Kc.out.cell 2, Kc.out.cell 3, Kc.out.lt⟩
  obtain ⟨dc0, dc1, dc2, dc3, dcl⟩ : w16.cell? ⟨w5.heap.size, 0, none⟩ = some (.slice da0 2 dk0) ∧ w16.cell? ⟨w5.heap.size, 1, none⟩ = some (.slice da1 2 dk1) ∧ w16.cell? ⟨w5.heap.size, 2, none⟩ = some (.slice (some ⟨dgm, 0, none⟩) 1 dk2) ∧ w16.cell? ⟨w5.heap.size, 3, none⟩ = some (.slice (some ⟨dgb, 0, none⟩) 2 dk3) ∧ w5.heap.size < w16.heap.size := ⟨Kd.out.cell 0, Kd.out.cell 1, Kd.out.cell 2, Kd.out.cell 3, Kd.out.lt⟩
  obtain ⟨fc0, fc1, fc2, fc3, fcl⟩ : w16.cell? ⟨w10.heap.size, 0, none⟩ = some (.slice fa0 2 fk0) ∧ w16.cell? ⟨w10.heap.size, 1, none⟩ = some (.slice fa1 2 fk1) ∧ w16.cell? ⟨w10.heap.size, 2, none⟩ = some (.slice (some ⟨fgm, 0, none⟩) 1 fk2) ∧ w16.cell? ⟨w10.heap.size, 3, none⟩ = some (.slice (some ⟨fgb, 0, none⟩) 2 fk3) ∧ w10.heap.size < w16.heap.size := ⟨Kf.out.cell 0, Kf.out.cell 1, Kf.out.cell 2, Kf.out.cell 3, Kf.out.lt⟩
  obtain ⟨sc0, sc1, sc2, sc3, scl⟩ : w16.cell? ⟨w12.heap.size, 0, none⟩ = some (.slice sa0 2 sk0) ∧ w16.cell? ⟨w12.heap.size, 1, none⟩ = some (.slice sa1 2 sk1) ∧ w16.cell? ⟨w12.heap.size, 2, none⟩ = some (.slice (some ⟨sgm, 0, none⟩) 1 sk2) ∧ w16.cell? ⟨w12.heap.size, 3, none⟩ = some (.slice (some ⟨sgb, 0, none⟩) 2 sk3) ∧ w12.heap.size < w16.heap.size := ⟨Ks.out.cell 0, Ks.out.cell 1, Ks.out.cell 2, Ks.out.cell 3, Ks.out.lt⟩
  have FDv := FD.out
  have FDlv := FDl.out
  have FFv := FF.out
  have FFlv := FFl.out
  have FSv := FS.out
  have FSlv := FSl.out
  have HB := Lib.hid (reads_any d 1 0 _ _ _ _ w16 Od.out.data (pf_short (Or.inr (Or.inl pdf))).bb 0 (by rw [readsC_pf, pdf]; rfl))
  go_wp2_with fail
  clear uc0 uc1 uc2 uc3 ucl cc0 cc1 cc2 cc3 ccl dc0 dc1 dc2 dc3 dcl fc0 fc1 fc2 fc3 fcl sc0 sc1 sc2 sc3 scl
  clear FDv FDlv
  clear FFv FFlv
  clear FSv FSlv
  refine HB.out.mono ?_
  rintro e w17 ⟨rfl, b⟩
  clear HB
  replace Ku := Lib.hid (Ku.out.below b)
  replace Kc := Lib.hid (Kc.out.below b)
  replace Kd := Lib.hid (Kd.out.below b)
  replace Kf := Lib.hid (Kf.out.below b)
  replace Ks := Lib.hid (Ks.out.below b)
  replace Kn := Lib.hid (Kn.out.below b)
  replace Oc := Lib.hid (Oc.out.below b)
  replace Od := Lib.hid (Od.out.below b)
  replace Of := Lib.hid (Of.out.below b)
  replace Os := Lib.hid (Os.out.below b)
  replace On := Lib.hid (On.out.below b)
  replace DU := Lib.hid (DU.out.below b)
  replace BB := Lib.hid (BB.out.trans (b.mono BB.out.size))
  replace FD := Lib.hid ((b.cell (p := ⟨dgb, 0, none⟩) FDl.out).trans FD.out)
  replace FDl := Lib.hid (Nat.lt_of_lt_of_le FDl.out b.size)
  replace FF := Lib.hid ((b.cell (p := ⟨fgm, 0, none⟩) FFl.out).trans FF.out)
  replace FFl := Lib.hid (Nat.lt_of_lt_of_le FFl.out b.size)
  replace FS := Lib.hid ((b.cell (p := ⟨sgm, 0, none⟩) FSl.out).trans FS.out)
  replace FSl := Lib.hid (Nat.lt_of_lt_of_le FSl.out b.size)
  clear b
  obtain ⟨uc0, uc1, uc2, uc3, ucl⟩ : w17.cell? ⟨w1.heap.size, 0, none⟩ = some (.int .i64 4) ∧ w17.cell? ⟨w1.heap.size, 1, none⟩ = some (.slice ai 1 1) ∧ w17.cell? ⟨w1.heap.size, 2, none⟩ = some (.slice ar 2 2) ∧ w17.cell? ⟨w1.heap.size, 3, none⟩ = some (.slice ac 2 2) ∧ w1.heap.size < w17.heap.size := ⟨Ku.out.cell 0, Ku.out.cell 1, Ku.out.cell 2, Ku.out.cell 3, Ku.out.lt⟩
  obtain ⟨cc0, cc1, cc2, cc3, ccl⟩ : w17.cell? ⟨w3.heap.size, 0, none⟩ = some (.slice ca0 2 ck0) ∧ w17.cell? ⟨w3.heap.size, 1, none⟩ = some (.slice ca1 2 ck1) ∧ w17.cell? ⟨w3.heap.size, 2, none⟩ = some (.slice (some ⟨cgm, 0, none⟩) 1 ck2) ∧ w17.cell? ⟨w3.heap.size, 3, none⟩ = some (.slice (some ⟨cgb, 0, none⟩) 2 ck3) ∧ w3.heap.size < w17.heap.size := ⟨Kc.out.cell 0, Kc.out.cell 1, Kc.out.cell 2, Kc.out.cell 3, Kc.out.lt⟩
  obtain ⟨dc0, dc1, dc2, dc3, dcl⟩ : w17.cell? ⟨w5.heap.size, 0, none⟩ = some (.slice da0 2 dk0) ∧ w17.cell? ⟨w5.heap.size, 1, none⟩ = some (.slice da1 2 dk1) ∧ w17.cell? ⟨w5.heap.size, 2, none⟩ = some (.slice (some ⟨dgm, 0, none⟩) 1 dk2) ∧ w17.cell? ⟨w5.heap.size, 3, none⟩ = some (.slice (some ⟨dgb, 0, none⟩) 2 dk3) ∧ w5.heap.size < w17.heap.size := ⟨Kd.out.cell 0, Kd.out.cell 1, Kd.out.cell 2, Kd.out.cell 3, Kd.out.lt⟩
  obtain ⟨fc0, fc1, fc2, fc3, fcl⟩ : w17.cell? ⟨w10.heap.size, 0, none⟩ = some (.slice fa0 2 fk0) ∧ w17.cell? ⟨w10.heap.size, 1, none⟩ = some (.slice fa1 2 fk1) ∧ w17.cell? ⟨w10.heap.size, 2, none⟩ = some (.slice (some ⟨fgm, 0, none⟩) 1 fk2) ∧ w17.cell? ⟨w10.heap.size, 3, none⟩ = some (.slice (some ⟨fgb, 0, none⟩) 2 fk3) ∧ w10.heap.size < w17.heap.size := ⟨Kf.out.cell 0, Kf.out.cell 1, Kf.out.cell 2, Kf.out.cell 3, Kf.out.lt⟩
  obtain ⟨sc0, sc1, sc2, sc3, scl⟩ : w17.cell? ⟨w12.heap.size, 0, none⟩ = some (.slice sa0 2 sk0) ∧ w17.cell? ⟨w12.heap.size, 1, none⟩ = some (.slice sa1 2 sk1) ∧ w17.cell? ⟨w12.heap.size, 2, none⟩ = some (.slice (some ⟨sgm, 0, none⟩) 1 sk2) ∧ w17.cell? ⟨w12.heap.size, 3, none⟩ = some (.slice (some ⟨sgb, 0, none⟩) 2 sk3) ∧ w12.heap.size < w17.heap.size := ⟨Ks.out.cell 0, Ks.out.cell 1, Ks.out.cell 2, Ks.out.cell 3, Ks.out.lt⟩
  have FDv := FD.out
  have FDlv := FDl.out
  have FFv := FF.out
  have FFlv := FFl.out
  have FSv := FS.out
  have FSlv := FSl.out
  have HB := Lib.hid (flushes_any d 2 0 0 _ _ _ _ w17 Od.out.data (pf_short (Or.inr (Or.inl pdf))).bb true (by rw [popC_pf, pdf]; rfl))
  go_wp2_with fail
  clear uc0 uc1 uc2 uc3 ucl cc0 cc1 cc2 cc3 ccl dc0 dc1 dc2 dc3 dcl fc0 fc1 fc2 fc3 fcl sc0 sc1 sc2 sc3 scl
  clear FDv FDlv
  clear FFv FFlv
  clear FSv FSlv
  refine HB.out.mono ?_
  rintro e w18 ⟨rfl, b⟩
  clear HB
  replace Ku := Lib.hid (Ku.out.below b)
  replace Kc := Lib.hid (Kc.out.below b)
  replace Kd := Lib.hid (Kd.out.below b)
  replace Kf := Lib.hid (Kf.out.below b)
  replace Ks := Lib.hid (Ks.out.below b)
  replace Kn := Lib.hid (Kn.out.below b)
  replace Oc := Lib.hid (Oc.out.below b)
  replace Od := Lib.hid (Od.out.below b)
  replace Of := Lib.hid (Of.out.below b)
  replace Os := Lib.hid (Os.out.below b)
  replace On := Lib.hid (On.out.below b)
  replace DU := Lib.hid (DU.out.below b)
  replace BB := Lib.hid (BB.out.trans (b.mono BB.out.size))
  replace FD := Lib.hid ((b.cell (p := ⟨dgb, 0, none⟩) FDl.out).trans FD.out)
  replace FDl := Lib.hid (Nat.lt_of_lt_of_le FDl.out b.size)
  replace FF := Lib.hid ((b.cell (p := ⟨fgm, 0, none⟩) FFl.out).trans FF.out)
  replace FFl := Lib.hid (Nat.lt_of_lt_of_le FFl.out b.size)
  replace FS := Lib.hid ((b.cell (p := ⟨sgm, 0, none⟩) FSl.out).trans FS.out)
  replace FSl := Lib.hid (Nat.lt_of_lt_of_le FSl.out b.size)
  clear b
  obtain ⟨uc0, uc1, uc2, uc3, ucl⟩ : w18.cell? ⟨w1.heap.size, 0, none⟩ = some (.int .i64 4) ∧ w18.cell? ⟨w1.heap.size, 1, none⟩ = some (.slice ai 1 1) ∧ w18.cell? ⟨w1.heap.size, 2, none⟩ = some (.slice ar 2 2) ∧ w18.cell? ⟨w1.heap.size, 3, none⟩ = some (.slice ac 2 2) ∧ w1.heap.size < w18.heap.size := ⟨Ku.out.cell 0, Ku.out.cell 1, Ku.out.cell 2, Ku.out.cell 3, Ku.out.lt⟩
  obtain ⟨cc0, cc1, cc2, cc3, ccl⟩ : w18.cell? ⟨w3.heap.size, 0, none⟩ = some (.slice ca0 2 ck0) ∧ w18.cell? ⟨w3.heap.size, 1, none⟩ = some (.slice ca1 2 ck1) ∧ w18.cell? ⟨w3.heap.size, 2, none⟩ = some (.slice (some ⟨cgm, 0, none⟩) 1 ck2) ∧ w18.cell? ⟨w3.heap.size, 3, none⟩ = some (.slice (some ⟨cgb, 0, none⟩) 2 ck3) ∧ w3.heap.size < w18.heap.size := ⟨Kc.out.cell 0, Kc.out.cell 1, Kc.out.cell 2, Kc.out.cell 3, Kc.out.lt⟩
  obtain ⟨dc0, dc1, dc2, dc3, dcl⟩ : w18.cell? ⟨w5.heap.size, 0, none⟩ = some (.slice da0 2 dk0) ∧ w18.cell? ⟨w5.heap.size, 1, none⟩ = some (.slice da1 2 dk1) ∧ w18.cell? ⟨w5.heap.size, 2, none⟩ = some (.slice (some ⟨dgm, 0, none⟩) 1 dk2) ∧ w18.cell? ⟨w5.heap.size, 3, none⟩ = some (.slice (some ⟨dgb, 0, none⟩) 2 dk3) ∧ w5.heap.size < w18.heap.size := ⟨Kd.out.cell 0, Kd.out.cell 1, Kd.out.cell 2, Kd.out.cell 3, Kd.out.lt⟩
  obtain ⟨fc0, fc1, fc2, fc3, fcl⟩ : w18.cell? ⟨w10.heap.size, 0, none⟩ = some (.slice fa0 2 fk0) ∧ w18.cell? ⟨w10.heap.size, 1, none⟩ = some (.slice fa1 2 fk1) ∧ w18.cell? ⟨w10.heap.size, 2, none⟩ = some (.slice (some ⟨fgm, 0, none⟩) 1 fk2) ∧ w18.cell? ⟨w10.heap.size, 3, none⟩ = some (.slice (some ⟨fgb, 0, none⟩) 2 fk3) ∧ w10.heap.size < w18.heap.size := ⟨Kf.out.cell 0, Kf.out.cell 1, Kf.out.cell 2, Kf.out.cell 3, Kf.out.lt⟩
  obtain ⟨sc0, sc1, sc2, sc3, scl⟩ : w18.cell? ⟨w12.heap.size, 0, none⟩ = some (.slice sa0 2 sk0) ∧ w18.cell? ⟨w12.heap.size, 1, none⟩ = some (.slice sa1 2 sk1) ∧ w18.cell? ⟨w12.heap.size, 2, none⟩ = some (.slice (some ⟨sgm, 0, none⟩) 1 sk2) ∧ w18.cell? ⟨w12.heap.size, 3, none⟩ = some (.slice (some ⟨sgb, 0, none⟩) 2 sk3) ∧ w12.heap.size < w18.heap.size := ⟨Ks.out.cell 0, Ks.out.cell 1, Ks.out.cell 2, Ks.out.cell 3, Ks.out.lt⟩
  have FDv := FD.out
  have FDlv := FDl.out
  have FFv := FF.out
  have FFlv := FFl.out
  have FSv := FS.out
  have FSlv := FSl.out
  have HB := Lib.hid (flushes_any c 2 0 0 _ _ _ _ w18 Oc.out.data (pf_short (Or.inl pcf)).bb false (by rw [popC_pf, pcf]; rfl))
  go_wp2_with fail
  clear uc0 uc1 uc2 uc3 ucl cc0 cc1 cc2 cc3 ccl dc0 dc1 dc2 dc3 dcl fc0 fc1 fc2 fc3 fcl sc0 sc1 sc2 sc3 scl
  clear FDv FDlv
  clear FFv FFlv
  clear FSv FSlv
  refine HB.out.mono ?_
  rintro e w19 ⟨rfl, b⟩
  clear HB
  replace Ku := Lib.hid (Ku.out.below b)
  replace Kc := Lib.hid (Kc.out.below b)
  replace Kd := Lib.hid (Kd.out.below b)
  replace Kf := Lib.hid (Kf.out.below b)
  replace Ks := Lib.hid (Ks.out.below b)
  replace Kn := Lib.hid (Kn.out.below b)
  replace Oc := Lib.hid (Oc.out.below b)
  replace Od := Lib.hid (Od.out.below b)
  replace Of := Lib.hid (Of.out.below b)
  replace Os := Lib.hid (Os.out.below b)
  replace On := Lib.hid (On.out.below b)
  replace DU := Lib.hid (DU.out.below b)
  replace BB := Lib.hid (BB.out.trans (b.mono BB.out.size))
  replace FD := Lib.hid ((b.cell (p := ⟨dgb, 0, none⟩) FDl.out).trans FD.out)
  replace FDl := Lib.hid (Nat.lt_of_lt_of_le FDl.out b.size)
  replace FF := Lib.hid ((b.cell (p := ⟨fgm, 0, none⟩) FFl.out).trans FF.out)
  replace FFl := Lib.hid (Nat.lt_of_lt_of_le FFl.out b.size)
  replace FS := Lib.hid ((b.cell (p := ⟨sgm, 0, none⟩) FSl.out).trans FS.out)
  replace FSl := Lib.hid (Nat.lt_of_lt_of_le FSl.out b.size)
  clear b
  obtain ⟨uc0, uc1, uc2, uc3, ucl⟩ : w19.cell? ⟨w1.heap.size, 0, none⟩ = some (.int .i64 4) ∧ w19.cell? ⟨w1.heap.size, 1, none⟩ = some (.slice ai 1 1) ∧ w19.cell? ⟨w1.heap.size, 2, none⟩ = some (.slice ar 2 2) ∧ w19.cell? ⟨w1.heap.size, 3, none⟩ = some (.slice ac 2 2) ∧ w1.heap.size < w19.heap.size := ⟨Ku.out.cell 0, Ku.out.cell 1, Ku.out.cell 2, Ku.out.cell 3, Ku.out.lt⟩
  obtain ⟨cc0, cc1, cc2, cc3, ccl⟩ : w19.cell? ⟨w3.heap.size, 0, none⟩ = some (.slice ca0 2 ck0) ∧ w19.cell? ⟨w3.heap.size, 1, none⟩ = some (.slice ca1 2 ck1) ∧ w19.cell? ⟨w3.heap.size, 2, none⟩ = some (.slice (some ⟨cgm, 0, none⟩) 1 ck2) ∧ w19.cell? ⟨w3.heap.size, 3, none⟩ = some (.slice (some ⟨cgb, 0, none⟩) 2 ck3) ∧ w3.heap.size < w19.heap.size := ⟨Kc.out.cell 0, Kc.out.cell 1, Kc.out.cell 2, Kc.out.cell 3, Kc.out.lt⟩
  obtain ⟨dc0, dc1, dc2, dc3, dcl⟩ : w19.cell? ⟨w5.heap.size, 0, none⟩ = some (.slice da0 2 dk0) ∧ w19.cell? ⟨w5.heap.size, 1, none⟩ = some (.slice da1 2 dk1) ∧ w19.cell? ⟨w5.heap.size, 2, none⟩ = some (.slice (some ⟨dgm, 0, none⟩) 1 dk2) ∧ w19.cell? ⟨w5.heap.size, 3, none⟩ = some (.slice (some ⟨dgb, 0, none⟩) 2 dk3) ∧ w5.heap.size < w19.heap.size := ⟨Kd.out.cell 0, Kd.out.cell 1, Kd.out.cell 2, Kd.out.cell 3, Kd.out.lt⟩
  obtain ⟨fc0, fc1, fc2, fc3, fcl⟩ : w19.cell? ⟨w10.heap.size, 0, none⟩ = some (.slice fa0 2 fk0) ∧ w19.cell? ⟨w10.heap.size, 1, none⟩ = some (.slice fa1 2 fk1) ∧ w19.cell? ⟨w10.heap.size, 2, none⟩ = some (.slice (some ⟨fgm, 0, none⟩) 1 fk2) ∧ w19.cell? ⟨w10.heap.size, 3, none⟩ = some (.slice (some ⟨fgb, 0, none⟩) 2 fk3) ∧ w10.heap.size < w19.heap.size := ⟨Kf.out.cell 0, Kf.out.cell 1, Kf.out.cell 2, Kf.out.cell 3, Kf.out.lt⟩
  obtain ⟨sc0, sc1, sc2, sc3, scl⟩ : w19.cell? ⟨w12.heap.size, 0, none⟩ = some (.slice sa0 2 sk0) ∧ w19.cell? ⟨w12.heap.size, 1, none⟩ = some (.slice sa1 2 sk1) ∧ w19.cell? ⟨w12.heap.size, 2, none⟩ = some (.slice (some ⟨sgm, 0, none⟩) 1 sk2) ∧ w19.cell? ⟨w12.heap.size, 3, none⟩ = some (.slice (some ⟨sgb, 0, none⟩) 2 sk3) ∧ w12.heap.size < w19.heap.size := ⟨Ks.out.cell 0, Ks.out.cell 1, Ks.out.cell 2, Ks.out.cell 3, Ks.out.lt⟩
  have FDv := FD.out
  have FDlv := FDl.out
  have FFv := FF.out
  have FFlv := FFl.out
  have FSv := FS.out
  have FSlv := FSl.out
  have HB := Lib.hid (enabled_any (unitK v va vb) f 2 1 1 _ _ _ _ _ _ _ w19 DU.out Of.out.data (pf_short (Or.inr (Or.inr pff))) (usK v va vb) (by rw [pff]; exact r2 v va vb) true (by rw [pff]; exact e21 v va vb))
  go_wp2_with fail
  clear uc0 uc1 uc2 uc3 ucl cc0 cc1 cc2 cc3 ccl dc0 dc1 dc2 dc3 dcl fc0 fc1 fc2 fc3 fcl sc0 sc1 sc2 sc3 scl
  clear FDv FDlv
  clear FFv FFlv
  clear FSv FSlv
  refine HB.out.mono ?_
  rintro e w20 ⟨rfl, b⟩
  clear HB
  replace Ku := Lib.hid (Ku.out.below b)
  replace Kc := Lib.hid (Kc.out.below b)
  replace Kd := Lib.hid (Kd.out.below b)
  replace Kf := Lib.hid (Kf.out.below b)
  replace Ks := Lib.hid (Ks.out.below b)
  replace Kn := Lib.hid (Kn.out.below b)
  replace Oc := Lib.hid (Oc.out.below b)
  replace Od := Lib.hid (Od.out.below b)
  replace Of := Lib.hid (Of.out.below b)
  replace Os := Lib.hid (Os.out.below b)
  replace On := Lib.hid (On.out.below b)
  replace DU := Lib.hid (DU.out.below b)
  replace BB := Lib.hid (BB.out.trans (b.mono BB.out.size))
  replace FD := Lib.hid ((b.cell (p := ⟨dgb, 0, none⟩) FDl.out).trans FD.out)
  replace FDl := Lib.hid (Nat.lt_of_lt_of_le FDl.out b.size)
  replace FF := Lib.hid ((b.cell (p := ⟨fgm, 0, none⟩) FFl.out).trans FF.out)
  replace FFl := Lib.hid (Nat.lt_of_lt_of_le FFl.out b.size)
  replace FS := Lib.hid ((b.cell (p := ⟨sgm, 0, none⟩) FSl.out).trans FS.out)
  replace FSl := Lib.hid (Nat.lt_of_lt_of_le FSl.out b.size)
  clear b
  obtain ⟨uc0, uc1, uc2, uc3, ucl⟩ : w20.cell? ⟨w1.heap.size, 0, none⟩ = some (.int .i64 4) ∧ w20.cell? ⟨w1.heap.size, 1, none⟩ = some (.slice ai 1 1) ∧ w20.cell? ⟨w1.heap.size, 2, none⟩ = some (.slice ar 2 2) ∧ w20.cell? ⟨w1.heap.size, 3, none⟩ = some (.slice ac 2 2) ∧ w1.heap.size < w20.heap.size := ⟨Ku.out.cell 0, Ku.out.cell 1, Ku.out.cell 2, Ku.out.cell 3, Ku.out.lt⟩
  obtain ⟨cc0, cc1, cc2, cc3, ccl⟩ : w20.cell? ⟨w3.heap.size, 0, none⟩ = some (.slice ca0 2 ck0) ∧ w20.cell? ⟨w3.heap.size, 1, none⟩ = some (.slice ca1 2 ck1) ∧ w20.cell? ⟨w3.heap.size, 2, none⟩ = some (.slice (some ⟨cgm, 0, none⟩) 1 ck2) ∧ w20.cell? ⟨w3.heap.size, 3, none⟩ = some (.slice (some ⟨cgb, 0, none⟩) 2 ck3) ∧ w3.heap.size < w20.heap.size := ⟨Kc.out.cell 0, Kc.out.cell 1, Kc.out.cell 2, Kc.out.cell 3, Kc.out.lt⟩
  obtain ⟨dc0, dc1, dc2, dc3, dcl⟩ : w20.cell? ⟨w5.heap.size, 0, none⟩ = some (.slice da0 2 dk0) ∧ w20.cell? ⟨w5.heap.size, 1, none⟩ = some (.slice da1 2 dk1) ∧ w20.cell? ⟨w5.heap.size, 2, none⟩ = some (.slice (some ⟨dgm, 0, none⟩) 1 dk2) ∧ w20.cell? ⟨w5.heap.size, 3, none⟩ = some (.slice (some ⟨dgb, 0, none⟩) 2 dk3) ∧ w5.heap.size < w20.heap.size := ⟨Kd.out.cell 0, Kd.out.cell 1, Kd.out.cell 2, Kd.out.cell 3, Kd.out.lt⟩
  obtain ⟨fc0, fc1, fc2, fc3, fcl⟩ : w20.cell? ⟨w10.heap.size, 0, none⟩ = some (.slice fa0 2 fk0) ∧ w20.cell? ⟨w10.heap.size, 1, none⟩ = some (.slice fa1 2 fk1) ∧ w20.cell? ⟨w10.heap.size, 2, none⟩ = some (.slice (some ⟨fgm, 0, none⟩) 1 fk2) ∧ w20.cell? ⟨w10.heap.size, 3, none⟩ = some (.slice (some ⟨fgb, 0, none⟩) 2 fk3) ∧ w10.heap.size < w20.heap.size := ⟨Kf.out.cell 0, Kf.out.cell 1, Kf.out.cell 2, Kf.out.cell 3, Kf.out.lt⟩
  obtain ⟨sc0, sc1, sc2, sc3, scl⟩ : w20.cell? ⟨w12.heap.size, 0, none⟩ = some (.slice sa0 2 sk0) ∧ w20.cell? ⟨w12.heap.size, 1, none⟩ = some (.slice sa1 2 sk1) ∧ w20.cell? ⟨w12.heap.size, 2, none⟩ = some (.slice (some ⟨sgm, 0, none⟩) 1 sk2) ∧ w20.cell? ⟨w12.heap.size, 3, none⟩ = some (.slice (some ⟨sgb, 0, none⟩) 2 sk3) ∧ w12.heap.size < w20.heap.size := ⟨Ks.out.cell 0, Ks.out.cell 1, Ks.out.cell 2, Ks.out.cell 3, Ks.out.lt⟩
  have FDv := FD.out
  have FDlv := FDl.out
  have FFv := FF.out
  have FFlv := FFl.out
  have FSv := FS.out
  have FSlv := FSl.out
  have HB := Lib.hid (enabled_any (unitK v va vb) c 1 1 2 _ _ _ _ _ _ _ w20 DU.out Oc.out.data (pf_short (Or.inl pcf)) (usK v va vb) (by rw [pcf]; exact r0s v va vb) false (by rw [pcf]; exact e02 v va vb))
  go_wp2_with fail
  clear uc0 uc1 uc2 uc3 ucl cc0 cc1 cc2 cc3 ccl dc0 dc1 dc2 dc3 dcl fc0 fc1 fc2 fc3 fcl sc0 sc1 sc2 sc3 scl
  clear FDv FDlv
  clear FFv FFlv
  clear FSv FSlv
  refine HB.out.mono ?_
  rintro e w21 ⟨rfl, b⟩
  clear HB
  replace Ku := Lib.hid (Ku.out.below b)
  replace Kc := Lib.hid (Kc.out.below b)
  replace Kd := Lib.hid (Kd.out.below b)
  replace Kf := Lib.hid (Kf.out.below b)
  replace Ks := Lib.hid (Ks.out.below b)
  replace Kn := Lib.hid (Kn.out.below b)
  replace Oc := Lib.hid (Oc.out.below b)
  replace Od := Lib.hid (Od.out.below b)
  replace Of := Lib.hid (Of.out.below b)
  replace Os := Lib.hid (Os.out.below b)
  replace On := Lib.hid (On.out.below b)
  replace DU := Lib.hid (DU.out.below b)
  replace BB := Lib.hid (BB.out.trans (b.mono BB.out.size))
  replace FD := Lib.hid ((b.cell (p := ⟨dgb, 0, none⟩) FDl.out).trans FD.out)
  replace FDl := Lib.hid (Nat.lt_of_lt_of_le FDl.out b.size)
  replace FF := Lib.hid ((b.cell (p := ⟨fgm, 0, none⟩) FFl.out).trans FF.out)
  replace FFl := Lib.hid (Nat.lt_of_lt_of_le FFl.out b.size)
  replace FS := Lib.hid ((b.cell (p := ⟨sgm, 0, none⟩) FSl.out).trans FS.out)
  replace FSl := Lib.hid (Nat.lt_of_lt_of_le FSl.out b.size)
  clear b
  obtain ⟨uc0, uc1, uc2, uc3, ucl⟩ : w21.cell? ⟨w1.heap.size, 0, none⟩ = some (.int .i64 4) ∧ w21.cell? ⟨w1.heap.size, 1, none⟩ = some (.slice ai 1 1) ∧ w21.cell? ⟨w1.heap.size, 2, none⟩ = some (.slice ar 2 2) ∧ w21.cell? ⟨w1.heap.size, 3, none⟩ = some (.slice ac 2 2) ∧ w1.heap.size < w21.heap.size := ⟨Ku.out.cell 0, Ku.out.cell 1, Ku.out.cell 2, Ku.out.cell 3, Ku.out.lt⟩
  obtain ⟨cc0, cc1, cc2, cc3, ccl⟩ : w21.cell? ⟨w3.heap.size, 0, none⟩ = some (.slice ca0 2 ck0) ∧ w21.cell? ⟨w3.heap.size, 1, none⟩ = some (.slice ca1 2 ck1) ∧ w21.cell? ⟨w3.heap.size, 2, none⟩ = some (.slice (some ⟨cgm, 0, none⟩) 1 ck2) ∧ w21.cell? ⟨w3.heap.size, 3, none⟩ = some (.slice (some ⟨cgb, 0, none⟩) 2 ck3) ∧ w3.heap.size < w21.heap.size := ⟨Kc.out.cell 0, Kc.out.cell 1, Kc.out.cell 2, Kc.out.cell 3, Kc.out.lt⟩
  obtain ⟨dc0, dc1, dc2, dc3, dcl⟩ : w21.cell? ⟨w5.heap.size, 0, none⟩ = some (.slice da0 2 dk0) ∧ w21.cell? ⟨w5.heap.size, 1, none⟩ = some (.slice da1 2 dk1) ∧ w21.cell? ⟨w5.heap.size, 2, none⟩ = some (.slice (some ⟨dgm, 0, none⟩) 1 dk2) ∧ w21.cell? ⟨w5.heap.size, 3, none⟩ = some (.slice (some ⟨dgb, 0, none⟩) 2 dk3) ∧ w5.heap.size < w21.heap.size := ⟨Kd.out.cell 0, Kd.out.cell 1, Kd.out.cell 2, Kd.out.cell 3, Kd.out.lt⟩
  obtain ⟨fc0, fc1, fc2, fc3, fcl⟩ : w21.cell? ⟨w10.heap.size, 0, none⟩ = some (.slice fa0 2 fk0) ∧ w21.cell? ⟨w10.heap.size, 1, none⟩ = some (.slice fa1 2 fk1) ∧ w21.cell? ⟨w10.heap.size, 2, none⟩ = some (.slice (some ⟨fgm, 0, none⟩) 1 fk2) ∧ w21.cell? ⟨w10.heap.size, 3, none⟩ = some (.slice (some ⟨fgb, 0, none⟩) 2 fk3) ∧ w10.heap.size < w21.heap.size := ⟨Kf.out.cell 0, Kf.out.cell 1, Kf.out.cell 2, Kf.out.cell 3, Kf.out.lt⟩
  obtain ⟨sc0, sc1, sc2, sc3, scl⟩ : w21.cell? ⟨w12.heap.size, 0, none⟩ = some (.slice sa0 2 sk0) ∧ w21.cell? ⟨w12.heap.size, 1, none⟩ = some (.slice sa1 2 sk1) ∧ w21.cell? ⟨w12.heap.size, 2, none⟩ = some (.slice (some ⟨sgm, 0, none⟩) 1 sk2) ∧ w21.cell? ⟨w12.heap.size, 3, none⟩ = some (.slice (some ⟨sgb, 0, none⟩) 2 sk3) ∧ w12.heap.size < w21.heap.size := ⟨Ks.out.cell 0, Ks.out.cell 1, Ks.out.cell 2, Ks.out.cell 3, Ks.out.lt⟩
  have FDv := FD.out
  have FDlv := FDl.out
  have FFv := FF.out
  have FFlv := FFl.out
  have FSv := FS.out
  have FSlv := FSl.out
  go_wp2_with fail
  refine bodyPost_ret (v := .bool true) (by simp [results, Tryz.results6, go_sem]) rfl ⟨rfl, BB.out⟩

end Go.Proofs.YtacbanfnakgecaaGreat
