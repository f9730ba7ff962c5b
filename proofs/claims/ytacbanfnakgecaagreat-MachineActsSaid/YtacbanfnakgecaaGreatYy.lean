/- Layer 10, the code: Act. -/
import Derived.Test.YtacbanfnakgecaaGreatYb
import Derived.Test.YtacbanfnakgecaaGreatYn
namespace Go.Proofs.YtacbanfnakgecaaGreat
set_option linter.unusedSimpArgs false
set_option linter.unusedVariables false
open Go.RowKit
theorem unit_ops {u : Un} {p : Pf} {model room : Int} {k pc : Nat} {x : II} {vi vr vc : Value} {w : World} (hu : UnD w vi vr vc u) (hk : k < u.code.length) (T : Thr u p model room k pc x) : OpsD w x.ev x.x.e ∧ OpsD w x.fv x.x.f := by
  have hcode : u.code.getD k ([], undef) = u.code[k] := by rw [List.getD_eq_getElem?_getD, List.getElem?_eq_getElem hk]; rfl
  have hpl : pc < (u.code[k]).1.length := by have := T.hpl; rw [hcode] at this; exact this
  have hxg : (u.code[k]).1[pc] = x := by
    have := T.hx
    rw [hcode, List.getD_eq_getElem?_getD, List.getElem?_eq_getElem hpl] at this
    exact this
  obtain ⟨xc, cc, hvc⟩ := hu.c.shape0
  have hdc := hu.c
  rw [hvc] at hdc
  obtain ⟨bc, oc, _, _, hrow⟩ := SlD.at hdc k hk
  obtain ⟨ai, mi, hai⟩ := hrow.r.shape0
  have hri := hrow.r
  rw [hai] at hri
  obtain ⟨bi, oi, _, _, hI⟩ := SlD.at hri pc hpl
  rw [hxg] at hI
  exact ⟨hI.e, hI.f⟩
set_option maxRecDepth 100000 in
set_option maxHeartbeats 16000000 in
theorem act_any (u : Un) (c : Cf) (model room t : Int) (vi vr vc xp xr xm xb : Value) (w : World) (hu : UnD w vi vr vc u) (hc : CfD w xp xr xm xb c) (hs : ShortC c) (hus : ∀ k pc, (iiAt u k pc).x.e.length ≤ 100000 ∧ (iiAt u k pc).x.f.length ≤ 100000) (hR : RightP u c.pf model room) :
    Calls Tryz.prog 8 #[.agg #[.int .i64 u.mod, vi, vr, vc], .agg #[xp, xr, xm, xb], .int .i64 model, .int .i64 room, .int .i64 t] w fun e w' => ∃ (d : Cf) (yp yr ym yb : Value), e = .returned (.tuple #[.agg #[yp, yr, ym, yb], .bool (enT u c.pf model room t)]) ∧ OwnC w' w.heap.size yp yr ym yb d ∧ d.pf = actT u c.pf model room t ∧ Below w.heap.size w w' := by
  have HU := Lib.hid hu
  have HCP := Lib.hid (fun (W : World) (h : Below w.heap.size w W) => ncopy_ap c xp xr xm xb W (hc.below h) hs)
  have HS := Lib.hid hs
  have HUS := Lib.hid hus
  have HR := Lib.hid hR
  have T3 := Lib.hid (three_new w 25 29 29 #[.int .i64 u.mod, vi, vr, vc] #[xp, xr, xm, xb] #[.slice none 0 0, .slice none 0 0, .slice none 0 0, .slice none 0 0])
  clear hu hc hs hus hR
  go_enter Tryz.func8, Tryz.ntmps8
  go_wp2_with fail
  obtain ⟨L0, KA0, KB0, KC0⟩ := T3.out
  have SZ : Hid ((((w.alloc (.cells #[.int .i64 u.mod, vi, vr, vc] 25)).alloc (.cells #[xp, xr, xm, xb] 29)).alloc (.cells #[.slice none 0 0, .slice none 0 0, .slice none 0 0, .slice none 0 0] 29)).heap.size = w.heap.size + 1 + 1 + 1) := Lib.hid (by simp only [alloc_size])
  generalize ((w.alloc _).alloc _).alloc _ = w0 at L0 KA0 KB0 KC0 SZ ⊢
  have LL := Lib.hid L0
  have KA := Lib.hid KA0
  have KC := Lib.hid KC0
  clear L0 KA0 KB0 KC0 T3
  refine (HCP.out _ LL.out).mono ?_
  rintro e w1 ⟨d, yp, yr, ym, yb, rfl, od, hpf, b1, dj⟩
  have HPF := Lib.hid hpf
  obtain ⟨a0, n0, a1, n1, a2, n2, a3, n3, rfl, rfl, rfl, rfl⟩ := od.shapes
  have S1 := Lib.hid (St.of od dj b1.size)
  have B1 := Lib.hid b1
  have KZ := Lib.hid (Bk.new w1 29 #[.slice none 0 0, .slice none 0 0, .slice none 0 0, .slice none 0 0])
  have BZ : Hid (Below w1.heap.size w1 (w1.alloc (.cells #[.slice none 0 0, .slice none 0 0, .slice none 0 0, .slice none 0 0] 29))) := Lib.hid (bal (Below.refl _ _) _)
  generalize hz : w1.alloc (.cells #[.slice none 0 0, .slice none 0 0, .slice none 0 0, .slice none 0 0] 29) = wz at KZ BZ
  have KN := Lib.hid (set4_bk (.slice a0 d.pc.length n0) (.slice a1 d.regs.length n1) (.slice a2 d.mem.length n2) (.slice a3 d.buf.length n3) KZ.out)
  have BA : Hid (Below w1.heap.size w1 ((((wz.setCell ⟨w1.heap.size, 0, none⟩ (.slice a0 d.pc.length n0)).setCell ⟨w1.heap.size, 1, none⟩ (.slice a1 d.regs.length n1)).setCell ⟨w1.heap.size, 2, none⟩ (.slice a2 d.mem.length n2)).setCell ⟨w1.heap.size, 3, none⟩ (.slice a3 d.buf.length n3))) := Lib.hid (set4_below _ _ _ _ BZ.out (Nat.le_refl _))
  have S2 := Lib.hid (S1.out.below BA.out)
  have B2 : Hid (Below w0.heap.size w0 ((((wz.setCell ⟨w1.heap.size, 0, none⟩ (.slice a0 d.pc.length n0)).setCell ⟨w1.heap.size, 1, none⟩ (.slice a1 d.regs.length n1)).setCell ⟨w1.heap.size, 2, none⟩ (.slice a2 d.mem.length n2)).setCell ⟨w1.heap.size, 3, none⟩ (.slice a3 d.buf.length n3))) := Lib.hid (B1.out.trans (BA.out.mono B1.out.size))
  obtain ⟨z0, z1, z2, z3, y0, y1, y2, y3, lz⟩ : wz.cell? ⟨w1.heap.size, 0, none⟩ = some (.slice none 0 0) ∧ wz.cell? ⟨w1.heap.size, 1, none⟩ = some (.slice none 0 0) ∧ wz.cell? ⟨w1.heap.size, 2, none⟩ = some (.slice none 0 0) ∧ wz.cell? ⟨w1.heap.size, 3, none⟩ = some (.slice none 0 0) ∧ wz.frozen? ⟨w1.heap.size, 0, none⟩ = false ∧ wz.frozen? ⟨w1.heap.size, 1, none⟩ = false ∧ wz.frozen? ⟨w1.heap.size, 2, none⟩ = false ∧ wz.frozen? ⟨w1.heap.size, 3, none⟩ = false ∧ w1.heap.size < wz.heap.size := ⟨KZ.out.cell 0, KZ.out.cell 1, KZ.out.cell 2, KZ.out.cell 3, KZ.out.fz 0, KZ.out.fz 1, KZ.out.fz 2, KZ.out.fz 3, KZ.out.lt⟩
  have KAZ := Lib.hid (KA.out.below (B1.out.trans (BZ.out.mono B1.out.size)))
  obtain ⟨c0, c1, c2, c3, l0⟩ : wz.cell? ⟨w.heap.size, 0, none⟩ = some (.int .i64 u.mod) ∧ wz.cell? ⟨w.heap.size, 1, none⟩ = some vi ∧ wz.cell? ⟨w.heap.size, 2, none⟩ = some vr ∧ wz.cell? ⟨w.heap.size, 3, none⟩ = some vc ∧ w.heap.size < wz.heap.size := ⟨KAZ.out.cell 0, KAZ.out.cell 1, KAZ.out.cell 2, KAZ.out.cell 3, KAZ.out.lt⟩
  have hne : ¬ w.heap.size = w1.heap.size := by have h1 := SZ.out; have h2 := B1.out.size; omega
  have hne' : ¬ w1.heap.size = w.heap.size := fun h => hne h.symm
  clear od hpf b1 dj S1 BA HCP
  go_wp2_with fail
  generalize (((wz.setCell _ _).setCell _ _).setCell _ _).setCell _ _ = w2 at KN S2 B2 ⊢
  have HR2 : RightP u d.pf model room := by rw [HPF.out]; exact HR.out
  have HS2 : ShortC d := short_pf HPF.out HS.out
  have L2 := Lib.hid (LL.out.trans (B2.out.mono LL.out.size))
  obtain ⟨ta, q, hs17, hone, hto, hcase⟩ := turn_cases u d model room t vi vr vc _ _ _ _ w2 (HU.out.below L2.out) S2.out.data HR2
  have HCASE := Lib.hid hcase
  clear z0 z1 z2 z3 y0 y1 y2 y3 lz c0 c1 c2 c3 l0 KZ BZ KAZ hz hne hne' hcase
  refine (hto _ (Below.refl _ _)).mono ?_
  rintro e w3 ⟨rfl, b3⟩
  have S3 := Lib.hid (S2.out.below b3)
  have KN3 := Lib.hid (KN.out.below b3)
  have BB3 := Lib.hid b3
  have B3 : Hid (Below w0.heap.size w0 w3) := Lib.hid (B2.out.trans (b3.mono B2.out.size))
  have KT := Lib.hid (Bk.new w3 63 zeroT)
  have LT := Lib.hid (bal (Below.refl w3.heap.size w3) (.cells zeroT 63))
  have HI : (Tryz.prog.info? 63).map (·.size) = some ta.size := by rw [hs17]; exact i_turn'
  have HZS : zeroT.size = ta.size := by rw [hs17]; rfl
  clear b3 hto S2 KN B2
  have HLW : Hid (w.heap.size ≤ w0.heap.size) := Lib.hid (by have := SZ.out; omega)
  have HLR : Hid (w.heap.size + 1 + 1 < w0.heap.size) := Lib.hid (by have := SZ.out; omega)
  obtain ⟨w4, hW4⟩ : ∃ z, World.setRow (World.alloc w3 (.cells zeroT 63)) w3.heap.size ta = z := ⟨_, rfl⟩
  have KR : Hid (Bk w4 w3.heap.size 63 ta) := Lib.hid (by rw [← hW4]; exact setRow_heap _ _ _ ta _ _ KT.out)
  have BR : Hid (Below w3.heap.size w3 w4) := Lib.hid (by rw [← hW4]; exact below_setRow LT.out (Nat.le_refl w3.heap.size) ta)
  have S4 := Lib.hid (S3.out.below BR.out)
  have KN4 := Lib.hid (KN3.out.below BR.out)
  have B4 : Hid (Below w0.heap.size w0 w4) := Lib.hid (B3.out.trans (BR.out.mono B3.out.size))
  have KC4 := Lib.hid (KC.out.below B4.out)
  have L4 := Lib.hid (LL.out.trans (B4.out.mono LL.out.size))
  obtain ⟨p0, p1, p2, p3, pl⟩ : w4.cell? ⟨w1.heap.size, 0, none⟩ = some (.slice a0 d.pc.length n0) ∧ w4.cell? ⟨w1.heap.size, 1, none⟩ = some (.slice a1 d.regs.length n1) ∧ w4.cell? ⟨w1.heap.size, 2, none⟩ = some (.slice a2 d.mem.length n2) ∧ w4.cell? ⟨w1.heap.size, 3, none⟩ = some (.slice a3 d.buf.length n3) ∧ w1.heap.size < w4.heap.size := ⟨KN4.out.cell 0, KN4.out.cell 1, KN4.out.cell 2, KN4.out.cell 3, KN4.out.lt⟩
  obtain ⟨r0, r1, r2, r3, g0, g1, g2, g3, rl⟩ : w4.cell? ⟨w.heap.size + 1 + 1, 0, none⟩ = some (.slice none 0 0) ∧ w4.cell? ⟨w.heap.size + 1 + 1, 1, none⟩ = some (.slice none 0 0) ∧ w4.cell? ⟨w.heap.size + 1 + 1, 2, none⟩ = some (.slice none 0 0) ∧ w4.cell? ⟨w.heap.size + 1 + 1, 3, none⟩ = some (.slice none 0 0) ∧ w4.frozen? ⟨w.heap.size + 1 + 1, 0, none⟩ = false ∧ w4.frozen? ⟨w.heap.size + 1 + 1, 1, none⟩ = false ∧ w4.frozen? ⟨w.heap.size + 1 + 1, 2, none⟩ = false ∧ w4.frozen? ⟨w.heap.size + 1 + 1, 3, none⟩ = false ∧ w.heap.size + 1 + 1 < w4.heap.size := ⟨KC4.out.cell 0, KC4.out.cell 1, KC4.out.cell 2, KC4.out.cell 3, KC4.out.fz 0, KC4.out.fz 1, KC4.out.fz 2, KC4.out.fz 3, KC4.out.lt⟩
  have hW5 := hW4
  unfold zeroT at hW5
  have HFIN := Lib.hid (fun (wz : World) (d2 : Cf) (S : St w0.heap.size w1.heap.size wz (.slice a0 d.pc.length n0) (.slice a1 d.regs.length n1) (.slice a2 d.mem.length n2) (.slice a3 d.buf.length n3) d2) (KC : Bk wz (w.heap.size + 1 + 1) 29 #[.slice none 0 0, .slice none 0 0, .slice none 0 0, .slice none 0 0]) (L : Below w.heap.size w wz) =>
    (⟨set4_bk (.slice a0 d.pc.length n0) (.slice a1 d.regs.length n1) (.slice a2 d.mem.length n2) (.slice a3 d.buf.length n3) KC, (S.o.kp (set4_kp (w := wz) (B := w0.heap.size) (.slice a0 d.pc.length n0) (.slice a1 d.regs.length n1) (.slice a2 d.mem.length n2) (.slice a3 d.buf.length n3) HLR.out)).base HLW.out, set4_below (.slice a0 d.pc.length n0) (.slice a1 d.regs.length n1) (.slice a2 d.mem.length n2) (.slice a3 d.buf.length n3) L (show w.heap.size ≤ w.heap.size + 1 + 1 by omega)⟩ : _ ∧ _ ∧ _))
  have hNW : w1.heap.size ≤ w3.heap.size := by have h1 := S3.out.n; exact h1
  rcases HCASE.out with ⟨rfl, hen⟩ | ⟨rfl, k, pc, x, f1, f2, rfl, hk, hta, P, h22, hen, hact⟩
  · have HEN := Lib.hid hen
    have HF := Lib.hid (HFIN.out w4 d S4.out KC4.out L4.out)
    clear HCASE hen HFIN
    go_wp2_with (refine wpList_store_row (P := Tryz.prog) rfl 63 _ _ rfl w3.heap.size ta rfl rfl 63 zeroT KT.out HI HZS hone ?_)
    obtain ⟨KF, OF, LF⟩ := HF.out
    generalize (((w4.setCell _ _).setCell _ _).setCell _ _).setCell _ _ = w7 at KF OF LF ⊢
    have d0 : w7.cell? ⟨w.heap.size + 1 + 1, 0, none⟩ = some _ := KF.cell 0
    have d1 : w7.cell? ⟨w.heap.size + 1 + 1, 1, none⟩ = some _ := KF.cell 1
    have d2 : w7.cell? ⟨w.heap.size + 1 + 1, 2, none⟩ = some _ := KF.cell 2
    have d3 : w7.cell? ⟨w.heap.size + 1 + 1, 3, none⟩ = some _ := KF.cell 3
    refine bodyPost_ret (v := .tuple #[.agg #[.slice a0 d.pc.length n0, .slice a1 d.regs.length n1, .slice a2 d.mem.length n2, .slice a3 d.buf.length n3], .bool false]) (by simp [results, Tryz.results8, go_sem, d0, d1, d2, d3]) rfl ?_
    rw [HPF.out] at HEN
    exact ⟨d, _, _, _, _, by rw [HEN.out], OF, by unfold actT; rw [HEN.out, HPF.out]; rfl, LF⟩
  · skip
    have HOP : (2 ≤ x.x.op ∧ x.x.op ≤ 9) ∨ (20 ≤ x.x.op ∧ x.x.op ≤ 21) := by have := ins_op P.T.ins; omega
    have hle : x.x.e.length ≤ 100000 ∧ x.x.f.length ≤ 100000 := by have := HUS.out k (d.pf.pc.getD k 0); rw [P.T.at'] at this; exact this
    have hB24 : Below w2.heap.size w2 w4 := BB3.out.trans (BR.out.mono BB3.out.size)
    obtain ⟨b, hb⟩ : ∃ b, enO u d.pf model room k x.x = b := ⟨_, rfl⟩
    have HE := Lib.hid (fnE_any u d model room _ _ _ _ f1 f2 k pc x w4 S4.out.data HS2 HR2 hk P.T h22 (OpsD.below P.e hB24) hle.1 b hb)
    have HCE := Lib.hid (callE x.x.op HOP (.agg ta))
    have HCA := Lib.hid (callA x.x.op HOP (.agg ta))
    have HA := Lib.hid (fun (hbt : b = true) (W : World) (hW : St w0.heap.size w1.heap.size W (.slice a0 d.pc.length n0) (.slice a1 d.regs.length n1) (.slice a2 d.mem.length n2) (.slice a3 d.buf.length n3) (d.setP k ((pc : Int) + 1))) (h1 : OpsD W x.ev x.x.e) (h2 : OpsD W x.fv x.x.f) =>
      fnA_any u d model room _ _ _ _ f1 f2 k pc x HR2 hk P.T HS2 HOP (by rw [hb]; exact hbt) hle.1 hle.2 W hW h1 h2)
    rw [← hta] at HE HA
    have HE15 : Hid (ta[15]? = some (.func (.func (fnE x.x.op)) #[] #[])) := Lib.hid (by rw [hta, ← (P.fn h22).1]; rfl)
    have HE16 : Hid (ta[16]? = some (.func (.func (fnA x.x.op)) #[] #[])) := Lib.hid (by rw [hta, ← (P.fn h22).2]; rfl)
    generalize fnE x.x.op = FE at HE HCE HE15
    generalize fnA x.x.op = FA at HA HCA HE16
    have HPE := Lib.hid (unit_ops HU.out (by have := (rightU_lc HR2.ru).2.2.2.2.2; omega) P.T)
    have HPC : Hid (d.pc.getD k 0 = (pc : Int) ∧ pc < 1000) := Lib.hid ⟨P.T.hp, by have h1 := P.T.hpl; have h2 := P.T.hl; omega⟩
    have HEN : Hid (enT u c.pf model room k = b) := Lib.hid (by rw [← hb, ← hen, HPF.out])
    have HACT : Hid (actP u c.pf model k = actO u d.pf model k x.x) := Lib.hid (by rw [← hact, HPF.out])
    have hkp : k < d.pc.length := by have : d.pf.pc.length = u.regs.length := HR2.lp; show k < d.pf.pc.length; omega
    have h15 : w4.cell? ⟨w3.heap.size, 15, none⟩ = some (.func (.func FE) #[] #[]) := (Bk.cell KR.out 15).trans HE15.out
    have hlt := KR.out.lt
    clear HCASE P h22 hen hact hta hb HOP hle HU HUS
    go_wp2_with (first
      | refine wpList_store_row (P := Tryz.prog) rfl 63 _ _ rfl w3.heap.size ta rfl rfl 63 zeroT KT.out HI HZS hone ?_
      | refine load_turnG (by rfl) _ rfl w3.heap.size rfl ta (by first | exact KR.out | (rw [hW4]; exact KR.out)) hs17 ?_)
    first
      | (rw [HCE.out]; go_wp2_with fail)
      | skip
    first | rw [hW5] | skip
    refine HE.out.mono ?_
    rintro e w5 ⟨rfl, b5⟩
    have S5 := Lib.hid (S4.out.below b5)
    have KN5 := Lib.hid (KN4.out.below b5)
    have KR5 := Lib.hid (KR.out.below b5)
    have KC5 := Lib.hid (KC4.out.below b5)
    have B25 := Lib.hid (hB24.trans (b5.mono hB24.size))
    have L5 := Lib.hid (L4.out.trans (b5.mono L4.out.size))
    clear h15 hlt KN4 KC4 KR S4 b5 hB24 HE HCE
    clear p0 p1 p2 p3 pl r0 r1 r2 r3 g0 g1 g2 g3 rl
    obtain ⟨p0, p1, p2, p3, pl⟩ : w5.cell? ⟨w1.heap.size, 0, none⟩ = some (.slice a0 d.pc.length n0) ∧ w5.cell? ⟨w1.heap.size, 1, none⟩ = some (.slice a1 d.regs.length n1) ∧ w5.cell? ⟨w1.heap.size, 2, none⟩ = some (.slice a2 d.mem.length n2) ∧ w5.cell? ⟨w1.heap.size, 3, none⟩ = some (.slice a3 d.buf.length n3) ∧ w1.heap.size < w5.heap.size := ⟨KN5.out.cell 0, KN5.out.cell 1, KN5.out.cell 2, KN5.out.cell 3, KN5.out.lt⟩
    obtain ⟨r0, r1, r2, r3, g0, g1, g2, g3, rl⟩ : w5.cell? ⟨w.heap.size + 1 + 1, 0, none⟩ = some (.slice none 0 0) ∧ w5.cell? ⟨w.heap.size + 1 + 1, 1, none⟩ = some (.slice none 0 0) ∧ w5.cell? ⟨w.heap.size + 1 + 1, 2, none⟩ = some (.slice none 0 0) ∧ w5.cell? ⟨w.heap.size + 1 + 1, 3, none⟩ = some (.slice none 0 0) ∧ w5.frozen? ⟨w.heap.size + 1 + 1, 0, none⟩ = false ∧ w5.frozen? ⟨w.heap.size + 1 + 1, 1, none⟩ = false ∧ w5.frozen? ⟨w.heap.size + 1 + 1, 2, none⟩ = false ∧ w5.frozen? ⟨w.heap.size + 1 + 1, 3, none⟩ = false ∧ w.heap.size + 1 + 1 < w5.heap.size := ⟨KC5.out.cell 0, KC5.out.cell 1, KC5.out.cell 2, KC5.out.cell 3, KC5.out.fz 0, KC5.out.fz 1, KC5.out.fz 2, KC5.out.fz 3, KC5.out.lt⟩
    cases b with
    | false =>
      have HF := Lib.hid (HFIN.out w5 d S5.out KC5.out L5.out)
      clear HFIN HA
      go_wp2
      obtain ⟨KF, OF, LF⟩ := HF.out
      generalize (((World.setCell _ _ _).setCell _ _).setCell _ _).setCell _ _ = w7 at KF OF LF ⊢
      have d0 : w7.cell? ⟨w.heap.size + 1 + 1, 0, none⟩ = some _ := KF.cell 0
      have d1 : w7.cell? ⟨w.heap.size + 1 + 1, 1, none⟩ = some _ := KF.cell 1
      have d2 : w7.cell? ⟨w.heap.size + 1 + 1, 2, none⟩ = some _ := KF.cell 2
      have d3 : w7.cell? ⟨w.heap.size + 1 + 1, 3, none⟩ = some _ := KF.cell 3
      refine bodyPost_ret (v := .tuple #[.agg #[.slice a0 d.pc.length n0, .slice a1 d.regs.length n1, .slice a2 d.mem.length n2, .slice a3 d.buf.length n3], .bool false]) (by simp [results, Tryz.results8, go_sem, d0, d1, d2, d3]) rfl ?_
      exact ⟨d, _, _, _, _, by rw [HEN.out], OF, by unfold actT; rw [HEN.out, HPF.out]; rfl, LF⟩
    | true =>
      obtain ⟨g, cap, hxp, hgN, hgl, hgc, hgf, hst⟩ := S5.out.pcAt k hkp
      injection hxp with ha _ hcc
      subst ha
      subst hcc
      rw [HPC.out.1] at hgc
      have HST := Lib.hid (hst ((pc : Int) + 1))
      have ew : IntKind.i64.wrap ((pc : Int) + 1) = (pc : Int) + 1 := IntWalk.i64_in _ (by have := HPC.out.2; omega)
      have q1 : (0 : Int) ≤ (k : Int) := by omega
      have q2 : (k : Int) < (d.pc.length : Int) := by omega
      clear hst
      obtain ⟨w6, hW6⟩ : ∃ z, w5.setCell ⟨g, k, none⟩ (.int .i64 ((pc : Int) + 1)) = z := ⟨_, rfl⟩
      have S6 : Hid (St w0.heap.size w1.heap.size w6 (.slice (some ⟨g, 0, none⟩) d.pc.length n0) (.slice a1 d.regs.length n1) (.slice a2 d.mem.length n2) (.slice a3 d.buf.length n3) (d.setP k ((pc : Int) + 1))) := Lib.hid (by rw [← hW6]; exact HST.out.1)
      have F6 : Hid (Fr w0.heap.size w1.heap.size w5 w6) := Lib.hid (by rw [← hW6]; exact HST.out.2)
      have KN6 := Lib.hid (F6.out.bk (Nat.le_refl _) KN5.out)
      have KR6 := Lib.hid (F6.out.bk hNW KR5.out)
      have KC6 := Lib.hid (bkBelow F6.out.b HLR.out KC5.out)
      have L6 := Lib.hid (L5.out.trans (F6.out.b.mono HLW.out))
      have h16 : w6.cell? ⟨w3.heap.size, 16, none⟩ = some (.func (.func FA) #[] #[]) := (Bk.cell KR6.out 16).trans HE16.out
      have hlt6 := KR6.out.lt
      have HA6 := Lib.hid (HA.out rfl w6 S6.out (OpsD.below HPE.out.1 L6.out) (OpsD.below HPE.out.2 L6.out))
      clear HST HA
      go_wp2_with (refine load_turnG (by rfl) _ rfl w3.heap.size rfl ta (by first | exact KR6.out | (rw [hW6]; exact KR6.out)) hs17 ?_)
      first
        | (rw [HCA.out]; go_wp2_with fail)
        | skip
      first | rw [hW6] | skip
      refine HA6.out.mono ?_
      rintro e w8 ⟨rfl, ⟨d8, hp8, s8⟩, f8⟩
      have KN8 := Lib.hid (f8.bk (Nat.le_refl _) KN6.out)
      have KC8 := Lib.hid (bkBelow f8.b HLR.out KC6.out)
      have L8 := Lib.hid (L6.out.trans (f8.b.mono HLW.out))
      have HF := Lib.hid (HFIN.out w8 d8 s8 KC8.out L8.out)
      have HP8 := Lib.hid hp8
      clear p0 p1 p2 p3 pl r0 r1 r2 r3 g0 g1 g2 g3 rl h16 hlt6 HA6 hgc hgf hgl hgN KN6 KR6 KC6 S6 F6 hp8 s8 f8 HFIN hW6
      obtain ⟨p0, p1, p2, p3, pl⟩ : w8.cell? ⟨w1.heap.size, 0, none⟩ = some (.slice (some ⟨g, 0, none⟩) d.pc.length n0) ∧ w8.cell? ⟨w1.heap.size, 1, none⟩ = some (.slice a1 d.regs.length n1) ∧ w8.cell? ⟨w1.heap.size, 2, none⟩ = some (.slice a2 d.mem.length n2) ∧ w8.cell? ⟨w1.heap.size, 3, none⟩ = some (.slice a3 d.buf.length n3) ∧ w1.heap.size < w8.heap.size := ⟨KN8.out.cell 0, KN8.out.cell 1, KN8.out.cell 2, KN8.out.cell 3, KN8.out.lt⟩
      obtain ⟨r0, r1, r2, r3, g0, g1, g2, g3, rl⟩ : w8.cell? ⟨w.heap.size + 1 + 1, 0, none⟩ = some (.slice none 0 0) ∧ w8.cell? ⟨w.heap.size + 1 + 1, 1, none⟩ = some (.slice none 0 0) ∧ w8.cell? ⟨w.heap.size + 1 + 1, 2, none⟩ = some (.slice none 0 0) ∧ w8.cell? ⟨w.heap.size + 1 + 1, 3, none⟩ = some (.slice none 0 0) ∧ w8.frozen? ⟨w.heap.size + 1 + 1, 0, none⟩ = false ∧ w8.frozen? ⟨w.heap.size + 1 + 1, 1, none⟩ = false ∧ w8.frozen? ⟨w.heap.size + 1 + 1, 2, none⟩ = false ∧ w8.frozen? ⟨w.heap.size + 1 + 1, 3, none⟩ = false ∧ w.heap.size + 1 + 1 < w8.heap.size := ⟨KC8.out.cell 0, KC8.out.cell 1, KC8.out.cell 2, KC8.out.cell 3, KC8.out.fz 0, KC8.out.fz 1, KC8.out.fz 2, KC8.out.fz 3, KC8.out.lt⟩
      go_wp2
      obtain ⟨KF, OF, LF⟩ := HF.out
      generalize (((World.setCell _ _ _).setCell _ _).setCell _ _).setCell _ _ = w7 at KF OF LF ⊢
      have d0 : w7.cell? ⟨w.heap.size + 1 + 1, 0, none⟩ = some _ := KF.cell 0
      have d1 : w7.cell? ⟨w.heap.size + 1 + 1, 1, none⟩ = some _ := KF.cell 1
      have d2 : w7.cell? ⟨w.heap.size + 1 + 1, 2, none⟩ = some _ := KF.cell 2
      have d3 : w7.cell? ⟨w.heap.size + 1 + 1, 3, none⟩ = some _ := KF.cell 3
      refine bodyPost_ret (v := .tuple #[.agg #[.slice (some ⟨g, 0, none⟩) d.pc.length n0, .slice a1 d.regs.length n1, .slice a2 d.mem.length n2, .slice a3 d.buf.length n3], .bool true]) (by simp [results, Tryz.results8, go_sem, d0, d1, d2, d3]) rfl ?_
      exact ⟨d8, _, _, _, _, by rw [HEN.out], OF, by unfold actT; rw [HEN.out, if_pos rfl, Int.toNat_natCast, HACT.out]; exact HP8.out, LF⟩
end Go.Proofs.YtacbanfnakgecaaGreat
