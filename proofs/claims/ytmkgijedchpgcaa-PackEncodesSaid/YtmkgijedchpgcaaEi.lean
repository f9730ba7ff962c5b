/- PackEncodes: its walk, by what the code's Encode and Size do. -/
import Derived.Test.YtmkgijedchpgcaaEe
import Derived.Test.YtmkgijedchpgcaaEh
namespace Go.Proofs.Ytmkgijedchpgcaa
set_option linter.unusedSimpArgs false
set_option linter.unusedVariables false
open Go.RowKit

attribute [local go_sem ↓] Go.wp_at_zero Go.wp_at_succ
set_option maxRecDepth 100000 in
set_option maxHeartbeats 16000000 in
theorem pencodes_in (hkn : ∀ W : World, Calls Try.prog 9 #[] W fun e w' => e = .returned (.bool true) ∧ Below W.heap.size W w')
    (hpe : ∀ (u : Un) (c : Cf) (model room : Int) (vi vr vc xp xr xm xb : Value) (w : World), UnD w vi vr vc u → CfD w xp xr xm xb c → ShortU u → ShortC c → ∀ q : Bool, rightC u c model room = q → Calls Try.prog 10 #[.agg #[.int .i64 u.mod, vi, vr, vc], .agg #[xp, xr, xm, xb], .int .i64 model, .int .i64 room] w fun e w' => e = .returned (.tuple #[.string (if q = true then bytZ (encP c.pf) else ⟨#[]⟩), .int .i64 (if q = true then 0 else 8)]) ∧ Below w.heap.size w w')
    (hps : ∀ (c : Cf) (xp xr xm xb : Value) (w : World), CfD w xp xr xm xb c → ShortC c → Calls Try.prog 12 #[.agg #[xp, xr, xm, xb]] w fun e w' => e = .returned (.int .i64 (sizeP c.pf)) ∧ Below w.heap.size w w')
    (u : Un) (c : Cf) (model room : Int) (vi vr vc xp xr xm xb : Value) (w : World) (hu : UnD w vi vr vc u) (hc : CfD w xp xr xm xb c) :
    Calls Try.prog 3 #[.agg #[.int .i64 u.mod, vi, vr, vc, xp, xr, xm, xb, .int .i64 model, .int .i64 room]] w fun e w' => e = .returned (.bool true) ∧ Below w.heap.size w w' := by
  have HKN := Lib.hid hkn
  have HU := Lib.hid hu
  have HC := Lib.hid hc
  obtain ⟨ai, ci, rfl⟩ := hu.i.shape0
  obtain ⟨ar, cr, rfl⟩ := hu.r.shape0
  obtain ⟨ac, cc, rfl⟩ := hu.c.shape0
  obtain ⟨ap, cp, rfl⟩ := hc.p.shape0
  obtain ⟨aq, cq, rfl⟩ := hc.r.shape0
  obtain ⟨am, cm, rfl⟩ := hc.m.shape0
  obtain ⟨ab, cb, rfl⟩ := hc.b.shape0
  clear hu hc hkn
  have HRT := Lib.hid (fun (W : World) (h : Below w.heap.size w W) => light12_any u c model room _ _ _ _ _ _ _ W (HU.out.below h) (HC.out.below h) _ rfl)
  obtain ⟨q, hq⟩ : ∃ q, rightC u c model room = q := ⟨_, rfl⟩
  have HE := Lib.hid (fun (h1 : lightU u = true) (h2 : lightC c = true) (W : World) (h : Below w.heap.size w W) => hpe u c model room _ _ _ _ _ _ _ W (HU.out.below h) (HC.out.below h) (lightU_short h1) (lightC_short h2) q hq)
  have HF := Lib.hid (fun (h1 : lightU u = true) (h2 : lightC c = true) (W : World) (h : Below w.heap.size w W) => renc_any u c model room _ _ _ _ _ _ _ W (HU.out.below h) (HC.out.below h) (lightU_short h1) (lightC_short h2) q hq)
  have HG := Lib.hid (fun (h1 : lightU u = true) (h2 : lightC c = true) (W : World) (h : Below w.heap.size w W) => hps c _ _ _ _ W (HC.out.below h) (lightC_short h2))
  have HH := Lib.hid (fun (h1 : lightU u = true) (h2 : lightC c = true) (W : World) (h : Below w.heap.size w W) => rsize_any c _ _ _ _ W (HC.out.below h) (lightC_short h2))
  clear HU HC hpe hps hq
  generalize (if q = true then bytZ (encP c.pf) else ⟨#[]⟩) = es at HE HF
  generalize (if q = true then (0 : Int) else 8) = en at HE HF
  generalize (sizeP c.pf : Int) = sz at HG HH
  generalize hni : u.init.length = ni at HRT HE HF HG HH ⊢
  generalize hnr : u.regs.length = nr at HRT HE HF HG HH ⊢
  generalize hnc : u.code.length = nc at HRT HE HF HG HH ⊢
  generalize hnp : c.pc.length = np at HRT HE HF HG HH ⊢
  generalize hnq : c.regs.length = nq at HRT HE HF HG HH ⊢
  generalize hnm : c.mem.length = nm at HRT HE HF HG HH ⊢
  generalize hnb : c.buf.length = nb at HRT HE HF HG HH ⊢
  generalize hmd : u.mod = md at HRT HE HF HG HH ⊢
  clear hni hnr hnc hnp hnq hnm hnb hmd
  obtain ⟨r1, hr1⟩ : ∃ q, lightU u = q := ⟨_, rfl⟩
  obtain ⟨r2, hr2⟩ : ∃ q, lightC c = q := ⟨_, rfl⟩
  rw [hr1, hr2] at HRT HE HF HG HH
  clear hr1 hr2
  have Kc := Lib.hid (Bk.new w 31 #[.int .i64 md, .slice ai ni ci, .slice ar nr cr, .slice ac nc cc, .slice ap np cp, .slice aq nq cq, .slice am nm cm, .slice ab nb cb, .int .i64 model, .int .i64 room])
  have B : Hid (Below w.heap.size w (World.alloc w (.cells #[.int .i64 md, .slice ai ni ci, .slice ar nr cr, .slice ac nc cc, .slice ap np cp, .slice aq nq cq, .slice am nm cm, .slice ab nb cb, .int .i64 model, .int .i64 room] 31))) := Lib.hid (bal (Below.refl _ _) _)
  go_enter Try.func3, Try.ntmps3
  go_wp2_with fail
  generalize World.alloc w (.cells #[.int .i64 md, .slice ai ni ci, .slice ar nr cr, .slice ac nc cc, .slice ap np cp, .slice aq nq cq, .slice am nm cm, .slice ab nb cb, .int .i64 model, .int .i64 room] 31) = w1 at Kc B ⊢
  refine (HRT.out w1 B.out).mono ?_
  rintro e w2 ⟨rfl, b⟩
  replace Kc := Lib.hid (Kc.out.below b)
  replace B := Lib.hid (B.out.trans (b.mono B.out.size))
  clear b HRT
  by_cases hl : r1 = true ∧ r2 = true
  ·
    obtain ⟨hl1, hl2⟩ := hl
    subst hl1 hl2
    replace HE := Lib.hid (HE.out rfl rfl)
    replace HF := Lib.hid (HF.out rfl rfl)
    replace HG := Lib.hid (HG.out rfl rfl)
    replace HH := Lib.hid (HH.out rfl rfl)
    obtain ⟨cc0, cc1, cc2, cc3, cc4, cc5, cc6, cc7, cc8, cc9, ccl⟩ : w2.cell? ⟨w.heap.size, 0, none⟩ = some (.int .i64 md) ∧ w2.cell? ⟨w.heap.size, 1, none⟩ = some (.slice ai ni ci) ∧ w2.cell? ⟨w.heap.size, 2, none⟩ = some (.slice ar nr cr) ∧ w2.cell? ⟨w.heap.size, 3, none⟩ = some (.slice ac nc cc) ∧ w2.cell? ⟨w.heap.size, 4, none⟩ = some (.slice ap np cp) ∧ w2.cell? ⟨w.heap.size, 5, none⟩ = some (.slice aq nq cq) ∧ w2.cell? ⟨w.heap.size, 6, none⟩ = some (.slice am nm cm) ∧ w2.cell? ⟨w.heap.size, 7, none⟩ = some (.slice ab nb cb) ∧ w2.cell? ⟨w.heap.size, 8, none⟩ = some (.int .i64 model) ∧ w2.cell? ⟨w.heap.size, 9, none⟩ = some (.int .i64 room) ∧ w.heap.size < w2.heap.size := ⟨Kc.out.cell 0, Kc.out.cell 1, Kc.out.cell 2, Kc.out.cell 3, Kc.out.cell 4, Kc.out.cell 5, Kc.out.cell 6, Kc.out.cell 7, Kc.out.cell 8, Kc.out.cell 9, Kc.out.lt⟩
    go_wp2_with fail
    clear cc0 cc1 cc2 cc3 cc4 cc5 cc6 cc7 cc8 cc9 ccl
    refine (HE.out w2 B.out).mono ?_
    rintro e w3 ⟨rfl, b⟩
    replace Kc := Lib.hid (Kc.out.below b)
    replace B := Lib.hid (B.out.trans (b.mono B.out.size))
    clear b HE
    obtain ⟨cc0, cc1, cc2, cc3, cc4, cc5, cc6, cc7, cc8, cc9, ccl⟩ : w3.cell? ⟨w.heap.size, 0, none⟩ = some (.int .i64 md) ∧ w3.cell? ⟨w.heap.size, 1, none⟩ = some (.slice ai ni ci) ∧ w3.cell? ⟨w.heap.size, 2, none⟩ = some (.slice ar nr cr) ∧ w3.cell? ⟨w.heap.size, 3, none⟩ = some (.slice ac nc cc) ∧ w3.cell? ⟨w.heap.size, 4, none⟩ = some (.slice ap np cp) ∧ w3.cell? ⟨w.heap.size, 5, none⟩ = some (.slice aq nq cq) ∧ w3.cell? ⟨w.heap.size, 6, none⟩ = some (.slice am nm cm) ∧ w3.cell? ⟨w.heap.size, 7, none⟩ = some (.slice ab nb cb) ∧ w3.cell? ⟨w.heap.size, 8, none⟩ = some (.int .i64 model) ∧ w3.cell? ⟨w.heap.size, 9, none⟩ = some (.int .i64 room) ∧ w.heap.size < w3.heap.size := ⟨Kc.out.cell 0, Kc.out.cell 1, Kc.out.cell 2, Kc.out.cell 3, Kc.out.cell 4, Kc.out.cell 5, Kc.out.cell 6, Kc.out.cell 7, Kc.out.cell 8, Kc.out.cell 9, Kc.out.lt⟩
    go_wp2_with fail
    clear cc0 cc1 cc2 cc3 cc4 cc5 cc6 cc7 cc8 cc9 ccl
    refine (HF.out w3 B.out).mono ?_
    rintro e w4 ⟨rfl, b⟩
    replace Kc := Lib.hid (Kc.out.below b)
    replace B := Lib.hid (B.out.trans (b.mono B.out.size))
    clear b HF
    have ge1 : (es.toList == es.toList) = true := by simp
    have ge2 : (en == en) = true := by simp
    have ge3 : (sz == sz) = true := by simp
    have HG2 := Lib.hid (fun (W : World) (h : Below w4.heap.size w4 W) => HG.out W (B.out.trans (h.mono B.out.size)))
    have HH2 := Lib.hid (fun (W : World) (h : Below w4.heap.size w4 W) => HH.out W (B.out.trans (h.mono B.out.size)))
    have HCC := Lib.hid (fun (w' : World) (h : Below w4.heap.size w4 w') => (⟨(h.cell (p := ⟨w.heap.size, _, none⟩) Kc.out.lt).trans (Kc.out.cell 0), (h.cell (p := ⟨w.heap.size, _, none⟩) Kc.out.lt).trans (Kc.out.cell 1), (h.cell (p := ⟨w.heap.size, _, none⟩) Kc.out.lt).trans (Kc.out.cell 2), (h.cell (p := ⟨w.heap.size, _, none⟩) Kc.out.lt).trans (Kc.out.cell 3), (h.cell (p := ⟨w.heap.size, _, none⟩) Kc.out.lt).trans (Kc.out.cell 4), (h.cell (p := ⟨w.heap.size, _, none⟩) Kc.out.lt).trans (Kc.out.cell 5), (h.cell (p := ⟨w.heap.size, _, none⟩) Kc.out.lt).trans (Kc.out.cell 6), (h.cell (p := ⟨w.heap.size, _, none⟩) Kc.out.lt).trans (Kc.out.cell 7), (h.cell (p := ⟨w.heap.size, _, none⟩) Kc.out.lt).trans (Kc.out.cell 8), (h.cell (p := ⟨w.heap.size, _, none⟩) Kc.out.lt).trans (Kc.out.cell 9), h⟩ : (fun w' => w'.cell? ⟨w.heap.size, 0, none⟩ = some (.int .i64 md) ∧ w'.cell? ⟨w.heap.size, 1, none⟩ = some (.slice ai ni ci) ∧ w'.cell? ⟨w.heap.size, 2, none⟩ = some (.slice ar nr cr) ∧ w'.cell? ⟨w.heap.size, 3, none⟩ = some (.slice ac nc cc) ∧ w'.cell? ⟨w.heap.size, 4, none⟩ = some (.slice ap np cp) ∧ w'.cell? ⟨w.heap.size, 5, none⟩ = some (.slice aq nq cq) ∧ w'.cell? ⟨w.heap.size, 6, none⟩ = some (.slice am nm cm) ∧ w'.cell? ⟨w.heap.size, 7, none⟩ = some (.slice ab nb cb) ∧ w'.cell? ⟨w.heap.size, 8, none⟩ = some (.int .i64 model) ∧ w'.cell? ⟨w.heap.size, 9, none⟩ = some (.int .i64 room) ∧ Below w4.heap.size w4 w') w'))
    have bb : Below w4.heap.size w4 w4 := Below.refl _ _
    obtain ⟨cc0, cc1, cc2, cc3, cc4, cc5, cc6, cc7, cc8, cc9, ccl⟩ : w4.cell? ⟨w.heap.size, 0, none⟩ = some (.int .i64 md) ∧ w4.cell? ⟨w.heap.size, 1, none⟩ = some (.slice ai ni ci) ∧ w4.cell? ⟨w.heap.size, 2, none⟩ = some (.slice ar nr cr) ∧ w4.cell? ⟨w.heap.size, 3, none⟩ = some (.slice ac nc cc) ∧ w4.cell? ⟨w.heap.size, 4, none⟩ = some (.slice ap np cp) ∧ w4.cell? ⟨w.heap.size, 5, none⟩ = some (.slice aq nq cq) ∧ w4.cell? ⟨w.heap.size, 6, none⟩ = some (.slice am nm cm) ∧ w4.cell? ⟨w.heap.size, 7, none⟩ = some (.slice ab nb cb) ∧ w4.cell? ⟨w.heap.size, 8, none⟩ = some (.int .i64 model) ∧ w4.cell? ⟨w.heap.size, 9, none⟩ = some (.int .i64 room) ∧ w.heap.size < w4.heap.size := ⟨Kc.out.cell 0, Kc.out.cell 1, Kc.out.cell 2, Kc.out.cell 3, Kc.out.cell 4, Kc.out.cell 5, Kc.out.cell 6, Kc.out.cell 7, Kc.out.cell 8, Kc.out.cell 9, Kc.out.lt⟩
    go_wp2_with fail
    clear cc0 cc1 cc2 cc3 cc4 cc5 cc6 cc7 cc8 cc9 ccl
    go_region_held3 (fun w' => w'.cell? ⟨w.heap.size, 0, none⟩ = some (.int .i64 md) ∧ w'.cell? ⟨w.heap.size, 1, none⟩ = some (.slice ai ni ci) ∧ w'.cell? ⟨w.heap.size, 2, none⟩ = some (.slice ar nr cr) ∧ w'.cell? ⟨w.heap.size, 3, none⟩ = some (.slice ac nc cc) ∧ w'.cell? ⟨w.heap.size, 4, none⟩ = some (.slice ap np cp) ∧ w'.cell? ⟨w.heap.size, 5, none⟩ = some (.slice aq nq cq) ∧ w'.cell? ⟨w.heap.size, 6, none⟩ = some (.slice am nm cm) ∧ w'.cell? ⟨w.heap.size, 7, none⟩ = some (.slice ab nb cb) ∧ w'.cell? ⟨w.heap.size, 8, none⟩ = some (.int .i64 model) ∧ w'.cell? ⟨w.heap.size, 9, none⟩ = some (.int .i64 room) ∧ Below w4.heap.size w4 w')
      (first | with_reducible exact HCC.out _ bb | with_reducible exact HCC.out _ bb.drew | with_reducible assumption | (go_split_ands; with_reducible exact HCC.out _ (by with_reducible assumption)))
      ((first | (go_split_ands; (with_reducible refine Calls.mono (HG2.out _ (by assumption)) ?_); rintro e wn ⟨rfl, bn⟩; have bb : Below w4.heap.size w4 wn := Below.trans (by assumption) (bn.mono (Below.size (by assumption)))) | (go_split_ands; (with_reducible refine Calls.mono (HH2.out _ (by assumption)) ?_); rintro e wn ⟨rfl, bn⟩; have bb : Below w4.heap.size w4 wn := Below.trans (by assumption) (bn.mono (Below.size (by assumption)))) | (go_split_ands; (with_reducible refine Calls.mono (HKN.out _) ?_); rintro e wn ⟨rfl, bn⟩; have bb : Below w4.heap.size w4 wn := Below.trans (by assumption) (bn.mono (Below.size (by assumption))))))
    all_goals
      go_split_ands
      go_wp2
      go_ret
      exact ⟨ret_bool (by simp), B.out.trans (Below.mono (by assumption) B.out.size)⟩
  have hz : (r1 && r2) = false := by cases r1 <;> cases r2 <;> simp_all
  try rw [hz]
  go_wp2_with fail
  refine (HKN.out w2).mono ?_
  rintro e w3 ⟨rfl, b⟩
  replace Kc := Lib.hid (Kc.out.below b)
  replace B := Lib.hid (B.out.trans (b.mono B.out.size))
  clear b
  go_wp2
  go_ret
  exact ⟨ret_bool rfl, B.out⟩

end Go.Proofs.Ytmkgijedchpgcaa
