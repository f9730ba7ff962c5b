/- PackSizes: its walk, by what the code does. -/
import Derived.Test.YtmkgijedchpgcaaEk
import Derived.Test.YtmkgijedchpgcaaWd
import Derived.Test.YtmkgijedchpgcaaEp
import Derived.Test.YtmkgijedchpgcaaEn
import Derived.Test.YtmkgijedchpgcaaEy
import Derived.Deep.DeepCutAuto
namespace Go.Proofs.Ytmkgijedchpgcaa
set_option linter.unusedSimpArgs false
set_option linter.unusedVariables false
open Go.RowKit

attribute [local go_sem ↓] Go.wp_at_zero Go.wp_at_succ
set_option maxRecDepth 100000 in
set_option maxHeartbeats 16000000 in
theorem psizes_in (hkn : ∀ W : World, Calls Try.prog 9 #[] W fun e w' => e = .returned (.bool true) ∧ Below W.heap.size W w')
    (hpe : ∀ (u : Un) (c : Cf) (model room : Int) (vi vr vc xp xr xm xb : Value) (w : World), UnD w vi vr vc u → CfD w xp xr xm xb c → ShortU u → ShortC c → ∀ q : Bool, rightC u c model room = q → Calls Try.prog 10 #[.agg #[.int .i64 u.mod, vi, vr, vc], .agg #[xp, xr, xm, xb], .int .i64 model, .int .i64 room] w fun e w' => e = .returned (.tuple #[.string (if q = true then bytZ (encP c.pf) else ⟨#[]⟩), .int .i64 (if q = true then 0 else 8)]) ∧ Below w.heap.size w w')
    (hps : ∀ (c : Cf) (xp xr xm xb : Value) (w : World), CfD w xp xr xm xb c → ShortC c → Calls Try.prog 12 #[.agg #[xp, xr, xm, xb]] w fun e w' => e = .returned (.int .i64 (sizeP c.pf)) ∧ Below w.heap.size w w')
    (hpd0 : ∀ (u : Un) (s : ByteArray) (model room : Int) (vi vr vc : Value) (w : World), UnD w vi vr vc u → ShortU u → s.size ≤ 100000 → decZ u s model room = none → Calls Try.prog 15 #[.agg #[.int .i64 u.mod, vi, vr, vc], .string s, .int .i64 model, .int .i64 room] w fun e w' => e = .returned (.tuple #[.agg #[.slice none 0 0, .slice none 0 0, .slice none 0 0, .slice none 0 0], .int .i64 8]) ∧ Below w.heap.size w w')
    (u : Un) (c : Cf) (model room : Int) (vi vr vc xp xr xm xb : Value) (w : World) (hu : UnD w vi vr vc u) (hc : CfD w xp xr xm xb c) :
    Calls Try.prog 7 #[.agg #[.int .i64 u.mod, vi, vr, vc, xp, xr, xm, xb, .int .i64 model, .int .i64 room]] w fun e w' => e = .returned (.bool true) ∧ Below w.heap.size w w' := by
  have HKN := Lib.hid hkn
  have HU := Lib.hid hu
  have HC := Lib.hid hc
  obtain ⟨ai, ci, rfl⟩ := hu.i.shape0
  obtain ⟨ar, cr, rfl⟩ := hu.r.shape0
  obtain ⟨ac, cc, rfl⟩ := hu.c.shape0
  obtain ⟨ap, cp, rfl⟩ := hc.p.shape0
  obtain ⟨aq, cq, rfl⟩ := hc.r.shape0
  obtain ⟨am, cm, rfl⟩ := hc.m.shape0
  obtain ⟨ab, cb, rfl⟩ := hc.b.shape0
  clear hu hc hkn
  have HRT := Lib.hid (fun (W : World) (h : Below w.heap.size w W) => light12_any u c model room _ _ _ _ _ _ _ W (HU.out.below h) (HC.out.below h) _ rfl)
  obtain ⟨q, hq⟩ : ∃ q, rightC u c model room = q := ⟨_, rfl⟩
  have HRR := Lib.hid (fun (h1 : lightU u = true) (h2 : lightC c = true) (W : World) (h : Below w.heap.size w W) => rcright_any u c model room _ _ _ _ _ _ _ W (HU.out.below h) (HC.out.below h) (lightU_short h1) (lightC_short h2) q hq)
  have HE := Lib.hid (fun (h1 : lightU u = true) (h2 : lightC c = true) (h3 : q = true) (W : World) (h : Below w.heap.size w W) => hpe u c model room _ _ _ _ _ _ _ W (HU.out.below h) (HC.out.below h) (lightU_short h1) (lightC_short h2) true (hq.trans h3))
  have HD1 := Lib.hid (fun (h1 : lightU u = true) (h2 : lightC c = true) (h3 : q = true) (W : World) (h : Below w.heap.size w W) => hpd0 u (bytZ (encP c.pf) ++ ⟨#[0]⟩) model room _ _ _ W (HU.out.below h) (lightU_short h1) (by rw [ByteArray.size_append]; have := right_tiny (hq.trans h3); show _ + 1 ≤ _; omega) (dec_longer ((rightC_iff u c model room).1 (hq.trans h3)) _ (by decide)))
  have HD2 := Lib.hid (fun (h1 : lightU u = true) (h2 : lightC c = true) (h3 : q = true) (n : Nat) (hn : n < (bytZ (encP c.pf)).size) (W : World) (h : Below w.heap.size w W) => hpd0 u ((bytZ (encP c.pf)).extract 0 n) model room _ _ _ W (HU.out.below h) (lightU_short h1) (by rw [ByteArray.size_extract]; have := right_tiny (hq.trans h3); omega) (dec_shorter ((rightC_iff u c model room).1 (hq.trans h3)) n (by rw [← byt_len]; exact hn)))
  have HCP := Lib.hid (fun (h1 : lightU u = true) (h2 : lightC c = true) (W : World) (h : Below w.heap.size w W) => rcopy_any c _ _ _ _ W (HC.out.below h) (lightC_short h2))
  have HNP : Hid (q = true → 1 ≤ c.pc.length ∧ c.pc.length = c.buf.length ∧ 3 ≤ sizeP c.pf) := Lib.hid (fun h3 => by
    have hR := (rightC_iff u c model room).1 (hq.trans h3)
    have hu := rightU_lc hR.ru
    have h1 : c.pc.length = u.regs.length := hR.lp
    have h4 : c.buf.length = u.regs.length := by have := hR.lb; simpa [Cf.pf] using this
    refine ⟨by omega, by omega, ?_⟩
    unfold sizeP
    show 3 ≤ 3 * c.pc.length + _ + _ + _
    omega)
  have HG := Lib.hid (fun (h1 : lightU u = true) (h2 : lightC c = true) (W : World) (h : Below w.heap.size w W) => hps c _ _ _ _ W (HC.out.below h) (lightC_short h2))
  have HSZ := Lib.hid (fun (h3 : q = true) => And.intro (right_small (hq.trans h3)).1 (right_tiny (hq.trans h3)))
  have HB1K : Hid (∀ (dv : Cf), dv.pf = c.pf → ∀ k (hk : k < dv.buf.length), lightC c = true → (dv.buf[k]).1.length ≤ 1000) := Lib.hid (fun dv h k hk hl => by
    have h9 : dv.buf.map (·.1) = c.buf.map (·.1) := congrArg (fun p : Pf => p.buf) h
    have hm : (dv.buf[k]).1 ∈ c.buf.map (·.1) := by rw [← h9]; exact List.mem_map_of_mem (List.getElem_mem hk)
    obtain ⟨x, hx, e⟩ := List.mem_map.1 hm
    rw [← e]
    unfold lightC at hl
    simp only [Bool.and_eq_true, decide_eq_true_eq, List.all_eq_true] at hl
    have := hl.2.2 x hx
    omega)
  have HSC : Hid (lightC c = true → ShortC c) := Lib.hid lightC_short
  clear HU HC hpe hps hpd0 hq
  generalize hni : u.init.length = ni at HRT HRR HE HD1 HD2 HG HCP HNP ⊢
  generalize hnr : u.regs.length = nr at HRT HRR HE HD1 HD2 HG HCP HNP ⊢
  generalize hnc : u.code.length = nc at HRT HRR HE HD1 HD2 HG HCP HNP ⊢
  generalize hnp : c.pc.length = np at HRT HRR HE HD1 HD2 HG HCP HNP ⊢
  generalize hnq : c.regs.length = nq at HRT HRR HE HD1 HD2 HG HCP HNP ⊢
  generalize hnm : c.mem.length = nm at HRT HRR HE HD1 HD2 HG HCP HNP ⊢
  generalize hnb : c.buf.length = nb at HRT HRR HE HD1 HD2 HG HCP HNP ⊢
  generalize hmd : u.mod = md at HRT HRR HE HD1 HD2 HG HCP HNP ⊢
  have HNBL := Lib.hid hnb
  clear hni hnr hnc hnp hnq hnm hnb hmd

  obtain ⟨r1, hr1⟩ : ∃ q, lightU u = q := ⟨_, rfl⟩
  obtain ⟨r2, hr2⟩ : ∃ q, lightC c = q := ⟨_, rfl⟩
  rw [hr1, hr2] at HRT HRR HE HD1 HD2 HG HCP
  rw [hr2] at HB1K HSC
  clear hr1 hr2
  have Kc := Lib.hid (Bk.new w 31 #[.int .i64 md, .slice ai ni ci, .slice ar nr cr, .slice ac nc cc, .slice ap np cp, .slice aq nq cq, .slice am nm cm, .slice ab nb cb, .int .i64 model, .int .i64 room])
  have B : Hid (Below w.heap.size w (World.alloc w (.cells #[.int .i64 md, .slice ai ni ci, .slice ar nr cr, .slice ac nc cc, .slice ap np cp, .slice aq nq cq, .slice am nm cm, .slice ab nb cb, .int .i64 model, .int .i64 room] 31))) := Lib.hid (bal (Below.refl _ _) _)
  go_enter Try.func7, Try.ntmps7
  go_wp2_with fail
  generalize World.alloc w (.cells #[.int .i64 md, .slice ai ni ci, .slice ar nr cr, .slice ac nc cc, .slice ap np cp, .slice aq nq cq, .slice am nm cm, .slice ab nb cb, .int .i64 model, .int .i64 room] 31) = w1 at Kc B ⊢
  refine (HRT.out w1 B.out).mono ?_
  rintro e w2 ⟨rfl, b⟩
  replace Kc := Lib.hid (Kc.out.below b)
  replace B := Lib.hid (B.out.trans (b.mono B.out.size))
  clear b HRT
  by_cases hl : r1 = true ∧ r2 = true
  ·
    obtain ⟨hl1, hl2⟩ := hl
    subst hl1 hl2
    replace HRR := Lib.hid (HRR.out rfl rfl)
    replace HG := Lib.hid (HG.out rfl rfl)
    replace HCP := Lib.hid (HCP.out rfl rfl)
    replace HE := Lib.hid (HE.out rfl rfl)
    replace HD1 := Lib.hid (HD1.out rfl rfl)
    replace HD2 := Lib.hid (HD2.out rfl rfl)
    replace HSC := Lib.hid (HSC.out rfl)
    replace HB1K : Hid (∀ (dv : Cf), dv.pf = c.pf → ∀ k (hk : k < dv.buf.length), (dv.buf[k]).1.length ≤ 1000) := Lib.hid (fun dv h k hk => HB1K.out dv h k hk rfl)
    obtain ⟨cc0, cc1, cc2, cc3, cc4, cc5, cc6, cc7, cc8, cc9, ccl⟩ : w2.cell? ⟨w.heap.size, 0, none⟩ = some (.int .i64 md) ∧ w2.cell? ⟨w.heap.size, 1, none⟩ = some (.slice ai ni ci) ∧ w2.cell? ⟨w.heap.size, 2, none⟩ = some (.slice ar nr cr) ∧ w2.cell? ⟨w.heap.size, 3, none⟩ = some (.slice ac nc cc) ∧ w2.cell? ⟨w.heap.size, 4, none⟩ = some (.slice ap np cp) ∧ w2.cell? ⟨w.heap.size, 5, none⟩ = some (.slice aq nq cq) ∧ w2.cell? ⟨w.heap.size, 6, none⟩ = some (.slice am nm cm) ∧ w2.cell? ⟨w.heap.size, 7, none⟩ = some (.slice ab nb cb) ∧ w2.cell? ⟨w.heap.size, 8, none⟩ = some (.int .i64 model) ∧ w2.cell? ⟨w.heap.size, 9, none⟩ = some (.int .i64 room) ∧ w.heap.size < w2.heap.size := ⟨Kc.out.cell 0, Kc.out.cell 1, Kc.out.cell 2, Kc.out.cell 3, Kc.out.cell 4, Kc.out.cell 5, Kc.out.cell 6, Kc.out.cell 7, Kc.out.cell 8, Kc.out.cell 9, Kc.out.lt⟩
    go_wp2_with fail
    clear cc0 cc1 cc2 cc3 cc4 cc5 cc6 cc7 cc8 cc9 ccl
    refine (HRR.out w2 B.out).mono ?_
    rintro e w3 ⟨rfl, b⟩
    replace Kc := Lib.hid (Kc.out.below b)
    replace B := Lib.hid (B.out.trans (b.mono B.out.size))
    clear b HRR
    cases q with
    | false =>
      go_wp2_with fail
      refine (HKN.out w3).mono ?_
      rintro e w4 ⟨rfl, b⟩
      replace Kc := Lib.hid (Kc.out.below b)
      replace B := Lib.hid (B.out.trans (b.mono B.out.size))
      clear b
      go_wp2
      go_ret
      exact ⟨ret_bool rfl, B.out⟩
    | true =>
      replace HE := Lib.hid (HE.out rfl)
      replace HD1 := Lib.hid (HD1.out rfl)
      replace HD2 := Lib.hid (HD2.out rfl)
      replace HSZ := Lib.hid (HSZ.out rfl)
      have HNB := Lib.hid (HNP.out rfl)
      have hnp1 := (HNP.out rfl).1
      obtain ⟨es, hes⟩ : ∃ z, z = bytZ (encP c.pf) := ⟨_, rfl⟩
      rw [← hes] at HD1 HD2 HSZ
      simp only [if_true, ← hes] at HE
      clear hes
      have hes3 : 3 ≤ es.size ∧ es.size ≤ 1000 := by have h1 := HSZ.out; have h2 := (HNB.out).2.2; omega
      have hnz : ((np : Int) == 0) = false := by rw [beq_eq_false_iff_ne]; omega
      have hez : ((es.size : Int) == 0) = false := by rw [beq_eq_false_iff_ne]; omega
      have hs1 : ¬ 9223372036854775807 < es.size + 1 := by omega
      obtain ⟨cc0, cc1, cc2, cc3, cc4, cc5, cc6, cc7, cc8, cc9, ccl⟩ : w3.cell? ⟨w.heap.size, 0, none⟩ = some (.int .i64 md) ∧ w3.cell? ⟨w.heap.size, 1, none⟩ = some (.slice ai ni ci) ∧ w3.cell? ⟨w.heap.size, 2, none⟩ = some (.slice ar nr cr) ∧ w3.cell? ⟨w.heap.size, 3, none⟩ = some (.slice ac nc cc) ∧ w3.cell? ⟨w.heap.size, 4, none⟩ = some (.slice ap np cp) ∧ w3.cell? ⟨w.heap.size, 5, none⟩ = some (.slice aq nq cq) ∧ w3.cell? ⟨w.heap.size, 6, none⟩ = some (.slice am nm cm) ∧ w3.cell? ⟨w.heap.size, 7, none⟩ = some (.slice ab nb cb) ∧ w3.cell? ⟨w.heap.size, 8, none⟩ = some (.int .i64 model) ∧ w3.cell? ⟨w.heap.size, 9, none⟩ = some (.int .i64 room) ∧ w.heap.size < w3.heap.size := ⟨Kc.out.cell 0, Kc.out.cell 1, Kc.out.cell 2, Kc.out.cell 3, Kc.out.cell 4, Kc.out.cell 5, Kc.out.cell 6, Kc.out.cell 7, Kc.out.cell 8, Kc.out.cell 9, Kc.out.lt⟩
      go_wp2_with fail
      clear cc0 cc1 cc2 cc3 cc4 cc5 cc6 cc7 cc8 cc9 ccl
      refine (HE.out w3 B.out).mono ?_
      rintro e w4 ⟨rfl, b⟩
      replace Kc := Lib.hid (Kc.out.below b)
      replace B := Lib.hid (B.out.trans (b.mono B.out.size))
      clear b HE
      obtain ⟨cc0, cc1, cc2, cc3, cc4, cc5, cc6, cc7, cc8, cc9, ccl⟩ : w4.cell? ⟨w.heap.size, 0, none⟩ = some (.int .i64 md) ∧ w4.cell? ⟨w.heap.size, 1, none⟩ = some (.slice ai ni ci) ∧ w4.cell? ⟨w.heap.size, 2, none⟩ = some (.slice ar nr cr) ∧ w4.cell? ⟨w.heap.size, 3, none⟩ = some (.slice ac nc cc) ∧ w4.cell? ⟨w.heap.size, 4, none⟩ = some (.slice ap np cp) ∧ w4.cell? ⟨w.heap.size, 5, none⟩ = some (.slice aq nq cq) ∧ w4.cell? ⟨w.heap.size, 6, none⟩ = some (.slice am nm cm) ∧ w4.cell? ⟨w.heap.size, 7, none⟩ = some (.slice ab nb cb) ∧ w4.cell? ⟨w.heap.size, 8, none⟩ = some (.int .i64 model) ∧ w4.cell? ⟨w.heap.size, 9, none⟩ = some (.int .i64 room) ∧ w.heap.size < w4.heap.size := ⟨Kc.out.cell 0, Kc.out.cell 1, Kc.out.cell 2, Kc.out.cell 3, Kc.out.cell 4, Kc.out.cell 5, Kc.out.cell 6, Kc.out.cell 7, Kc.out.cell 8, Kc.out.cell 9, Kc.out.lt⟩
      go_wp2_with fail
      clear cc0 cc1 cc2 cc3 cc4 cc5 cc6 cc7 cc8 cc9 ccl
      refine (HD1.out w4 B.out).mono ?_
      rintro e w5 ⟨rfl, b⟩
      replace Kc := Lib.hid (Kc.out.below b)
      replace B := Lib.hid (B.out.trans (b.mono B.out.size))
      clear b HD1
      obtain ⟨m1, hm1⟩ : ∃ m, es.size = m + 1 := ⟨es.size - 1, by omega⟩
      have hsub : IntKind.i64.wrap ((es.size : Int) - 1) = (m1 : Int) := by rw [IntWalk.i64_in _ (by omega)]; omega
      have hlo : (m1 : Int) ≤ (es.size : Int) := by omega
      have hlo0 : (0 : Int) ≤ (m1 : Int) := by omega
      have hwm : IntKind.i64.wrap (m1 : Int) = (m1 : Int) := IntWalk.i64_in _ (by omega)
      replace HD2 := Lib.hid (HD2.out m1 (by omega))
      replace hm1 := Lib.hid hm1
      have BA : Hid (Below w5.heap.size w5 (World.alloc w5 (.cells #[.slice none 0 0, .slice none 0 0, .slice none 0 0, .slice none 0 0] 29))) := Lib.hid (bal (Below.refl _ _) _)
      obtain ⟨cc0, cc1, cc2, cc3, cc4, cc5, cc6, cc7, cc8, cc9, ccl⟩ : w5.cell? ⟨w.heap.size, 0, none⟩ = some (.int .i64 md) ∧ w5.cell? ⟨w.heap.size, 1, none⟩ = some (.slice ai ni ci) ∧ w5.cell? ⟨w.heap.size, 2, none⟩ = some (.slice ar nr cr) ∧ w5.cell? ⟨w.heap.size, 3, none⟩ = some (.slice ac nc cc) ∧ w5.cell? ⟨w.heap.size, 4, none⟩ = some (.slice ap np cp) ∧ w5.cell? ⟨w.heap.size, 5, none⟩ = some (.slice aq nq cq) ∧ w5.cell? ⟨w.heap.size, 6, none⟩ = some (.slice am nm cm) ∧ w5.cell? ⟨w.heap.size, 7, none⟩ = some (.slice ab nb cb) ∧ w5.cell? ⟨w.heap.size, 8, none⟩ = some (.int .i64 model) ∧ w5.cell? ⟨w.heap.size, 9, none⟩ = some (.int .i64 room) ∧ w.heap.size < w5.heap.size := ⟨Kc.out.cell 0, Kc.out.cell 1, Kc.out.cell 2, Kc.out.cell 3, Kc.out.cell 4, Kc.out.cell 5, Kc.out.cell 6, Kc.out.cell 7, Kc.out.cell 8, Kc.out.cell 9, Kc.out.lt⟩
      go_wp2_with fail
      clear cc0 cc1 cc2 cc3 cc4 cc5 cc6 cc7 cc8 cc9 ccl
      replace Kc := Lib.hid (Kc.out.below BA.out)
      replace B := Lib.hid (B.out.trans (BA.out.mono B.out.size))
      generalize World.alloc w5 (.cells #[.slice none 0 0, .slice none 0 0, .slice none 0 0, .slice none 0 0] 29) = w6 at Kc B ⊢
      clear BA
      have HCC := Lib.hid (fun (W : World) (h : Bk W w.heap.size 31 #[.int .i64 md, .slice ai ni ci, .slice ar nr cr, .slice ac nc cc, .slice ap np cp, .slice aq nq cq, .slice am nm cm, .slice ab nb cb, .int .i64 model, .int .i64 room]) => (⟨h.cell 0, h.cell 1, h.cell 2, h.cell 3, h.cell 4, h.cell 5, h.cell 6, h.cell 7, h.cell 8, h.cell 9, trivial⟩ : (fun W : World => W.cell? ⟨w.heap.size, 0, none⟩ = some (.int .i64 md) ∧ W.cell? ⟨w.heap.size, 1, none⟩ = some (.slice ai ni ci) ∧ W.cell? ⟨w.heap.size, 2, none⟩ = some (.slice ar nr cr) ∧ W.cell? ⟨w.heap.size, 3, none⟩ = some (.slice ac nc cc) ∧ W.cell? ⟨w.heap.size, 4, none⟩ = some (.slice ap np cp) ∧ W.cell? ⟨w.heap.size, 5, none⟩ = some (.slice aq nq cq) ∧ W.cell? ⟨w.heap.size, 6, none⟩ = some (.slice am nm cm) ∧ W.cell? ⟨w.heap.size, 7, none⟩ = some (.slice ab nb cb) ∧ W.cell? ⟨w.heap.size, 8, none⟩ = some (.int .i64 model) ∧ W.cell? ⟨w.heap.size, 9, none⟩ = some (.int .i64 room) ∧ True) W))
      have BZL : Hid (w.heap.size < w6.heap.size) := Lib.hid Kc.out.lt
      go_cut [7, 8] (fun s7 s8 wx => s8 = .int .i64 8 ∧ Bk wx w.heap.size 31 #[.int .i64 md, .slice ai ni ci, .slice ar nr cr, .slice ac nc cc, .slice ap np cp, .slice aq nq cq, .slice am nm cm, .slice ab nb cb, .int .i64 model, .int .i64 room] ∧ Below w.heap.size w wx)
      case first =>
        refine wp_region_held_drew (S := fun W : World => W.cell? ⟨w.heap.size, 0, none⟩ = some (.int .i64 md) ∧ W.cell? ⟨w.heap.size, 1, none⟩ = some (.slice ai ni ci) ∧ W.cell? ⟨w.heap.size, 2, none⟩ = some (.slice ar nr cr) ∧ W.cell? ⟨w.heap.size, 3, none⟩ = some (.slice ac nc cc) ∧ W.cell? ⟨w.heap.size, 4, none⟩ = some (.slice ap np cp) ∧ W.cell? ⟨w.heap.size, 5, none⟩ = some (.slice aq nq cq) ∧ W.cell? ⟨w.heap.size, 6, none⟩ = some (.slice am nm cm) ∧ W.cell? ⟨w.heap.size, 7, none⟩ = some (.slice ab nb cb) ∧ W.cell? ⟨w.heap.size, 8, none⟩ = some (.int .i64 model) ∧ W.cell? ⟨w.heap.size, 9, none⟩ = some (.int .i64 room) ∧ True) (by kernel_rfl) (HCC.out _ Kc.out) (fun hS => ?_)
        refine wpAnyH_take (i := 0) (v := .pointer (some ⟨w.heap.size, 0, none⟩)) rfl (by kernel_rfl) (by kernel_rfl) (by kernel_rfl) (fun _ _ _ h => h) (Or.inl ⟨by rfl, fun w hSw => by obtain ⟨s0, s1, s2, s3, s4, s5, s6, s7, s8, s9, _⟩ := hSw; first | (go_simp; done) | (go_simp; with_reducible rfl)⟩) hS ?_
        simp only [Act.put, List.setIfInBounds_toArray, List.set_cons_zero, List.set_cons_succ]
        refine wpAnyH_take (i := 1) (v := .agg #[.int .i64 md, .slice ai ni ci, .slice ar nr cr, .slice ac nc cc]) rfl (by kernel_rfl) (by kernel_rfl) (by kernel_rfl) (fun _ _ _ h => h) (Or.inl ⟨by rfl, fun w hSw => by obtain ⟨s0, s1, s2, s3, s4, s5, s6, s7, s8, s9, _⟩ := hSw; first | (go_simp; done) | (go_simp; with_reducible rfl)⟩) hS ?_
        simp only [Act.put, List.setIfInBounds_toArray, List.set_cons_zero, List.set_cons_succ]
        refine wpAnyH_take (i := 2) (v := .string es) rfl (by kernel_rfl) (by kernel_rfl) (by kernel_rfl) (fun _ _ _ h => h) (Or.inl ⟨by rfl, fun w hSw => by obtain ⟨s0, s1, s2, s3, s4, s5, s6, s7, s8, s9, _⟩ := hSw; first | (go_simp; done) | (go_simp; with_reducible rfl)⟩) hS ?_
        simp only [Act.put, List.setIfInBounds_toArray, List.set_cons_zero, List.set_cons_succ]
        refine wpAnyH_take (i := 3) (v := .string es) rfl (by kernel_rfl) (by kernel_rfl) (by kernel_rfl) (fun _ _ _ h => h) (Or.inl ⟨by rfl, fun w hSw => by obtain ⟨s0, s1, s2, s3, s4, s5, s6, s7, s8, s9, _⟩ := hSw; first | (go_simp; done) | (go_simp; with_reducible rfl)⟩) hS ?_
        simp only [Act.put, List.setIfInBounds_toArray, List.set_cons_zero, List.set_cons_succ]
        refine wpAnyH_take (i := 4) (v := .int .i64 es.size) rfl (by kernel_rfl) (by kernel_rfl) (by kernel_rfl) (fun _ _ _ h => h) (Or.inl ⟨by rfl, fun w hSw => by obtain ⟨s0, s1, s2, s3, s4, s5, s6, s7, s8, s9, _⟩ := hSw; first | (go_simp; done) | (go_simp; with_reducible rfl)⟩) hS ?_
        simp only [Act.put, List.setIfInBounds_toArray, List.set_cons_zero, List.set_cons_succ]
        refine wpAnyH_take (i := 5) (v := .int .i64 m1) rfl (by kernel_rfl) (by kernel_rfl) (by kernel_rfl) (fun _ _ _ h => h) (Or.inl ⟨by rfl, fun w hSw => by obtain ⟨s0, s1, s2, s3, s4, s5, s6, s7, s8, s9, _⟩ := hSw; first | (go_simp; done) | (go_simp; with_reducible rfl)⟩) hS ?_
        simp only [Act.put, List.setIfInBounds_toArray, List.set_cons_zero, List.set_cons_succ]
        refine wpAnyH_take (i := 6) (v := .string (es.extract 0 m1)) rfl (by kernel_rfl) (by kernel_rfl) (by kernel_rfl) (fun _ _ _ h => h) (Or.inl ⟨by rfl, fun w hSw => by obtain ⟨s0, s1, s2, s3, s4, s5, s6, s7, s8, s9, _⟩ := hSw; first | (go_simp; done) | (go_simp; with_reducible rfl)⟩) hS ?_
        simp only [Act.put, List.setIfInBounds_toArray, List.set_cons_zero, List.set_cons_succ]
        refine wpAnyH_take (i := 7) (v := .pointer (some ⟨w.heap.size, 8, none⟩)) rfl (by kernel_rfl) (by kernel_rfl) (by kernel_rfl) (fun _ _ _ h => h) (Or.inl ⟨by rfl, fun w hSw => by obtain ⟨s0, s1, s2, s3, s4, s5, s6, s7, s8, s9, _⟩ := hSw; first | (go_simp; done) | (go_simp; with_reducible rfl)⟩) hS ?_
        simp only [Act.put, List.setIfInBounds_toArray, List.set_cons_zero, List.set_cons_succ]
        refine wpAnyH_take (i := 8) (v := .int .i64 model) rfl (by kernel_rfl) (by kernel_rfl) (by kernel_rfl) (fun _ _ _ h => h) (Or.inl ⟨by rfl, fun w hSw => by obtain ⟨s0, s1, s2, s3, s4, s5, s6, s7, s8, s9, _⟩ := hSw; first | (go_simp; done) | (go_simp; with_reducible rfl)⟩) hS ?_
        simp only [Act.put, List.setIfInBounds_toArray, List.set_cons_zero, List.set_cons_succ]
        refine wpAnyH_take (i := 9) (v := .pointer (some ⟨w.heap.size, 9, none⟩)) rfl (by kernel_rfl) (by kernel_rfl) (by kernel_rfl) (fun _ _ _ h => h) (Or.inl ⟨by rfl, fun w hSw => by obtain ⟨s0, s1, s2, s3, s4, s5, s6, s7, s8, s9, _⟩ := hSw; first | (go_simp; done) | (go_simp; with_reducible rfl)⟩) hS ?_
        simp only [Act.put, List.setIfInBounds_toArray, List.set_cons_zero, List.set_cons_succ]
        refine wpAnyH_take (i := 10) (v := .int .i64 room) rfl (by kernel_rfl) (by kernel_rfl) (by kernel_rfl) (fun _ _ _ h => h) (Or.inl ⟨by rfl, fun w hSw => by obtain ⟨s0, s1, s2, s3, s4, s5, s6, s7, s8, s9, _⟩ := hSw; first | (go_simp; done) | (go_simp; with_reducible rfl)⟩) hS ?_
        simp only [Act.put, List.setIfInBounds_toArray, List.set_cons_zero, List.set_cons_succ]
        refine wpAnyH_ready (rs := [11, 15]) (by kernel_rfl) (by simp) ?_
        refine AllReadyH.cons rfl (fun K hK => ?_) (AllReadyH.cons rfl (fun K hK => ?_) AllReadyH.nil)
        ·
          go_simp
          refine (HD2.out w6.drew (B.out.drew)).mono ?_
          rintro e w7 ⟨rfl, b0⟩
          have b : Below w6.heap.size w6 w7 := (below_draws' w6).trans b0
          replace Kc := Lib.hid (Kc.out.below b)
          replace B := Lib.hid (B.out.trans (b.mono B.out.size))
          clear b b0 HD2
          go_wp2_with (fail)
          refine hK.out _ _ (HCC.out _ Kc.out) (fun hS => ?_)
          clear hK K
          refine wpAnyH_take (i := 12) (v := .tuple #[.agg #[.slice none 0 0, .slice none 0 0, .slice none 0 0, .slice none 0 0], .int .i64 8]) rfl (by kernel_rfl) (by kernel_rfl) (by kernel_rfl) (fun _ _ _ h => h) (Or.inl ⟨by rfl, fun w hSw => by obtain ⟨s0, s1, s2, s3, s4, s5, s6, s7, s8, s9, _⟩ := hSw; first | (go_simp; done) | (go_simp; with_reducible rfl)⟩) hS ?_
          simp only [Act.put, List.setIfInBounds_toArray, List.set_cons_zero, List.set_cons_succ]
          refine wpAnyH_take (i := 13) (v := .agg #[.slice none 0 0, .slice none 0 0, .slice none 0 0, .slice none 0 0]) rfl (by kernel_rfl) (by kernel_rfl) (by kernel_rfl) (fun _ _ _ h => h) (Or.inl ⟨by rfl, fun w hSw => by obtain ⟨s0, s1, s2, s3, s4, s5, s6, s7, s8, s9, _⟩ := hSw; first | (go_simp; done) | (go_simp; with_reducible rfl)⟩) hS ?_
          simp only [Act.put, List.setIfInBounds_toArray, List.set_cons_zero, List.set_cons_succ]
          refine wpAnyH_take (i := 14) (v := .int .i64 8) rfl (by kernel_rfl) (by kernel_rfl) (by kernel_rfl) (fun _ _ _ h => h) (Or.inl ⟨by rfl, fun w hSw => by obtain ⟨s0, s1, s2, s3, s4, s5, s6, s7, s8, s9, _⟩ := hSw; first | (go_simp; done) | (go_simp; with_reducible rfl)⟩) hS ?_
          simp only [Act.put, List.setIfInBounds_toArray, List.set_cons_zero, List.set_cons_succ]
          refine wpAnyH_ready (rs := [15]) (by kernel_rfl) (by simp) ?_
          refine AllReadyH.cons rfl (fun K hK => ?_) AllReadyH.nil
          go_simp
          have BA : Hid (Below w7.heap.size w7 (World.alloc w7 (.cells #[.slice none 0 0, .slice none 0 0, .slice none 0 0, .slice none 0 0] 29))) := Lib.hid (bal (Below.refl _ _) _)
          have Kz := Lib.hid (Bk.new w7 29 #[.slice none 0 0, .slice none 0 0, .slice none 0 0, .slice none 0 0])
          replace Kc := Lib.hid (Kc.out.below BA.out)
          replace B := Lib.hid (B.out.trans (BA.out.mono B.out.size))
          refine hK.out _ _ (HCC.out _ Kc.out) (fun hS => ?_)
          clear hK K
          obtain ⟨z0, z1, z2, z3, zl⟩ := bk4 Kz.out
          obtain ⟨y0, y1, y2, y3⟩ := bkf4 Kz.out
          refine wpAnyH_ready (rs := [16]) (by kernel_rfl) (by simp) ?_
          refine AllReadyH.cons rfl (fun K hK => ?_) AllReadyH.nil
          go_simp
          clear z0 z1 z2 z3 zl y0 y1 y2 y3 Kz
          generalize World.alloc w7 (.cells #[.slice none 0 0, .slice none 0 0, .slice none 0 0, .slice none 0 0] 29) = w8 at Kc B ⊢
          clear BA
          refine hK.out _ _ (HCC.out _ Kc.out) (fun hS => ?_)
          clear hK K
          refine wpAnyH_take (i := 17) (v := .int .i64 8) rfl (by kernel_rfl) (by kernel_rfl) (by kernel_rfl) (fun _ _ _ h => h) (Or.inl ⟨by rfl, fun w hSw => by obtain ⟨s0, s1, s2, s3, s4, s5, s6, s7, s8, s9, _⟩ := hSw; first | (go_simp; done) | (go_simp; with_reducible rfl)⟩) hS ?_
          simp only [Act.put, List.setIfInBounds_toArray, List.set_cons_zero, List.set_cons_succ]
          try simp only [List.getElem_toArray, List.getElem_cons_succ, List.getElem_cons_zero, List.set_cons_zero, List.set_cons_succ]
          clear hS
          refine wpAnyH_done (by kernel_rfl) ?_ _
          try simp only [Act.put, List.setIfInBounds_toArray, List.set_cons_zero, List.set_cons_succ]
          go_wp2_with fail
          go_meet
          exact ⟨rfl, Kc.out, B.out⟩
        ·
          go_simp
          have BA : Hid (Below w6.heap.size w6 (World.alloc w6 (.cells #[.slice none 0 0, .slice none 0 0, .slice none 0 0, .slice none 0 0] 29))) := Lib.hid (bal (Below.refl _ _) _)
          have Kz := Lib.hid (Bk.new w6 29 #[.slice none 0 0, .slice none 0 0, .slice none 0 0, .slice none 0 0])
          replace Kc := Lib.hid (Kc.out.below BA.out)
          replace B := Lib.hid (B.out.trans (BA.out.mono B.out.size))
          refine hK.out _ _ (HCC.out _ Kc.out) (fun hS => ?_)
          clear hK K
          generalize World.alloc w6 (.cells #[.slice none 0 0, .slice none 0 0, .slice none 0 0, .slice none 0 0] 29) = wz at Kz Kc B BA ⊢
          obtain ⟨gz, hgz⟩ : ∃ gz, gz = w6.heap.size := ⟨_, rfl⟩
          have HBZ : Hid (w.heap.size < gz) := Lib.hid (by rw [hgz]; exact BZL.out)
          rw [← hgz] at Kz ⊢
          clear hgz BA
          refine wpAnyH_ready (rs := [11]) (by kernel_rfl) (by simp) ?_
          refine AllReadyH.cons rfl (fun K hK => ?_) AllReadyH.nil
          go_simp
          refine (HD2.out wz.drew (B.out.drew)).mono ?_
          rintro e w7 ⟨rfl, b0⟩
          have b : Below wz.heap.size wz w7 := (below_draws' wz).trans b0
          replace Kz := Lib.hid (Kz.out.below b)
          replace Kc := Lib.hid (Kc.out.below b)
          replace B := Lib.hid (B.out.trans (b.mono B.out.size))
          clear b b0 HD2
          go_wp2_with (fail)
          refine hK.out _ _ (HCC.out _ Kc.out) (fun hS => ?_)
          clear hK K
          refine wpAnyH_take (i := 12) (v := .tuple #[.agg #[.slice none 0 0, .slice none 0 0, .slice none 0 0, .slice none 0 0], .int .i64 8]) rfl (by kernel_rfl) (by kernel_rfl) (by kernel_rfl) (fun _ _ _ h => h) (Or.inl ⟨by rfl, fun w hSw => by obtain ⟨s0, s1, s2, s3, s4, s5, s6, s7, s8, s9, _⟩ := hSw; first | (go_simp; done) | (go_simp; with_reducible rfl)⟩) hS ?_
          simp only [Act.put, List.setIfInBounds_toArray, List.set_cons_zero, List.set_cons_succ]
          refine wpAnyH_take (i := 13) (v := .agg #[.slice none 0 0, .slice none 0 0, .slice none 0 0, .slice none 0 0]) rfl (by kernel_rfl) (by kernel_rfl) (by kernel_rfl) (fun _ _ _ h => h) (Or.inl ⟨by rfl, fun w hSw => by obtain ⟨s0, s1, s2, s3, s4, s5, s6, s7, s8, s9, _⟩ := hSw; first | (go_simp; done) | (go_simp; with_reducible rfl)⟩) hS ?_
          simp only [Act.put, List.setIfInBounds_toArray, List.set_cons_zero, List.set_cons_succ]
          refine wpAnyH_take (i := 14) (v := .int .i64 8) rfl (by kernel_rfl) (by kernel_rfl) (by kernel_rfl) (fun _ _ _ h => h) (Or.inl ⟨by rfl, fun w hSw => by obtain ⟨s0, s1, s2, s3, s4, s5, s6, s7, s8, s9, _⟩ := hSw; first | (go_simp; done) | (go_simp; with_reducible rfl)⟩) hS ?_
          simp only [Act.put, List.setIfInBounds_toArray, List.set_cons_zero, List.set_cons_succ]
          obtain ⟨z0, z1, z2, z3, zl⟩ := bk4 Kz.out
          obtain ⟨y0, y1, y2, y3⟩ := bkf4 Kz.out
          refine wpAnyH_ready (rs := [16]) (by kernel_rfl) (by simp) ?_
          refine AllReadyH.cons rfl (fun K hK => ?_) AllReadyH.nil
          go_simp
          have hgzw : ¬ w.heap.size = gz := by have := HBZ.out; omega
          replace Kc := Lib.hid (bk_set4 (x0 := .slice none 0 0) (x1 := .slice none 0 0) (x2 := .slice none 0 0) (x3 := .slice none 0 0) hgzw Kc.out)
          replace B := Lib.hid (set4_below (.slice none 0 0) (.slice none 0 0) (.slice none 0 0) (.slice none 0 0) B.out (Nat.le_of_lt HBZ.out))
          clear z0 z1 z2 z3 zl y0 y1 y2 y3 Kz hgzw
          generalize (((w7.setCell _ _).setCell _ _).setCell _ _).setCell _ _ = w8 at Kc B ⊢
          refine hK.out _ _ (HCC.out _ Kc.out) (fun hS => ?_)
          clear hK K
          refine wpAnyH_take (i := 17) (v := .int .i64 8) rfl (by kernel_rfl) (by kernel_rfl) (by kernel_rfl) (fun _ _ _ h => h) (Or.inl ⟨by rfl, fun w hSw => by obtain ⟨s0, s1, s2, s3, s4, s5, s6, s7, s8, s9, _⟩ := hSw; first | (go_simp; done) | (go_simp; with_reducible rfl)⟩) hS ?_
          simp only [Act.put, List.setIfInBounds_toArray, List.set_cons_zero, List.set_cons_succ]
          try simp only [List.getElem_toArray, List.getElem_cons_succ, List.getElem_cons_zero, List.set_cons_zero, List.set_cons_succ]
          clear hS
          refine wpAnyH_done (by kernel_rfl) ?_ _
          try simp only [Act.put, List.setIfInBounds_toArray, List.set_cons_zero, List.set_cons_succ]
          go_wp2_with fail
          go_meet
          exact ⟨rfl, Kc.out, B.out⟩
      case rest =>
        obtain ⟨rfl, kx, bx⟩ := hcut
        replace Kc := Lib.hid kx
        replace B := Lib.hid bx
        clear kx bx
        obtain ⟨w8, rfl⟩ : ∃ z, z = wc := ⟨_, rfl⟩
        have B8S : Hid (w.heap.size ≤ w8.heap.size) := Lib.hid B.out.size
        have KCL : Hid (w.heap.size < w8.heap.size) := Lib.hid Kc.out.lt
        obtain ⟨cc0, cc1, cc2, cc3, cc4, cc5, cc6, cc7, cc8, cc9, ccl⟩ : w8.cell? ⟨w.heap.size, 0, none⟩ = some (.int .i64 md) ∧ w8.cell? ⟨w.heap.size, 1, none⟩ = some (.slice ai ni ci) ∧ w8.cell? ⟨w.heap.size, 2, none⟩ = some (.slice ar nr cr) ∧ w8.cell? ⟨w.heap.size, 3, none⟩ = some (.slice ac nc cc) ∧ w8.cell? ⟨w.heap.size, 4, none⟩ = some (.slice ap np cp) ∧ w8.cell? ⟨w.heap.size, 5, none⟩ = some (.slice aq nq cq) ∧ w8.cell? ⟨w.heap.size, 6, none⟩ = some (.slice am nm cm) ∧ w8.cell? ⟨w.heap.size, 7, none⟩ = some (.slice ab nb cb) ∧ w8.cell? ⟨w.heap.size, 8, none⟩ = some (.int .i64 model) ∧ w8.cell? ⟨w.heap.size, 9, none⟩ = some (.int .i64 room) ∧ w.heap.size < w8.heap.size := ⟨Kc.out.cell 0, Kc.out.cell 1, Kc.out.cell 2, Kc.out.cell 3, Kc.out.cell 4, Kc.out.cell 5, Kc.out.cell 6, Kc.out.cell 7, Kc.out.cell 8, Kc.out.cell 9, Kc.out.lt⟩
        go_wp2_with fail
        clear cc0 cc1 cc2 cc3 cc4 cc5 cc6 cc7 cc8 cc9 ccl
        refine (HCP.out w8 B.out).mono ?_
        rintro e w9 ⟨dv, yp, yr, ym, yb, rfl, od, pd, b, dj⟩
        replace Kc := Lib.hid (Kc.out.below b)
        replace B := Lib.hid (B.out.trans (b.mono B.out.size))
        have PD := Lib.hid pd
        obtain ⟨a0, k0, rfl, _⟩ := own_shape' od.p
        obtain ⟨a1, k1, rfl, _⟩ := own_shape' od.r.h
        obtain ⟨a2, k2, rfl, _⟩ := own_shape' od.m
        have hbl : 0 < dv.buf.length := by
          have h9 : (dv.buf.map (·.1)).length = (c.buf.map (·.1)).length := congrArg (fun p : Pf => p.buf.length) pd
          rw [List.length_map, List.length_map] at h9
          have := (HNB.out).1; have := (HNB.out).2.1; have := HNBL.out; omega
        obtain ⟨gb, kb, hb0, hgb1, hgb2, hgb3, hgb4, _⟩ := own_put od.b.h hbl
        subst hb0
        have h2b : w9.cell? ⟨gb, 0, none⟩ = some (dv.buf[0]).2 := by rw [hgb3, List.getElem?_map, List.getElem?_eq_getElem hbl]; rfl
        have Kd := Lib.hid (Bk.new w9 29 #[.slice a0 dv.pc.length k0, .slice a1 dv.regs.length k1, .slice a2 dv.mem.length k2, .slice (some ⟨gb, 0, none⟩) dv.buf.length kb])
        have BA : Hid (Below w9.heap.size w9 (World.alloc w9 (.cells #[.slice a0 dv.pc.length k0, .slice a1 dv.regs.length k1, .slice a2 dv.mem.length k2, .slice (some ⟨gb, 0, none⟩) dv.buf.length kb] 29))) := Lib.hid (bal (Below.refl _ _) _)
        have OD := Lib.hid (od.below BA.out)
        have HB8 := Lib.hid b.size
        clear b dj od pd hgb3
        obtain ⟨cc0, cc1, cc2, cc3, cc4, cc5, cc6, cc7, cc8, cc9, ccl⟩ : w9.cell? ⟨w.heap.size, 0, none⟩ = some (.int .i64 md) ∧ w9.cell? ⟨w.heap.size, 1, none⟩ = some (.slice ai ni ci) ∧ w9.cell? ⟨w.heap.size, 2, none⟩ = some (.slice ar nr cr) ∧ w9.cell? ⟨w.heap.size, 3, none⟩ = some (.slice ac nc cc) ∧ w9.cell? ⟨w.heap.size, 4, none⟩ = some (.slice ap np cp) ∧ w9.cell? ⟨w.heap.size, 5, none⟩ = some (.slice aq nq cq) ∧ w9.cell? ⟨w.heap.size, 6, none⟩ = some (.slice am nm cm) ∧ w9.cell? ⟨w.heap.size, 7, none⟩ = some (.slice ab nb cb) ∧ w9.cell? ⟨w.heap.size, 8, none⟩ = some (.int .i64 model) ∧ w9.cell? ⟨w.heap.size, 9, none⟩ = some (.int .i64 room) ∧ w.heap.size < w9.heap.size := ⟨Kc.out.cell 0, Kc.out.cell 1, Kc.out.cell 2, Kc.out.cell 3, Kc.out.cell 4, Kc.out.cell 5, Kc.out.cell 6, Kc.out.cell 7, Kc.out.cell 8, Kc.out.cell 9, Kc.out.lt⟩
        go_wp2_with fail
        clear cc0 cc1 cc2 cc3 cc4 cc5 cc6 cc7 cc8 cc9 ccl
        replace Kc := Lib.hid (Kc.out.below BA.out)
        replace B := Lib.hid (B.out.trans (BA.out.mono B.out.size))
        have G2 : gb < (World.alloc w9 (.cells #[.slice a0 dv.pc.length k0, .slice a1 dv.regs.length k1, .slice a2 dv.mem.length k2, .slice (some ⟨gb, 0, none⟩) dv.buf.length kb] 29)).heap.size := by rw [alloc_size]; omega
        have C2 : (World.alloc w9 (.cells #[.slice a0 dv.pc.length k0, .slice a1 dv.regs.length k1, .slice a2 dv.mem.length k2, .slice (some ⟨gb, 0, none⟩) dv.buf.length kb] 29)).cell? ⟨gb, 0, none⟩ = some (dv.buf[0]).2 := (BA.out.cell (p := ⟨gb, _, none⟩) hgb2).trans h2b
        have HGB0 : w.heap.size < w8.heap.size ∧ w8.heap.size ≤ gb ∧ gb < w9.heap.size := ⟨KCL.out, hgb1, hgb2⟩
        clear hgb1
        clear h2b hgb2 hgb4
        generalize World.alloc w9 (.cells #[.slice a0 dv.pc.length k0, .slice a1 dv.regs.length k1, .slice a2 dv.mem.length k2, .slice (some ⟨gb, 0, none⟩) dv.buf.length kb] 29) = wa at Kc B Kd OD G2 C2 ⊢
        obtain ⟨kd, hkd⟩ : ∃ kd, kd = w9.heap.size := ⟨_, rfl⟩
        rw [← hkd] at Kd HGB0 ⊢
        have HGB := Lib.hid HGB0
        clear hkd BA HGB0
        obtain ⟨b0, hb0⟩ : ∃ b0, b0 = (dv.buf[0]).1 := ⟨_, rfl⟩
        obtain ⟨v0, hv0⟩ : ∃ v0, v0 = (dv.buf[0]).2 := ⟨_, rfl⟩
        rw [← hv0] at C2
        have HE0 : Hid (OwnE wa w8.heap.size v0 b0) := Lib.hid (by rw [hb0, hv0]; exact OD.out.b.r _ (List.getElem_mem hbl))
        have HLM : Hid (∀ (wB w' : World) (O : OwnC wB w8.heap.size (.slice a0 dv.pc.length k0) (.slice a1 dv.regs.length k1) (.slice a2 dv.mem.length k2) (.slice (some ⟨gb, 0, none⟩) dv.buf.length kb) dv) (G : wB.grownBy w' v0.ownBlock) (l : List Ent) (v' : Value) (hv : ∃ a m, v' = .slice a l.length m), w'.cell? ⟨gb, 0, none⟩ = some v0 ∧ w'.frozen? ⟨gb, 0, none⟩ = false ∧ gb < w'.heap.size ∧ LenD (w'.setCell ⟨gb, 0, none⟩ v') (.slice a0 dv.pc.length k0) (.slice a1 dv.regs.length k1) (.slice a2 dv.mem.length k2) (.slice (some ⟨gb, 0, none⟩) dv.buf.length kb) { dv with buf := dv.buf.set 0 (l, v') }) := Lib.hid (fun wB w' O G l v' hv => by
          have h := len_more O hbl (by rw [← hv0]; exact G) l hv
          rw [← hv0] at h
          exact h)
        have HB0L : Hid (b0.length ≤ 1000) := Lib.hid (by rw [hb0]; exact HB1K.out dv PD.out 0 hbl)
        have HWW : Hid (w.heap.size ≤ w8.heap.size) := Lib.hid B8S.out
        have HBL := Lib.hid hbl
        have HHB : Hid (dv.buf = (b0, v0) :: dv.buf.tail) := Lib.hid (by rw [hb0, hv0]; exact head_get _ hbl)
        clear hb0 hv0 hbl
        have HC9 := Lib.hid (fun (W : World) (h : Bk W kd 29 #[.slice a0 dv.pc.length k0, .slice a1 dv.regs.length k1, .slice a2 dv.mem.length k2, .slice (some ⟨gb, 0, none⟩) dv.buf.length kb]) => (⟨h.cell 3, trivial⟩ : (fun W : World => W.cell? ⟨kd, 3, none⟩ = some (.slice (some ⟨gb, 0, none⟩) dv.buf.length kb) ∧ True) W))
        go_wp2_with fail
        go_cut [6] (fun s6 wx => s6 = .int .i64 8 ∧ Bk wx kd 29 #[.slice a0 dv.pc.length k0, .slice a1 dv.regs.length k1, .slice a2 dv.mem.length k2, .slice (some ⟨gb, 0, none⟩) dv.buf.length kb] ∧ Bk wx w.heap.size 31 #[.int .i64 md, .slice ai ni ci, .slice ar nr cr, .slice ac nc cc, .slice ap np cp, .slice aq nq cq, .slice am nm cm, .slice ab nb cb, .int .i64 model, .int .i64 room] ∧ Below w.heap.size w wx ∧ ∃ c9 : Cf, LenD wx (.slice a0 dv.pc.length k0) (.slice a1 dv.regs.length k1) (.slice a2 dv.mem.length k2) (.slice (some ⟨gb, 0, none⟩) dv.buf.length kb) c9 ∧ ShortC c9 ∧ sizeP c9.pf = sizeP c.pf + 2)
        case first =>
          have f0 : (0 : Int) < (dv.buf.length : Int) := by have := HBL.out; omega
          have f00 : (0 : Int) ≤ (0 : Int) := Int.le_refl _
          have f1 : ¬ (dv.buf.length : Int) ≤ 0 := by omega
          have f2 : 0 < dv.buf.length := by omega
          refine wp_region_held_drew (S := fun W : World => W.cell? ⟨kd, 3, none⟩ = some (.slice (some ⟨gb, 0, none⟩) dv.buf.length kb) ∧ True) (by kernel_rfl) (HC9.out _ Kd.out) (fun hS => ?_)
          refine wpAnyH_take (i := 0) (v := .pointer (some ⟨kd, 3, none⟩)) rfl (by kernel_rfl) (by kernel_rfl) (by kernel_rfl) (fun _ _ _ h => h) (Or.inl ⟨by rfl, fun w hSw => by obtain ⟨s0, _⟩ := hSw; first | (go_simp; done) | (go_simp; with_reducible rfl)⟩) hS ?_
          simp only [Act.put, List.setIfInBounds_toArray, List.set_cons_zero, List.set_cons_succ]
          refine wpAnyH_take (i := 1) (v := .slice (some ⟨gb, 0, none⟩) dv.buf.length kb) rfl (by kernel_rfl) (by kernel_rfl) (by kernel_rfl) (fun _ _ _ h => h) (Or.inl ⟨by rfl, fun w hSw => by obtain ⟨s0, _⟩ := hSw; first | (go_simp; done) | (go_simp; with_reducible rfl)⟩) hS ?_
          simp only [Act.put, List.setIfInBounds_toArray, List.set_cons_zero, List.set_cons_succ]
          refine wpAnyH_take (i := 2) (v := .pointer (some ⟨kd, 3, none⟩)) rfl (by kernel_rfl) (by kernel_rfl) (by kernel_rfl) (fun _ _ _ h => h) (Or.inl ⟨by rfl, fun w hSw => by obtain ⟨s0, _⟩ := hSw; first | (go_simp; done) | (go_simp; with_reducible rfl)⟩) hS ?_
          simp only [Act.put, List.setIfInBounds_toArray, List.set_cons_zero, List.set_cons_succ]
          refine wpAnyH_take (i := 3) (v := .slice (some ⟨gb, 0, none⟩) dv.buf.length kb) rfl (by kernel_rfl) (by kernel_rfl) (by kernel_rfl) (fun _ _ _ h => h) (Or.inl ⟨by rfl, fun w hSw => by obtain ⟨s0, _⟩ := hSw; first | (go_simp; done) | (go_simp; with_reducible rfl)⟩) hS ?_
          simp only [Act.put, List.setIfInBounds_toArray, List.set_cons_zero, List.set_cons_succ]
          refine wpAnyH_take (i := 4) (v := .pointer (some ⟨gb, 0, none⟩)) rfl (by kernel_rfl) (by kernel_rfl) (by kernel_rfl) (fun _ _ _ h => h) (Or.inl ⟨by rfl, fun w hSw => by obtain ⟨s0, _⟩ := hSw; first | (go_simp; done) | (go_simp; with_reducible rfl)⟩) hS ?_
          simp only [Act.put, List.setIfInBounds_toArray, List.set_cons_zero, List.set_cons_succ]
          refine wpAnyH_take (i := 6) (v := .agg #[.int .i64 0, .int .i64 0]) rfl (by kernel_rfl) (by kernel_rfl) (by kernel_rfl) (fun _ _ _ h => h) (Or.inl ⟨by rfl, fun w hSw => by obtain ⟨s0, _⟩ := hSw; first | (go_simp; done) | (go_simp; with_reducible rfl)⟩) hS ?_
          simp only [Act.put, List.setIfInBounds_toArray, List.set_cons_zero, List.set_cons_succ]
          refine wpAnyH_ready (rs := [5, 7]) (by kernel_rfl) (by simp) ?_
          refine AllReadyH.cons rfl (fun K hK => ?_) (AllReadyH.cons rfl (fun K hK => ?_) AllReadyH.nil)
          ·
            go_simp
            refine hK.out _ _ (HC9.out _ Kd.out) (fun hS => ?_)
            clear hK K
            refine wpAnyH_ready (rs := [7]) (by kernel_rfl) (by simp) ?_
            refine AllReadyH.cons rfl (fun K hK => ?_) AllReadyH.nil
            go_simp
            have BN : Hid (Below wa.heap.size wa (World.alloc wa (.cells #[.int .i64 0, .int .i64 0] 50)).drew) := Lib.hid (bdr (bal (Below.refl _ _) _))
            have KN : Hid (Bk (World.alloc wa (.cells #[.int .i64 0, .int .i64 0] 50)).drew wa.heap.size 50 #[.int .i64 0, .int .i64 0]) := Lib.hid (Bk.new wa.drew _ _)
            replace Kc := Lib.hid (Kc.out.below BN.out)
            replace Kd := Lib.hid (Kd.out.below BN.out)
            replace OD := Lib.hid (OD.out.below BN.out)
            replace HE0 := Lib.hid (own_below HE0.out BN.out)
            replace B := Lib.hid (B.out.trans (BN.out.mono B.out.size))
            replace C2 := (BN.out.cell (p := ⟨gb, _, none⟩) G2).trans C2
            replace G2 := Nat.lt_of_lt_of_le G2 BN.out.size
            refine hK.out _ _ (HC9.out _ Kd.out) (fun hS => ?_)
            clear hK K BN
            have HWA : Hid (w8.heap.size ≤ (World.alloc wa (.cells #[.int .i64 0, .int .i64 0] 50)).drew.heap.size) := Lib.hid (by have := G2; have := HGB.out; omega)
            generalize (World.alloc wa (.cells #[.int .i64 0, .int .i64 0] 50)).drew = wb at Kc Kd OD HE0 B C2 G2 KN HWA ⊢
            refine wpAnyH_ready (rs := [8]) (by kernel_rfl) (by simp) ?_
            refine AllReadyH.cons rfl (fun K hK => ?_) AllReadyH.nil
            rw [if_pos (by rfl)]
            refine ent1_wp (.tmp 83) (.tmp 85) rfl w8.heap.size v0 b0 rfl HE0.out wa.heap.size rfl KN.out (by have := HB0L.out; omega) HWA.out ?_
            intro g' cap' wn GR BL
            have LM := HLM.out wb wn OD.out GR.out (b0 ++ [(0, 0)]) (.slice (some ⟨g', 0, none⟩) (b0.length + 1) cap') ⟨_, _, by rw [List.length_append]; rfl⟩
            obtain ⟨m1', m2', m3', HLD⟩ := LM
            replace Kd := Lib.hid (bk_grown Kd.out GR.out (own_ne_bk HE0.out Kd.out (by decide)))
            replace Kc := Lib.hid (bk_grown Kc.out GR.out (own_ne_bk HE0.out Kc.out (by decide)))
            replace B := Lib.hid (B.out.trans (BL.out.mono HWW.out))
            have HLD2 := Lib.hid HLD
            clear HLD KN GR BL C2 OD HE0
            refine hK.out _ _ (HC9.out _ Kd.out) (fun hS => ?_)
            clear hK K
            refine wpAnyH_take (i := 9) (v := .pointer (some ⟨gb, 0, none⟩)) rfl (by kernel_rfl) (by kernel_rfl) (by kernel_rfl) (fun _ _ _ h => h) (Or.inl ⟨by rfl, fun w hSw => by obtain ⟨s0, _⟩ := hSw; first | (go_simp; done) | (go_simp; with_reducible rfl)⟩) hS ?_
            simp only [Act.put, List.setIfInBounds_toArray, List.set_cons_zero, List.set_cons_succ]
            refine wpAnyH_ready (rs := [10]) (by kernel_rfl) (by simp) ?_
            refine AllReadyH.cons rfl (fun K hK => ?_) AllReadyH.nil
            go_simp
            replace Kd := Lib.hid (show Bk _ _ _ _ from (heap_setCell_other wn ⟨gb, 0, none⟩ kd (.slice (some ⟨g', 0, none⟩) (b0.length + 1) cap') (by have := HGB.out; simp; omega)).trans Kd.out)
            replace Kc := Lib.hid (show Bk _ _ _ _ from (heap_setCell_other wn ⟨gb, 0, none⟩ w.heap.size (.slice (some ⟨g', 0, none⟩) (b0.length + 1) cap') (by have := HGB.out; simp; omega)).trans Kc.out)
            replace B := Lib.hid (Below.setCell (p := ⟨gb, 0, none⟩) B.out (by have := HGB.out; show w.heap.size ≤ gb; omega) (.slice (some ⟨g', 0, none⟩) (b0.length + 1) cap'))
            generalize wn.setCell ⟨gb, 0, none⟩ _ = wf at HLD2 Kd Kc B ⊢
            refine hK.out _ _ (HC9.out _ Kd.out) (fun hS => ?_)
            clear hK K hS
            refine wpAnyH_done (by kernel_rfl) ?_ _
            try simp only [Act.put, List.setIfInBounds_toArray, List.set_cons_zero, List.set_cons_succ]
            go_wp2_with fail
            go_meet
            exact ⟨rfl, Kd.out, Kc.out, B.out, _, HLD2.out, short_more (short_pf PD.out HSC.out) _ _ (by rw [List.length_append]; have := HB0L.out; show _ + 1 ≤ _; omega), by rw [size_head HHB.out, PD.out]⟩
          ·
            go_simp
            have BN : Hid (Below wa.heap.size wa (World.alloc wa (.cells #[.int .i64 0, .int .i64 0] 50)).drew) := Lib.hid (bdr (bal (Below.refl _ _) _))
            have KN : Hid (Bk (World.alloc wa (.cells #[.int .i64 0, .int .i64 0] 50)).drew wa.heap.size 50 #[.int .i64 0, .int .i64 0]) := Lib.hid (Bk.new wa.drew _ _)
            replace Kc := Lib.hid (Kc.out.below BN.out)
            replace Kd := Lib.hid (Kd.out.below BN.out)
            replace OD := Lib.hid (OD.out.below BN.out)
            replace HE0 := Lib.hid (own_below HE0.out BN.out)
            replace B := Lib.hid (B.out.trans (BN.out.mono B.out.size))
            replace C2 := (BN.out.cell (p := ⟨gb, _, none⟩) G2).trans C2
            replace G2 := Nat.lt_of_lt_of_le G2 BN.out.size
            refine hK.out _ _ (HC9.out _ Kd.out) (fun hS => ?_)
            clear hK K BN
            have HWA : Hid (w8.heap.size ≤ (World.alloc wa (.cells #[.int .i64 0, .int .i64 0] 50)).drew.heap.size) := Lib.hid (by have := G2; have := HGB.out; omega)
            generalize (World.alloc wa (.cells #[.int .i64 0, .int .i64 0] 50)).drew = wb at Kc Kd OD HE0 B C2 G2 KN HWA ⊢
            refine wpAnyH_ready (rs := [5]) (by kernel_rfl) (by simp) ?_
            refine AllReadyH.cons rfl (fun K hK => ?_) AllReadyH.nil
            go_simp
            refine hK.out _ _ (HC9.out _ Kd.out) (fun hS => ?_)
            clear hK K
            refine wpAnyH_ready (rs := [8]) (by kernel_rfl) (by simp) ?_
            refine AllReadyH.cons rfl (fun K hK => ?_) AllReadyH.nil
            rw [if_pos (by rfl)]
            refine ent1_wp (.tmp 83) (.tmp 85) rfl w8.heap.size v0 b0 rfl HE0.out wa.heap.size rfl KN.out (by have := HB0L.out; omega) HWA.out ?_
            intro g' cap' wn GR BL
            have LM := HLM.out wb wn OD.out GR.out (b0 ++ [(0, 0)]) (.slice (some ⟨g', 0, none⟩) (b0.length + 1) cap') ⟨_, _, by rw [List.length_append]; rfl⟩
            obtain ⟨m1', m2', m3', HLD⟩ := LM
            replace Kd := Lib.hid (bk_grown Kd.out GR.out (own_ne_bk HE0.out Kd.out (by decide)))
            replace Kc := Lib.hid (bk_grown Kc.out GR.out (own_ne_bk HE0.out Kc.out (by decide)))
            replace B := Lib.hid (B.out.trans (BL.out.mono HWW.out))
            have HLD2 := Lib.hid HLD
            clear HLD KN GR BL C2 OD HE0
            refine hK.out _ _ (HC9.out _ Kd.out) (fun hS => ?_)
            clear hK K
            refine wpAnyH_take (i := 9) (v := .pointer (some ⟨gb, 0, none⟩)) rfl (by kernel_rfl) (by kernel_rfl) (by kernel_rfl) (fun _ _ _ h => h) (Or.inl ⟨by rfl, fun w hSw => by obtain ⟨s0, _⟩ := hSw; first | (go_simp; done) | (go_simp; with_reducible rfl)⟩) hS ?_
            simp only [Act.put, List.setIfInBounds_toArray, List.set_cons_zero, List.set_cons_succ]
            refine wpAnyH_ready (rs := [10]) (by kernel_rfl) (by simp) ?_
            refine AllReadyH.cons rfl (fun K hK => ?_) AllReadyH.nil
            go_simp
            replace Kd := Lib.hid (show Bk _ _ _ _ from (heap_setCell_other wn ⟨gb, 0, none⟩ kd (.slice (some ⟨g', 0, none⟩) (b0.length + 1) cap') (by have := HGB.out; simp; omega)).trans Kd.out)
            replace Kc := Lib.hid (show Bk _ _ _ _ from (heap_setCell_other wn ⟨gb, 0, none⟩ w.heap.size (.slice (some ⟨g', 0, none⟩) (b0.length + 1) cap') (by have := HGB.out; simp; omega)).trans Kc.out)
            replace B := Lib.hid (Below.setCell (p := ⟨gb, 0, none⟩) B.out (by have := HGB.out; show w.heap.size ≤ gb; omega) (.slice (some ⟨g', 0, none⟩) (b0.length + 1) cap'))
            generalize wn.setCell ⟨gb, 0, none⟩ _ = wf at HLD2 Kd Kc B ⊢
            refine hK.out _ _ (HC9.out _ Kd.out) (fun hS => ?_)
            clear hK K hS
            refine wpAnyH_done (by kernel_rfl) ?_ _
            try simp only [Act.put, List.setIfInBounds_toArray, List.set_cons_zero, List.set_cons_succ]
            go_wp2_with fail
            go_meet
            exact ⟨rfl, Kd.out, Kc.out, B.out, _, HLD2.out, short_more (short_pf PD.out HSC.out) _ _ (by rw [List.length_append]; have := HB0L.out; show _ + 1 ≤ _; omega), by rw [size_head HHB.out, PD.out]⟩
        case rest =>
          obtain ⟨rfl, kdx, kx, bx, c9, LD9, SH9, SZ9⟩ := hcut
          replace Kd := Lib.hid kdx
          replace Kc := Lib.hid kx
          replace B := Lib.hid bx
          clear kdx kx bx HLM HE0 OD C2 G2 HC9
          obtain ⟨sz, hsz⟩ : ∃ z, z = sizeP c.pf := ⟨_, rfl⟩
          have hsz1 : sz ≤ 1000 := by have := HSZ.out.1; have := HSZ.out.2; omega
          have HP9 := Lib.hid (fun (W : World) (h : Below wc.heap.size wc W) => psize_len c9 _ _ _ _ W (LD9.below h) SH9)
          have HG9 := Lib.hid (fun (W : World) (h : Below wc.heap.size wc W) => HG.out W (B.out.trans (h.mono B.out.size)))
          rw [SZ9, ← hsz] at HP9
          rw [← hsz] at HG9
          have HBW := Lib.hid B.out
          have HCC := Lib.hid (fun (W : World) (h : Below wc.heap.size wc W) => (⟨(Kc.out.below h).cell 4, (Kc.out.below h).cell 5, (Kc.out.below h).cell 6, (Kc.out.below h).cell 7, (Kd.out.below h).cell 0, (Kd.out.below h).cell 1, (Kd.out.below h).cell 2, (Kd.out.below h).cell 3, h⟩ : (fun W : World => W.cell? ⟨w.heap.size, 4, none⟩ = some (.slice ap np cp) ∧ W.cell? ⟨w.heap.size, 5, none⟩ = some (.slice aq nq cq) ∧ W.cell? ⟨w.heap.size, 6, none⟩ = some (.slice am nm cm) ∧ W.cell? ⟨w.heap.size, 7, none⟩ = some (.slice ab nb cb) ∧ W.cell? ⟨kd, 0, none⟩ = some (.slice a0 dv.pc.length k0) ∧ W.cell? ⟨kd, 1, none⟩ = some (.slice a1 dv.regs.length k1) ∧ W.cell? ⟨kd, 2, none⟩ = some (.slice a2 dv.mem.length k2) ∧ W.cell? ⟨kd, 3, none⟩ = some (.slice (some ⟨gb, 0, none⟩) dv.buf.length kb) ∧ Below wc.heap.size wc W) W))
          have wsz : IntKind.i64.wrap ((sz : Int) + 2) = (sz : Int) + 2 := IntWalk.i64_in _ (by omega)
          have esz : ((((sz + 2 : Nat)) : Int) == (sz : Int) + 2) = true := by rw [beq_iff_eq]; omega
          clear HG LD9 SH9 SZ9 hsz hsz1
          have bb : Below wc.heap.size wc wc := Below.refl _ _
          go_wp2_with fail
          go_region_held3 (fun W : World => W.cell? ⟨w.heap.size, 4, none⟩ = some (.slice ap np cp) ∧ W.cell? ⟨w.heap.size, 5, none⟩ = some (.slice aq nq cq) ∧ W.cell? ⟨w.heap.size, 6, none⟩ = some (.slice am nm cm) ∧ W.cell? ⟨w.heap.size, 7, none⟩ = some (.slice ab nb cb) ∧ W.cell? ⟨kd, 0, none⟩ = some (.slice a0 dv.pc.length k0) ∧ W.cell? ⟨kd, 1, none⟩ = some (.slice a1 dv.regs.length k1) ∧ W.cell? ⟨kd, 2, none⟩ = some (.slice a2 dv.mem.length k2) ∧ W.cell? ⟨kd, 3, none⟩ = some (.slice (some ⟨gb, 0, none⟩) dv.buf.length kb) ∧ Below wc.heap.size wc W)
            (first | with_reducible exact HCC.out _ bb | with_reducible exact HCC.out _ bb.drew | with_reducible assumption | (go_split_ands; with_reducible exact HCC.out _ (by with_reducible assumption)))
            ((first | (go_split_ands; (with_reducible refine Calls.mono (HP9.out _ (by assumption)) ?_); rintro e wn ⟨rfl, bn⟩; have bb : Below wc.heap.size wc wn := Below.trans (by assumption) (bn.mono (Below.size (by assumption)))) | (go_split_ands; (with_reducible refine Calls.mono (HG9.out _ (by assumption)) ?_); rintro e wn ⟨rfl, bn⟩; have bb : Below wc.heap.size wc wn := Below.trans (by assumption) (bn.mono (Below.size (by assumption)))) | (go_split_ands; (with_reducible refine Calls.mono (HKN.out _) ?_); rintro e wn ⟨rfl, bn⟩; have bb : Below wc.heap.size wc wn := Below.trans (by assumption) (bn.mono (Below.size (by assumption))))))
          all_goals
            go_split_ands
            go_wp2
            go_ret
            exact ⟨ret_bool (by simp), HBW.out.trans (Below.mono (by assumption) HBW.out.size)⟩
  have hz : (r1 && r2) = false := by cases r1 <;> cases r2 <;> simp_all
  try rw [hz]
  go_wp2_with fail
  refine (HKN.out w2).mono ?_
  rintro e w3 ⟨rfl, b⟩
  replace Kc := Lib.hid (Kc.out.below b)
  replace B := Lib.hid (B.out.trans (b.mono B.out.size))
  clear b
  go_wp2
  go_ret
  exact ⟨ret_bool rfl, B.out⟩

end Go.Proofs.Ytmkgijedchpgcaa
