/- The reference's parser of programs: thread. -/
import Derived.Test.YtlpgafgiljffhaaGreatDoorHe
import Derived.Deep.RegionLaw
import Derived.Deep.AppendLies
namespace Go.Proofs.YtlpgafgiljffhaaGreatDoor
open Go.RowKit
set_option linter.unusedSimpArgs false
set_option linter.unusedVariables false
theorem SOwn.keepB {w w' : World} {B b T : Nat} {v : Value} {cs : Array Value} {xs : List St} (h : SOwn w B v xs) (hc : Bk w b T cs) (h1 : 61 ≠ T) (h2 : 65 ≠ T) (hk : Keep b w w') : SOwn w' B v xs := by
  obtain ⟨ts, e1, e2, e3⟩ := h
  exact ⟨ts, e1, own_keepB e2 hc h1 hk, fun t ht => ⟨own_keepB (e3 t ht).1 hc h2 hk, own_keepB (e3 t ht).2 hc h2 hk⟩⟩
/-- A thread that is read: the state, the two blocks. -/
structure TF (w : World) (b : Nat) (l : List Tok) (v : Value) (q : Pq) (wr : World) (cs : Array Value) : Prop where
  rs : Rs wr b l v q
  kp : Keep b w wr
  rb : Bk wr w.heap.size 43 #[.string ⟨#[]⟩, .slice none 0 0, .slice none 0 0, .int .i64 0]
  cb : Bk wr (w.heap.size + 1) 43 cs
  lb : b < w.heap.size
  t0 : TokS w b v l
section
variable {w : World} {b : Nat} {l : List Tok} {v : Value} {q q2 : Pq} {wr w2 : World} {cs : Array Value}
theorem TF.call (h : TF w b l v q wr cs) (hs : Rs w2 b l v q2) (hk : Keep b wr w2) : TF w b l v q2 w2 cs :=
  ⟨hs, h.kp.trans hk, h.rb.keep hk (by have := h.lb; omega), h.cb.keep hk (by have := h.lb; omega), h.lb, h.t0⟩
theorem TF.below (h : TF w b l v q wr cs) (hb : Below wr.heap.size wr w2) : TF w b l v q w2 cs := h.call (h.rs.below hb) (Below.keep hb)
theorem TF.next (h : TF w b l v q wr cs) (n : Nat) (x : Int) (hx : x = n) : TF w b l v ⟨n, q.k, q.a⟩ (wr.setCell ⟨b, 1, none⟩ (.int .i64 x)) cs :=
  h.call (h.rs.setN n x hx) ((Keep.refl b wr).setCell 1 (.int .i64 x))
theorem TF.set (h : TF w b l v q wr cs) (k : Nat) (u : Value) : TF w b l v q (wr.setCell ⟨w.heap.size + 1, k, none⟩ u) (cs.setIfInBounds k u) :=
  ⟨h.rs.setNew h.kp h.t0 _ k (by omega) (by have := h.lb; omega) u, hkeep_new h.kp (by omega) u, h.rb.other (by omega) k u, h.cb.set k u, h.lb, h.t0⟩
theorem TF.grown {e size n : Nat} {rv : Value} {xs : List Value} (h : TF w b l v q wr cs) (O : wr.ownsRow w.heap.size e size rv n xs) (h1 : e ≠ 86) (h2 : e ≠ 43) (hg : wr.grownBy w2 rv.ownBlock) : TF w b l v q w2 cs := by
  have hk : Keep b w w2 := keep_grown h.kp hg (fun k hk => (O.lt k hk).1)
  exact ⟨⟨bk_grown O h.rs.bk h1 hg, h.t0.keep hk, h.rs.hn, h.rs.hok, h.rs.hnum⟩, hk, bk_grown O h.rb h2 hg, bk_grown O h.cb h2 hg, h.lb, h.t0⟩
theorem TF.fin (h : TF w b l v q wr cs) (u0 u1 u2 u3 : Value) : Rs ((((wr.setCell ⟨w.heap.size, 0, none⟩ u0).setCell ⟨w.heap.size, 1, none⟩ u1).setCell ⟨w.heap.size, 2, none⟩ u2).setCell ⟨w.heap.size, 3, none⟩ u3) b l v q ∧ Keep b w ((((wr.setCell ⟨w.heap.size, 0, none⟩ u0).setCell ⟨w.heap.size, 1, none⟩ u1).setCell ⟨w.heap.size, 2, none⟩ u2).setCell ⟨w.heap.size, 3, none⟩ u3) := by
  have hb : w.heap.size ≠ b := by have := h.lb; omega
  have k1 := hkeep_new (o := 0) h.kp (Nat.le_refl _) u0
  have k2 := hkeep_new (o := 1) k1 (Nat.le_refl _) u1
  have k3 := hkeep_new (o := 2) k2 (Nat.le_refl _) u2
  exact ⟨(((h.rs.setNew h.kp h.t0 _ 0 (Nat.le_refl _) hb u0).setNew k1 h.t0 _ 1 (Nat.le_refl _) hb u1).setNew k2 h.t0 _ 2 (Nat.le_refl _) hb u2).setNew k3 h.t0 _ 3 (Nat.le_refl _) hb u3, hkeep_new k3 (Nat.le_refl _) u3⟩
theorem own_fin4 {B e size n c T : Nat} {y u0 u1 u2 u3 : Value} {xs : List Value} (h : wr.ownsRow B e size y n xs) (hb : Bk wr c T cs) (he : e ≠ T) : ((((wr.setCell ⟨c, 0, none⟩ u0).setCell ⟨c, 1, none⟩ u1).setCell ⟨c, 2, none⟩ u2).setCell ⟨c, 3, none⟩ u3).ownsRow B e size y n xs :=
  own_setBk (own_setBk (own_setBk (own_setBk h hb he) (hb.set 0 u0) he) ((hb.set 0 u0).set 1 u1) he) (((hb.set 0 u0).set 1 u1).set 2 u2) he
theorem sown_fin4 {B c T : Nat} {y u0 u1 u2 u3 : Value} {xs : List St} (h : SOwn wr B y xs) (hb : Bk wr c T cs) (h1 : 61 ≠ T) (h2 : 65 ≠ T) : SOwn ((((wr.setCell ⟨c, 0, none⟩ u0).setCell ⟨c, 1, none⟩ u1).setCell ⟨c, 2, none⟩ u2).setCell ⟨c, 3, none⟩ u3) B y xs :=
  (((h.setBk hb h1 h2).setBk (hb.set 0 u0) h1 h2).setBk ((hb.set 0 u0).set 1 u1) h1 h2).setBk (((hb.set 0 u0).set 1 u1).set 2 u2) h1 h2
end
theorem bel_drew (w : World) : Below w.heap.size w w.drew := (Below.refl _ _).drew
theorem wrP_n (l : List Tok) (q : Pq) : (wrP l q).n = q.n := by unfold wrP; split <;> rfl
theorem rnm_ge (l : List Tok) (q : Pq) : q.n ≤ (rnmP l q).2.n := by
  unfold rnmP; split
  · exact Nat.le_succ _
  · exact Nat.le_of_eq (wrP_n l q).symm
theorem kyB_lt {l : List Tok} {q : Pq} {x : List UInt8} (h : kyB l q x = true) : q.k = 0 ∧ q.n < l.length := by
  unfold kyB at h
  simp only [Bool.and_eq_true, decide_eq_true_eq] at h
  refine ⟨h.1, ?_⟩
  by_cases hh : q.n < l.length
  · exact hh
  · have h1 := h.2.1
    unfold tokO at h1
    rw [List.getElem?_eq_none (by omega)] at h1
    exact absurd h1 (by decide)
section
variable {w : World} {b : Nat} {l : List Tok} {v : Value} {q : Pq} {w2 : World}
theorem rstmt_u {xs : List St} {j k a : Nat} (h : Rs w b l v q) (hR : bdR l q.n = (xs, j, k, a)) :
    Calls Tryz.prog 85 #[v, .int .i64 q.n] w fun e w' => ∃ u, e = .returned (.tuple #[u, .int .i64 j, .int .i64 k, .int .i64 a]) ∧ SOwn w' w.heap.size u xs ∧ Below w.heap.size w w' := by
  refine (rstmt_any l v q.n w h.cx).mono ?_
  intro e w' hh
  unfold bdR at hR
  cases hs : stmtR l q.n with
  | err k' a' =>
    rw [hs] at hR hh
    cases hR
    exact ⟨_, hh.1, SOwn.nil _ _, hh.2⟩
  | ok ys i =>
    rw [hs] at hR hh
    cases hR
    exact hh
theorem TF.app {rv : Value} {a : List ByteArray} {s nm : ByteArray} {pl : Int} {w3 : World} {g cap : Nat} (h : TF w b l v q w2 #[.string nm, rv, .slice none 0 0, .int .i64 pl]) (O : w2.ownsRow w.heap.size 9 1 rv a.length (rowB a))
    (ho : w3.ownsRow w.heap.size 9 1 (.slice (some ⟨g, 0, none⟩) (a.length + 1) cap) (a.length + 1) (rowB a ++ [.string s])) (hg : (w2.alloc (.cells #[.string s] 9)).grownBy w3 rv.ownBlock) :
    TF w b l v q w3 #[.string nm, rv, .slice none 0 0, .int .i64 pl] ∧ TF w b l v q (w3.setCell ⟨w.heap.size + 1, 1, none⟩ (.slice (some ⟨g, 0, none⟩) (a.length + 1) cap)) #[.string nm, .slice (some ⟨g, 0, none⟩) (a.length + 1) cap, .slice none 0 0, .int .i64 pl] ∧
      (w3.setCell ⟨w.heap.size + 1, 1, none⟩ (.slice (some ⟨g, 0, none⟩) (a.length + 1) cap)).ownsRow w.heap.size 9 1 (.slice (some ⟨g, 0, none⟩) (a.length + 1) cap) (a ++ [s]).length (rowB (a ++ [s])) := by
  have hal := (Below.refl w2.heap.size w2).alloc (Nat.le_refl _) (.cells #[.string s] 9)
  have h3 := (h.below hal).grown (O.alloc _) (by decide) (by decide) hg
  refine ⟨h3, by simpa using h3.set 1 (.slice (some ⟨g, 0, none⟩) (a.length + 1) cap), ?_⟩
  have e1 : (a ++ [s]).length = a.length + 1 := by simp
  have e2 : rowB (a ++ [s]) = rowB a ++ [.string s] := by simp [rowB]
  rw [e1, e2]
  exact own_setBk ho h3.cb (by decide)
set_option maxRecDepth 100000 in
set_option maxHeartbeats 8000000 in
theorem sthread_any (h : Rs w b l v q) (hk : q.k = 0) (hlt : q.n < l.length) :
    Calls Tryz.prog 56 #[.pointer (some ⟨b, 0, none⟩)] w fun e w' => ∃ rv bv, e = .returned (.agg #[.string (rthP l q).1.nm, rv, bv, .int .i64 ((tokO l q.n).2.2.2 : Nat)]) ∧ Rs w' b l v (rthP l q).2 ∧ Keep b w w' ∧
      w'.ownsRow w.heap.size 9 1 rv (rthP l q).1.regs.length (rowB (rthP l q).1.regs) ∧ SOwn w' w.heap.size bv (rthP l q).1.body := by
  obtain ⟨n, qk, qa⟩ := q
  simp only [] at hk hlt
  subst hk
  obtain ⟨ad, cap, rfl⟩ := h.shape
  obtain ⟨g, rfl, hgb, hg, _, _, _, k3⟩ := h.tok n hlt
  have c0 : w.cell? ⟨b, 0, none⟩ = some (.slice (some ⟨g, 0, none⟩) l.length cap) := h.cells.1
  have c1 : w.cell? ⟨b, 1, none⟩ = some (.int .i64 (n : Int)) := h.cells.2.1
  have f1 := h.fz.1
  have lb := h.bk.lt
  have H := Lib.hid h
  have hn := h.hn
  have HNL := Lib.hid hn
  have e2 : (0 : Int) ≤ (n : Int) := by omega
  have e3 : (n : Int) < (l.length : Int) := by omega
  have e4 : IntKind.i64.wrap ((n : Int) + 1) = (n : Int) + 1 := IntWalk.i64_in _ (by omega)
  obtain ⟨i0, hi, hz0, hz1, hz2⟩ := info_parts info_str
  have HNA := Lib.hid (fun (q : Pq) (W : World) (hW : Rs W b l (.slice (some ⟨g, 0, none⟩) l.length cap) q) => sname_any hW)
  have HSG := Lib.hid (fun (q : Pq) (W : World) (hW : Rs W b l (.slice (some ⟨g, 0, none⟩) l.length cap) q) (y : ByteArray) => ssign_any y hW)
  unfold rthP
  simp only []
  have HN1 := Lib.hid (fun (W : World) (hW : Rs W b l (.slice (some ⟨g, 0, none⟩) l.length cap) ⟨n + 1, 0, qa⟩) => HNA.out _ W hW)
  obtain ⟨nm, hnm⟩ : ∃ s, s = (rnmP l ⟨n + 1, 0, qa⟩).1 := ⟨_, rfl⟩
  obtain ⟨q1, hq1⟩ : ∃ s, s = (rnmP l ⟨n + 1, 0, qa⟩).2 := ⟨_, rfl⟩
  rw [← hnm, ← hq1] at HN1 ⊢
  obtain ⟨q2, hq2⟩ : ∃ s, s = rsgP l q1 [123] := ⟨_, rfl⟩
  rw [← hq2]
  obtain ⟨R, hR⟩ : ∃ R, R = rgP l q2 := ⟨_, rfl⟩
  rw [← hR]
  obtain ⟨B, hB⟩ : ∃ B, B = bdP l R.2 := ⟨_, rfl⟩
  rw [← hB]
  obtain ⟨pl, hpl⟩ : ∃ pl : Int, pl = ((tokO l n).2.2.2 : Nat) := ⟨_, rfl⟩
  rw [← hpl] at k3 ⊢
  have HQ2 := Lib.hid hq2
  have HR := Lib.hid hR
  have HB := Lib.hid hB
  clear h hlt hpl hnm hq1 hq2 hR hB
  go_enter Tryz.func56, Tryz.ntmps56
  go_wp2_with fail
  go_region
  have HC : Hid (TF w b l (.slice (some ⟨g, 0, none⟩) l.length cap) ⟨n, 0, qa⟩ ((w.alloc (.cells #[.string ⟨#[]⟩, .slice none 0 0, .slice none 0 0, .int .i64 0] 43)).alloc (.cells #[.string ⟨#[]⟩, .slice none 0 0, .slice none 0 0, .int .i64 pl] 43)).drew #[.string ⟨#[]⟩, .slice none 0 0, .slice none 0 0, .int .i64 pl]) := Lib.hid ⟨H.out.below (hbel2 w _ _), Below.keep (hbel2 w _ _), hbk_drew (hbk_alloc (Bk.new w 43 #[.string ⟨#[]⟩, .slice none 0 0, .slice none 0 0, .int .i64 0]) (.cells #[.string ⟨#[]⟩, .slice none 0 0, .slice none 0 0, .int .i64 pl] 43)), hbk_drew (hbk_new (by rw [alloc_size])), lb, H.out.ts⟩
  generalize World.drew _ = w1 at HC ⊢
  have d1 : w1.cell? ⟨b, 1, none⟩ = some (.int .i64 (n : Int)) := HC.out.rs.cells.2.1
  have d2 := HC.out.rs.fz.1
  have d3 := HC.out.rs.bk.lt
  have HC2 := Lib.hid (HC.out.next (n + 1) ((n : Int) + 1) (by omega))
  clear HC c0 c1 f1 k3 hg hgb e2 e3 hn lb
  go_wp2_with fail
  clear d1 d2 d3 e4
  generalize World.setCell _ _ _ = w2 at HC2 ⊢
  refine (HN1.out _ HC2.out.rs).mono ?_
  rintro e w3 ⟨rfl, h3, k3⟩
  have HC3 := Lib.hid (HC2.out.call h3 k3)
  have x1 := HC3.out.cb.cell 0
  have x2 := HC3.out.cb.fz 0
  have x3 := HC3.out.cb.lt
  have HC4 : Hid (TF w b l (.slice (some ⟨g, 0, none⟩) l.length cap) q1 (w3.setCell ⟨w.heap.size + 1, 0, none⟩ (.string nm)) #[.string nm, .slice none 0 0, .slice none 0 0, .int .i64 pl]) := Lib.hid (by simpa using HC3.out.set 0 (.string nm))
  clear h3 k3 HC2 HC3 HN1
  go_wp2_with fail
  clear x1 x2 x3
  generalize World.setCell _ _ _ = w4 at HC4 ⊢
  refine (HSG.out _ _ HC4.out.rs ⟨#[123]⟩).mono ?_
  rintro e w5 ⟨rfl, h5, k5⟩
  have h5 : Rs w5 b l (.slice (some ⟨g, 0, none⟩) l.length cap) q2 := by rw [HQ2.out]; exact h5
  have HC5 := Lib.hid (HC4.out.call h5 k5)
  clear h5 k5 HC4
  go_wp2_with fail
  obtain ⟨r, hr⟩ : ∃ r, kyB l q2 [114, 101, 103] = r := ⟨_, rfl⟩
  refine (skey_any ⟨#[114, 101, 103]⟩ HC5.out.rs).mono ?_
  rintro e w6 ⟨rfl, b6⟩
  have HC6 := Lib.hid (HC5.out.below b6)
  clear b6 HC5
  rw [show kyB l q2 (⟨#[114, 101, 103]⟩ : ByteArray).data.toList = r from hr]
  have HRR := Lib.hid hr
  clear hr
  go_upto_if 33 with fail
  go_cut [] (fun wx => ∃ rv, Hid (TF w b l (.slice (some ⟨g, 0, none⟩) l.length cap) R.2 wx #[.string nm, rv, .slice none 0 0, .int .i64 pl]) ∧ Hid (wx.ownsRow w.heap.size 9 1 rv R.1.length (rowB R.1)))
  case first =>
    cases r
    · have HRG : Hid (R = ([], q2)) := Lib.hid (by rw [HR.out]; unfold rgP; rw [HRR.out]; rfl)
      clear HR HRR HB HQ2
      go_wp2_with fail
      go_meet
      rw [HRG.out]
      exact ⟨.slice none 0 0, HC6, Lib.hid (World.ownsRow_nil _ _ _ _)⟩
    · obtain ⟨m, hm⟩ : ∃ m, m = rnmP l ⟨q2.n + 1, q2.k, q2.a⟩ := ⟨_, rfl⟩
      obtain ⟨R0, hR0⟩ : ∃ R0, R0 = rgL l (l.length + 1) m.2 [m.1] := ⟨_, rfl⟩
      have HRG : Hid (R = (R0.1, rsgP l R0.2 [59])) := Lib.hid (by rw [HR.out, hR0, hm]; unfold rgP; rw [if_pos HRR.out])
      have hky := kyB_lt HRR.out
      have hm1 : 1 ≤ m.2.n ∧ (m.2.k = 0 → l.length < m.2.n + (l.length + 1)) := by
        have := rnm_ge l ⟨q2.n + 1, q2.k, q2.a⟩
        rw [← hm] at this
        simp only [] at this
        omega
      have HM1 := Lib.hid hm1
      have HR0 := Lib.hid hR0
      have HMM := Lib.hid (fun (W : World) (hW : Rs W b l (.slice (some ⟨g, 0, none⟩) l.length cap) ⟨q2.n + 1, q2.k, q2.a⟩) => HNA.out _ W hW)
      rw [← hm] at HMM
      have d1 : w6.cell? ⟨b, 1, none⟩ = some (.int .i64 (q2.n : Int)) := HC6.out.rs.cells.2.1
      have d2 := HC6.out.rs.fz.1
      have d3 := HC6.out.rs.bk.lt
      have HC7 := Lib.hid (HC6.out.next (q2.n + 1) ((q2.n : Int) + 1) (by omega))
      have e4 : IntKind.i64.wrap ((q2.n : Int) + 1) = (q2.n : Int) + 1 := IntWalk.i64_in _ (by have := HNL.out; omega)
      clear hm hR0 hky hm1 HR HRR HB HC6
      go_upto_region 7 with fail
      clear d1 d2 d3 e4
      generalize World.setCell _ _ _ = w7 at HC7 ⊢
      go_cut [] (fun wx => ∃ rv, Hid (TF w b l (.slice (some ⟨g, 0, none⟩) l.length cap) m.2 wx #[.string nm, rv, .slice none 0 0, .int .i64 pl]) ∧ Hid (wx.ownsRow w.heap.size 9 1 rv [m.1].length (rowB [m.1])))
      case first =>
        have HO7 : Hid (w7.ownsRow w.heap.size 9 1 (.slice none 0 0) ([] : List ByteArray).length (rowB [])) := Lib.hid (World.ownsRow_nil _ _ _ _)
        have hl63 : ([] : List ByteArray).length + 1 ≤ maxLen := by unfold maxLen; decide
        have hl64 : (([] : List ByteArray).length + 1) * 16 ≤ 140737488355328 := by decide
        have x1 := HC7.out.cb.cell 1
        have xl := HC7.out.cb.lt
        have HDR := Lib.hid (HC7.out.below (bel_drew w7))
        have HKP := Lib.hid (HC7.out.kp)
        go_region_law (first
          | (go_simp; go_at_call 55; refine (HMM.out _ HDR.out.rs).mono ?_; rintro e w8 ⟨rfl, h8, k8⟩; have HT8 := Lib.hid (HDR.out.call h8 k8); have HO8 := Lib.hid (own_keepB (own_below HO7.out (bel_drew w7)) HDR.out.rs.bk (by decide) k8); have x8 := HT8.out.cb.cell 1; have xl8 := HT8.out.cb.lt)
          | (refine step_append_lies (s := .tmp 42) (x := .tmp 45) (t := 34) (base := w.heap.size) (e := 9) (i := i0) (z := .string ⟨#[]⟩) (size := 1) (bytes := 16) (v := (.slice none 0 0)) (n := ([] : List ByteArray).length) (xs := rowB ([] : List ByteArray)) (ad := ⟨w8.heap.size, 0, none⟩) (m := 1) (c := 1) (news := [.string m.1]) (H := (w8.alloc (.cells #[.string m.1] 9)).heap.size)
              (hgd := rfl) (ho := rfl) (ht := Tryz.underlying34) (hi := hi) (hz := hz0) (hsize := hz1) (hby := hz2) (hzs := rfl) (hsz := by decide) (hs := by simp [Act.eval]) (hown := HO8.out.alloc _) (hx := by simp [Act.eval]) (hl := rfl)
              (hnews := World.news_of_block (heap_alloc_new w8 _)) (h1 := fun u hu => by simp at hu; subst hu; rfl) (hm := by decide) (h63 := hl63) (hbytes := hl64) (hbase := by have := HT8.out.kp.size; rw [alloc_size]; omega) (hH := rfl) (h := ?_); intro g9 cap9 w9 hown hgrow hat hlt9; have HA9 := Lib.hid (HT8.out.app HO8.out hown hgrow); have x9 := HA9.out.1.cb.cell 1; have y9 := HA9.out.1.cb.fz 1; have xl9 := HA9.out.1.cb.lt))
        all_goals
          go_wp2_with fail
          go_meet
          exact ⟨_, Lib.hid HA9.out.2.1, Lib.hid HA9.out.2.2⟩
      case rest =>
        obtain ⟨rv0, ht0, ho0⟩ := hcut
        obtain ⟨w8, rfl⟩ : ∃ z, z = wc := ⟨_, rfl⟩
        go_wp2_with fail
        go_loopg [] (l.length + 1) (fun fuel wr => ∃ (q' : Pq) (rs' : List ByteArray) (rv' : Value), rgL l fuel q' rs' = R0 ∧ (q'.k = 0 → l.length < q'.n + fuel) ∧ rs'.length ≤ q'.n ∧ Hid (TF w b l (.slice (some ⟨g, 0, none⟩) l.length cap) q' wr #[.string nm, rv', .slice none 0 0, .int .i64 pl]) ∧ Hid (wr.ownsRow w.heap.size 9 1 rv' rs'.length (rowB rs')))
        case atStart => exact ⟨m.2, [m.1], rv0, HR0.out.symm, HM1.out.2, HM1.out.1, ht0, ho0⟩
        case round =>
          clear ht0 ho0
          obtain ⟨q', rs', rv', hRL, hfu, hlen, ht, ho⟩ := hrel
          have c0 : wr.cell? ⟨b, 0, none⟩ = some (.slice (some ⟨g, 0, none⟩) l.length cap) := ht.out.rs.cells.1
          have c1 : wr.cell? ⟨b, 1, none⟩ = some (.int .i64 (q'.n : Int)) := ht.out.rs.cells.2.1
          have c2 : wr.cell? ⟨b, 2, none⟩ = some (.int .i64 (q'.k : Int)) := ht.out.rs.cells.2.2.1
          have hbl := ht.out.rs.bk.lt
          by_cases hk : q'.k = 0
          · have e1 : ((q'.k : Int) == 0) = true := by rw [hk]; rfl
            obtain ⟨r2, hr2⟩ : ∃ r, sgAt l q'.n [44] = r := ⟨_, rfl⟩
            have HI := fun (n : Nat) => Lib.hid ((ris_any l (.slice (some ⟨g, 0, none⟩) l.length cap) q'.n ⟨#[44]⟩ (wr.drewN n) (ht.out.rs.below (below_drewN (Below.refl _ _) n)).cx.ht HNL.out r2 hr2).mono (fun e w' (hh : e = .returned (.bool r2) ∧ (wr.drewN n) = w') => (show e = .returned (.bool r2) ∧ ∃ m, w' = wr.drewN m from ⟨hh.1, n, hh.2.symm⟩)))
            cases r2
            · have HX : Hid (R0 = (rs', q')) := Lib.hid (by rw [← hRL]; rcases gk with _ | f9; (· rfl); (· unfold rgL; rw [if_neg (fun hh => by rw [hr2] at hh; exact absurd hh.2 (by decide))]))
              clear hRL hfu hlen hk hr2
              go_wp2_with fail
              go_quiet ((go_at_call 83; exact (HI _).out))
              have HT2 := Lib.hid (ht.out.below (below_drewN (Below.refl _ _) nq))
              have HO2 := Lib.hid (own_below ho.out (below_drewN (Below.refl _ _) nq))
              generalize wr.drewN nq = wd at HT2 HO2 ⊢
              go_wp2_with fail
              refine (HSG.out _ _ HT2.out.rs ⟨#[59]⟩).mono ?_
              rintro e w9 ⟨rfl, h9, k9⟩
              go_wp2_with fail
              go_meet
              rw [HRG.out, HX.out]
              exact ⟨rv', Lib.hid (HT2.out.call h9 k9), Lib.hid (own_keepB HO2.out HT2.out.rs.bk (by decide) k9)⟩
            · have hlt := sgAt_lt hr2
              have hf1 : 1 ≤ gk := by have := hfu hk; omega
              obtain ⟨f, rfl⟩ : ∃ f, gk = f + 1 := ⟨gk - 1, by omega⟩
              obtain ⟨m2, hm2⟩ : ∃ m2, m2 = rnmP l ⟨q'.n + 1, q'.k, q'.a⟩ := ⟨_, rfl⟩
              have HX : Hid (rgL l f m2.2 (rs' ++ [m2.1]) = R0) := Lib.hid (by rw [← hRL, hm2]; conv => rhs; unfold rgL; rw [if_pos ⟨hk, hr2⟩])
              have HMG : Hid (q'.n + 1 ≤ m2.2.n) := Lib.hid (by rw [hm2]; exact rnm_ge l ⟨q'.n + 1, q'.k, q'.a⟩)
              have HFU : Hid (l.length < q'.n + (f + 1)) := Lib.hid (hfu hk)
              have HLE := Lib.hid hlen
              have HM2 := Lib.hid (fun (W : World) (hW : Rs W b l (.slice (some ⟨g, 0, none⟩) l.length cap) ⟨q'.n + 1, q'.k, q'.a⟩) => HNA.out _ W hW)
              rw [← hm2] at HM2
              have e4 : IntKind.i64.wrap ((q'.n : Int) + 1) = (q'.n : Int) + 1 := IntWalk.i64_in _ (by have := HNL.out; omega)
              have hq5 : rs'.length ≤ 100000 := by have := HNL.out; omega
              clear hRL hfu hlen hk hr2 hm2 hlt hf1
              go_wp2_with fail
              go_quiet ((go_at_call 83; exact (HI _).out))
              have HT2 := Lib.hid (ht.out.below (below_drewN (Below.refl _ _) nq))
              have HO2 := Lib.hid (own_below ho.out (below_drewN (Below.refl _ _) nq))
              generalize wr.drewN nq = wd at HT2 HO2 ⊢
              clear c0 c1 c2 hbl HI ht ho
              have d1 : wd.cell? ⟨b, 1, none⟩ = some (.int .i64 (q'.n : Int)) := HT2.out.rs.cells.2.1
              have d2 := HT2.out.rs.fz.1
              have d3 := HT2.out.rs.bk.lt
              have HT3 := Lib.hid (HT2.out.next (q'.n + 1) ((q'.n : Int) + 1) (by omega))
              have HO3 := Lib.hid (own_setBk (o := 1) (u := .int .i64 ((q'.n : Int) + 1)) HO2.out HT2.out.rs.bk (by decide))
              go_upto_region 10 with fail
              clear d1 d2 d3 e4 HT2 HO2
              generalize World.setCell _ _ _ = w7 at HT3 HO3 ⊢
              have hl63 : rs'.length + 1 ≤ maxLen := by unfold maxLen; omega
              have hl64 : (rs'.length + 1) * 16 ≤ 140737488355328 := by omega
              have x1 := HT3.out.cb.cell 1
              have xl := HT3.out.cb.lt
              have HDR := Lib.hid (HT3.out.below (bel_drew w7))
              have HKP := Lib.hid (HT3.out.kp)
              go_region_law (first
                | (go_simp; go_at_call 55; refine (HM2.out _ HDR.out.rs).mono ?_; rintro e w8 ⟨rfl, h8, k8⟩; have HT8 := Lib.hid (HDR.out.call h8 k8); have HO8 := Lib.hid (own_keepB (own_below HO3.out (bel_drew w7)) HDR.out.rs.bk (by decide) k8); have x8 := HT8.out.cb.cell 1; have xl8 := HT8.out.cb.lt)
                | (refine step_append_lies (s := .tmp 72) (x := .tmp 75) (t := 34) (base := w.heap.size) (e := 9) (i := i0) (z := .string ⟨#[]⟩) (size := 1) (bytes := 16) (v := rv') (n := rs'.length) (xs := rowB rs') (ad := ⟨w8.heap.size, 0, none⟩) (m := 1) (c := 1) (news := [.string m2.1]) (H := (w8.alloc (.cells #[.string m2.1] 9)).heap.size)
                    (hgd := rfl) (ho := rfl) (ht := Tryz.underlying34) (hi := hi) (hz := hz0) (hsize := hz1) (hby := hz2) (hzs := rfl) (hsz := by decide) (hs := by simp [Act.eval]) (hown := HO8.out.alloc _) (hx := by simp [Act.eval]) (hl := rfl)
                    (hnews := World.news_of_block (heap_alloc_new w8 _)) (h1 := fun u hu => by simp at hu; subst hu; rfl) (hm := by decide) (h63 := hl63) (hbytes := hl64) (hbase := by have := HT8.out.kp.size; rw [alloc_size]; omega) (hH := rfl) (h := ?_); intro g9 cap9 w9 hown hgrow hat hlt9; have HA9 := Lib.hid (HT8.out.app HO8.out hown hgrow); have x9 := HA9.out.1.cb.cell 1; have y9 := HA9.out.1.cb.fz 1; have xl9 := HA9.out.1.cb.lt))
              all_goals
                go_wp2_with fail
                go_roundg f
                case measure => omega
                case rel => exact ⟨m2.2, rs' ++ [m2.1], _, HX.out, fun _ => by have := HMG.out; have := HFU.out; omega, by have := HMG.out; have := HLE.out; rw [List.length_append, List.length_singleton]; omega, Lib.hid HA9.out.2.1, Lib.hid HA9.out.2.2⟩
          · have e1 : ((q'.k : Int) == 0) = false := by rw [beq_eq_false_iff_ne]; omega
            have HX : Hid (R0 = (rs', q')) := Lib.hid (by rw [← hRL]; rcases gk with _ | f9; (· rfl); (· unfold rgL; rw [if_neg (fun hh => hk hh.1)]))
            clear hRL hfu hlen hk
            go_wp2_with fail
            go_quiet (fail)
            have HT2 := Lib.hid (ht.out.below (below_drewN (Below.refl _ _) nq))
            have HO2 := Lib.hid (own_below ho.out (below_drewN (Below.refl _ _) nq))
            generalize wr.drewN nq = wd at HT2 HO2 ⊢
            go_wp2_with fail
            refine (HSG.out _ _ HT2.out.rs ⟨#[59]⟩).mono ?_
            rintro e w9 ⟨rfl, h9, k9⟩
            go_wp2_with fail
            go_meet
            rw [HRG.out, HX.out]
            exact ⟨rv', Lib.hid (HT2.out.call h9 k9), Lib.hid (own_keepB HO2.out HT2.out.rs.bk (by decide) k9)⟩
  case rest =>
    obtain ⟨rv, ht, ho⟩ := hcut
    obtain ⟨w7, rfl⟩ : ∃ z, z = wc := ⟨_, rfl⟩
    clear HR HRR HC6 HQ2
    have z2 : w7.cell? ⟨b, 2, none⟩ = some (.int .i64 (R.2.k : Int)) := ht.out.rs.cells.2.2.1
    have zl := ht.out.rs.bk.lt
    go_upto_if 84 with fail
    go_cut [] (fun wx => ∃ rv bv, Hid (TF w b l (.slice (some ⟨g, 0, none⟩) l.length cap) B.2 wx #[.string nm, rv, bv, .int .i64 pl]) ∧ Hid (wx.ownsRow w.heap.size 9 1 rv R.1.length (rowB R.1)) ∧ Hid (SOwn wx w.heap.size bv B.1))
    case first =>
      by_cases hk3 : R.2.k = 0
      · have e1 : ((R.2.k : Int) == 0) = true := by rw [hk3]; rfl
        obtain ⟨bs, j, k, a, hbr⟩ : ∃ bs j k a, bdR l R.2.n = (bs, j, k, a) := ⟨_, _, _, _, rfl⟩
        have HP := Lib.hid (fun (W : World) (hW : Rs W b l (.slice (some ⟨g, 0, none⟩) l.length cap) R.2) => rstmt_u hW hbr)
        have HBD : Hid (B = (bs, ⟨j, (faP R.2 k a).k, (faP R.2 k a).a⟩)) := Lib.hid (by rw [HB.out]; unfold bdP; rw [if_pos hk3, hbr])
        have c0 : w7.cell? ⟨b, 0, none⟩ = some (.slice (some ⟨g, 0, none⟩) l.length cap) := ht.out.rs.cells.1
        have c1 : w7.cell? ⟨b, 1, none⟩ = some (.int .i64 (R.2.n : Int)) := ht.out.rs.cells.2.1
        have HPP := Lib.hid (fun (W : World) (hb : Below w7.heap.size w7 W) => (show Calls Tryz.prog 85 #[.slice (some ⟨g, 0, none⟩) l.length cap, .int .i64 (R.2.n : Int)] W (fun e W2 => ∃ u, e = .returned (.tuple #[u, .int .i64 j, .int .i64 k, .int .i64 a]) ∧ SOwn W2 W.heap.size u bs ∧ Below W.heap.size W W2) from HP.out W (ht.out.rs.below hb)))
        clear hk3 hbr HP HB
        go_upto_region 13 with fail
        generalize R.2.n = n3 at c1 HPP
        generalize l.length = L at c0 HPP
        go_region_held3 (fun w' => w'.cell? ⟨b, 0, none⟩ = some (.slice (some ⟨g, 0, none⟩) L cap) ∧ w'.cell? ⟨b, 1, none⟩ = some (.int .i64 (n3 : Int)) ∧ Below w7.heap.size w7 w')
          (first | exact ⟨c0, c1, Below.refl _ _⟩ | exact ⟨c0, c1, (Below.refl _ _).drew⟩ | assumption | (go_split_ands; exact ⟨(hb3.cell (p := ⟨b, 0, none⟩) zl).trans c0, (hb3.cell (p := ⟨b, 1, none⟩) zl).trans c1, hb3⟩))
          ((go_split_ands; with_reducible refine Calls.mono (HPP.out _ (by assumption)) ?_; rintro e w8 ⟨yv, rfl, hyo, hb2⟩; have hb3 : Below w7.heap.size w7 w8 := Below.trans (by assumption) (hb2.mono (Below.size (by assumption))); have HYO := Lib.hid (hyo.mono (Nat.le_trans ht.out.kp.size (Below.size (by assumption)))); clear hyo))
        have H5 := Lib.hid (ht.out.below hb3)
        have O5 := Lib.hid (own_below ho.out hb3)
        have HFA := Lib.hid (sfault_any k a H5.out.rs)
        obtain ⟨ad2, cap2, rfl⟩ := sown_shape HYO.out
        clear c0 c1 zl hb2
        go_split_ands
        go_wp2_with fail
        refine HFA.out.mono ?_
        rintro e w9 ⟨rfl, h9, k9⟩
        have H6 := Lib.hid (H5.out.call h9 k9)
        have O6 := Lib.hid (own_keepB O5.out H5.out.rs.bk (by decide) k9)
        have P6 := Lib.hid (HYO.out.keepB H5.out.rs.bk (by decide) (by decide) k9)
        have x1 := H6.out.cb.cell 2
        have x2 := H6.out.cb.fz 2
        have x3 := H6.out.cb.lt
        have H7 : Hid (TF w b l (.slice (some ⟨g, 0, none⟩) l.length cap) (faP R.2 k a) (w9.setCell ⟨w.heap.size + 1, 2, none⟩ (.slice ad2 bs.length cap2)) #[.string nm, rv, .slice ad2 bs.length cap2, .int .i64 pl]) := Lib.hid (by simpa using H6.out.set 2 (.slice ad2 bs.length cap2))
        have O7 := Lib.hid (own_setBk (o := 2) (u := .slice ad2 bs.length cap2) O6.out H6.out.cb (by decide))
        have P7 := Lib.hid (P6.out.setBk (o := 2) (u := .slice ad2 bs.length cap2) H6.out.cb (by decide) (by decide))
        have z1 := H7.out.rs.cells.2.1
        have z2 := H7.out.rs.fz.1
        have z4 := H6.out.rs.fz.1
        have z3 := H7.out.rs.bk.lt
        have H8 := Lib.hid (H7.out.next j (j : Int) rfl)
        have O8 := Lib.hid (own_setBk (o := 1) (u := .int .i64 (j : Int)) O7.out H7.out.rs.bk (by decide))
        have P8 := Lib.hid (P7.out.setBk (o := 1) (u := .int .i64 (j : Int)) H7.out.rs.bk (by decide) (by decide))
        clear h9 k9
        go_wp2_with fail
        go_meet
        rw [HBD.out]
        exact ⟨rv, _, H8, O8, P8⟩
      · have e1 : ((R.2.k : Int) == 0) = false := by rw [beq_eq_false_iff_ne]; omega
        have HBD : Hid (B = ([], R.2)) := Lib.hid (by rw [HB.out]; unfold bdP; rw [if_neg hk3])
        clear hk3 HB
        go_wp2_with fail
        go_meet
        rw [HBD.out]
        exact ⟨rv, .slice none 0 0, ht, ho, Lib.hid (SOwn.nil _ _)⟩
    case rest =>
      obtain ⟨rv, bv, ht, ho, hs⟩ := hcut
      obtain ⟨w7, rfl⟩ : ∃ z, z = wc := ⟨_, rfl⟩
      go_wp2_with fail
      refine (HSG.out _ _ ht.out.rs ⟨#[125]⟩).mono ?_
      rintro e w8 ⟨rfl, h8, k8⟩
      have H8 := Lib.hid (ht.out.call h8 k8)
      have O8 := Lib.hid (own_keepB ho.out ht.out.rs.bk (by decide) k8)
      have S8 := Lib.hid (hs.out.keepB ht.out.rs.bk (by decide) (by decide) k8)
      clear h8 k8 ht ho hs
      obtain ⟨ad1, cap1, rfl, _⟩ := own_shape O8.out
      obtain ⟨ad2, cap2, rfl⟩ := sown_shape S8.out
      have c0 := H8.out.cb.cell 0
      have c1 := H8.out.cb.cell 1
      have c2 := H8.out.cb.cell 2
      have c3 := H8.out.cb.cell 3
      have lc := H8.out.cb.lt
      have r0 := H8.out.rb.cell 0
      have r1 := H8.out.rb.cell 1
      have r2 := H8.out.rb.cell 2
      have r3 := H8.out.rb.cell 3
      have t0 := H8.out.rb.fz 0
      have t1 := H8.out.rb.fz 1
      have t2 := H8.out.rb.fz 2
      have t3 := H8.out.rb.fz 3
      have lr := H8.out.rb.lt
      go_wp2_with fail
      refine bodyPost_ret (v := .agg #[.string nm, .slice ad1 R.1.length cap1, .slice ad2 B.1.length cap2, .int .i64 pl]) (results_th rfl _ _ _ _ _ _ _ rfl (H8.out.rb.set4 _ _ _ _)) rfl ⟨_, _, rfl, (H8.out.fin _ _ _ _).1, (H8.out.fin _ _ _ _).2, own_fin4 O8.out H8.out.rb (by decide), sown_fin4 S8.out H8.out.rb (by decide) (by decide)⟩
end

end Go.Proofs.YtlpgafgiljffhaaGreatDoor
