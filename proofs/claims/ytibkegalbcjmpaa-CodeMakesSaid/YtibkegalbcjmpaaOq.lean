/- Layer 6: translating an expression: T. -/
import Derived.Test.YtibkegalbcjmpaaOp
import Derived.Test.YtibkegalbcjmpaaOo
import Derived.Test.YtibkegalbcjmpaaNk
namespace Go.Proofs.Ytibkegalbcjmpaa
open Go.RowKit

/-- The nodes behind the first. -/
theorem nodes_tailT (w0 : World) {b off m cap : Nat} {x : Nd} {tl : List Nd} (h : NdsC w0 (.slice (some ⟨b, off, none⟩) (m + 1) cap) (x :: tl)) (hm : m = tl.length) (h1 : m + 1 ≤ cap) (h2 : cap ≤ 9223372036854775807) :
    ∃ v', (NdsC w0 v' tl) ∧ (∃ a l c, v' = .slice a l c) ∧ (∀ w : World, (Instr.slice 22 (.slice (some ⟨b, off, none⟩) (m + 1) cap) (some (.int .i64 1)) none none).run Try.prog w = .ok v' w) := by
  refine ⟨.slice (if cap = 1 then some ⟨b, off, none⟩ else some ⟨b, off + 5, none⟩) m (cap - 1), ?_, ⟨_, _, _, rfl⟩, fun w => ?_⟩
  · by_cases hc : cap = 1
    · have hm0 : m = 0 := by omega
      subst hm0
      obtain rfl := List.eq_nil_of_length_eq_zero hm.symm
      exact NdsC.none _ _ (by omega)
    · rw [if_neg hc]
      by_cases hm0 : m = 0
      · subst hm0
        obtain rfl := List.eq_nil_of_length_eq_zero hm.symm
        exact NdsC.none _ _ (by omega)
      · have hl : (x :: tl).length = m + 1 := by rw [hm]; rfl
        rw [← hl] at h
        have := h.drop 1 (by rw [hl]; omega)
        rw [hl] at this
        simpa using this
  · clear h hm
    go_simp
    first | rw [if_pos (by omega)] | (intro hx; omega)

/-- What translating an expression gives. -/
def TAnsT (w0 : World) (p1 : Nat) (rest : List Nd) (acc cs : List Opn) (o0 : Option Nat) (W : World) (ok : Bool) (e : Ending) (w' : World) : Prop :=
  e = .returned (.bool ok) ∧ Below w0.heap.size w0 w' ∧ (ok = true → ∃ nv' sv', Bk w' w0.heap.size 86 #[nv', .func (.func 27) #[] #[.pointer (some ⟨p1, 0, none⟩)], sv'] ∧ NdsC w0 nv' rest ∧ w'.ownsRow (w0.heap.size + 1) 53 3 sv' (acc ++ cs).length (rowP (acc ++ cs)) ∧ Fx w0.heap.size o0 W w' ∧ OwnStep W.heap.size o0 sv'.ownBlock)

theorem TAnsT.no {w0 : World} {p1 : Nat} {rest : List Nd} {acc cs : List Opn} {o0 : Option Nat} {W w' : World} (h : Below w0.heap.size w0 w') : TAnsT w0 p1 rest acc cs o0 W false (.returned (.bool false)) w' := ⟨rfl, h, fun h => by cases h⟩

set_option maxRecDepth 100000 in
set_option maxHeartbeats 8000000 in
theorem transT (w0 : World) (p1 : Nat) (rsv : Nd → Opn × Bool) (hR : RsvT w0 p1 rsv) : ∀ (s : Nat) (e : Ex), e.size ≤ s → e.wf → ∀ (rest : List Nd) (acc : List Opn) (nv sv : Value) (W : World), acc.length + e.size ≤ 1000 → Below w0.heap.size w0 W →
    NdsC w0 nv (e.flat ++ rest) → Bk W w0.heap.size 86 #[nv, .func (.func 27) #[] #[.pointer (some ⟨p1, 0, none⟩)], sv] → W.ownsRow (w0.heap.size + 1) 53 3 sv acc.length (rowP acc) →
    Calls Try.prog 50 #[.pointer (some ⟨w0.heap.size, 0, none⟩)] W (TAnsT w0 p1 rest acc (codeE rsv e) sv.ownBlock W (okE rsv e)) := by
  intro s
  induction s with
  | zero => intro e he; have := e.size_pos'; omega
  | succ s ih =>
  intro e he hwf rest acc nv sv W hacc hW hnd hbk hown
  have HIH := Lib.hid ih
  have HWF := Lib.hid hwf
  have HE := Lib.hid he
  have HHW := Lib.hid hW
  have hfl := flat_kids e
  rw [hfl, List.cons_append] at hnd
  obtain ⟨x, hx⟩ : ∃ x, x = hdN e := ⟨_, rfl⟩
  have har := ar_kids e hwf
  rw [← hx] at hnd har
  obtain ⟨ks, hks⟩ : ∃ ks, ks = kidsL e := ⟨_, rfl⟩
  rw [← hks] at hnd har
  have hkl := kids_len e
  rw [← hks] at hkl
  obtain ⟨tl, htl⟩ : ∃ tl, tl = ks.flatMap Ex.flat ++ rest := ⟨_, rfl⟩
  rw [← htl] at hnd
  obtain ⟨ad, cap, rfl, hc1, hc2, hc⟩ := hnd
  obtain ⟨b, off, rfl, hbl, hnode⟩ := hc 0 (by simp)
  obtain ⟨m, hm⟩ : ∃ m, m = tl.length := ⟨_, rfl⟩
  have hL : (x :: tl).length = m + 1 := by rw [hm]; rfl
  have HNW := Lib.hid (show NdsC w0 (.slice (some ⟨b, off, none⟩) (x :: tl).length cap) (x :: tl) from ⟨_, _, rfl, hc1, hc2, hc⟩)
  rw [hL] at hc1 HNW hbk
  have hnx : NdAt W b off x := by
    have := hnode.below hW hbl
    simpa using this
  obtain ⟨xo, xn, xm, xi, xp⟩ := x
  obtain ⟨c0, c1, c2, c3, c4⟩ := hnx
  simp only [] at c0 c1 c2 c3 c4 har
  obtain ⟨ka, hka⟩ : ∃ ka, ka = ks.length := ⟨_, rfl⟩
  rw [← hka] at har hkl
  have HKA := Lib.hid hka
  have HOP := Lib.hid (opOf_n xo ka har)
  obtain ⟨sad, scap, rfl, _⟩ := own_shape' hown
  obtain ⟨o0, ho0⟩ : ∃ o0, o0 = Value.ownBlock (.slice sad acc.length scap) := ⟨_, rfl⟩
  have HOWN := Lib.hid hown
  have HBK := Lib.hid hbk
  have ht := hbk.lt
  have t0 := hbk.cell 0
  have t1 := hbk.cell 1
  have t2 := hbk.cell 2
  have tz := hbk.fz 0
  have HO0 := Lib.hid ho0
  have hb1 : b < W.heap.size := by omega
  have hne : w0.heap.size ≠ b := by omega
  obtain ⟨T, hT⟩ : ∃ T, T = w0.heap.size := ⟨_, rfl⟩
  obtain ⟨na, hna⟩ : ∃ na, na = acc.length := ⟨_, rfl⟩
  have HHT := Lib.hid hT
  have HNA := Lib.hid hna
  have HX := Lib.hid hx
  have HKS := Lib.hid hks
  have HTL := Lib.hid htl
  have HM := Lib.hid hm
  rw [← hT] at ht t0 t1 t2 tz hne hbl ⊢
  rw [← hna] at t2
  rw [← ho0]
  clear ih hwf he hfl hx har hks htl hm hL hown hbk ho0 hka hW hc hnode hT hna
  -- the nodes behind the first
  have hsl : ∃ v', (NdsC w0 v' tl) ∧ (∃ a l c, v' = .slice a l c) ∧ (∀ w : World, (Instr.slice 22 (.slice (some ⟨b, off, none⟩) (m + 1) cap) (some (.int .i64 1)) none none).run Try.prog w = .ok v' w) := nodes_tailT w0 HNW.out HM.out hc1 hc2
  obtain ⟨v', hv1, ⟨a', l', c', rfl⟩, hv3⟩ := hsl
  have HV1 := Lib.hid hv1
  clear hv1
  have hB0 : Below T w0 W := by rw [HHT.out]; exact HHW.out
  have hTo : ∀ g, o0 = some g → T + 1 ≤ g := fun g hg => by rw [HO0.out] at hg; have := (HOWN.out.lt g hg).1; rw [HHT.out]; exact this
  have HTO := Lib.hid hTo
  have hsz : (W.setCell ⟨T, 0, none⟩ (.slice a' l' c')).heap.size = W.heap.size := by simp [World.setCell]
  obtain ⟨W1, hW1⟩ : ∃ W1, W1 = (W.setCell ⟨T, 0, none⟩ (.slice a' l' c')).alloc (.cells #[.int .i64 xo, .int .i64 xn, .string xm, .string xi, .int .i64 xp] 57) := ⟨_, rfl⟩
  have hb1 : Below (W.setCell ⟨T, 0, none⟩ (.slice a' l' c')).heap.size (W.setCell ⟨T, 0, none⟩ (.slice a' l' c')) W1 := by rw [hW1]; exact (Below.refl _ _).alloc (Nat.le_refl _) _
  have F1 : Hid (Fx T o0 W W1) := ((Fx.refl T o0 W).set 0 (.slice a' l' c')).of_below hb1
  have K1 : Hid (Bk W1 T 86 #[.slice a' l' c', .func (.func 27) #[] #[.pointer (some ⟨p1, 0, none⟩)], .slice sad na scap]) := by
    have h := HBK.out
    rw [← HHT.out, ← HNA.out] at h
    exact (h.set 0 (.slice a' l' c')).below hb1
  have N1 : Hid (Bk W1 W.heap.size 57 #[.int .i64 xo, .int .i64 xn, .string xm, .string xi, .int .i64 xp]) := by
    have h := Bk.new (W.setCell ⟨T, 0, none⟩ (.slice a' l' c')) 57 #[.int .i64 xo, .int .i64 xn, .string xm, .string xi, .int .i64 xp]
    rw [hsz, ← hW1] at h
    exact h
  have O1 : Hid (W1.ownsRow (T + 1) 53 3 (.slice sad na scap) acc.length (rowP acc)) := by
    have h := HOWN.out
    rw [← HHT.out] at h
    rw [HNA.out]
    exact own_below (ownsRow_setCell_below h (a := ⟨T, 0, none⟩) (by show T < T + 1; omega) _) hb1
  have B1 : Hid (Below T w0 W1) := hB0.trans (F1.out.below (Nat.le_refl _) (fun g hg => by have := hTo g hg; omega) (by omega))
  have HW1 := Lib.hid hW1
  have hs1 : W.heap.size < W1.heap.size := N1.out.lt
  have HFD := Lib.hid (fun (fv : Value) (w : World) => (show (Instr.field 95 (.agg #[.int .i64 ka, fv]) 0).run Try.prog w = .ok (.int .i64 ka) w by kernel_rfl))
  clear hb1 hsz hTo hW1 hB0
  go_enter Try.func50, Try.ntmps50
  go_wp2_with fail
  rw [← HW1.out]
  refine (HOP.out _).mono ?_
  rintro e' w2 ⟨⟨fv, rfl⟩, b2⟩
  have F2 := Lib.hid (F1.out.of_below b2)
  have K2 := Lib.hid (K1.out.below b2)
  have N2 := Lib.hid (N1.out.below b2)
  have O2 := Lib.hid (own_below O1.out b2)
  have B2 := Lib.hid (B1.out.trans (b2.mono (by omega)))
  have hfd := HFD.out fv
  clear b2 c0 c1 c2 c3 c4 t0 t1 t2 tz
  go_wp2_with fail
  clear hfd
  go_loopg [24] ka (fun fuel i' wr => ∃ (j : Nat) (nvj svj : Value), i' = .int .i64 j ∧ j ≤ ka ∧ ka - j ≤ fuel ∧ Bk wr T 86 #[nvj, .func (.func 27) #[] #[.pointer (some ⟨p1, 0, none⟩)], svj] ∧ NdsC w0 nvj ((ks.drop j).flatMap Ex.flat ++ rest) ∧
    wr.ownsRow (T + 1) 53 3 svj (acc ++ (ks.take j).flatMap (codeE rsv)).length (rowP (acc ++ (ks.take j).flatMap (codeE rsv))) ∧ Fx T o0 W wr ∧ OwnStep (W.heap.size + 1) o0 svj.ownBlock ∧ Bk wr W.heap.size 57 #[.int .i64 xo, .int .i64 xn, .string xm, .string xi, .int .i64 xp] ∧ Below T w0 wr ∧ (ks.take j).all (okE rsv) = true)
  case atStart =>
    refine ⟨0, _, _, rfl, Nat.zero_le _, Nat.le_refl _, K2.out, ?_, ?_, F2.out, ?_, N2.out, B2.out, rfl⟩
    · rw [List.drop_zero, ← HTL.out]; exact HV1.out
    · simpa using O2.out
    · rw [HO0.out, HNA.out]; exact OwnStep.refl _ _
  case round =>
    obtain ⟨j, nvj, svj, rfl, hj, hf, hbkj, hndj, hownj, hfxj, hosj, hnj, hbj, hokj⟩ := hrel
    have HBKJ := Lib.hid hbkj
    have HNDJ := Lib.hid hndj
    have HOWNJ := Lib.hid hownj
    have HFXJ := Lib.hid hfxj
    have HOSJ := Lib.hid hosj
    have HNJ := Lib.hid hnj
    have HBJ := Lib.hid hbj
    have HOKJ := Lib.hid hokj
    have hTr := hbkj.lt
    have hWr := hfxj.size
    obtain ⟨aj, lj, cj, rfl⟩ : ∃ a l c, nvj = .slice a l c := by obtain ⟨a, c, h, _⟩ := hndj; exact ⟨a, _, c, h⟩
    obtain ⟨accj, haccj⟩ : ∃ l, l = acc ++ (ks.take j).flatMap (codeE rsv) := ⟨_, rfl⟩
    rw [← haccj] at HOWNJ hownj
    have HACCJ := Lib.hid haccj
    clear hbkj hndj hfxj hosj hnj hbj hokj haccj
    by_cases hlt : j < ka
    · have hjk : j < ks.length := by have := HKA.out; omega
      have hdr : ks.drop j = ks[j] :: ks.drop (j + 1) := List.drop_eq_getElem_cons hjk
      obtain ⟨k, hk⟩ : ∃ k, k = ks[j] := ⟨_, rfl⟩
      rw [← hk] at hdr
      have hmem : k ∈ kidsL e := by rw [← HKS.out, hk]; exact List.getElem_mem hjk
      have hnd2 := HNDJ.out
      rw [hdr, List.flatMap_cons, List.append_assoc] at hnd2
      have hlen : accj.length + k.size ≤ 1000 := by
        have h1 := kids_sum rsv e j (by rw [← HKS.out]; exact hjk)
        rw [HACCJ.out, List.length_append, hk]
        have h2 : ((ks.take j).flatMap (codeE rsv)).length + (ks[j]).size + 1 ≤ e.size := by simpa only [HKS.out] using h1
        omega
      have hihk := HIH.out k (by have := size_kids e k hmem; have := HE.out; omega) (wf_kids e HWF.out k hmem) ((ks.drop (j + 1)).flatMap Ex.flat ++ rest) accj _ svj wr hlen (by rw [← HHT.out]; exact HBJ.out) hnd2 (by rw [← HHT.out]; exact HBKJ.out) (by rw [← HHT.out]; exact hownj)
      rw [← HHT.out] at hihk
      have HIHK := Lib.hid hihk
      have HK := Lib.hid hk
      obtain ⟨q, hq⟩ : ∃ q, okE rsv k = q := ⟨_, rfl⟩
      rw [hq] at HIHK
      have HQ := Lib.hid hq
      have HMEM := Lib.hid hmem
      have htk : ks.take (j + 1) = ks.take j ++ [ks[j]] := List.take_succ_eq_append_getElem hjk
      rw [← hk] at htk
      have HTK := Lib.hid htk
      clear hdr hk hmem hnd2 hlen hihk hq hownj htk
      go_wp2_with fail
      refine HIHK.out.mono ?_
      rintro e' w4 ⟨rfl, hb4, hyes⟩
      rw [← HHT.out] at hb4
      have HB4 := Lib.hid hb4
      have HYES := Lib.hid hyes
      clear hb4 hyes HIHK
      cases q with
      | false =>
        have hof : okE rsv e = false := by
          rw [okE_kids]
          have : (kidsL e).all (okE rsv) = false := List.all_eq_false.2 ⟨k, HMEM.out, by rw [HQ.out]; decide⟩
          rw [this]; rfl
        have HOF := Lib.hid hof
        clear hof
        go_wp2
        go_ret
        rw [HOF.out]
        exact TAnsT.no (by rw [← HHT.out]; exact HB4.out)
      | true =>
        obtain ⟨nv', sv', g1, g2, g3, g4, g5⟩ := HYES.out rfl
        rw [← HHT.out] at g1 g3 g4
        have G1 := Lib.hid g1
        have G2 := Lib.hid g2
        have G3 := Lib.hid g3
        have G4 := Lib.hid g4
        have G5 := Lib.hid g5
        clear g1 g2 g3 g4 g5 HYES
        go_wp2
        go_roundg (gk - 1)
        case measure => omega
        case rel =>
          have hlt2 := HNJ.out.lt
          have hown2 : ∀ g, Value.ownBlock svj = some g → W.heap.size ≠ g := fun g hg => by
            rcases HOSJ.out with h | ⟨g', h, hg'⟩
            · rw [h, HO0.out] at hg
              have := (HOWN.out.lt g hg).2
              omega
            · rw [h] at hg; injection hg with hg; omega
          have hac : acc ++ (ks.take (j + 1)).flatMap (codeE rsv) = accj ++ codeE rsv k := by rw [HTK.out, HACCJ.out]; simp
          refine ⟨j + 1, nv', sv', by go_num, by omega, by omega, G1.out, G2.out, by rw [hac]; exact G3.out, HFXJ.out.trans (HOSJ.out.mono (by omega)) G4.out, HOSJ.out.trans G5.out (by omega), G4.out.bk HNJ.out (by omega) (fun h => hown2 _ h.symm rfl), HB4.out, ?_⟩
          rw [HTK.out, List.all_append, HOKJ.out]
          simp [HQ.out]
    · obtain rfl : j = ka := by omega
      have htake : ks.take j = ks := List.take_of_length_le (by rw [← HKA.out]; exact Nat.le_refl _)
      have hdrop : ks.drop j = [] := List.drop_of_length_le (by rw [← HKA.out]; exact Nat.le_refl _)
      have hacc2 := HACCJ.out
      rw [htake] at hacc2
      have hokk := HOKJ.out
      rw [htake] at hokk
      have hnd3 := HNDJ.out
      rw [hdrop, List.flatMap_nil, List.nil_append] at hnd3
      have HND3 := Lib.hid hnd3
      obtain ⟨⟨o, bq⟩, ho⟩ : ∃ r, r = stpL rsv ⟨xo, xn, xm, xi, xp⟩ := ⟨_, rfl⟩
      have hcode : acc ++ codeE rsv e = accj ++ [o] := by rw [codeE_kids, ← HKS.out, ← HX.out, ← ho, hacc2]; simp
      have hof : okE rsv e = bq := by rw [okE_kids, ← HKS.out, ← HX.out, ← ho, hokk]; rfl
      have hlen : accj.length ≤ 1000 := by
        have h1 := congrArg List.length hcode
        have h2 := codeE_len rsv e
        simp only [List.length_append, List.length_cons, List.length_nil] at h1
        omega
      have HCODE := Lib.hid hcode
      have HOF := Lib.hid hof
      obtain ⟨sadj, scapj, rfl, _⟩ := own_shape' hownj
      have HST := stepT w0 p1 rsv hR T xo xn xm xi xp wr (by rw [← HHT.out]; exact HBJ.out) _ _ HBKJ.out o bq ho.symm
      have HSTH := Lib.hid HST
      have n0 := HNJ.out.cell 0
      have n1 := HNJ.out.cell 1
      have n2 := HNJ.out.cell 2
      have n3 := HNJ.out.cell 3
      have n4 := HNJ.out.cell 4
      have nl := HNJ.out.lt
      obtain ⟨o1, o2, o3⟩ := o
      obtain ⟨la, hla⟩ : ∃ la, la = accj.length := ⟨_, rfl⟩
      have HLA := Lib.hid hla
      clear htake hdrop hacc2 hokk hnd3 ho hcode hof HST hownj
      go_wp2_with fail
      refine HSTH.out.mono ?_
      rintro e' w5 ⟨rfl, b5⟩
      have hal : Below w5.heap.size w5 (w5.alloc (.cells #[.int .i64 o1, .int .i64 o2, .int .i64 o3] 53)) := (Below.refl _ _).alloc (Nat.le_refl _) _
      have b6 := b5.trans (hal.mono b5.size)
      have N6 := Bk.new w5 53 #[.int .i64 o1, .int .i64 o2, .int .i64 o3]
      have K6 := Lib.hid (HBKJ.out.below b6)
      have F6 := Lib.hid (HFXJ.out.of_below b6)
      have O6 := Lib.hid (own_below HOWNJ.out b6)
      have B6 := Lib.hid (HBJ.out.trans (b6.mono (by omega)))
      clear n0 n1 n2 n3 n4 nl
      have k2 := K6.out.cell 2
      have kl := K6.out.lt
      have y0 := N6.cell 0
      have y1 := N6.cell 1
      have y2 := N6.cell 2
      have yl := N6.lt
      clear N6 hal b5
      go_wp2_with fail
      generalize w5.alloc (.cells #[.int .i64 o1, .int .i64 o2, .int .i64 o3] 53) = w6 at *
      have HG7 : Hid (∀ V, World.grownBy ((w6.alloc (.cells #[.int .i64 o1, .int .i64 o2, .int .i64 o3] 53)).drew) V (Value.ownBlock (.slice sadj accj.length scapj)) → Bk V T 86 #[.slice aj lj cj, .func (.func 27) #[] #[.pointer (some ⟨p1, 0, none⟩)], .slice sadj accj.length scapj] ∧ Fx T o0 W V ∧ Below T w0 V) := Lib.hid fun V hV => by
        have hdr : Below w6.heap.size w6 ((w6.alloc (.cells #[.int .i64 o1, .int .i64 o2, .int .i64 o3] 53)).drew) := ((Below.refl _ _).alloc (Nat.le_refl _) _).trans (below_end 1)
        have hTn : ∀ g, Value.ownBlock (.slice sadj accj.length scapj) = some g → T + 1 ≤ g := fun g hg => (O6.out.lt g hg).1
        have k7 := K6.out.below hdr
        have hsame : V.heap[T]? = ((w6.alloc (.cells #[.int .i64 o1, .int .i64 o2, .int .i64 o3] 53)).drew).heap[T]? := hV.block T k7.lt (fun h => by have := hTn T h.symm; omega)
        refine ⟨?_, (F6.out.of_below hdr).grown (HOSJ.out.mono (by omega)) hV, ?_⟩
        · unfold Bk at k7 ⊢; rw [hsame]; exact k7
        · exact (B6.out.trans (hdr.mono (by omega))).grown hV (by have := hdr.size; omega) (fun g hg => by have := hTn g hg; omega)
      have w6s : T + 1 ≤ w6.heap.size := kl
      have hl1 : accj.length ≤ 1000000 := by omega
      go_region_law (refine step_append_op (hgd := rfl) (s := .tmp 40) (x := .tmp 42) (ho := rfl) (base := T + 1) (v := .slice sadj accj.length scapj) (xs := accj) (y0 := o1) (y1 := o2) (y2 := o3) (hs := by simp [Act.eval]) (g := w6.heap.size) (hx := by simp [Act.eval]) (hown := own_below O6.out ((Below.refl _ _).drew.alloc (by simp) _)) (hc := heap_alloc_new _ _) (hn := hl1) (hbase := by simp; omega) (h := ?_); intro g' cap' w7 h1 h2 h3 h4; obtain ⟨k7, f7, b7⟩ := HG7.out _ h2; have z2 := k7.cell 2; have y7 := k7.fz 2; have l7 := k7.lt)
      all_goals
        go_wp2
        go_ret
        rw [HOF.out]
        refine ⟨rfl, ?_, fun _ => ⟨.slice aj lj cj, .slice (some ⟨g', 0, none⟩) (accj.length + 1) cap', ?_, HND3.out, ?_, ?_, ?_⟩⟩
        · rw [← HHT.out]; exact b7.setCell (p := ⟨T, 2, none⟩) (Nat.le_refl _) _
        · rw [← HHT.out]; have h9 := k7.set 2 (.slice (some ⟨g', 0, none⟩) (accj.length + 1) cap'); simpa using h9
        · rw [← HHT.out, HCODE.out]; exact ownsRow_setCell_below h1 (a := ⟨T, 2, none⟩) (by show T < T + 1; omega) _
        · rw [← HHT.out]; exact f7.set 2 _
        · rcases h3 with h | h
          · have h9 := HOSJ.out
            rw [h] at h9
            exact h9.mono (by omega)
          · have h9 : w6.heap.size ≤ g' := by simp at h; omega
            exact .inr ⟨g', rfl, by have := F6.out.size; omega⟩

end Go.Proofs.Ytibkegalbcjmpaa
