/- legal: registers. legal: nodes. legal: statements. -/
import Derived.Test.YtlpgafgiljffhaaGreatDoorHi
import Derived.Deep.DeepCutAuto
namespace Go.Proofs.YtlpgafgiljffhaaGreatDoor
open Go.RowKit
open Go.Maps (Keyed IsMap Tidy setOf)
set_option linter.unusedSimpArgs false
set_option linter.unusedVariables false
def rgsC (LL : List ByteArray) : List ByteArray → List ByteArray → Bool
  | [], _ => true
  | x :: l, a => if inB a x = true then false else if inB LL x = true then false else rgsC LL l (a ++ [x])
def rgC (LL rs : List ByteArray) : Nat := if 6 < rs.length then 12 else if rgsC LL rs [] = true then 0 else 10
theorem rgsC_cons (LL : List ByteArray) (x : ByteArray) (l a : List ByteArray) : rgsC LL (x :: l) a = if inB a x = true then false else if inB LL x = true then false else rgsC LL l (a ++ [x]) := rfl
section
variable {w0 w w' : World} {cb LB RB : Nat} {m : Int} {LL : List ByteArray}
set_option maxRecDepth 100000 in
set_option maxHeartbeats 4000000 in
theorem registers_any (rs : List ByteArray) (v : Value) (hc : CK w0 w cb LB RB m) (hs : SetB w LB LL) (hv : StrsD w0 v rs) (hn : rs.length ≤ 100000) (hz : ∀ s ∈ rs, s.size ≤ 100000) :
    Calls Tryz.prog 44 #[.pointer (some ⟨cb, 0, none⟩), v] w fun e w' => ∃ mv, e = .returned (.tuple #[mv, .int .i64 (rgC LL rs : Nat)]) ∧ Below w.heap.size w w' ∧ (rgC LL rs = 0 → ∃ B, mv = .map (some B) ∧ w.heap.size ≤ B ∧ SetB w' B rs) := by
  have HV := Lib.hid hv
  obtain ⟨ad, cap, rfl⟩ := SlD.shape hv
  obtain ⟨n, hnn⟩ : ∃ n, n = rs.length := ⟨_, rfl⟩
  have HR : Hid (rgC LL rs = if 6 < n then 12 else if rgsC LL rs [] = true then 0 else 10) := Lib.hid (by rw [hnn]; rfl)
  rw [← hnn] at hn ⊢
  have HN := Lib.hid hnn
  have HZ := Lib.hid hz
  have HC := Lib.hid hc
  have HS := Lib.hid hs
  have hmm := @run_makeMap Tryz.prog
  clear hv hz hc hs hnn
  by_cases h6 : 6 < n
  · rw [HR.out, if_pos h6]
    have e6 : (6 : Int) < (n : Int) := by omega
    clear h6 HR
    go_enter Tryz.func44, Tryz.ntmps44
    go_wp2_with fail
    exact bodyPost_ret (v := .tuple #[.map none, .int .i64 12]) (by simp [results, Tryz.results44, go_sem]) rfl ⟨_, rfl, Below.refl _ _, fun h => absurd h (by decide)⟩
  · rw [if_neg h6] at HR
    have e6 : ¬ (6 : Int) < (n : Int) := by omega
    obtain ⟨r, hr⟩ : ∃ r, rgsC LL rs [] = r := ⟨_, rfl⟩
    rw [hr] at HR
    rw [HR.out]
    have HRR := Lib.hid hr
    clear hr
    go_enter Tryz.func44, Tryz.ntmps44
    go_wp2_with fail
    go_loopg [15] n (fun fuel i' wr => ∃ k : Nat, i' = .int .i64 k ∧ k ≤ n ∧ n - k ≤ fuel ∧ rgsC LL (rs.drop k) (rs.take k) = r ∧ Hid (SetB wr w.heap.size (rs.take k)) ∧ Hid (Below w.heap.size w wr))
    case atStart => exact ⟨0, rfl, Nat.zero_le _, Nat.le_refl _, HRR.out, Lib.hid (SetB.new w), Lib.hid ((Below.refl _ _).alloc (Nat.le_refl _) _)⟩
    case round =>
      obtain ⟨k, rfl, hk, hf, ha, hs, hb⟩ := hrel
      clear HRR
      have HC1 := Lib.hid (HC.out.below hb.out)
      have HS1 := Lib.hid (HS.out.below hb.out)
      by_cases hlt : k < n
      · have hky : k < rs.length := by have := HN.out; omega
        have hvd := StrsD.below HV.out HC1.out.bl
        obtain ⟨ad', cap', hve, _, _, hcc⟩ := hvd
        obtain ⟨bb, off, hba, hbl, x0⟩ := hcc k hky
        have he1 : ad = ad' := by injection hve
        rw [← he1] at hba
        subst hba
        obtain ⟨x, hx⟩ : ∃ x, x = rs[k] := ⟨_, rfl⟩
        rw [← hx] at x0
        have x0 : wr.cell? ⟨bb, off + k * 1, none⟩ = some (.string x) := x0
        rw [Nat.mul_one] at x0
        have hxz := HZ.out x (by rw [hx]; exact List.getElem_mem hky)
        have hdr : rs.drop k = x :: rs.drop (k + 1) := by rw [hx]; exact List.drop_eq_getElem_cons hky
        have htk : rs.take (k + 1) = rs.take k ++ [x] := by rw [hx]; exact List.take_succ_eq_append_getElem hky
        have hlen : (rs.take k).length = k := by rw [List.length_take]; omega
        rw [hdr, rgsC_cons] at ha
        have HTK := Lib.hid htk
        have HLEN := Lib.hid hlen
        obtain ⟨Lk, hLk⟩ : ∃ L, L = rs.take k := ⟨_, rfl⟩
        rw [← hLk] at ha hs HTK HLEN
        have HHS := Lib.hid hs.out
        have HB := Lib.hid hb.out
        obtain ⟨t1, ht1⟩ : ∃ t, inB Lk x = t := ⟨_, rfl⟩
        obtain ⟨t2, ht2⟩ : ∃ t, inB LL x = t := ⟨_, rfl⟩
        have H1 := Lib.hid (fun (W : World) (h : SetB W w.heap.size Lk) => has_any h x (by unfold maxLen; omega))
        have H2 := Lib.hid (fun (W : World) (h : SetB W LB LL) => has_any h x (by unfold maxLen; omega))
        rw [ht1] at ha H1
        rw [ht2] at ha H2
        clear hx hdr htk hlen hLk hs hcc hb ht1 ht2 hve he1 hky
        go_wp2_with fail
        refine (H1.out _ HHS.out).mono ?_
        rintro e w2 ⟨rfl, b2⟩
        have HC2 := Lib.hid (HC1.out.below b2)
        have HS2 := Lib.hid (HS1.out.below b2)
        have HHS2 := Lib.hid (HHS.out.below b2)
        have HB2 := Lib.hid (HB.out.trans (b2.mono HB.out.size))
        clear b2 x0
        cases t1
        · rw [if_neg (by decide)] at ha
          have c1 : w2.cell? ⟨cb, 1, none⟩ = some (.map (some LB)) := HC2.out.bk.cell 1
          have l1 := HC2.out.bk.lt
          go_wp2_with fail
          refine (H2.out _ HS2.out).mono ?_
          rintro e w3 ⟨rfl, b3⟩
          have HHS3 := Lib.hid (HHS2.out.below b3)
          have HB3 := Lib.hid (HB2.out.trans (b3.mono HB2.out.size))
          clear b3 c1 l1
          cases t2
          · rw [if_neg (by decide)] at ha
            go_wp2_with fail
            refine (add_any HHS3.out x (by unfold maxLen; omega) (by have := HLEN.out; unfold maxLen; omega)).mono ?_
            rintro e w4 ⟨rfl, h4, g4⟩
            have HB4 := Lib.hid (HB3.out.grown g4 HB3.out.size (fun j hj => by injection hj with hj; omega))
            have HS4 := Lib.hid h4
            clear h4 g4
            go_wp2_with fail
            go_roundg (gk - 1)
            case measure => omega
            case rel => exact ⟨k + 1, by go_num, by omega, by omega, by rw [HTK.out]; exact ha, by rw [HTK.out]; exact HS4, HB4⟩
          · rw [if_pos rfl] at ha
            subst ha
            go_wp2_with fail
            exact bodyPost_ret (v := .tuple #[.map none, .int .i64 10]) (by simp [results, Tryz.results44, go_sem]) rfl ⟨⟨_, rfl⟩, HB3.out⟩
        · rw [if_pos rfl] at ha
          subst ha
          go_wp2_with fail
          exact bodyPost_ret (v := .tuple #[.map none, .int .i64 10]) (by simp [results, Tryz.results44, go_sem]) rfl ⟨⟨_, rfl⟩, HB2.out⟩
      · obtain rfl : k = n := by omega
        rw [show rs.drop k = [] by rw [HN.out]; exact List.drop_length] at ha
        rw [show rs.take k = rs by rw [HN.out]; exact List.take_length] at hs
        subst ha
        go_wp2_with fail
        exact bodyPost_ret (v := .tuple #[.map (some w.heap.size), .int .i64 0]) (by simp [results, Tryz.results44, go_sem]) rfl ⟨_, rfl, hb.out, _, rfl, Nat.le_refl _, hs.out⟩
end

end Go.Proofs.YtlpgafgiljffhaaGreatDoor

namespace Go.Proofs.YtlpgafgiljffhaaGreatDoor
open Go.RowKit
open Go.Maps (Keyed IsMap Tidy setOf)
set_option linter.unusedSimpArgs false
set_option linter.unusedVariables false
def em (s : ByteArray) : Bool := decide (s.size = 0)
theorem emp_is (s : ByteArray) : s.toList.isEmpty = decide (s.size = 0) := by
  rw [Lib.toList_data, Lib.size_eq]
  cases s.data.toList <;> simp
theorem emp_nil (s : ByteArray) : s.toList = [] ↔ s.size = 0 := by
  rw [Lib.toList_data, Lib.size_eq]
  cases s.data.toList <;> simp
def bad (kn : Nd → Bool) (x : Nd) : Bool := !em x.nm && !kn x
def ndsC (m : Int) (kn : Nd → Bool) : List Nd → Nat × Int
  | [] => (0, 0)
  | x :: l => if bad kn x = true then (9, x.pl) else if m ≤ x.n then (11, x.pl) else ndsC m kn l
theorem ndsC_cons (m : Int) (kn : Nd → Bool) (x : Nd) (l : List Nd) : ndsC m kn (x :: l) = if bad kn x = true then (9, x.pl) else if m ≤ x.n then (11, x.pl) else ndsC m kn l := rfl
section
variable {w0 w w' : World} {cb LB RB : Nat} {m : Int} {LL : List ByteArray}
set_option maxRecDepth 100000 in
set_option maxHeartbeats 2000000 in
theorem known1_any (x : Nd) (pb B : Nat) (rs : List ByteArray) (hp : Bk w pb 51 #[.map (some B)]) (hs : SetB w B rs) (hz : x.nm.size ≤ maxLen) :
    Calls Tryz.prog 77 #[.agg #[.int .i64 x.op, .int .i64 x.n, .string x.nm, .string x.inn, .int .i64 x.pl], .pointer (some ⟨pb, 0, none⟩)] w fun e w' => e = .returned (.bool (inB rs x.nm)) ∧ Below w.heap.size w w' := by
  have HS := Lib.hid (fun (W : World) (hb : Below w.heap.size w W) => has_any (hs.below hb) x.nm hz)
  have HAL := Lib.hid (bel_al w (.cells #[.int .i64 x.op, .int .i64 x.n, .string x.nm, .string x.inn, .int .i64 x.pl] 65))
  have p0 : w.cell? ⟨pb, 0, none⟩ = some (.map (some B)) := hp.cell 0
  have p1 := hp.lt
  clear hs hp
  go_enter Tryz.func77, Tryz.ntmps77
  go_wp2_with fail
  refine (HS.out _ HAL.out).mono ?_
  rintro e w2 ⟨rfl, b2⟩
  go_wp2_with fail
  go_ret
  exact ⟨rfl, HAL.out.trans (b2.mono HAL.out.size)⟩
set_option maxRecDepth 100000 in
set_option maxHeartbeats 4000000 in
theorem nodes1_any (xs : List Nd) (v : Value) (pb : Nat) (kn : Nd → Bool) (hc : CK w0 w cb LB RB m) (hv : NdsC w0 v xs) (hn : xs.length ≤ 100000)
    (hk : ∀ W, Below w.heap.size w W → ∀ x ∈ xs, Calls Tryz.prog 77 #[.agg #[.int .i64 x.op, .int .i64 x.n, .string x.nm, .string x.inn, .int .i64 x.pl], .pointer (some ⟨pb, 0, none⟩)] W fun e W' => e = .returned (.bool (kn x)) ∧ Below W.heap.size W W') :
    Calls Tryz.prog 47 #[.pointer (some ⟨cb, 0, none⟩), v, .func (.func 77) #[] #[.pointer (some ⟨pb, 0, none⟩)]] w fun e w' => e = .returned (.tuple #[.int .i64 ((ndsC m kn xs).1 : Nat), .int .i64 (ndsC m kn xs).2]) ∧ Below w.heap.size w w' := by
  have HV := Lib.hid hv
  obtain ⟨ad, cap, rfl, _⟩ := id hv
  obtain ⟨n, hnn⟩ : ∃ n, n = xs.length := ⟨_, rfl⟩
  obtain ⟨r, hr⟩ : ∃ r, ndsC m kn xs = r := ⟨_, rfl⟩
  rw [hr]
  rw [← hnn] at hn ⊢
  have HN := Lib.hid hnn
  have HC := Lib.hid hc
  have HR := Lib.hid hr
  have HK := Lib.hid hk
  clear hv hc hr hk hnn
  go_enter Tryz.func47, Tryz.ntmps47
  go_wp2_with fail
  go_loopg [12] n (fun fuel i' wr => ∃ k : Nat, i' = .int .i64 k ∧ k ≤ n ∧ n - k ≤ fuel ∧ ndsC m kn (xs.drop k) = r ∧ Hid (Below w.heap.size w wr))
  case atStart => exact ⟨0, rfl, Nat.zero_le _, Nat.le_refl _, HR.out, Lib.hid (Below.refl _ _)⟩
  case round =>
    obtain ⟨k, rfl, hk, hf, ha, hb⟩ := hrel
    clear HR
    have HC1 := Lib.hid (HC.out.below hb.out)
    by_cases hlt : k < n
    · have hky : k < xs.length := by have := HN.out; omega
      obtain ⟨ad', cap', hve, _, _, hcc⟩ := HV.out
      obtain ⟨bb, off, hba, hbl, hnd⟩ := hcc k hky
      have hnd := NdAt.below hnd HC1.out.bl hbl
      have he1 : ad = ad' := by injection hve
      rw [← he1] at hba
      subst hba
      obtain ⟨x, hx⟩ : ∃ x, x = xs[k] := ⟨_, rfl⟩
      rw [← hx] at hnd
      obtain ⟨x0, x1, x2, x3, x4⟩ := hnd
      have hkx := fun (W : World) (hb' : Below w.heap.size w W) => HK.out W hb' x (by rw [hx]; exact List.getElem_mem hky)
      have hdr : xs.drop k = x :: xs.drop (k + 1) := by rw [hx]; exact List.drop_eq_getElem_cons hky
      rw [hdr, ndsC_cons] at ha
      have HKX := Lib.hid hkx
      obtain ⟨c, hcd⟩ : ∃ c, bad kn x = c := ⟨_, rfl⟩
      have HCD := Lib.hid hcd
      rw [hcd] at ha
      clear hx hdr hcc hcd hkx hve he1
      have HB1 := Lib.hid (hb.out.trans ((bel_al wr (.cells #[.int .i64 x.op, .int .i64 x.n, .string x.nm, .string x.inn, .int .i64 x.pl] 65)).mono hb.out.size))
      have HBK := Lib.hid (Bk.new wr 65 #[.int .i64 x.op, .int .i64 x.n, .string x.nm, .string x.inn, .int .i64 x.pl])
      have HC2 := Lib.hid (HC1.out.below (bel_al wr (.cells #[.int .i64 x.op, .int .i64 x.n, .string x.nm, .string x.inn, .int .i64 x.pl] 65)))
      go_upto_region 4 with fail
      clear x0 x1 x2 x3 x4 HC1
      generalize World.alloc _ _ = w1 at HB1 HBK HC2 ⊢
      go_cut [16] (fun s16 wx => s16 = .bool c ∧ Hid (Below w1.heap.size w1 wx))
      case first =>
        have y2 : w1.cell? ⟨wr.heap.size, 2, none⟩ = some (.string x.nm) := HBK.out.cell 2
        by_cases he : x.nm.size = 0
        · have e1 : x.nm.toList.isEmpty = true := by rw [emp_is]; exact decide_eq_true he
          have e2 : x.nm.toList = [] := (emp_nil _).2 he
          have ec : c = false := by rw [← HCD.out]; unfold bad em; rw [decide_eq_true he]; rfl
          subst ec
          clear he ha
          go_wp2_with fail
          go_meet
          exact ⟨rfl, Lib.hid (Below.refl _ _)⟩
        · have e1 : x.nm.toList.isEmpty = false := by rw [emp_is]; exact decide_eq_false he
          have e2 : ¬ x.nm.toList = [] := fun h => he ((emp_nil _).1 h)
          have ec : c = !kn x := by rw [← HCD.out]; unfold bad em; rw [decide_eq_false he]; rfl
          have y0 : w1.cell? ⟨wr.heap.size, 0, none⟩ = some (.int .i64 x.op) := HBK.out.cell 0
          have y1 : w1.cell? ⟨wr.heap.size, 1, none⟩ = some (.int .i64 x.n) := HBK.out.cell 1
          have y3 : w1.cell? ⟨wr.heap.size, 3, none⟩ = some (.string x.inn) := HBK.out.cell 3
          have y4 : w1.cell? ⟨wr.heap.size, 4, none⟩ = some (.int .i64 x.pl) := HBK.out.cell 4
          clear he ha
          go_wp2_with fail
          refine (HKX.out _ HB1.out).mono ?_
          rintro e w2 ⟨rfl, b2⟩
          go_wp2_with fail
          go_meet
          exact ⟨by rw [ec], Lib.hid b2⟩
      case rest =>
        obtain ⟨rfl, hb2⟩ := hcut
        obtain ⟨w2, rfl⟩ : ∃ z, z = wc := ⟨_, rfl⟩
        have HB2 := Lib.hid (HB1.out.trans (hb2.out.mono HB1.out.size))
        have HBK2 := Lib.hid (HBK.out.below hb2.out)
        have HC3 := Lib.hid (HC2.out.below hb2.out)
        clear HB1 HBK HC2 hb2 HCD HKX
        have y1 : w2.cell? ⟨wr.heap.size, 1, none⟩ = some (.int .i64 x.n) := HBK2.out.cell 1
        have y4 : w2.cell? ⟨wr.heap.size, 4, none⟩ = some (.int .i64 x.pl) := HBK2.out.cell 4
        have c0 : w2.cell? ⟨cb, 0, none⟩ = some (.int .i64 m) := HC3.out.bk.cell 0
        have l1 := HC3.out.bk.lt
        have l2 := HBK2.out.lt
        cases c
        · rw [if_neg (by decide)] at ha
          by_cases hm : m ≤ x.n
          · rw [if_pos hm] at ha
            subst ha
            go_wp2_with fail
            go_quiet (fail)
            have HB3 := Lib.hid (HB2.out.trans ((below_drewN (Below.refl _ w2) nq).mono HB2.out.size))
            have HBK3 := Lib.hid (HBK2.out.below (below_drewN (Below.refl _ _) nq))
            generalize w2.drewN nq = w3 at HB3 HBK3 ⊢
            have y4 : w3.cell? ⟨wr.heap.size, 4, none⟩ = some (.int .i64 x.pl) := HBK3.out.cell 4
            go_wp2_with fail
            go_quiet (fail)
            go_wp2_with fail
            exact bodyPost_ret (v := .tuple #[.int .i64 11, .int .i64 x.pl]) (by simp [results, Tryz.results47, go_sem]) rfl ⟨rfl, HB3.out.trans ((below_drewN (Below.refl _ w3) nq).mono HB3.out.size)⟩
          · rw [if_neg hm] at ha
            go_wp2_with fail
            go_quiet (fail)
            have HB3 := Lib.hid (HB2.out.trans ((below_drewN (Below.refl _ w2) nq).mono HB2.out.size))
            generalize w2.drewN nq = w3 at HB3 ⊢
            clear y1 y4 c0 l1 l2
            go_wp2_with fail
            go_roundg (gk - 1)
            case measure => omega
            case rel => exact ⟨k + 1, by go_num, by omega, by omega, ha, HB3⟩
        · rw [if_pos rfl] at ha
          subst ha
          go_wp2_with fail
          go_quiet (fail)
          go_wp2_with fail
          exact bodyPost_ret (v := .tuple #[.int .i64 9, .int .i64 x.pl]) (by simp [results, Tryz.results47, go_sem]) rfl ⟨rfl, HB2.out.trans ((below_drewN (Below.refl _ w2) nq).mono HB2.out.size)⟩
    · obtain rfl : k = n := by omega
      rw [show xs.drop k = [] by rw [HN.out]; exact List.drop_length] at ha
      subst ha
      go_wp2_with fail
      exact bodyPost_ret (v := .tuple #[.int .i64 0, .int .i64 0]) (by simp [results, Tryz.results47, go_sem]) rfl ⟨rfl, hb.out⟩
set_option maxRecDepth 100000 in
set_option maxHeartbeats 4000000 in
theorem nodes2_any (xs : List Nd) (v : Value) (pb : Nat) (kn : Nd → Bool) (hc : CK w0 w cb LB RB m) (hv : NdsC w0 v xs) (hn : xs.length ≤ 100000)
    (hk : ∀ W, Below w.heap.size w W → ∀ x ∈ xs, Calls Tryz.prog 46 #[.agg #[.int .i64 x.op, .int .i64 x.n, .string x.nm, .string x.inn, .int .i64 x.pl], .pointer (some ⟨pb, 0, none⟩)] W fun e W' => e = .returned (.bool (kn x)) ∧ Below W.heap.size W W') :
    Calls Tryz.prog 47 #[.pointer (some ⟨cb, 0, none⟩), v, .func (.func 46) #[] #[.pointer (some ⟨pb, 0, none⟩)]] w fun e w' => e = .returned (.tuple #[.int .i64 ((ndsC m kn xs).1 : Nat), .int .i64 (ndsC m kn xs).2]) ∧ Below w.heap.size w w' := by
  have HV := Lib.hid hv
  obtain ⟨ad, cap, rfl, _⟩ := id hv
  obtain ⟨n, hnn⟩ : ∃ n, n = xs.length := ⟨_, rfl⟩
  obtain ⟨r, hr⟩ : ∃ r, ndsC m kn xs = r := ⟨_, rfl⟩
  rw [hr]
  rw [← hnn] at hn ⊢
  have HN := Lib.hid hnn
  have HC := Lib.hid hc
  have HR := Lib.hid hr
  have HK := Lib.hid hk
  clear hv hc hr hk hnn
  go_enter Tryz.func47, Tryz.ntmps47
  go_wp2_with fail
  go_loopg [12] n (fun fuel i' wr => ∃ k : Nat, i' = .int .i64 k ∧ k ≤ n ∧ n - k ≤ fuel ∧ ndsC m kn (xs.drop k) = r ∧ Hid (Below w.heap.size w wr))
  case atStart => exact ⟨0, rfl, Nat.zero_le _, Nat.le_refl _, HR.out, Lib.hid (Below.refl _ _)⟩
  case round =>
    obtain ⟨k, rfl, hk, hf, ha, hb⟩ := hrel
    clear HR
    have HC1 := Lib.hid (HC.out.below hb.out)
    by_cases hlt : k < n
    · have hky : k < xs.length := by have := HN.out; omega
      obtain ⟨ad', cap', hve, _, _, hcc⟩ := HV.out
      obtain ⟨bb, off, hba, hbl, hnd⟩ := hcc k hky
      have hnd := NdAt.below hnd HC1.out.bl hbl
      have he1 : ad = ad' := by injection hve
      rw [← he1] at hba
      subst hba
      obtain ⟨x, hx⟩ : ∃ x, x = xs[k] := ⟨_, rfl⟩
      rw [← hx] at hnd
      obtain ⟨x0, x1, x2, x3, x4⟩ := hnd
      have hkx := fun (W : World) (hb' : Below w.heap.size w W) => HK.out W hb' x (by rw [hx]; exact List.getElem_mem hky)
      have hdr : xs.drop k = x :: xs.drop (k + 1) := by rw [hx]; exact List.drop_eq_getElem_cons hky
      rw [hdr, ndsC_cons] at ha
      have HKX := Lib.hid hkx
      obtain ⟨c, hcd⟩ : ∃ c, bad kn x = c := ⟨_, rfl⟩
      have HCD := Lib.hid hcd
      rw [hcd] at ha
      clear hx hdr hcc hcd hkx hve he1
      have HB1 := Lib.hid (hb.out.trans ((bel_al wr (.cells #[.int .i64 x.op, .int .i64 x.n, .string x.nm, .string x.inn, .int .i64 x.pl] 65)).mono hb.out.size))
      have HBK := Lib.hid (Bk.new wr 65 #[.int .i64 x.op, .int .i64 x.n, .string x.nm, .string x.inn, .int .i64 x.pl])
      have HC2 := Lib.hid (HC1.out.below (bel_al wr (.cells #[.int .i64 x.op, .int .i64 x.n, .string x.nm, .string x.inn, .int .i64 x.pl] 65)))
      go_upto_region 4 with fail
      clear x0 x1 x2 x3 x4 HC1
      generalize World.alloc _ _ = w1 at HB1 HBK HC2 ⊢
      go_cut [16] (fun s16 wx => s16 = .bool c ∧ Hid (Below w1.heap.size w1 wx))
      case first =>
        have y2 : w1.cell? ⟨wr.heap.size, 2, none⟩ = some (.string x.nm) := HBK.out.cell 2
        by_cases he : x.nm.size = 0
        · have e1 : x.nm.toList.isEmpty = true := by rw [emp_is]; exact decide_eq_true he
          have e2 : x.nm.toList = [] := (emp_nil _).2 he
          have ec : c = false := by rw [← HCD.out]; unfold bad em; rw [decide_eq_true he]; rfl
          subst ec
          clear he ha
          go_wp2_with fail
          go_meet
          exact ⟨rfl, Lib.hid (Below.refl _ _)⟩
        · have e1 : x.nm.toList.isEmpty = false := by rw [emp_is]; exact decide_eq_false he
          have e2 : ¬ x.nm.toList = [] := fun h => he ((emp_nil _).1 h)
          have ec : c = !kn x := by rw [← HCD.out]; unfold bad em; rw [decide_eq_false he]; rfl
          have y0 : w1.cell? ⟨wr.heap.size, 0, none⟩ = some (.int .i64 x.op) := HBK.out.cell 0
          have y1 : w1.cell? ⟨wr.heap.size, 1, none⟩ = some (.int .i64 x.n) := HBK.out.cell 1
          have y3 : w1.cell? ⟨wr.heap.size, 3, none⟩ = some (.string x.inn) := HBK.out.cell 3
          have y4 : w1.cell? ⟨wr.heap.size, 4, none⟩ = some (.int .i64 x.pl) := HBK.out.cell 4
          clear he ha
          go_wp2_with fail
          refine (HKX.out _ HB1.out).mono ?_
          rintro e w2 ⟨rfl, b2⟩
          go_wp2_with fail
          go_meet
          exact ⟨by rw [ec], Lib.hid b2⟩
      case rest =>
        obtain ⟨rfl, hb2⟩ := hcut
        obtain ⟨w2, rfl⟩ : ∃ z, z = wc := ⟨_, rfl⟩
        have HB2 := Lib.hid (HB1.out.trans (hb2.out.mono HB1.out.size))
        have HBK2 := Lib.hid (HBK.out.below hb2.out)
        have HC3 := Lib.hid (HC2.out.below hb2.out)
        clear HB1 HBK HC2 hb2 HCD HKX
        have y1 : w2.cell? ⟨wr.heap.size, 1, none⟩ = some (.int .i64 x.n) := HBK2.out.cell 1
        have y4 : w2.cell? ⟨wr.heap.size, 4, none⟩ = some (.int .i64 x.pl) := HBK2.out.cell 4
        have c0 : w2.cell? ⟨cb, 0, none⟩ = some (.int .i64 m) := HC3.out.bk.cell 0
        have l1 := HC3.out.bk.lt
        have l2 := HBK2.out.lt
        cases c
        · rw [if_neg (by decide)] at ha
          by_cases hm : m ≤ x.n
          · rw [if_pos hm] at ha
            subst ha
            go_wp2_with fail
            go_quiet (fail)
            have HB3 := Lib.hid (HB2.out.trans ((below_drewN (Below.refl _ w2) nq).mono HB2.out.size))
            have HBK3 := Lib.hid (HBK2.out.below (below_drewN (Below.refl _ _) nq))
            generalize w2.drewN nq = w3 at HB3 HBK3 ⊢
            have y4 : w3.cell? ⟨wr.heap.size, 4, none⟩ = some (.int .i64 x.pl) := HBK3.out.cell 4
            go_wp2_with fail
            go_quiet (fail)
            go_wp2_with fail
            exact bodyPost_ret (v := .tuple #[.int .i64 11, .int .i64 x.pl]) (by simp [results, Tryz.results47, go_sem]) rfl ⟨rfl, HB3.out.trans ((below_drewN (Below.refl _ w3) nq).mono HB3.out.size)⟩
          · rw [if_neg hm] at ha
            go_wp2_with fail
            go_quiet (fail)
            have HB3 := Lib.hid (HB2.out.trans ((below_drewN (Below.refl _ w2) nq).mono HB2.out.size))
            generalize w2.drewN nq = w3 at HB3 ⊢
            clear y1 y4 c0 l1 l2
            go_wp2_with fail
            go_roundg (gk - 1)
            case measure => omega
            case rel => exact ⟨k + 1, by go_num, by omega, by omega, ha, HB3⟩
        · rw [if_pos rfl] at ha
          subst ha
          go_wp2_with fail
          go_quiet (fail)
          go_wp2_with fail
          exact bodyPost_ret (v := .tuple #[.int .i64 9, .int .i64 x.pl]) (by simp [results, Tryz.results47, go_sem]) rfl ⟨rfl, HB2.out.trans ((below_drewN (Below.refl _ w2) nq).mono HB2.out.size)⟩
    · obtain rfl : k = n := by omega
      rw [show xs.drop k = [] by rw [HN.out]; exact List.drop_length] at ha
      subst ha
      go_wp2_with fail
      exact bodyPost_ret (v := .tuple #[.int .i64 0, .int .i64 0]) (by simp [results, Tryz.results47, go_sem]) rfl ⟨rfl, hb.out⟩
end

end Go.Proofs.YtlpgafgiljffhaaGreatDoor

namespace Go.Proofs.YtlpgafgiljffhaaGreatDoor
open Go.RowKit
open Go.Maps (Keyed IsMap Tidy setOf)
set_option linter.unusedSimpArgs false
set_option linter.unusedVariables false
def rch (r : Int) (i : Nat) (x : St) : Int := if x.kind = 11 ∨ x.kind = 12 then max r ((i : Int) + 1 + x.body) else r
def lpB (x : St) : Bool := decide (x.kind = 11) || decide (x.kind = 12)
theorem rch_lp (r : Int) (i : Nat) (x : St) : rch r i x = if lpB x = true then max r ((i : Int) + 1 + x.body) else r := by
  unfold rch lpB
  by_cases h1 : x.kind = 11 <;> by_cases h2 : x.kind = 12 <;> simp [h1, h2]
def outB (r : Int) (i : Nat) (x : St) : Bool := decide (x.kind = 13) && decide (r ≤ (i : Int))
def nmB (L : List ByteArray) (s : ByteArray) : Bool := !em s && !inB L s
def stsC (m : Int) (LL rs : List ByteArray) : List St → Nat → Int → Nat × Int
  | [], _, _ => (0, 0)
  | x :: l, i, r => if outB (rch r i x) i x = true then (13, x.pl) else if nmB rs x.reg = true then (9, x.pl) else if nmB LL x.loc = true then (9, x.pl)
    else if (ndsC m (fun n => inB rs n.nm) x.e).1 ≠ 0 then ndsC m (fun n => inB rs n.nm) x.e else if (ndsC m (fun n => inB rs n.nm) x.f).1 ≠ 0 then ndsC m (fun n => inB rs n.nm) x.f
    else stsC m LL rs l (i + 1) (rch r i x)
theorem stsC_cons (m : Int) (LL rs : List ByteArray) (x : St) (l : List St) (i : Nat) (r : Int) : stsC m LL rs (x :: l) i r = if outB (rch r i x) i x = true then (13, x.pl) else if nmB rs x.reg = true then (9, x.pl) else if nmB LL x.loc = true then (9, x.pl)
    else if (ndsC m (fun n => inB rs n.nm) x.e).1 ≠ 0 then ndsC m (fun n => inB rs n.nm) x.e else if (ndsC m (fun n => inB rs n.nm) x.f).1 ≠ 0 then ndsC m (fun n => inB rs n.nm) x.f
    else stsC m LL rs l (i + 1) (rch r i x) := rfl
theorem nmok_mem {l : List Nd} (h : NmOK l) {x : Nd} (hx : x ∈ l) : x.nm.size ≤ 100000 ∧ x.inn.size ≤ 100000 := by
  obtain ⟨i, hi, rfl⟩ := List.getElem_of_mem hx
  exact h i hi
section
variable {w0 w w' : World} {cb LB RB : Nat} {m : Int} {LL : List ByteArray}
set_option maxRecDepth 100000 in
set_option maxHeartbeats 8000000 in
theorem statements_any (ts : List SI) (v : Value) (B : Nat) (rs : List ByteArray) (hc : CK w0 w cb LB RB m) (hs : SetB w LB LL) (hr : SetB w B rs) (hv : StsD w0 v ts) (hn : ts.length ≤ 100000) (hz : SmOK (ts.map (·.1)))
    (hbd : ∀ t ∈ ts, 0 ≤ t.1.body ∧ t.1.body ≤ 1000000) (r : Nat × Int) (hrr : stsC m LL rs (ts.map (·.1)) 0 0 = r) :
    Calls Tryz.prog 45 #[.pointer (some ⟨cb, 0, none⟩), v, .map (some B)] w fun e w' => e = .returned (.tuple #[.int .i64 (r.1 : Nat), .int .i64 r.2]) ∧ Below w.heap.size w w' := by
  have HV := Lib.hid hv
  obtain ⟨ad, cap, rfl⟩ := StsD.shape hv
  obtain ⟨n, hnn⟩ : ∃ n, n = ts.length := ⟨_, rfl⟩
  rw [← hnn] at hn ⊢
  have HN := Lib.hid hnn
  have HZ := Lib.hid hz
  have HBD := Lib.hid hbd
  have hal := bel_al w (.cells #[.map (some B)] 51)
  have HC := Lib.hid (hc.below hal)
  have HS := Lib.hid (hs.below hal)
  have HRS := Lib.hid (hr.below hal)
  have HP := Lib.hid (Bk.new w 51 #[.map (some B)])
  have HAL := Lib.hid hal
  have HR := Lib.hid hrr
  clear hv hz hc hs hr hrr hnn hbd hal
  go_enter Tryz.func45, Tryz.ntmps45
  go_wp2_with fail
  obtain ⟨wB, hwB⟩ : ∃ z, z = w.alloc (.cells #[.map (some B)] 51) := ⟨_, rfl⟩
  rw [← hwB] at HC HS HRS HP HAL ⊢
  clear hwB
  go_loopg [9, 19] n (fun fuel r' i' wr => ∃ (k : Nat) (rc : Int), r' = .int .i64 rc ∧ i' = .int .i64 k ∧ k ≤ n ∧ n - k ≤ fuel ∧ 0 ≤ rc ∧ rc ≤ 2000000 ∧ stsC m LL rs ((ts.drop k).map (·.1)) k rc = r ∧ Hid (Below wB.heap.size wB wr))
  case atStart => exact ⟨0, 0, rfl, rfl, Nat.zero_le _, Nat.le_refl _, by omega, by omega, HR.out, Lib.hid (Below.refl _ _)⟩
  case round =>
    obtain ⟨k, rc, rfl, rfl, hk, hf, hr0, hr1, ha, hb⟩ := hrel
    clear HR
    have HC1 := Lib.hid (HC.out.below hb.out)
    by_cases hlt : k < n
    · have hky : k < ts.length := by have := HN.out; omega
      obtain ⟨ad', cap', hve, _, _, hcc⟩ := HV.out
      obtain ⟨bb, off, hba, hbl, hst, hne, hnf⟩ := hcc k hky
      have hst := StAt.below hst HC1.out.bl hbl
      have he1 : ad = ad' := by injection hve
      rw [← he1] at hba
      subst hba
      obtain ⟨t, ht⟩ : ∃ t, t = ts[k] := ⟨_, rfl⟩
      rw [← ht] at hst hne hnf
      have hmem : t ∈ ts := by rw [ht]; exact List.getElem_mem hky
      have hzt := HZ.out t.1 (List.mem_map_of_mem hmem)
      obtain ⟨hb0, hb1⟩ := HBD.out t hmem
      have hdr : (ts.drop k).map (·.1) = t.1 :: (ts.drop (k + 1)).map (·.1) := by rw [ht, List.drop_eq_getElem_cons hky]; rfl
      rw [hdr, stsC_cons] at ha
      obtain ⟨x, ve, vf⟩ := t
      obtain ⟨x0, x1, x2, x3, x4, x5, x6, x7, x8⟩ := hst
      simp only [] at x0 x1 x2 x3 x4 x5 x6 x7 x8 hne hnf hzt hb0 hb1 ha
      obtain ⟨z1, z2, z3, z4, z5, z6⟩ := hzt
      obtain ⟨ae, ce, rfl, _⟩ := id hne
      obtain ⟨af, cf, rfl, _⟩ := id hnf
      have HNE := Lib.hid hne
      have HNF := Lib.hid hnf
      have HZ1 := Lib.hid z1
      have HZ2 := Lib.hid z2
      have HZ3 := Lib.hid z3
      have HZ4 := Lib.hid z4
      have HZ5 := Lib.hid z5
      have HZ6 := Lib.hid z6
      clear ht hdr hcc hve he1 hmem hne hnf z1 z2 z3 z4 z5 z6
      have HB1 := Lib.hid (hb.out.trans ((bel_al wr (.cells #[.int .i64 x.kind, .string x.reg, .string x.loc, .slice ae x.e.length ce, .slice af x.f.length cf, .bool x.ne, .int .i64 x.body, .int .i64 x.els, .int .i64 x.pl] 61)).mono hb.out.size))
      have HBK := Lib.hid (Bk.new wr 61 #[.int .i64 x.kind, .string x.reg, .string x.loc, .slice ae x.e.length ce, .slice af x.f.length cf, .bool x.ne, .int .i64 x.body, .int .i64 x.els, .int .i64 x.pl])
      go_upto_region 6 with fail
      clear x0 x1 x2 x3 x4 x5 x6 x7 x8 HC1
      generalize World.alloc _ _ = w1 at HB1 HBK ⊢
      obtain ⟨rc2, hrc2⟩ : ∃ z, z = rch rc k x := ⟨_, rfl⟩
      rw [← hrc2] at ha
      have hq0 : 0 ≤ rc2 ∧ rc2 ≤ 2000000 := by rw [hrc2]; unfold rch; split <;> omega
      have HQ0 := Lib.hid hq0
      have HQ := Lib.hid hrc2
      have HA := Lib.hid ha
      clear hrc2 hq0 ha
      go_cut [31] (fun s31 wx => s31 = .bool (lpB x) ∧ wx = w1)
      case first =>
        have y0 : w1.cell? ⟨wr.heap.size, 0, none⟩ = some (.int .i64 x.kind) := HBK.out.cell 0
        by_cases h1 : x.kind = 11
        · have e1 : (x.kind == 11) = true := by rw [h1]; rfl
          have e : lpB x = true := by unfold lpB; rw [decide_eq_true h1]; rfl
          clear h1
          go_wp2_with fail
          go_meet
          exact ⟨by rw [e], rfl⟩
        · have e1 : (x.kind == 11) = false := by rw [beq_eq_false_iff_ne]; exact h1
          by_cases h2 : x.kind = 12
          · have e2 : (x.kind == 12) = true := by rw [h2]; rfl
            have e : lpB x = true := by unfold lpB; rw [decide_eq_true h2]; simp
            clear h1 h2
            go_wp2_with fail
            go_meet
            exact ⟨by rw [e], rfl⟩
          · have e2 : (x.kind == 12) = false := by rw [beq_eq_false_iff_ne]; exact h2
            have e : lpB x = false := by unfold lpB; rw [decide_eq_false h1, decide_eq_false h2]; rfl
            clear h1 h2
            go_wp2_with fail
            go_meet
            exact ⟨by rw [e], rfl⟩
      case rest =>
        obtain ⟨rfl, h8⟩ := hcut
        subst h8
        obtain ⟨w1, rfl⟩ : ∃ z, z = wc := ⟨_, rfl⟩
        obtain ⟨t, ht⟩ : ∃ t, t = lpB x := ⟨_, rfl⟩
        rw [← ht]
        have HT := Lib.hid ht
        clear ht
        go_upto_if 31 with fail
        go_cut [9] (fun s9 wx => s9 = .int .i64 rc2 ∧ wx = w1)
        case first =>
          have y6 : w1.cell? ⟨wr.heap.size, 6, none⟩ = some (.int .i64 x.body) := HBK.out.cell 6
          have hq := HQ.out
          rw [rch_lp, ← HT.out] at hq
          cases t
          · rw [if_neg (by decide)] at hq
            go_wp2_with fail
            go_meet
            exact ⟨by rw [hq], rfl⟩
          · rw [if_pos rfl] at hq
            have e1 : IntKind.i64.wrap ((k : Int) + 1) = (k : Int) + 1 := IntWalk.i64_in _ (by omega)
            have e2 : IntKind.i64.wrap ((k : Int) + 1 + x.body) = (k : Int) + 1 + x.body := IntWalk.i64_in _ (by omega)
            go_wp2_with fail
            go_meet
            exact ⟨by rw [hq], rfl⟩
        case rest =>
          obtain ⟨rfl, h9⟩ := hcut
          subst h9
          obtain ⟨w1, rfl⟩ : ∃ z, z = wc := ⟨_, rfl⟩
          clear HT
          go_upto_region 8 with fail
          go_cut [39] (fun s39 wx => s39 = .bool (outB rc2 k x) ∧ wx = w1)
          case first =>
            have y0 : w1.cell? ⟨wr.heap.size, 0, none⟩ = some (.int .i64 x.kind) := HBK.out.cell 0
            by_cases h1 : x.kind = 13
            · have e1 : (x.kind == 13) = true := by rw [h1]; rfl
              by_cases h2 : rc2 ≤ (k : Int)
              · have e : outB rc2 k x = true := by unfold outB; rw [decide_eq_true h1, decide_eq_true h2]; rfl
                clear h1
                go_wp2_with fail
                go_meet
                exact ⟨by rw [e], rfl⟩
              · have e : outB rc2 k x = false := by unfold outB; rw [decide_eq_true h1, decide_eq_false h2]; rfl
                clear h1
                go_wp2_with fail
                go_meet
                exact ⟨by rw [e], rfl⟩
            · have e1 : (x.kind == 13) = false := by rw [beq_eq_false_iff_ne]; exact h1
              have e : outB rc2 k x = false := by unfold outB; rw [decide_eq_false h1]; rfl
              clear h1
              go_wp2_with fail
              go_meet
              exact ⟨by rw [e], rfl⟩
          case rest =>
            obtain ⟨rfl, h9⟩ := hcut
            subst h9
            obtain ⟨w1, rfl⟩ : ∃ z, z = wc := ⟨_, rfl⟩
            have ha := HA.out
            obtain ⟨t1, ht1⟩ : ∃ t, t = outB rc2 k x := ⟨_, rfl⟩
            rw [← ht1] at ha ⊢
            clear ht1 HA HQ
            have HC1 := Lib.hid (HC.out.below HB1.out)
            have HS1 := Lib.hid (HS.out.below HB1.out)
            have HR1 := Lib.hid (HRS.out.below HB1.out)
            have HP1 := Lib.hid (HP.out.below HB1.out)
            cases t1
            · rw [if_neg (by decide)] at ha
              go_upto_region 10 with fail
              go_cut [50] (fun s50 wx => s50 = .bool (nmB rs x.reg) ∧ Hid (Below w1.heap.size w1 wx))
              case first =>
                have y1 : w1.cell? ⟨wr.heap.size, 1, none⟩ = some (.string x.reg) := HBK.out.cell 1
                clear ha
                by_cases he : x.reg.size = 0
                · have e1 : x.reg.toList.isEmpty = true := by rw [emp_is]; exact decide_eq_true he
                  have e2 : x.reg.toList = [] := (emp_nil _).2 he
                  have e : nmB rs x.reg = false := by unfold nmB em; rw [decide_eq_true he]; rfl
                  clear he
                  go_wp2_with fail
                  go_meet
                  exact ⟨by rw [e], Lib.hid (Below.refl _ _)⟩
                · have e1 : x.reg.toList.isEmpty = false := by rw [emp_is]; exact decide_eq_false he
                  have e2 : ¬ x.reg.toList = [] := fun h => he ((emp_nil _).1 h)
                  have e : nmB rs x.reg = !inB rs x.reg := by unfold nmB em; rw [decide_eq_false he]; rfl
                  have p0 : w1.cell? ⟨w.heap.size, 0, none⟩ = some (.map (some B)) := HP1.out.cell 0
                  have p1 := HP1.out.lt
                  clear he
                  go_wp2_with fail
                  refine (has_any HR1.out x.reg (by have := HZ1.out; unfold maxLen; omega)).mono ?_
                  rintro e w2 ⟨rfl, b2⟩
                  go_wp2_with fail
                  go_meet
                  exact ⟨by rw [e], Lib.hid b2⟩
              case rest =>
                obtain ⟨rfl, hb2⟩ := hcut
                obtain ⟨w2, rfl⟩ : ∃ z, z = wc := ⟨_, rfl⟩
                have HB2 := Lib.hid (HB1.out.trans (hb2.out.mono HB1.out.size))
                have HBK2 := Lib.hid (HBK.out.below hb2.out)
                clear HB1 HBK hb2 HC1 HS1 HR1 HP1
                have HC2 := Lib.hid (HC.out.below HB2.out)
                have HS2 := Lib.hid (HS.out.below HB2.out)
                obtain ⟨t2, ht2⟩ : ∃ t, t = nmB rs x.reg := ⟨_, rfl⟩
                rw [← ht2] at ha ⊢
                clear ht2
                have y8 : w2.cell? ⟨wr.heap.size, 8, none⟩ = some (.int .i64 x.pl) := HBK2.out.cell 8
                cases t2
                · rw [if_neg (by decide)] at ha
                  clear y8
                  go_upto_region 11 with fail
                  go_cut [50] (fun s50 wx => s50 = .bool (nmB LL x.loc) ∧ Hid (Below w2.heap.size w2 wx))
                  case first =>
                    have y2 : w2.cell? ⟨wr.heap.size, 2, none⟩ = some (.string x.loc) := HBK2.out.cell 2
                    have l2 := HBK2.out.lt
                    clear ha
                    by_cases he : x.loc.size = 0
                    · have e1 : x.loc.toList.isEmpty = true := by rw [emp_is]; exact decide_eq_true he
                      have e2 : x.loc.toList = [] := (emp_nil _).2 he
                      have e : nmB LL x.loc = false := by unfold nmB em; rw [decide_eq_true he]; rfl
                      clear he
                      go_quiet (fail)
                      go_wp2_with fail
                      go_meet
                      exact ⟨by rw [e], Lib.hid (below_drewN (Below.refl _ _) _)⟩
                    · have e1 : x.loc.toList.isEmpty = false := by rw [emp_is]; exact decide_eq_false he
                      have e2 : ¬ x.loc.toList = [] := fun h => he ((emp_nil _).1 h)
                      have e : nmB LL x.loc = !inB LL x.loc := by unfold nmB em; rw [decide_eq_false he]; rfl
                      have c1 : w2.cell? ⟨cb, 1, none⟩ = some (.map (some LB)) := HC2.out.bk.cell 1
                      have l1 := HC2.out.bk.lt
                      have HH := Lib.hid (fun (W : World) (hb : Below w2.heap.size w2 W) => has_any (HS2.out.below hb) x.loc (by have := HZ2.out; unfold maxLen; omega))
                      clear he
                      go_region_held3 (fun w' => w'.cell? ⟨cb, 1, none⟩ = some (.map (some LB)) ∧ w'.cell? ⟨wr.heap.size, 2, none⟩ = some (.string x.loc) ∧ Below w2.heap.size w2 w')
                        (first | exact ⟨c1, y2, Below.refl _ _⟩ | exact ⟨c1, y2, (Below.refl _ _).drew⟩ | assumption | (go_split_ands; exact ⟨(hb3.cell (p := ⟨cb, 1, none⟩) l1).trans c1, (hb3.cell (p := ⟨wr.heap.size, 2, none⟩) l2).trans y2, hb3⟩))
                        ((go_split_ands; with_reducible refine Calls.mono (HH.out _ (by assumption)) ?_; rintro e w8 ⟨rfl, hb2⟩; have hb3 : Below w2.heap.size w2 w8 := Below.trans (by assumption) (hb2.mono (Below.size (by assumption)))))
                      go_split_ands
                      go_wp2_with fail
                      go_meet
                      exact ⟨by rw [e], Lib.hid hb3⟩
                  case rest =>
                    obtain ⟨rfl, hb3⟩ := hcut
                    obtain ⟨w3, rfl⟩ : ∃ z, z = wc := ⟨_, rfl⟩
                    have HB3 := Lib.hid (HB2.out.trans (hb3.out.mono HB2.out.size))
                    have HBK3 := Lib.hid (HBK2.out.below hb3.out)
                    clear HB2 HBK2 hb3 HC2 HS2
                    obtain ⟨t3, ht3⟩ : ∃ t, t = nmB LL x.loc := ⟨_, rfl⟩
                    rw [← ht3] at ha ⊢
                    clear ht3
                    cases t3
                    · rw [if_neg (by decide)] at ha
                      have HKN := Lib.hid (fun (W : World) (hb : Below wB.heap.size wB W) (n : Nd) (hz : n.nm.size ≤ 100000) => known1_any n w.heap.size B rs (HP.out.below hb) (HRS.out.below hb) (by unfold maxLen; omega))
                      have HN1 := Lib.hid (nodes1_any (m := m) x.e (.slice ae x.e.length ce) w.heap.size (fun n => inB rs n.nm) (HC.out.below HB3.out) HNE.out HZ3.out (fun W hb n hn => HKN.out W (HB3.out.trans (hb.mono HB3.out.size)) n (nmok_mem HZ5.out hn).1))
                      obtain ⟨q1, hq1⟩ : ∃ q, q = ndsC m (fun n => inB rs n.nm) x.e := ⟨_, rfl⟩
                      obtain ⟨q2, hq2⟩ : ∃ q, q = ndsC m (fun n => inB rs n.nm) x.f := ⟨_, rfl⟩
                      rw [← hq1, ← hq2] at ha
                      rw [← hq1] at HN1
                      have HQ2 := Lib.hid hq2
                      have y3 : w3.cell? ⟨wr.heap.size, 3, none⟩ = some (.slice ae x.e.length ce) := HBK3.out.cell 3
                      have l2 := HBK3.out.lt
                      clear hq1 hq2
                      go_wp2_with fail
                      refine HN1.out.mono ?_
                      rintro e w4 ⟨rfl, b4⟩
                      have HB4 := Lib.hid (HB3.out.trans (b4.mono HB3.out.size))
                      have HBK4 := Lib.hid (HBK3.out.below b4)
                      clear b4 y3 l2 HB3 HBK3 HN1
                      by_cases hz1 : q1.1 = 0
                      · have e1 : ((q1.1 : Int) != 0) = false := by simp; omega
                        rw [if_neg (fun h => h hz1)] at ha
                        have HN2 := Lib.hid (nodes1_any (m := m) x.f (.slice af x.f.length cf) w.heap.size (fun n => inB rs n.nm) (HC.out.below HB4.out) HNF.out HZ4.out (fun W hb n hn => HKN.out W (HB4.out.trans (hb.mono HB4.out.size)) n (nmok_mem HZ6.out hn).1))
                        rw [← HQ2.out] at HN2
                        have y4 : w4.cell? ⟨wr.heap.size, 4, none⟩ = some (.slice af x.f.length cf) := HBK4.out.cell 4
                        have l2 := HBK4.out.lt
                        clear hz1
                        go_wp2_with fail
                        refine HN2.out.mono ?_
                        rintro e w5 ⟨rfl, b5⟩
                        have HB5 := Lib.hid (HB4.out.trans (b5.mono HB4.out.size))
                        clear b5 y4 l2 HN2 e1
                        by_cases hz2 : q2.1 = 0
                        · have e1 : ((q2.1 : Int) != 0) = false := by simp; omega
                          rw [if_neg (fun h => h hz2)] at ha
                          clear hz2
                          go_wp2_with fail
                          go_roundg (gk - 1)
                          case measure => omega
                          case rel => exact ⟨k + 1, rc2, rfl, by go_num, by omega, by omega, HQ0.out.1, HQ0.out.2, ha, HB5⟩
                        · have e1 : ((q2.1 : Int) != 0) = true := by simp; omega
                          rw [if_pos hz2] at ha
                          subst ha
                          clear hz2
                          go_wp2_with fail
                          exact bodyPost_ret (v := .tuple #[.int .i64 (q2.1 : Nat), .int .i64 q2.2]) (by simp [results, Tryz.results45, go_sem]) rfl ⟨rfl, HAL.out.trans (HB5.out.mono HAL.out.size)⟩
                      · have e1 : ((q1.1 : Int) != 0) = true := by simp; omega
                        rw [if_pos hz1] at ha
                        subst ha
                        clear hz1
                        go_wp2_with fail
                        exact bodyPost_ret (v := .tuple #[.int .i64 (q1.1 : Nat), .int .i64 q1.2]) (by simp [results, Tryz.results45, go_sem]) rfl ⟨rfl, HAL.out.trans (HB4.out.mono HAL.out.size)⟩
                    · rw [if_pos rfl] at ha
                      subst ha
                      have y8 : w3.cell? ⟨wr.heap.size, 8, none⟩ = some (.int .i64 x.pl) := HBK3.out.cell 8
                      go_wp2_with fail
                      go_quiet (fail)
                      go_wp2_with fail
                      exact bodyPost_ret (v := .tuple #[.int .i64 9, .int .i64 x.pl]) (by simp [results, Tryz.results45, go_sem]) rfl ⟨rfl, HAL.out.trans ((HB3.out.trans ((below_drewN (Below.refl _ w3) nq).mono HB3.out.size)).mono HAL.out.size)⟩
                · rw [if_pos rfl] at ha
                  subst ha
                  go_wp2_with fail
                  go_quiet (fail)
                  go_wp2_with fail
                  exact bodyPost_ret (v := .tuple #[.int .i64 9, .int .i64 x.pl]) (by simp [results, Tryz.results45, go_sem]) rfl ⟨rfl, HAL.out.trans ((HB2.out.trans ((below_drewN (Below.refl _ w2) nq).mono HB2.out.size)).mono HAL.out.size)⟩
            · rw [if_pos rfl] at ha
              subst ha
              have y8 : w1.cell? ⟨wr.heap.size, 8, none⟩ = some (.int .i64 x.pl) := HBK.out.cell 8
              go_wp2_with fail
              go_quiet (fail)
              go_wp2_with fail
              exact bodyPost_ret (v := .tuple #[.int .i64 13, .int .i64 x.pl]) (by simp [results, Tryz.results45, go_sem]) rfl ⟨rfl, HAL.out.trans ((HB1.out.trans ((below_drewN (Below.refl _ w1) nq).mono HB1.out.size)).mono HAL.out.size)⟩
    · obtain rfl : k = n := by omega
      rw [show ts.drop k = [] by rw [HN.out]; exact List.drop_length] at ha
      have ha : ((0, 0) : Nat × Int) = r := ha
      subst ha
      go_wp2_with fail
      exact bodyPost_ret (v := .tuple #[.int .i64 0, .int .i64 0]) (by simp [results, Tryz.results45, go_sem]) rfl ⟨rfl, HAL.out.trans (hb.out.mono HAL.out.size)⟩
end

end Go.Proofs.YtlpgafgiljffhaaGreatDoor
