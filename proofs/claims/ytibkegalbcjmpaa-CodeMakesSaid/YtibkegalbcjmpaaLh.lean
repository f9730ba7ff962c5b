/- CodeMakes: the law's walk. -/
import Derived.Test.YtibkegalbcjmpaaLg
import Derived.Test.YtibkegalbcjmpaaLd
import Derived.Test.YtibkegalbcjmpaaMa
namespace Go.Proofs.Ytibkegalbcjmpaa
open Go.RowKit

theorem light_is2 (l : List Nd) (v : Value) (w : World) (hv : NdsC w v l) (hn : l.length ≤ maxLen) (b : Bool) (hb : lightB l = b) :
    Calls Try.prog 8 #[v] w fun e w' => e = .returned (.bool b) ∧ Below w.heap.size w w' :=
  (light_any l v w hv.nds hn b hb).mono fun _ _ ⟨h, h'⟩ => ⟨h, h' ▸ Below.refl _ _⟩
theorem light_nmOK2 (l : List Nd) (h : lightB l = true) : l.length ≤ 250 ∧ NmOK l := by
  unfold lightB at h
  rw [Bool.and_eq_true] at h
  refine ⟨of_decide_eq_true h.1, fun i hi => ?_⟩
  have := List.all_eq_true.1 h.2 _ (List.getElem_mem hi)
  unfold lightN at this
  have := of_decide_eq_true this
  omega
theorem codIs_len {rsv : Nd → Opn × Bool} {l : List Nd} {cs : List Opn} {ok : Bool} (h : CodIs rsv l cs ok) (hl : l.length ≤ 100000) : cs.length ≤ 100000 := by
  rcases h with ⟨e, _, hfl, _, _, hcs⟩ | ⟨_, _, rfl⟩
  · subst hcs
    split
    · rw [codeE_len, ← Ex.flat_length, hfl]; exact hl
    · exact Nat.zero_le _
  · exact Nat.zero_le _
theorem lightP_some {vs : List (ByteArray × Int × Int)} {ts : List TB} {cs : List Cl} (h : lightP vs ts cs = true) : vs.length ≤ 20 ∧ ts.length ≤ 8 ∧ ∀ x ∈ ts.map (·.1), x.regs.length ≤ 20 := by
  unfold lightP at h
  rw [Bool.and_eq_true, Bool.and_eq_true, Bool.and_eq_true] at h
  obtain ⟨h1, _, h2, _⟩ := h
  have h1 := of_decide_eq_true h1
  refine ⟨h1.1, h1.2.1, fun x hx => ?_⟩
  obtain ⟨t, ht, rfl⟩ := List.mem_map.1 hx
  have := List.all_eq_true.1 h2 t ht
  unfold lightT at this
  rw [Bool.and_eq_true, Bool.and_eq_true] at this
  exact of_decide_eq_true this.2.1

set_option maxRecDepth 100000 in
set_option maxHeartbeats 8000000 in
theorem makes_heavy (l : List Nd) (v : Value) (regs : List ByteArray) (rv pv : Value) (m : Int) (vs : List (ByteArray × Int × Int)) (ts : List TB) (cs : List Cl) (w : World) (hv : NdsC w v l) (hl : l.length ≤ maxLen) (hr : StrsD w rv regs) (hrl : regs.length ≤ maxLen) (hp : PgD w pv m vs ts cs) (hb : lightB l = false) :
    Calls Try.prog 3 #[v, rv, pv] w fun e w' => e = .returned (.bool true) ∧ Below w.heap.size w w' := by
  have hz0 := hrl
  clear hz0
  obtain ⟨lv, tv, cv, rfl, hlv0, htv0, hcv0⟩ := hp.v
  obtain ⟨wb, hwb⟩ : ∃ wb, wb = w.alloc (.cells #[.int .i64 m, lv, tv, cv] 28) := ⟨_, rfl⟩
  have BB : Hid (Below w.heap.size w wb) := Lib.hid (by rw [hwb]; exact (Below.refl _ _).alloc (Nat.le_refl _) _)
  have KB : Hid (Bk wb w.heap.size 28 #[.int .i64 m, lv, tv, cv]) := Lib.hid (by rw [hwb]; exact Bk.new w _ _)
  replace hv := hv.below BB.out
  replace hr := StrsD.below hr BB.out
  replace hp := hp.below BB.out
  have hlv := VnsD.below hlv0 BB.out
  have htv := TbsD.below htv0 BB.out
  have hcv := ClsD.below hcv0 BB.out
  clear hlv0 htv0 hcv0
  have HL := Lib.hid (light_is2 l v wb hv hl false hb)
  obtain ⟨ad, cap, rfl, _⟩ := id hv
  obtain ⟨ad2, cap2, rfl⟩ := hr.shape
  obtain ⟨ad3, cap3, rfl⟩ := hlv.shape
  obtain ⟨ad4, cap4, rfl⟩ := htv.shape
  obtain ⟨ad5, cap5, rfl⟩ := hcv.shape
  generalize l.length = n1 at HL
  generalize regs.length = n2
  generalize vs.length = n3 at hwb KB ⊢
  generalize ts.length = n4 at hwb KB ⊢
  generalize cs.length = n5 at hwb KB ⊢
  have HWB := Lib.hid hwb
  clear hwb
  clear hv hl hb hr hrl hp hlv htv hcv
  go_enter Try.func3, Try.ntmps3
  go_wp2_with fail
  rw [← HWB.out]
  refine HL.out.mono ?_
  rintro e w1 ⟨rfl, b1⟩
  have x0 := (KB.out.below b1).cell 0
  have x1 := (KB.out.below b1).cell 1
  have x2 := (KB.out.below b1).cell 2
  have x3 := (KB.out.below b1).cell 3
  have xl := (KB.out.below b1).lt
  go_wp2_with fail
  refine (known_any _).mono ?_
  rintro e w9 ⟨rfl, b9⟩
  go_wp2
  go_ret
  exact ⟨rfl, BB.out.trans ((b1.trans (b9.mono b1.size)).mono BB.out.size)⟩

set_option maxRecDepth 100000 in
set_option maxHeartbeats 8000000 in
theorem makes_long (l : List Nd) (v : Value) (regs : List ByteArray) (rv pv : Value) (m : Int) (vs : List (ByteArray × Int × Int)) (ts : List TB) (cs : List Cl) (w : World) (hv : NdsC w v l) (hl : l.length ≤ maxLen) (hr : StrsD w rv regs) (hrl : regs.length ≤ maxLen) (hp : PgD w pv m vs ts cs) (hb : lightB l = true) (h20 : 20 < regs.length) :
    Calls Try.prog 3 #[v, rv, pv] w fun e w' => e = .returned (.bool true) ∧ Below w.heap.size w w' := by
  have hz0 := hrl
  clear hz0
  obtain ⟨lv, tv, cv, rfl, hlv0, htv0, hcv0⟩ := hp.v
  obtain ⟨wb, hwb⟩ : ∃ wb, wb = w.alloc (.cells #[.int .i64 m, lv, tv, cv] 28) := ⟨_, rfl⟩
  have BB : Hid (Below w.heap.size w wb) := Lib.hid (by rw [hwb]; exact (Below.refl _ _).alloc (Nat.le_refl _) _)
  have KB : Hid (Bk wb w.heap.size 28 #[.int .i64 m, lv, tv, cv]) := Lib.hid (by rw [hwb]; exact Bk.new w _ _)
  replace hv := hv.below BB.out
  replace hr := StrsD.below hr BB.out
  replace hp := hp.below BB.out
  have hlv := VnsD.below hlv0 BB.out
  have htv := TbsD.below htv0 BB.out
  have hcv := ClsD.below hcv0 BB.out
  clear hlv0 htv0 hcv0
  have HL := Lib.hid (light_is2 l v wb hv hl true hb)
  obtain ⟨ad, cap, rfl, _⟩ := id hv
  obtain ⟨ad2, cap2, rfl⟩ := hr.shape
  obtain ⟨ad3, cap3, rfl⟩ := hlv.shape
  obtain ⟨ad4, cap4, rfl⟩ := htv.shape
  obtain ⟨ad5, cap5, rfl⟩ := hcv.shape
  generalize l.length = n1 at HL
  generalize regs.length = n2 at hrl h20
  generalize vs.length = n3 at hwb KB ⊢
  generalize ts.length = n4 at hwb KB ⊢
  generalize cs.length = n5 at hwb KB ⊢
  have HWB := Lib.hid hwb
  clear hwb
  unfold maxLen at hrl
  have q1 : decide ((20 : Int) < (n2 : Int)) = true := decide_eq_true (by omega)
  have q2 : decide (20 < n2) = true := decide_eq_true (by omega)
  clear hv hl hb hr hp hlv htv hcv
  go_enter Try.func3, Try.ntmps3
  go_wp2_with fail
  rw [← HWB.out]
  refine HL.out.mono ?_
  rintro e w1 ⟨rfl, b1⟩
  have x0 := (KB.out.below b1).cell 0
  have x1 := (KB.out.below b1).cell 1
  have x2 := (KB.out.below b1).cell 2
  have x3 := (KB.out.below b1).cell 3
  have xl := (KB.out.below b1).lt
  go_wp2_with fail
  refine (known_any _).mono ?_
  rintro e w9 ⟨rfl, b9⟩
  go_wp2
  go_ret
  exact ⟨rfl, BB.out.trans ((b1.trans (b9.mono b1.size)).mono BB.out.size)⟩

set_option maxRecDepth 100000 in
set_option maxHeartbeats 8000000 in
theorem makes_big (l : List Nd) (v : Value) (regs : List ByteArray) (rv pv : Value) (m : Int) (vs : List (ByteArray × Int × Int)) (ts : List TB) (cs : List Cl) (w : World) (hv : NdsC w v l) (hl : l.length ≤ maxLen) (hr : StrsD w rv regs) (hrl : regs.length ≤ maxLen) (hp : PgD w pv m vs ts cs) (hb : lightB l = true) (h20 : regs.length ≤ 20) (hq : lightP vs ts cs = false) :
    Calls Try.prog 3 #[v, rv, pv] w fun e w' => e = .returned (.bool true) ∧ Below w.heap.size w w' := by
  have hz0 := hrl
  clear hz0
  obtain ⟨lv, tv, cv, rfl, hlv0, htv0, hcv0⟩ := hp.v
  obtain ⟨wb, hwb⟩ : ∃ wb, wb = w.alloc (.cells #[.int .i64 m, lv, tv, cv] 28) := ⟨_, rfl⟩
  have BB : Hid (Below w.heap.size w wb) := Lib.hid (by rw [hwb]; exact (Below.refl _ _).alloc (Nat.le_refl _) _)
  have KB : Hid (Bk wb w.heap.size 28 #[.int .i64 m, lv, tv, cv]) := Lib.hid (by rw [hwb]; exact Bk.new w _ _)
  replace hv := hv.below BB.out
  replace hr := StrsD.below hr BB.out
  replace hp := hp.below BB.out
  have hlv := VnsD.below hlv0 BB.out
  have htv := TbsD.below htv0 BB.out
  have hcv := ClsD.below hcv0 BB.out
  clear hlv0 htv0 hcv0
  have HL := Lib.hid (light_is2 l v wb hv hl true hb)
  have HP := Lib.hid (fun (W : World) (h : Below wb.heap.size wb W) => light4_any _ m vs ts cs W (hp.below h) false hq)
  obtain ⟨ad, cap, rfl, _⟩ := id hv
  obtain ⟨ad2, cap2, rfl⟩ := hr.shape
  obtain ⟨ad3, cap3, rfl⟩ := hlv.shape
  obtain ⟨ad4, cap4, rfl⟩ := htv.shape
  obtain ⟨ad5, cap5, rfl⟩ := hcv.shape
  generalize l.length = n1 at HL
  generalize regs.length = n2 at h20
  generalize vs.length = n3 at HP hwb KB ⊢
  generalize ts.length = n4 at HP hwb KB ⊢
  generalize cs.length = n5 at HP hwb KB ⊢
  have HWB := Lib.hid hwb
  clear hwb
  have q1 : decide ((20 : Int) < (n2 : Int)) = false := decide_eq_false (by omega)
  have q2 : decide (20 < n2) = false := decide_eq_false (by omega)
  clear hv hl hb hr hp hlv htv hcv hrl hq
  go_enter Try.func3, Try.ntmps3
  go_wp2_with fail
  rw [← HWB.out]
  refine HL.out.mono ?_
  rintro e w1 ⟨rfl, b1⟩
  have x0 := (KB.out.below b1).cell 0
  have x1 := (KB.out.below b1).cell 1
  have x2 := (KB.out.below b1).cell 2
  have x3 := (KB.out.below b1).cell 3
  have xl := (KB.out.below b1).lt
  go_wp2_with fail
  refine (HP.out _ b1).mono ?_
  rintro e w2 ⟨rfl, b2⟩
  go_wp2_with fail
  refine (known_any _).mono ?_
  rintro e w9 ⟨rfl, b9⟩
  go_wp2
  go_ret
  exact ⟨rfl, BB.out.trans ((b1.trans ((b2.trans (b9.mono b2.size)).mono b1.size)).mono BB.out.size)⟩

set_option maxRecDepth 100000 in
set_option maxHeartbeats 8000000 in
theorem makes_light (l : List Nd) (v : Value) (regs : List ByteArray) (rv pv : Value) (m : Int) (vs : List (ByteArray × Int × Int)) (ts : List TB) (cs : List Cl) (w : World) (hv : NdsC w v l) (hl : l.length ≤ maxLen) (hr : StrsD w rv regs) (hrl : regs.length ≤ maxLen) (hp : PgD w pv m vs ts cs) (hb : lightB l = true) (h20 : regs.length ≤ 20) (hq : lightP vs ts cs = true) :
    Calls Try.prog 3 #[v, rv, pv] w fun e w' => e = .returned (.bool true) ∧ Below w.heap.size w w' := by
  have hz0 := hrl
  clear hz0
  obtain ⟨lv, tv, cv, rfl, hlv0, htv0, hcv0⟩ := hp.v
  obtain ⟨wb, hwb⟩ : ∃ wb, wb = w.alloc (.cells #[.int .i64 m, lv, tv, cv] 28) := ⟨_, rfl⟩
  have BB : Hid (Below w.heap.size w wb) := Lib.hid (by rw [hwb]; exact (Below.refl _ _).alloc (Nat.le_refl _) _)
  have KB : Hid (Bk wb w.heap.size 28 #[.int .i64 m, lv, tv, cv]) := Lib.hid (by rw [hwb]; exact Bk.new w _ _)
  replace hv := hv.below BB.out
  replace hr := StrsD.below hr BB.out
  replace hp := hp.below BB.out
  have hlv := VnsD.below hlv0 BB.out
  have htv := TbsD.below htv0 BB.out
  have hcv := ClsD.below hcv0 BB.out
  clear hlv0 htv0 hcv0
  have HL := Lib.hid (light_is2 l v wb hv hl true hb)
  obtain ⟨hl250, hz⟩ := light_nmOK2 l hb
  obtain ⟨p1, p2, p3⟩ := lightP_some hq
  have HP := Lib.hid (fun (W : World) (h : Below wb.heap.size wb W) => light4_any _ m vs ts cs W (hp.below h) true hq)
  obtain ⟨cs1, ok1, hc1⟩ := codIs_of (rsvT regs) l
  obtain ⟨cs2, ok2, hc2⟩ := codIs_of (rsvC (vs.map (·.1)) (ts.map (·.1))) l
  have hcl1 := codIs_len hc1 (by omega)
  have hcl2 := codIs_len hc2 (by omega)
  have HS := Lib.hid hr
  obtain ⟨ad, cap, rfl, _⟩ := id hv
  obtain ⟨ad2, cap2, rfl⟩ := hr.shape
  obtain ⟨ad3, cap3, rfl⟩ := hlv.shape
  obtain ⟨ad4, cap4, rfl⟩ := htv.shape
  obtain ⟨ad5, cap5, rfl⟩ := hcv.shape
  have HT1 := Lib.hid (fun (W : World) (h : Below wb.heap.size wb W) => thread_any l _ regs _ W (hv.below h) (by omega) hz (StrsD.below hr h) (by omega) cs1 ok1 hc1)
  have HT2 := Lib.hid (fun (W : World) (h : Below wb.heap.size wb W) => rthread_any l _ regs _ W (hv.below h) (by omega) hz (StrsD.below hr h) (by omega) cs1 ok1 hc1)
  have htn : TnsD wb (.slice ad4 ts.length cap4) (ts.map (·.1)) := TbsD.tns htv
  have hn2 : (ts.map (·.1)).length ≤ 100000 := by rw [List.length_map]; omega
  have hn3 : ∀ x ∈ ts.map (·.1), x.regs.length ≤ 100000 := fun x hx => by have := p3 x hx; omega
  have HC1 := Lib.hid (fun (W : World) (h : Below wb.heap.size wb W) => claim_any l _ m _ _ (.slice ad5 cs.length cap5) vs (ts.map (·.1)) W (hv.below h) (by omega) hz (VnsD.below hlv h) (TnsD.below htn h) ⟨_, _, _, rfl⟩ (by omega) hn2 hn3 cs2 ok2 hc2)
  have HC2 := Lib.hid (fun (W : World) (h : Below wb.heap.size wb W) => rclaim_any l _ m _ _ (.slice ad5 cs.length cap5) vs (ts.map (·.1)) W (hv.below h) (by omega) hz (VnsD.below hlv h) (TnsD.below htn h) ⟨_, _, _, rfl⟩ (by omega) hn2 hn3 cs2 ok2 hc2)
  obtain ⟨nr, hnr⟩ : ∃ n, n = regs.length := ⟨_, rfl⟩
  rw [← hnr] at HT1 HT2 HS h20 ⊢
  have HNR := Lib.hid hnr
  generalize l.length = n1 at HL HT1 HT2 HC1 HC2 ⊢
  generalize vs.length = n3 at HP HC1 HC2 hwb KB ⊢
  generalize ts.length = n4 at HP HC1 HC2 hwb KB ⊢
  generalize cs.length = n5 at HP HC1 HC2 hwb KB ⊢
  have HWB := Lib.hid hwb
  clear hwb
  have q1 : decide ((20 : Int) < (nr : Int)) = false := decide_eq_false (by omega)
  have q2 : decide (20 < nr) = false := decide_eq_false (by omega)
  have HCL1 := Lib.hid hcl1
  have HCL2 := Lib.hid hcl2
  clear hv hl hb hr hp hlv htv hcv hrl hl250 hz p1 p2 p3 hc1 hc2 htn hn2 hn3 hnr hq hcl1 hcl2
  go_enter Try.func3, Try.ntmps3
  go_wp2_with fail
  rw [← HWB.out]
  refine HL.out.mono ?_
  rintro e w1 ⟨rfl, b1⟩
  have x0 := (KB.out.below b1).cell 0
  have x1 := (KB.out.below b1).cell 1
  have x2 := (KB.out.below b1).cell 2
  have x3 := (KB.out.below b1).cell 3
  have xl := (KB.out.below b1).lt
  go_wp2_with fail
  refine (HP.out _ b1).mono ?_
  rintro e w2 ⟨rfl, b2⟩
  have B2 := Lib.hid (b1.trans (b2.mono b1.size))
  clear b1 b2
  go_wp2_with fail
  go_loopg [7] nr (fun fuel i' wr => ∃ k : Nat, i' = .int .i64 k ∧ k ≤ nr ∧ nr - k ≤ fuel ∧ w2 = wr)
  case atStart => exact ⟨0, rfl, Nat.zero_le _, Nat.le_refl _, rfl⟩
  case round =>
    obtain ⟨k, rfl, hk, hf, rfl⟩ := hrel
    by_cases hlt : k < nr
    · have hk' : k < regs.length := by have := HNR.out; omega
      obtain ⟨adr, capr, hvv, hcr1, hcr2, hcr⟩ := HS.out
      obtain ⟨rfl, hzz, rfl⟩ := Value.slice.inj hvv
      clear hzz
      obtain ⟨g9, off9, rfl, hbl9, y0⟩ := hcr k hk'
      obtain ⟨yn, hy⟩ : ∃ x, x = regs[k]'hk' := ⟨_, rfl⟩
      rw [← hy] at y0
      have d0 : w2.cell? ⟨g9, off9 + k, none⟩ = some (.string yn) := (B2.out.cell (p := ⟨g9, _, none⟩) hbl9).trans (by unfold StrAt at y0; rw [Nat.mul_one] at y0; exact y0)
      clear y0 hy hvv hcr hcr1 hcr2
      by_cases g4 : 100 < yn.size
      · go_wp2_with fail
        refine (known_any _).mono ?_
        rintro e w9 ⟨rfl, b9⟩
        go_wp2
        go_ret
        exact ⟨rfl, BB.out.trans ((B2.out.trans (b9.mono B2.out.size)).mono BB.out.size)⟩
      · go_wp2
        go_roundg (gk - 1)
        case measure => omega
        case rel => exact ⟨k + 1, by go_num, by omega, by omega, rfl⟩
    · go_wp2_with fail
      refine (HT1.out _ B2.out).mono ?_
      rintro e w3 ⟨sv1, rfl, o3, b3⟩
      have D3 := Lib.hid (opsD_of_own o3)
      obtain ⟨sa1, sc1, rfl, _⟩ := own_shape' o3
      have B3 := Lib.hid (B2.out.trans (b3.mono B2.out.size))
      clear o3 b3
      go_wp2_with fail
      refine (HT2.out _ B3.out).mono ?_
      rintro e w4 ⟨sv2, rfl, o4, b4⟩
      have D4 := Lib.hid o4
      have D34 := Lib.hid (OpsD.below D3.out b4)
      obtain ⟨sa2, sc2, rfl⟩ := o4.shape
      have B4 := Lib.hid (B3.out.trans (b4.mono B3.out.size))
      clear o4 b4 D3
      have y0 := (KB.out.below B4.out).cell 0
      have y1 := (KB.out.below B4.out).cell 1
      have y2 := (KB.out.below B4.out).cell 2
      have y3 := (KB.out.below B4.out).cell 3
      have yl := (KB.out.below B4.out).lt
      go_wp2_with fail
      refine (HC1.out _ B4.out).mono ?_
      rintro e w5 ⟨sv3, rfl, o5, b5⟩
      have D5 := Lib.hid (opsD_of_own o5)
      have D45 := Lib.hid (OpsD.below D4.out b5)
      have D35 := Lib.hid (OpsD.below D34.out b5)
      obtain ⟨sa3, sc3, rfl, _⟩ := own_shape' o5
      have B5 := Lib.hid (B4.out.trans (b5.mono B4.out.size))
      clear o5 b5 D4 D34
      have z0 := (KB.out.below B5.out).cell 0
      have z1 := (KB.out.below B5.out).cell 1
      have z2 := (KB.out.below B5.out).cell 2
      have z3 := (KB.out.below B5.out).cell 3
      have zl := (KB.out.below B5.out).lt
      go_wp2_with fail
      refine (HC2.out _ B5.out).mono ?_
      rintro e w6 ⟨sv4, rfl, o6, b6⟩
      have D6 := Lib.hid o6
      have D56 := Lib.hid (OpsD.below D5.out b6)
      have HS1 := Lib.hid (sameO_any cs1 _ _ w6 (OpsD.below D35.out b6) (OpsD.below D45.out b6) HCL1.out)
      obtain ⟨sa4, sc4, rfl⟩ := o6.shape
      have B6 := Lib.hid (B5.out.trans (b6.mono B5.out.size))
      clear o6 b6 D35 D45 D5
      have HS2 := Lib.hid (fun (W : World) (h : Below w6.heap.size w6 W) => sameO_any cs2 _ _ W (OpsD.below D56.out h) (OpsD.below D6.out h) HCL2.out)
      generalize cs1.length = m1 at HS1
      generalize cs2.length = m2 at HS2
      go_wp2_with fail
      refine HS1.out.mono ?_
      rintro e w7 ⟨rfl, b7⟩
      have HS3 := Lib.hid (HS2.out w7 b7)
      have B7 := Lib.hid (B6.out.trans (b7.mono B6.out.size))
      clear b7
      go_wp2_with fail
      refine HS3.out.mono ?_
      rintro e w8 ⟨rfl, b8⟩
      have B8 := Lib.hid (B7.out.trans (b8.mono B7.out.size))
      clear b8
      go_wp2_with fail
      refine (known_any _).mono ?_
      rintro e w9 ⟨rfl, b9⟩
      go_wp2
      go_ret
      exact ⟨rfl, BB.out.trans ((B8.out.trans (b9.mono B8.out.size)).mono BB.out.size)⟩

end Go.Proofs.Ytibkegalbcjmpaa
