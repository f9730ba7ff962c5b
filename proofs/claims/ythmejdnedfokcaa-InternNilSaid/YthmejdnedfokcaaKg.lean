/- Layer 13: the landed table: a new text is put. -/
import Derived.Test.YthmejdnedfokcaaKf
namespace Go.Proofs.Ythmejdnedfokcaa
set_option linter.unusedSimpArgs false
set_option linter.unusedVariables false
open Go.RowKit

attribute [local go_sem ↓] Go.wp_at_zero Go.wp_at_succ
set_option maxRecDepth 100000 in
set_option maxHeartbeats 4000000 in
theorem put_new {w : World} {t : Value} {L : List ByteArray} {F : Nat → Prop} (s : ByteArray) (ht : TBt w t L F) (hfw : Few L) (hs : s.size ≤ 300) (hq : hasT L s = false) :
    Calls Try.prog 10 #[t, .string s] w fun e w' => e = .returned (.tuple #[.int .i64 (L.length : Nat), .bool true]) ∧ ∃ F' : Nat → Prop, TBt w' t (L ++ [s]) F' ∧ (∀ x, F' x → F x ∨ w.heap.size ≤ x) ∧ Oth F w w' := by
  obtain ⟨g, sl, n, vt, val, rfl, hb, hr, hn, hF⟩ := ht
  have hN := hfw.1
  have hge := slotsN_ge (n := L.length) (by omega)
  have HNX := Lib.hid (slotsN_next (n := L.length) (by omega))
  rw [← hn] at hge HNX
  have HVL := Lib.hid (valid_yes g vt _ hb.bk)
  have HSL := Lib.hid fun (W : World) (hT : Tb W g sl n vt L val) => slot_any (w := W) s hT hr.bound (hr.room (by omega) _) hs (by omega)
  have HSA : Hid (∀ x ∈ L ++ [s], x.size ≤ 300) := Lib.hid fun x hx => by
    rcases List.mem_append.1 hx with h | h
    · exact hfw.2 x h
    · rw [List.mem_singleton.1 h]; exact hs
  obtain ⟨ad, cap, rfl⟩ := hb.shape
  have HT := Lib.hid hb
  have HR := Lib.hid hr
  have HQ := Lib.hid hq
  have HF := Lib.hid hF
  obtain ⟨N, hNN⟩ : ∃ N, N = L.length := ⟨_, rfl⟩
  rw [← hNN] at HT HNX HSL HF hge
  have HNN := Lib.hid hNN
  have HN : Hid (N ≤ 3000 ∧ 2 * N ≤ n ∧ 16 ≤ n) := Lib.hid ⟨by omega, by omega, by omega⟩
  have ht := HT.out
  clear hb hr hn hF hfw hq hs hN hge
  rw [← HNN.out]
  clear hNN ht
  go_enter Try.func10, Try.ntmps10
  go_wp2_with fail
  refine HVL.out.mono ?_
  rintro e w1 ⟨rfl, b1⟩
  have T1 := Lib.hid (HT.out.below b1)
  have B1 := Lib.hid b1
  clear b1
  go_wp2_with fail
  refine (HSL.out w1 T1.out).mono ?_
  rintro e w2 ⟨d, a, fd, rfl, b2⟩
  have T2 := Lib.hid (T1.out.below b2)
  have B2 := Lib.hid (B1.out.trans (b2.mono B1.out.size))
  have hv : val a = none := by
    rcases HR.out.found fd with ⟨h0, _⟩ | ⟨_, h⟩
    · rw [HQ.out] at h0; cases h0
    · exact h
  have FD := Lib.hid fd
  have HV := Lib.hid hv
  have c1 := T2.out.cells.2.1
  have c2 := T2.out.cells.2.2
  have c3 := T2.out.slot fd.al
  rw [hv] at c3
  have hal := fd.al
  have HAL := Lib.hid hal
  have e1 : (0 : Int) ≤ (a : Int) := by omega
  have e2 : (a : Int) < (n : Int) := by omega
  unfold encV at c3
  -- the text, in a row of its own
  have HA := Lib.hid ((Below.refl w2.heap.size w2).alloc (Nat.le_refl _) (.cells #[.string s] 9))
  have TA := Lib.hid (T2.out.below HA.out)
  have BA := Lib.hid (B2.out.trans (HA.out.mono B2.out.size))
  have KN := Lib.hid (Bk.new w2 9 #[.string s])
  have HO := Lib.hid TA.out.own
  rw [← HNN.out] at HO
  have HNE : Hid (N ≤ 1000000) := Lib.hid (by have := HN.out; omega)
  have HZ : Hid (strs L ++ [Value.string s] = strs (L ++ [s])) := Lib.hid (by unfold strs; rw [List.map_append]; rfl)
  have HSZ : Hid (0 ≤ (w2.alloc (.cells #[.string s] 9)).heap.size) := Lib.hid (Nat.zero_le _)
  clear b2 B1 T1 hv fd HSL HVL HT hal B2
  go_wp2_with (at_builtin; refine list_app1 rfl (.tmp 33) (.tmp 35) 22 9 (.string ⟨#[]⟩) 16 rfl Try.underlying22 info_strs rfl (by decide) 0 (.slice ad N cap) N _ rfl HO.out w2.heap.size (.string s) rfl KN.out rfl HNE.out HSZ.out _ HZ.out ?_)
  intro g1 c1' w3 O3 B3 G3 H3
  obtain ⟨M, hM⟩ : ∃ M, N + 1 = M := ⟨_, rfl⟩
  have HM := Lib.hid hM
  have HLM : Hid ((L ++ [s]).length = M) := Lib.hid (by rw [List.length_append, ← HNN.out, ← hM]; rfl)
  rw [hM] at O3 HNX ⊢
  have O3' : Hid (w3.ownsRow 0 9 1 (.slice (some ⟨g1, 0, none⟩) M c1') (L ++ [s]).length (strs (L ++ [s]))) := Lib.hid (by rw [HLM.out]; exact O3.out)
  have TG := Lib.hid (TA.out.grow O3'.out G3.out)
  have d1 : w3.cell? ⟨g, 1, none⟩ = some (.slice ad N cap) := (bk_grown TA.out.bk G3.out (own_ne_bk TA.out.own TA.out.bk (by decide))).cell 1
  have f1 : w3.frozen? ⟨g, 1, none⟩ = false := (bk_grown TA.out.bk G3.out (own_ne_bk TA.out.own TA.out.bk (by decide))).fz 1
  have l1 := (bk_grown TA.out.bk G3.out (own_ne_bk TA.out.own TA.out.bk (by decide))).lt
  have l3 := TG.out.lt sl (.inr (.inl rfl))
  have OG : Hid (Oth (fun x => x = g ∨ x = sl ∨ (Value.slice ad N cap).ownBlock = some x) w (w3.setCell ⟨g, 1, none⟩ (.slice (some ⟨g1, 0, none⟩) M c1')) ∧ ((Value.slice ad N cap).ownBlock = some g1 ∨ w.heap.size ≤ g1)) := Lib.hid (by
    refine ⟨⟨((BA.out.mono (Nat.zero_le _)).trans B3.out).setCell (Nat.zero_le _) _, fun x hx hn => ?_⟩, ?_⟩
    · have h1 : x ≠ g := fun e => hn (.inl e)
      have h2 : some x ≠ (Value.slice ad N cap).ownBlock := fun e => hn (.inr (.inr e.symm))
      exact ((Below.heap_setCell w3 ⟨g, 1, none⟩ _ x h1).trans (G3.out.block x (Nat.lt_of_lt_of_le hx BA.out.size) h2)).trans (BA.out.block x hx)
    · rcases H3.out with h | h
      · exact .inl h
      · refine .inr ?_
        have := BA.out.size
        rw [alloc_size] at this
        omega)
  clear c1 c2 c3 O3 B3 G3 H3 KN HO HA TA BA T2 hM HZ HSZ HNE
  go_wp2_with fail
  generalize w3.setCell _ _ = w4 at TG OG l3 ⊢
  clear d1 f1 l1 O3'
  have hal := HAL.out
  have c1 := TG.out.cells.2.1
  have c2 := TG.out.cells.2.2
  have c3 := TG.out.slot hal
  have f3 := TG.out.slFz a
  have HMI : Hid ((M : Int) = (N : Int) + 1) := Lib.hid (by rw [← HM.out]; rfl)
  go_region_law (fail)
  all_goals
    have TS : Hid (Tb (w4.setCell ⟨sl, a, none⟩ (.int .i64 (M : Int))).drew g sl n (.slice (some ⟨g1, 0, none⟩) M c1') (L ++ [s]) (fun x => if x = a then some N else val x)) := Lib.hid ((TG.out.setSlot' hal N (M : Int) HMI.out).below (below_drewN (Below.refl _ _) 1))
    have OS : Hid (Oth (fun x => x = g ∨ x = sl ∨ (Value.slice ad N cap).ownBlock = some x) w (w4.setCell ⟨sl, a, none⟩ (.int .i64 (M : Int))).drew) := Lib.hid (by
      refine ⟨(OG.out.1.b.setCell (Nat.zero_le _) _).trans (below_drewN (Below.refl 0 _) 1), fun x hx hn => ?_⟩
      refine ((below_drewN (Below.refl (w4.setCell ⟨sl, a, none⟩ (.int .i64 (M : Int))).heap.size (w4.setCell ⟨sl, a, none⟩ (.int .i64 (M : Int)))) 1).block x ?_).trans ((Below.heap_setCell w4 ⟨sl, a, none⟩ _ x (fun e => hn (.inr (.inl e)))).trans (OG.out.1.k x hx hn))
      exact Nat.lt_of_lt_of_le hx (OG.out.1.b.setCell (Nat.zero_le _) _).size)
    have OB := Lib.hid OG.out.2
    have SN : Hid (Slo n (fun x => if x = a then some N else val x) (hsN n) (L ++ [s])) := Lib.hid (by
      have := HR.out.put (s := s) HQ.out FD.out.dl FD.out.ae HV.out fun e he => (FD.out.pre e he).1
      rw [← HNN.out] at this
      exact this)
    generalize (w4.setCell _ _).drew = w5 at TS OS ⊢
    clear TG OG l3 c1 c2 c3 f3 hal
    go_wp2_with fail
    go_loopg [] 20 (fun fuel wr => ∃ (m sl' : Nat) (val' : Nat → Option Nat), Tb wr g sl' m (.slice (some ⟨g1, 0, none⟩) M c1') (L ++ [s]) val' ∧ Slo m val' (hsN m) (L ++ [s]) ∧ slF fuel M m = slotsN M ∧ 2 * M ≤ m * 2 ^ fuel ∧ M < 2 * m ∧ (sl' = sl ∨ w.heap.size ≤ sl') ∧ Oth (fun x => x = g ∨ x = sl ∨ (Value.slice ad N cap).ownBlock = some x) w wr)
    case atStart => exact ⟨n, sl, _, TS.out, SN.out, HNX.out, by have h1 := HN.out; have h2 := HM.out; have h3 : (2 : Nat) ^ 20 = 1048576 := (by decide); omega, by have h1 := HN.out; have h2 := HM.out; omega, .inl rfl, OS.out⟩
    case round =>
      clear TS OS SN
      obtain ⟨m, sl', val', htk, hsk, hfl, hpw, hm2, hsl', ho⟩ := hrel
      have HTK := Lib.hid htk
      have HSK := Lib.hid hsk
      have HO := Lib.hid ho
      have HFL := Lib.hid hfl
      have HPW := Lib.hid hpw
      have HM2 := Lib.hid hm2
      have HSL' := Lib.hid hsl'
      have c1 := htk.cells.2.1
      have c2 := htk.cells.2.2
      have hw2 : IntKind.i64.wrap (2 * (M : Int)) = 2 * (M : Int) := IntWalk.i64_in _ (by have h1 := HN.out; have h2 := HM.out; omega)
      clear htk hsk hfl hpw hm2 hsl' ho
      by_cases hlt : m < 2 * M
      · have HLT := Lib.hid hlt
        have e3 : (m : Int) < 2 * (M : Int) := by omega
        clear hlt
        go_wp2_with fail
        go_quiet (fail)
        go_wp2_with fail
        have HTN := Lib.hid (HTK.out.below (below_drewN (Below.refl wr.heap.size wr) nq))
        have HON := Lib.hid (HO.out.trans (Oth.of (below_drewN (Below.refl wr.heap.size wr) nq)) (fun _ h => h) (fun _ _ h => h))
        clear c1 c2
        generalize wr.drewN nq = wd at HTN HON ⊢
        refine (double_any HTN.out HSK.out.nd HSA.out (by have h0 := HLT.out; have h1 := HN.out; have h2 := HM.out; omega) (by rw [HLM.out]; exact HM2.out) (by rw [HLM.out]; have h1 := HN.out; have h2 := HM.out; omega)).mono ?_
        rintro e w6 ⟨rfl, v6, t6, s6, o6⟩
        have ho6 := HON.out.trans (G := fun x => x = g ∨ x = sl ∨ (Value.slice ad N cap).ownBlock = some x) o6 (fun _ h => h) (fun _ _ h => .inl h)
        obtain ⟨q1, q2, q3⟩ := slF_step HLT.out HPW.out
        have HQ1 := Lib.hid q1
        have HQ2 := Lib.hid (q2.trans HFL.out)
        have HQ3 := Lib.hid q3
        have HS6 := Lib.hid s6
        have HT6 := Lib.hid t6
        have HO6 := Lib.hid ho6
        clear q1 q2 q3 s6 t6 ho6 o6
        go_wp2_with fail
        have q1 := HQ1.out
        go_roundg (gk - 1)
        case measure => omega
        case rel => exact ⟨2 * m, wd.heap.size, v6, HT6.out, HS6.out, HQ2.out, HQ3.out, by have := HM2.out; omega, .inr HON.out.b.size, HO6.out⟩
      · have HLT := Lib.hid hlt
        have e3 : ¬ (m : Int) < 2 * (M : Int) := by omega
        have e4 : IntKind.i64.wrap ((M : Int) - 1) = (N : Int) := by rw [HMI.out, Int.add_sub_cancel]; exact IntWalk.i64_in _ (by have h1 := HN.out; omega)
        clear hlt
        go_wp2_with fail
        go_quiet (fail)
        go_wp2_with fail
        go_ret2
        refine ⟨rfl, fun x => x = g ∨ x = sl' ∨ (Value.slice (some ⟨g1, 0, none⟩) M c1').ownBlock = some x, ⟨g, sl', m, _, val', rfl, HTK.out.below (below_drewN (Below.refl _ _) nq), HSK.out, ?_, fun x => Iff.rfl⟩, ?_, ?_⟩
        · rw [HLM.out, ← HFL.out, slF_stop HLT.out]
        · rintro x (rfl | rfl | h)
          · exact .inl ((HF.out _).2 (.inl rfl))
          · rcases HSL'.out with rfl | h
            · exact .inl ((HF.out _).2 (.inr (.inl rfl)))
            · exact .inr h
          · have e : g1 = x := by simpa [Value.ownBlock] using h
            subst e
            rcases OB.out with h | h
            · exact .inl ((HF.out _).2 (.inr (.inr h)))
            · exact .inr h
        · refine HO.out.trans (Oth.of (below_drewN (Below.refl wr.heap.size wr) nq)) (fun x h => (HF.out x).2 h) (fun x _ h => (HF.out x).2 h)

end Go.Proofs.Ythmejdnedfokcaa
