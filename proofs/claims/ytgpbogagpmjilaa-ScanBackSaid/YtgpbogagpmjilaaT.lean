/- ScanBack holds: for every string the law returns true and the string reads as it did. -/
import Derived.Test.YtgpbogagpmjilaaR
import Derived.Test.YtgpbogagpmjilaaS
import Derived.Deep.QuietTactic
import Derived.BigQuiet
import Derived.IntWalk
namespace Go.Proofs.Ytgpbogagpmjilaa
open Go.ChangeShapes Go.WideShapes Go.ChangeAt Go.RowKit
open Go.ChangeMaps (open_string shut_string)

theorem showT_tv (l : List Tok) : showT (l.map tv) = showL l := by
  cases l with
  | nil => rfl
  | cons t r =>
    show _ ++ _ = _ ++ _
    rw [List.flatMap_map]
    rfl

theorem back_big (s : ByteArray) (w : World) (h : 3000 < s.size) (hs : s.size ≤ maxLen) :
    Calls Try.prog 5 #[.string s] w fun e w' => e = .returned (.bool true) ∧ Below w.heap.size w w' := by
  unfold maxLen at hs
  go_enter Try.func5, Try.ntmps5
  go_wp2_with (go_at_call 8; refine (known_any _).mono ?_; rintro e w1 ⟨rfl, hb⟩)
  go_ret
  exact ⟨rfl, hb⟩

theorem back_bad (s : ByteArray) (w : World) (h : s.size ≤ 3000) (er p : Nat) (hR : scanL s.data.toList = ([], er, p)) (her : er ≠ 0) (hp : p ≤ s.size) :
    Calls Try.prog 5 #[.string s] w fun e w' => e = .returned (.bool true) ∧ Below w.heap.size w w' := by
  have hm : s.size ≤ maxLen := by unfold maxLen; omega
  have HS := scan_shape s w hm [] er p hR
  have q0 : ((er : Int) != 0) = true := by simpa using her
  clear hm hR her
  go_enter Try.func5, Try.ntmps5
  go_wp2_with fail
  refine HS.mono ?_
  rintro e w1 ⟨ad, cap, rfl, _, hb1⟩
  go_wp2_with (go_at_call 8; refine (known_any _).mono ?_; rintro e w1 ⟨rfl, hb⟩)
  go_ret
  exact ⟨rfl, below_next hb1 hb⟩

/-- The texts that are shown, and scanned: the call of Show. -/
theorem show_own {w : World} {B n : Nat} {v : Value} {l : List Tok} (h : w.ownsRow B 29 4 v n (rowOf l)) (e : n = l.length) (hl : (showL l).length ≤ 100000) (hn : l.length ≤ 100000) :
    Calls Try.prog 16 #[v] w fun e w' => e = .returned (.string ⟨(showL l).toArray⟩) ∧ Below w.heap.size w w' := by
  subst e
  have := show_any v (l.map tv) w (toks_own h) (by rw [List.length_map]; omega) (by rw [showT_tv]; omega)
  rw [showT_tv] at this
  exact this

set_option maxHeartbeats 4000000 in
set_option maxRecDepth 100000 in
theorem back_good (s : ByteArray) (w : World) (h : s.size ≤ 3000) (toks : List Tok) (p : Nat) (hR : scanL s.data.toList = (toks, 0, p)) :
    Calls Try.prog 5 #[.string s] w fun e w' => e = .returned (.bool true) ∧ Below w.heap.size w w' := by
  have hm : s.size ≤ maxLen := by unfold maxLen; omega
  have HS := scan_shape s w hm toks 0 p hR
  have hlS := scanL_lenS s.data.toList
  have hl1 := length_le_lenS (scanL s.data.toList).1
  have hl2 := showL_le (scanL s.data.toList).1
  obtain ⟨mt, hM, hst⟩ := scanL_show s.data.toList (by rw [← Lib.size_eq]; exact h)
  obtain ⟨hpl, hinc, _, _⟩ := scanL_place s.data.toList (by rw [← Lib.size_eq]; omega)
  rw [hR, ← Lib.size_eq] at hlS
  rw [hR] at hl1 hl2 hM hst hpl hinc
  simp only [] at hlS hl1 hl2 hM hst hpl hinc
  obtain ⟨x, hx⟩ : ∃ x : ByteArray, x = ⟨(showL toks).toArray⟩ := ⟨_, rfl⟩
  have hxl : x.data.toList = showL toks := by rw [hx]
  have HX := fun w => scan_shape x w (by rw [Lib.size_eq, hxl]; unfold maxLen; omega) mt 0 0 (by rw [hxl]; exact hM)
  have HST : Hid (toks.map strip = mt.map strip) := hst.symm
  have HP : Hid (∀ k, (hk : k < toks.length) → toks[k].2.2.2 + toks[k].2.1.length ≤ s.size ∧ s.extract toks[k].2.2.2 (toks[k].2.2.2 + toks[k].2.1.length) = ⟨toks[k].2.1.toArray⟩) := fun k hk => by
    obtain ⟨h1, h2⟩ := hpl _ (List.getElem_mem hk)
    rw [← Lib.size_eq] at h1
    exact ⟨h1, by rw [Lib.extract_eq, Nat.add_sub_cancel_left, h2]⟩
  have HI : Hid (∀ k, (hk : k + 1 < toks.length) → toks[k].2.2.2 < toks[k + 1].2.2.2) := fun k hk => by
    exact (List.pairwise_iff_getElem.1 hinc) k (k + 1) (by omega) hk (by omega)
  have hmt : mt.length = toks.length := by
    have := congrArg List.length hst
    simpa using this
  have hlen : toks.length ≤ 6000 := by omega
  have hll : (showL toks).length ≤ 6000 := by omega
  have HSH : ∀ (w : World) (v : Value), w.ownsRow w.heap.size 29 4 v toks.length (rowOf toks) → True := fun _ _ _ => trivial
  clear HSH hm hR hlS hl1 hl2 hM hst hpl hinc hxl
  go_enter Try.func5, Try.ntmps5
  go_wp2_with fail
  refine HS.mono ?_
  rintro e w1 ⟨ad, cap, rfl, ho1, hb1⟩
  clear HS
  go_wp2_with fail
  refine (show_own ho1 rfl (by omega) (by omega)).mono ?_
  rw [← hx]
  rintro e w2 ⟨rfl, hb2⟩
  have ho2 := own_below ho1 hb2
  have hb3 := below_next hb1 hb2
  clear ho1 hb1 hb2 hx
  go_wp2_with fail
  refine (HX _).mono ?_
  rintro e w3 ⟨ad', cap', rfl, hom, hb4⟩
  have ho3 := own_below ho2 hb4
  have hb5 := below_next hb3 hb4
  clear ho2 hb3 hb4 HX
  obtain ⟨n, hn⟩ : ∃ n, n = toks.length := ⟨_, rfl⟩
  rw [hmt, ← hn] at hom
  rw [hmt, ← hn]
  rw [← hn] at ho3 hlen
  have HN := Lib.hid hn
  have HMT := Lib.hid hmt
  clear hn hmt
  have hsh := own_shape ho3
  have hcl := @World.ownsRow.cells _ _ _ _ _ _ _ ho3
  have HT : Hid (∀ g, ad = some ⟨g, 0, none⟩ → ∀ k, (hk : k < toks.length) → w3.cell? ⟨g, k * 4 + 1, none⟩ = some (.string ⟨(toks[k]).2.1.toArray⟩) ∧ w3.cell? ⟨g, k * 4 + 3, none⟩ = some (.int .i64 (toks[k]).2.2.2)) := by
    intro g hg k hk
    subst hg
    obtain ⟨_, r1, _, r3⟩ := rowOf_at toks k hk
    exact ⟨by rw [← addr_add]; exact hcl rfl _ _ r1, by rw [← addr_add]; exact hcl rfl _ _ r3⟩
  clear hcl
  go_wp2_with fail
  go_loopg [9] n (fun fuel i wr => ∃ k d : Nat, k ≤ n ∧ i = .int .i64 k ∧ n - k ≤ fuel ∧ w3.drewN d = wr)
  case atStart => exact ⟨0, 0, Nat.zero_le _, rfl, Nat.le_refl _, rfl⟩
  case round =>
    obtain ⟨k, d, hk, rfl, hf, rfl⟩ := hrel
    by_cases hlt : k < n
    · rcases hsh with ⟨rfl, h0⟩ | ⟨g, rfl, hg1, hg2⟩
      · omega
      · have hk' : k < toks.length := by have := HN.out; omega
        obtain ⟨c1, c3⟩ := HT.out g rfl k hk'
        obtain ⟨e1, e2⟩ := HP.out k hk'
        by_cases hk0 : k = 0
        · subst hk0
          simp only [Nat.zero_mul, Nat.zero_add] at c1 c3
          obtain ⟨⟨tk0, tx0, tn0, tp0⟩, ht⟩ : ∃ t, t = toks[0] := ⟨_, rfl⟩
          rw [← ht] at c1 c3 e1 e2
          simp only [] at c1 c3 e1 e2
          clear ht
          obtain ⟨y, hy⟩ : ∃ y : ByteArray, y = ⟨tx0.toArray⟩ := ⟨_, rfl⟩
          have hyl : tx0.length = y.size := by rw [hy, Lib.size_eq]
          rw [← hy] at c1 e2
          rw [hyl] at e1 e2
          clear hy hyl
          have q1 : decide ((s.size : Int) < (tp0 : Int) + (y.size : Int)) = false := by simp; omega
          have q2 : ((s.extract tp0 (tp0 + y.size)).toList == y.toList) = true := by rw [e2]; simp
          have q3 : decide ((tp0 : Int) < 0) = false := by simp
          have j1 : (tp0 : Int) + (y.size : Int) ≤ (s.size : Int) := by omega
          have j2 : (tp0 : Int) ≤ (tp0 : Int) + (y.size : Int) := by omega
          have j3 : (0 : Int) ≤ (tp0 : Int) := by omega
          have j4 : ((tp0 : Int) + (y.size : Int)).toNat = tp0 + y.size := by omega
          clear e2
          go_wp2
          go_quiet (fail)
          go_wp2
          go_quiet (fail)
          go_wp2
          go_roundg (gk - 1)
          case measure => clear j4; omega
          case rel => clear j4; exact ⟨1, _, by omega, by go_num, by omega, by rw [drewN_plus, drewN_plus]⟩
        · obtain ⟨j, hkj⟩ : ∃ j, k = j + 1 := ⟨k - 1, by omega⟩
          have hj1 : j + 1 < toks.length := by omega
          have hj2 : j < toks.length := by omega
          have hi := HI.out j hj1
          simp only [← hkj] at hi
          obtain ⟨d1, d3⟩ := HT.out g rfl j hj2
          obtain ⟨⟨tk0, tx0, tn0, tp0⟩, ht⟩ : ∃ t, t = toks[k] := ⟨_, rfl⟩
          rw [← ht] at c1 c3 e1 e2 hi
          simp only [] at c1 c3 e1 e2 hi
          obtain ⟨tpj, htj⟩ : ∃ z, z = toks[j].2.2.2 := ⟨_, rfl⟩
          rw [← htj] at d3 hi
          clear htj
          clear ht
          obtain ⟨y, hy⟩ : ∃ y : ByteArray, y = ⟨tx0.toArray⟩ := ⟨_, rfl⟩
          have hyl : tx0.length = y.size := by rw [hy, Lib.size_eq]
          rw [← hy] at c1 e2
          rw [hyl] at e1 e2
          clear hy hyl
          have q1 : decide ((s.size : Int) < (tp0 : Int) + (y.size : Int)) = false := by simp; omega
          have q2 : ((s.extract tp0 (tp0 + y.size)).toList == y.toList) = true := by rw [e2]; simp
          have q4 : decide ((tp0 : Int) ≤ (tpj : Int)) = false := by simp; omega
          have q5 : decide ((0 : Int) < (k : Int)) = true := by simp; omega
          have q4' : decide (tp0 ≤ tpj) = false := by simp; omega
          have q5' : decide (0 < k) = true := by simp; omega
          have q6 : 0 < k := by omega
          have m1 : IntKind.i64.wrap ((k : Int) - 1) = (k : Int) - 1 := IntWalk.i64_in _ (by omega)
          have m2 : (1 : Int) ≤ (k : Int) := by omega
          have m2' : (0 : Int) ≤ (k : Int) - 1 := by omega
          have m3 : (k : Int) - 1 < (n : Int) := by omega
          have m4 : ((k : Int) - 1).toNat = j := by omega
          have q3 : decide ((tp0 : Int) < 0) = false := by simp
          have j1 : (tp0 : Int) + (y.size : Int) ≤ (s.size : Int) := by omega
          have j2 : (tp0 : Int) ≤ (tp0 : Int) + (y.size : Int) := by omega
          have j3 : (0 : Int) ≤ (tp0 : Int) := by omega
          have j4 : ((tp0 : Int) + (y.size : Int)).toNat = tp0 + y.size := by omega
          clear e2
          clear d1
          clear hkj hi hj1 hj2
          go_wp2
          go_quiet (fail)
          go_wp2
          go_quiet (fail)
          go_wp2
          go_roundg (gk - 1)
          case measure => clear j4 m1 m4; omega
          case rel => clear j4 m1 m4; exact ⟨k + 1, _, by omega, by go_num, by omega, by rw [drewN_plus, drewN_plus]⟩
    · obtain rfl : k = n := by omega
      clear hsh
      have hbd : Below w.heap.size w (w3.drewN d) := below_drewN hb5 d
      have h1 : (w3.drewN d).ownsRow w.heap.size 29 4 (.slice ad k cap) k (rowOf toks) := ho3
      have h2 : (w3.drewN d).ownsRow w2.heap.size 29 4 (.slice ad' k cap') k (rowOf mt) := hom
      clear ho3 hom hb5
      go_wp2_with fail
      refine (same_alike h1 h2 HN.out (HN.out.trans HMT.out.symm) HST.out (by omega)).mono ?_
      rintro e w4 ⟨rfl, hb6⟩
      have hb7 := below_next hbd hb6
      clear h1 h2 hbd hb6
      go_wp2_with (go_at_call 8; refine (known_any _).mono ?_; rintro e w7 ⟨rfl, hb8⟩)
      go_ret
      exact ⟨rfl, below_next hb7 hb8⟩

theorem scanBack_walk (s : ByteArray) (hs : s.size ≤ maxLen) (w : World) :
    Calls Try.prog 5 #[.string s] w fun e w' => e = .returned (.bool true) ∧ Below w.heap.size w w' := by
  by_cases h : 3000 < s.size
  · exact back_big s w h hs
  · obtain ⟨⟨toks, er, p⟩, hR⟩ : ∃ R, scanL s.data.toList = R := ⟨_, rfl⟩
    by_cases her : er = 0
    · subst her
      exact back_good s w (by omega) toks p hR
    · obtain ⟨_, _, h1, h2⟩ := scanL_place s.data.toList (by rw [← Lib.size_eq]; omega)
      rw [hR, ← Lib.size_eq] at h1
      rw [hR] at h2
      have h3 : toks = [] := h2 her
      subst h3
      exact back_bad s w (by omega) er p hR her h1

theorem ownScanBack : ownKnob Try.prog.godebug = none := by kernel_rfl
theorem laidScanBack : laidOutB Try.prog = true := by kernel_rfl

set_option linter.unusedVariables false in
set_option maxRecDepth 100000 in
theorem scanBack_lifted (os : Os) (started : os.Started) (H : Type) (enc : TypeId × Value → H) :
    ReturnsInHanded {} Try.checked os 5 .any (Rows.scanBackSpec.pre6 enc Try.prog Try.f5 Rows.scanBackRow.domain false) (Rows.scanBackSpec.post enc Try.prog Try.f5 false true false false) := by
  refine returnsInHanded_of_change (C := Try.checked) ownScanBack started (by kernel_rfl) Try.func5
    (ChangeSpec.witness6 (enc := enc) (C := Try.checked) false ⟨#[], #[.string ByteArray.empty], []⟩ 8 (by kernel_rfl) (by kernel_rfl) (by kernel_rfl) (by kernel_rfl)) ?_
  intro W base args ds gs before hval0 hW hcnd _
  have hval : ∀ (j : Nat) t v, Try.f5.params[j]? = some t → args[j]? = some v → Value.okWide Try.prog W .any base t v := hval0
  have hW' := hW
  obtain ⟨p, q, hA0, hV, rfl, hfz, hnd⟩ := hW
  have hA : DataW.TrodAll enc Try.prog W 0 (fun _ => true) true Try.f5.params.toList args.toList ds p := hA0
  rw [Try.params5] at hA hval
  obtain ⟨v0, vs0, d0, ds0, p0, q0, hargs, rfl, rfl, h0, r0⟩ := trodAll_cons hA
  obtain ⟨rfl, rfl, rfl⟩ := trodAll_nil r0
  obtain rfl : args = #[v0] := by cases args; simp_all
  obtain ⟨rfl, rfl⟩ := trodVars_none hV
  have k0 := h0
  have lt0 : ∀ x ∈ p0, x.block < W.heap.size := by obtain ⟨m, hm⟩ := k0; exact DataW.trod_lt m _ _ _ hm
  obtain ⟨a0, rfl, rfl, rfl, w0⟩ := open_string Try.underlying9 (hval 0 9 v0 rfl rfl) h0
  clear hA0 hval0
  refine (scanBack_walk a0 w0 W).mono fun e W' ⟨he, bel⟩ => ?_
  subst he
  exact ⟨_, rfl, _, _, _, [], _, [], hW', trodAll_mk1 (shut_bool Try.underlying4 _), (trodAll_cons_mk (Below.trod laidScanBack (by kernel_rfl) (of_decide_eq_true (by kernel_rfl)) k0 bel lt0) trodAll_mk0), rfl, bel.frame _, fun h => by cases h⟩

theorem scanBack_holds : Rows.ScanBackSaid :=
  OpenClaim.holds_of_wide 5 Try.f5 rfl rfl rfl rfl rfl rfl rfl ⟨rfl, rfl, rfl, rfl, rfl⟩ rfl rfl rfl rfl rfl (by kernel_rfl) Try.func5 (by kernel_rfl)
    (of_decide_eq_true (by kernel_rfl)) (by unfold Func.isWrapper; first | (rw [if_pos (by decide +kernel)]; kernel_rfl) | (rw [if_neg (by decide +kernel)]; exact ⟨rfl, rfl⟩))
    (fun os started H enc _ => scanBack_lifted os started H enc)



end Go.Proofs.Ytgpbogagpmjilaa
