/- Layer 14's law: EdgesBuild's walk. -/
import Derived.Test.YtklejedddkhfjaaPb
import Derived.Test.YtklejedddkhfjaaNu
namespace Go.Proofs.Ytklejedddkhfjaa
set_option linter.unusedSimpArgs false
set_option linter.unusedVariables false
open Go.RowKit

theorem build_sz (n : Int) (l : List Edg) (hn : n ≤ 1000) (hl : l.length ≤ 1000) : (buildG n l).st.length ≤ 1001 ∧ (buildG n l).to.length ≤ 1000 ∧ (buildG n l).ag.length ≤ 1000 := by
  unfold buildG
  split
  · rename_i h
    have h2 : (srt n.toNat l).length ≤ l.length := lenS_le _ _
    refine ⟨by simp [bld]; omega, by simp [bld]; omega, by simp [bld]; omega⟩
  · exact ⟨by decide, by decide, by decide⟩

set_option maxRecDepth 100000 in
set_option maxHeartbeats 8000000 in
theorem build_in (n : Int) (l : List Edg) (v : Value) (w : World) (hd : EdgsD w v l) :
    Calls Try.prog 3 #[.int .i64 n, v] w fun e w' => e = .returned (.bool true) ∧ Below w.heap.size w w' := by
  have HD := Lib.hid hd
  obtain ⟨ad, cap, rfl⟩ := hd.shape0
  obtain ⟨m, hm⟩ : ∃ m, m = l.length := ⟨_, rfl⟩
  rw [← hm] at HD ⊢
  have HM := Lib.hid hm
  clear hd hm
  by_cases h1 : 200 < n
  · go_enter Try.func3, Try.ntmps3
    go_wp2_with fail
    refine (known_any _).mono ?_
    rintro e w2 ⟨rfl, b2⟩
    have BX := Lib.hid b2
    clear b2
    go_wp2_with fail
    go_ret
    exact ⟨rfl, BX.out⟩
  · by_cases h2 : 400 < m
    · have h3 : (400 : Int) < (m : Int) := by omega
      go_enter Try.func3, Try.ntmps3
      go_wp2_with fail
      refine (known_any _).mono ?_
      rintro e w2 ⟨rfl, b2⟩
      have BX := Lib.hid b2
      clear b2
      go_wp2_with fail
      go_ret
      exact ⟨rfl, BX.out⟩
    · have h3 : ¬ (400 : Int) < (m : Int) := by omega
      have HSZ : Hid (n ≤ 1000 ∧ l.length ≤ 1000) := Lib.hid ⟨by omega, by have := HM.out; omega⟩
      have HSB := Lib.hid (build_sz n l HSZ.out.1 HSZ.out.2)
      have O0 : Hid ((w.alloc (.cells #[] 44)).ownsRow w.heap.size 44 3 (.slice (some ⟨w.heap.size, 0, none⟩) 0 0) ([] : List Edg).length (rowG [])) := Lib.hid ⟨rfl, .inr ⟨w.heap.size, 0, #[], rfl, Nat.le_refl _, Bk.new w _ _, Nat.le_refl _, by decide, rfl, rfl⟩⟩
      have B0 := Lib.hid (bal (Below.refl w.heap.size w) (.cells #[] 44))
      have D0 := Lib.hid (HD.out.below B0.out)
      have HN0 : Hid (([] : List Edg).length + l.length ≤ 1000000) := Lib.hid (by have := HSZ.out; simp only [List.length_nil]; omega)
      have HS0 : Hid (w.heap.size ≤ (w.alloc (.cells #[] 44)).heap.size) := Lib.hid B0.out.size
      go_enter Try.func3, Try.ntmps3
      go_wp2_with (at_builtin; refine append_edgs rfl (.tmp 18) (.tmp 19) rfl w.heap.size _ [] l rfl ad m cap rfl O0.out D0.out HN0.out HS0.out l (List.nil_append l) ?_)
      intro v2 w2 O2 B2
      have BX := Lib.hid (B0.out.trans B2.out)
      obtain ⟨oa, oc, rfl, _⟩ := own_shape' O2.out
      have HOW := Lib.hid (edgsD_of_own O2.out)
      rw [← HM.out] at HOW ⊢
      clear O0 B0 D0 HN0 HS0 O2 B2
      go_wp2_with fail
      refine (build_any n l _ _ HOW.out HSZ.out.1 HSZ.out.2).mono ?_
      rintro e w3 ⟨us, ua, ut, rfl, gd, b3⟩
      obtain ⟨f1, fn1, fc1, f2, fn2, fc2, f3, fn3, fc3, rfl, rfl, rfl⟩ := gd.sh
      have bb := (Below.refl w3.heap.size w3).alloc (Nat.le_refl _) (.cells #[.slice f1 fn1 fc1, .slice f2 fn2 fc2, .slice f3 fn3 fc3] 26)
      have DA := Lib.hid (gd.below bb)
      have KA := Lib.hid (Bk.new w3 26 #[.slice f1 fn1 fc1, .slice f2 fn2 fc2, .slice f3 fn3 fc3])
      replace HOW := Lib.hid (EdgsD.below (EdgsD.below HOW.out b3) bb)
      replace BX := Lib.hid (BX.out.trans ((b3.trans (bb.mono b3.size)).mono BX.out.size))
      clear gd b3 bb
      go_upto_region 5 with fail
      obtain ⟨ga, hga⟩ : ∃ x, x = w3.heap.size := ⟨_, rfl⟩
      rw [← hga] at KA ⊢
      generalize World.alloc w3 _ = w4 at DA KA HOW BX ⊢
      clear hga
      have HD4 := Lib.hid (HD.out.below BX.out)
      go_wp2_with fail
      refine (rbuild_any n l _ _ HD4.out HSZ.out.1 HSZ.out.2).mono ?_
      rintro e w5 ⟨us, ua, ut, rfl, gd, b5⟩
      obtain ⟨k1, kn1, kc1, k2, kn2, kc2, k3, kn3, kc3, rfl, rfl, rfl⟩ := gd.sh
      have bb := (Below.refl w5.heap.size w5).alloc (Nat.le_refl _) (.cells #[.slice k1 kn1 kc1, .slice k2 kn2 kc2, .slice k3 kn3 kc3] 26)
      have DB := Lib.hid (gd.below bb)
      have KB := Lib.hid (Bk.new w5 26 #[.slice k1 kn1 kc1, .slice k2 kn2 kc2, .slice k3 kn3 kc3])
      replace HOW := Lib.hid (EdgsD.below (EdgsD.below HOW.out b5) bb)
      replace DA := Lib.hid ((DA.out.below b5).below bb)
      replace KA := Lib.hid ((KA.out.below b5).below bb)
      replace BX := Lib.hid (BX.out.trans ((b5.trans (bb.mono b5.size)).mono BX.out.size))
      clear gd b5 bb HD4
      go_upto_region 6 with fail
      obtain ⟨gb, hgb⟩ : ∃ x, x = w5.heap.size := ⟨_, rfl⟩
      rw [← hgb] at KB ⊢
      generalize World.alloc w5 _ = w6 at DA KA DB KB HOW BX ⊢
      clear hgb
      have c0 := KA.out.cell 0
      have c1 := KA.out.cell 1
      have c2 := KA.out.cell 2
      have lk := KA.out.lt
      have d0 := KB.out.cell 0
      have d1 := KB.out.cell 1
      have d2 := KB.out.cell 2
      have ld := KB.out.lt
      have qe : (buildE n l == buildE n l) = true := by simp
      go_wp2_with fail
      refine (graphs_any _ _ _ _ _ _ _ _ _ DA.out DB.out (by have := HSB.out; omega) true (by unfold sameG; simp)).mono ?_
      rintro e w7 ⟨rfl, b7⟩
      replace HOW := Lib.hid (EdgsD.below HOW.out b7)
      replace BX := Lib.hid (BX.out.trans (b7.mono BX.out.size))
      have HD7 := Lib.hid (HD.out.below BX.out)
      clear b7 c0 c1 c2 lk d0 d1 d2 ld KA KB DA DB
      go_wp2_with fail
      refine (edges_gen _ _ _ _ _ HOW.out HD7.out (by have := HSZ.out; omega) true (by simp)).mono ?_
      rintro e w8 ⟨rfl, b8⟩
      replace BX := Lib.hid (BX.out.trans (b8.mono BX.out.size))
      clear b8 HOW HD7
      go_wp2_with fail
      refine (known_any _).mono ?_
      rintro e w9 ⟨rfl, b9⟩
      replace BX := Lib.hid (BX.out.trans (b9.mono BX.out.size))
      clear b9
      go_wp2_with fail
      go_ret
      exact ⟨rfl, BX.out⟩

end Go.Proofs.Ytklejedddkhfjaa
