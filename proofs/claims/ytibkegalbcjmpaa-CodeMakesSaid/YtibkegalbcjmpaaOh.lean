/- Layer 6: what a step reads; what operators make. -/
import Derived.Test.YtibkegalbcjmpaaOg
namespace Go.Proofs.Ytibkegalbcjmpaa
open Go.RowKit

theorem AllD.at {w : World} {v : Value} {rs : List (List Int × Value)} (h : AllD w v rs) (t : Int) (ht : inB t rs.length = true) : ∃ b off cap, v = .slice (some ⟨b, off, none⟩) rs.length cap ∧ b < w.heap.size ∧ ∃ rv, w.cell? ⟨b, off + t.toNat, none⟩ = some rv ∧ IntsD w rv ((rs.map (·.1)).getD t.toNat []) := by
  obtain ⟨ad, cap, hv, _, _, hc⟩ := h
  have h1 := of_decide_eq_true ht
  have h2 : t.toNat < rs.length := by omega
  obtain ⟨b, off, rfl, hl, h3⟩ := hc _ h2
  refine ⟨b, off, cap, hv, hl, rs[t.toNat].2, ?_, ?_⟩
  · simpa using h3.1
  · rw [List.getD_eq_getElem?_getD, List.getElem?_map, List.getElem?_eq_getElem h2, Option.map_some, Option.getD_some]
    exact h3.2

set_option maxRecDepth 100000 in
set_option maxHeartbeats 4000000 in
theorem read_any (s : Nbs) (rs : List (List Int × Value)) (ov av mv : Value) (w : World) (hd : NbD w ov av mv rs s) (xo xn xt : Int) (hok : okO (lenI rs) s.own.length s.mem.length ⟨xo, xn, xt⟩ = true) (z : Int) (hz : rdO s ⟨xo, xn, xt⟩ = z) :
    Calls Try.prog 60 #[.agg #[.int .i64 s.mod, ov, av, mv], .agg #[.int .i64 xo, .int .i64 xn, .int .i64 xt]] w fun e w' => e = .returned (.int .i64 z) ∧ Below w.heap.size w w' := by
  have hB : Below w.heap.size w ((w.alloc (.cells #[.int .i64 s.mod, ov, av, mv] 72)).alloc (.cells #[.int .i64 xo, .int .i64 xn, .int .i64 xt] 53)) := (two_new _ _ _ _ _).1
  obtain ⟨ado, capo, hov⟩ := hd.o.shape
  obtain ⟨ada, capa, hav⟩ := hd.a.shape
  obtain ⟨adm, capm, hmv⟩ := hd.m.shape
  by_cases g2 : xo = 2
  · subst g2
    have ht : inB xn s.own.length = true := hok
    obtain ⟨b, off, cap, rfl, hl, hc⟩ := IntsD.at hd.o xn ht
    have h1 := (of_decide_eq_true ht).1
    have h2 := (of_decide_eq_true ht).2
    have hzz : s.own.getD xn.toNat 0 = z := hz
    rw [hzz] at hc
    obtain ⟨t, rfl⟩ : ∃ t : Nat, xn = t := ⟨xn.toNat, by omega⟩
    rw [Int.toNat_natCast] at hc
    subst hav hmv
    generalize hL : s.own.length = n at h2 hc hB
    have h3 : t < n := by omega
    have HB := Lib.hid hB
    clear hd hok ht hz hov hL h1 h2 hzz hB
    go_enter Try.func60, Try.ntmps60
    go_wp2
    go_ret
    exact ⟨rfl, HB.out⟩
  · by_cases g3 : xo = 3
    · subst g3
      have ht : inB xn s.mem.length = true := hok
      obtain ⟨b, off, cap, rfl, hl, hc⟩ := IntsD.at hd.m xn ht
      have h1 := (of_decide_eq_true ht).1
      have h2 := (of_decide_eq_true ht).2
      have hzz : s.mem.getD xn.toNat 0 = z := hz
      rw [hzz] at hc
      obtain ⟨t, rfl⟩ : ∃ t : Nat, xn = t := ⟨xn.toNat, by omega⟩
      rw [Int.toNat_natCast] at hc
      subst hav hov
      generalize hL : s.mem.length = n at h2 hc hB
      have h3 : t < n := by omega
      have HB := Lib.hid hB
      clear hd hok ht hz hmv hL h1 h2 hzz hB g2
      go_enter Try.func60, Try.ntmps60
      go_wp2
      go_ret
      exact ⟨rfl, HB.out⟩
    · by_cases g4 : xo = 4
      · subst g4
        have ht0 : (inB xt (lenI rs).length && inB xn ((lenI rs).getD xt.toNat 0)) = true := hok
        rw [Bool.and_eq_true] at ht0
        obtain ⟨ht, ht2⟩ := ht0
        have ht' : inB xt rs.length = true := by rw [← ht]; simp [lenI]
        have h1 := (of_decide_eq_true ht').1
        have h2 := (of_decide_eq_true ht').2
        obtain ⟨b, off, cap, rfl, hl, rv, hc, hr⟩ := AllD.at hd.a xt ht'
        rw [hd.e] at hr
        have hlen : (lenI rs).getD xt.toNat 0 = ((s.all.getD xt.toNat []).length : Int) := by
          have hx : xt.toNat < rs.length := by omega
          rw [← hd.e, List.getD_eq_getElem?_getD, List.getD_eq_getElem?_getD, lenI, List.getElem?_map, List.getElem?_map, List.getElem?_eq_getElem hx]; rfl
        rw [hlen] at ht2
        obtain ⟨b2, off2, cap2, rfl, hl2, hc2⟩ := IntsD.at hr xn ht2
        have h3 := (of_decide_eq_true ht2).1
        have h4 := (of_decide_eq_true ht2).2
        have hzz : (s.all.getD xt.toNat []).getD xn.toNat 0 = z := hz
        rw [hzz] at hc2
        obtain ⟨t, rfl⟩ : ∃ t : Nat, xn = t := ⟨xn.toNat, by omega⟩
        obtain ⟨u, rfl⟩ : ∃ u : Nat, xt = u := ⟨xt.toNat, by omega⟩
        rw [Int.toNat_natCast] at hc2
        rw [Int.toNat_natCast] at hc h4
        generalize hL1 : rs.length = n1 at h2 hB
        generalize hL2 : (s.all.getD u []).length = n2 at h4
        rw [hL2] at hc
        have h5 : u < n1 := by omega
        have h6 : t < n2 := by omega
        subst hmv hov
        have HB := Lib.hid hB
        clear hd hok ht ht' ht2 hz hav hL1 hL2 h1 h2 h3 h4 hzz hB g2 g3 hlen hr
        go_enter Try.func60, Try.ntmps60
        go_wp2
        go_quiet (fail)
        go_wp2
        go_ret
        exact ⟨rfl, HB.out.trans (below_end _)⟩
      · have hzz : xn = z := by rw [← hz]; unfold rdO; simp only []; rw [if_neg g2, if_neg g3, if_neg g4]
        subst hav hmv hov
        have HB := Lib.hid hB
        clear hd hok hz hB
        subst hzz
        go_enter Try.func60, Try.ntmps60
        go_wp2
        go_ret
        exact ⟨rfl, HB.out⟩

end Go.Proofs.Ytibkegalbcjmpaa
