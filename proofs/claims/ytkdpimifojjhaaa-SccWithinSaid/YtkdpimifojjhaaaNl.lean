/- Layer 14, the code: list, All. -/
import Derived.Test.YtkdpimifojjhaaaNk
namespace Go.Proofs.Ytkdpimifojjhaaa
set_option linter.unusedSimpArgs false
set_option linter.unusedVariables false
open Go.RowKit

set_option maxRecDepth 100000 in
set_option maxHeartbeats 8000000 in
theorem list_any (g : Gr) (hg : RG g) (vs va vt : Value) (w : World) (hd : GrD w vs va vt g) (hn : g.st.length ≤ 1001 ∧ g.to.length ≤ 1000) :
    Calls Try.prog 49 #[.agg #[vs, va, vt]] w fun e w' => ∃ g', e = .returned (.slice (some ⟨g', 0, none⟩) (allL g).length (allL g).length) ∧ BkE w' g' (allL g) ∧ w.heap.size < g' ∧ Below w.heap.size w w' := by
  have HD := Lib.hid hd
  have HG := Lib.hid hg
  have HCT := Lib.hid fun (W : World) (h : Below w.heap.size w W) => count_any vs va vt g W (hd.below h).s hg.pos (by omega)
  have HRW := Lib.hid fun (W : World) (h : Below w.heap.size w W) (k : Nat) (hk : k < numN g) => row_any g hg vs va vt W (hd.below h) hn k hk
  have hal := hg.allLen
  obtain ⟨a1, p1, rfl⟩ := hd.s.shape0
  obtain ⟨a2, p2, rfl⟩ := hd.t.shape0
  obtain ⟨a3, p3, rfl⟩ := hd.a.shape0
  clear hd
  obtain ⟨n, hn'⟩ : ∃ n, n = g.st.length := ⟨_, rfl⟩
  obtain ⟨m, hm⟩ : ∃ n, n = g.to.length := ⟨_, rfl⟩
  obtain ⟨l, hl⟩ : ∃ n, n = g.ag.length := ⟨_, rfl⟩
  rw [← hn', ← hm, ← hl] at HCT HRW HD ⊢
  rw [← hn', ← hm] at hn
  rw [← hm] at hal
  have HN := Lib.hid hn'
  have HAL := Lib.hid hal
  obtain ⟨N, hNN⟩ : ∃ N, N = numN g := ⟨_, rfl⟩
  rw [← hNN] at HCT HRW
  have HNU : Hid (N = numN g ∧ N + 1 = n) := Lib.hid ⟨hNN, by rw [hNN, hn']; have := hg.pos; unfold numN; omega⟩
  have HSZ : Hid (n ≤ 1001 ∧ m ≤ 1000) := Lib.hid hn
  have HTL : Hid (m = g.to.length) := Lib.hid hm
  have hm6 : m ≤ 1000000 := by omega
  rw [hal]
  clear hn' hm hl hal hn hg hNN
  have BX := Lib.hid (bal (Below.refl w.heap.size w) (.cells #[.slice a1 n p1, .slice a3 l p3, .slice a2 m p2] 24))
  have KX := Lib.hid (Bk.new w 24 #[.slice a1 n p1, .slice a3 l p3, .slice a2 m p2])
  go_enter Try.func49, Try.ntmps49
  go_wp2_with (refine make_edgs rfl (.tmp 7) (.tmp 7) rfl m rfl rfl hm6 ?_)
  intro w1 HE b1
  have b1' : Below (w.alloc (.cells #[.slice a1 n p1, .slice a3 l p3, .slice a2 m p2] 24)).heap.size (w.alloc (.cells #[.slice a1 n p1, .slice a3 l p3, .slice a2 m p2] 24)) w1 := by rw [alloc_size]; exact b1.out
  obtain ⟨ge, hge⟩ : ∃ x, x = w.heap.size + 1 := ⟨_, rfl⟩
  rw [← hge] at HE ⊢
  have HGE : Hid (w.heap.size < ge) := Lib.hid (by omega)
  have BA := Lib.hid (BX.out.trans (b1'.mono BX.out.size))
  have KA := Lib.hid (KX.out.below b1')
  have c0 := KA.out.cell 0
  have c1 := KA.out.cell 1
  have c2 := KA.out.cell 2
  have lw := KA.out.lt
  have hz : sN g 0 = 0 := HG.out.zero
  have E0 : Hid (BkE w1 ge (filL (allL g) (sN g 0))) := Lib.hid (by rw [hz, filL_zero, HAL.out]; exact HE.out)
  clear hge HE b1 b1' BX KX hm6 hz
  go_wp2_with fail
  refine (HCT.out _ BA.out).mono ?_
  rintro e w2 ⟨rfl, b2⟩
  have BB := Lib.hid (BA.out.trans (b2.mono BA.out.size))
  have KB := Lib.hid (KA.out.below b2)
  have EB := Lib.hid (Bk.below E0.out b2)
  clear b2 BA KA E0 c0 c1 c2 lw HCT
  go_wp2_with fail
  go_loopg [4, 11] N (fun fuel s4 i' wr => ∃ (k : Nat), i' = .int .i64 k ∧ k ≤ N ∧ N - k ≤ fuel ∧ BkE wr ge (filL (allL g) (sN g k)) ∧ Below w.heap.size w wr ∧ Bk wr w.heap.size 24 #[.slice a1 n p1, .slice a3 l p3, .slice a2 m p2])
  case atStart => exact ⟨0, rfl, Nat.zero_le _, Nat.le_refl _, EB.out, BB.out, KB.out⟩
  case round =>
    clear EB BB KB
    obtain ⟨k, rfl, hk, hf, he, hb, hkk⟩ := hrel
    have HE := Lib.hid he
    have HB := Lib.hid hb
    have HK := Lib.hid hkk
    clear he hb hkk
    have i5 : IntKind.i64.wrap ((k : Int) + 1) = (k : Int) + 1 := IntWalk.i64_in _ (by have := HSZ.out; have := HNU.out; omega)
    by_cases hlt : k < N
    · have hkN : k < numN g := by rw [← HNU.out.1]; exact hlt
      have hks : k < g.st.length := by rw [← HN.out]; have := HNU.out; omega
      have hst := HG.out.st k (Nat.le_of_lt hkN)
      have HFI := Lib.hid (HG.out.fil k hkN)
      have HLE : Hid (sN g k + (outL g k).length ≤ m) := Lib.hid (by rw [outL_len]; have h1 := HG.out.up k hkN; have h2 := HG.out.le (k + 1) hkN; have h3 := HTL.out; omega)
      have HFL : Hid ((filL (allL g) (sN g k)).length = m) := Lib.hid (by rw [filL_len _ _ (by rw [HAL.out]; have := HLE.out; omega), HAL.out])
      have HRK := Lib.hid fun (W : World) (h : Below w.heap.size w W) => HRW.out W h k hlt
      obtain ⟨b0, o0, rfl, l0, x0⟩ := IntsD.at2 (HD.out.below HB.out).s k hks
      rw [List.getElem?_eq_getElem hks] at hst
      rw [Option.some.inj hst] at x0
      obtain ⟨s, hs⟩ : ∃ s, s = sN g k := ⟨_, rfl⟩
      rw [← hs] at x0 HFI HLE HFL HE
      have HSS := Lib.hid hs
      have c0 := HK.out.cell 0
      have c1 := HK.out.cell 1
      have c2 := HK.out.cell 2
      have lk := HK.out.lt
      have i1 : (0 : Int) ≤ (k : Int) := by omega
      have i2 : (k : Int) < (n : Int) := by have := HNU.out; omega
      have i3 : (0 : Int) ≤ (s : Int) := by omega
      have i4 : (s : Int) ≤ (m : Int) := by have := HLE.out; omega
      clear hkN hks hst hs
      go_wp2_with fail
      have HBW : Hid (∀ W : World, Below wr.heap.size wr W → Below w.heap.size w W) := Lib.hid fun W h => HB.out.trans (h.mono HB.out.size)
      go_region_law (first
        | (go_simp; go_at_call 55; (refine Calls.mono (HRK.out _ (HBW.out _ (by repeat' (first | with_reducible exact Below.refl _ _ | with_reducible refine bdr ?_)))) ?_); rintro e wn ⟨v, rfl, ov, bn⟩; obtain ⟨sz, sy, rfl, _⟩ := own_shape' ov; have BN := Lib.hid ((Below.refl _ wr).drew.trans bn); have OV := Lib.hid (edgsD_of_own ov); have c0n := (HK.out.below BN.out).cell 0; have c1n := (HK.out.below BN.out).cell 1; have c2n := (HK.out.below BN.out).cell 2; have lkn := (HK.out.below BN.out).lt; have x0n := (BN.out.cell (p := ⟨b0, _, none⟩) l0).trans x0; have EN := Lib.hid (Bk.below HE.out BN.out))
        | ((refine step_copy_edgs (by rfl) (.tmp 20) (.tmp 23) (by rfl) _ _ _ _ _ _ (by rfl) (by rfl) ge s _ EN.out _ (by have := HLE.out; omega) OV.out (fun h => by first | exact if_neg (by have := HLE.out; omega) | rfl) (by rw [HFL.out]; exact HLE.out) ge wr (BN.out.mono (Nat.le_of_lt (show Bk wr ge _ _ from HE.out).lt)) (Nat.le_refl _) ?_); intro w4 E4 B4))
      all_goals
        have EN2 : Hid (BkE w4 ge (filL (allL g) (sN g (k + 1)))) := Lib.hid (by rw [← HFI.out]; exact E4.out)
        have HB4 := Lib.hid (HB.out.trans (B4.out.mono (Nat.le_of_lt HGE.out)))
        have HK4 : Hid (Bk w4 w.heap.size 24 #[.slice (some ⟨b0, o0, none⟩) n p1, .slice a3 l p3, .slice a2 m p2]) := Lib.hid ((B4.out.block _ HGE.out).trans HK.out)
        generalize (if m = s then some (⟨ge, 0, none⟩ : Addr) else some ⟨ge, s * 3, none⟩) = dpp
        clear E4 B4 EN OV BN c0n c1n c2n lkn x0n
        go_wp2_with fail
        go_roundg (gk - 1)
        case measure => omega
        case rel => exact ⟨k + 1, by go_num, by omega, by omega, EN2.out, HB4.out, HK4.out⟩
    · obtain rfl : k = N := by omega
      have HE2 : Hid (BkE wr ge (allL g)) := Lib.hid (by
        have h := HE.out
        have h2 : sN g k = (allL g).length := by rw [HNU.out.1, HG.out.last, HG.out.allLen]
        rw [h2, filL_all] at h
        exact h)
      go_wp2_with fail
      go_ret
      exact ⟨ge, rfl, HE2.out, HGE.out, HB.out⟩

/-- All of a graph, as All tells it. -/
def allZ (g : Gr) : List Edg := if rightG g = true then allL g else []
end Go.Proofs.Ytkdpimifojjhaaa
