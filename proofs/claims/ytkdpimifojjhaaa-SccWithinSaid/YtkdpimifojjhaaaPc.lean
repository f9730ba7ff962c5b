/- Layer 14, the reference: Nodes, is, Out. -/
import Derived.Test.YtkdpimifojjhaaaNj
import Derived.Test.YtkdpimifojjhaaaNn
import Derived.Deep.RegionLaw
namespace Go.Proofs.Ytkdpimifojjhaaa
set_option linter.unusedSimpArgs false
set_option linter.unusedVariables false
open Go.RowKit

set_option maxRecDepth 100000 in
set_option maxHeartbeats 8000000 in
theorem ris_any (l : List Bool) (x : Int) (hx : 0 ≤ x) (v : Value) (w : World) (hd : TrusD w v l) (hn : l.length ≤ 1000000) (q : Bool) (hq : isIn l x = q) :
    Calls Try.prog 51 #[v, .int .i64 x] w fun e w' => e = .returned (.bool q) ∧ Below w.heap.size w w' := by
  obtain ⟨ad, cap, rfl⟩ := hd.shape0
  obtain ⟨k, rfl⟩ : ∃ k : Nat, x = (k : Int) := ⟨x.toNat, by omega⟩
  unfold isIn at hq
  by_cases hlt : k < l.length
  · obtain ⟨b, off, rfl, hbl, y⟩ := TrusD.at2 hd k hlt
    rw [decide_eq_true (by omega), Bool.true_and, Int.toNat_natCast, List.getD_eq_getElem?_getD, List.getElem?_eq_getElem hlt] at hq
    have hq : l[k] = q := hq
    rw [hq] at y
    have i1 : (0 : Int) ≤ (k : Int) := by omega
    have i2 : (k : Int) < (l.length : Int) := by omega
    clear hd hx hn
    generalize l.length = n at i2 ⊢
    clear hq
    go_enter Try.func51, Try.ntmps51
    go_wp2_with fail
    go_ret
    exact ⟨rfl, Below.refl _ _⟩
  · rw [decide_eq_false (by omega), Bool.false_and] at hq
    have i2 : ¬ (k : Int) < (l.length : Int) := by omega
    subst hq
    clear hd hx hn hlt
    generalize l.length = n at i2 ⊢
    go_enter Try.func51, Try.ntmps51
    go_wp2_with fail
    go_ret
    exact ⟨rfl, Below.refl _ _⟩

set_option maxRecDepth 100000 in
set_option maxHeartbeats 8000000 in
theorem rnodes_any (g : Gr) (vs va vt : Value) (w : World) (hd : GrD w vs va vt g) (hn : g.st.length ≤ 1001 ∧ g.to.length ≤ 1000) (b : Nat) (hb : (if rightG g = true then numN g else 0) = b) :
    Calls Try.prog 21 #[.agg #[vs, va, vt]] w fun e w' => e = .returned (.int .i64 (b : Int)) ∧ Below w.heap.size w w' := by
  obtain ⟨q, hq⟩ : ∃ q, rightG g = q := ⟨_, rfl⟩
  have HR := Lib.hid fun (W : World) (h : Below w.heap.size w W) => rright14_any g vs va vt W (hd.below h) hn q hq
  have HS : Hid (q = true → 1 ≤ g.st.length) := Lib.hid fun h => (right_RG g (hq.trans h)).pos
  have HB := Lib.hid hb
  rw [hq] at HB
  have HNN : Hid (q = true → (g.st.length : Int) - 1 = (b : Int)) := Lib.hid (fun h => by
    have h1 := HB.out
    rw [if_pos h] at h1
    have h2 := HS.out h
    unfold numN at h1
    omega)
  have hw : IntKind.i64.wrap ((g.st.length : Int) - 1) = (g.st.length : Int) - 1 := IntWalk.i64_in _ (by omega)
  obtain ⟨a1, p1, rfl⟩ := hd.s.shape0
  obtain ⟨a2, p2, rfl⟩ := hd.t.shape0
  obtain ⟨a3, p3, rfl⟩ := hd.a.shape0
  clear hd hn hb hq HS
  obtain ⟨n, hn⟩ : ∃ n, n = g.st.length := ⟨_, rfl⟩
  obtain ⟨m, hm⟩ : ∃ n, n = g.to.length := ⟨_, rfl⟩
  obtain ⟨l, hl⟩ : ∃ n, n = g.ag.length := ⟨_, rfl⟩
  rw [← hn, ← hm, ← hl] at HR ⊢
  rw [← hn] at HNN hw
  clear hn hm hl
  have BX := Lib.hid (bal (Below.refl w.heap.size w) (.cells #[.slice a1 n p1, .slice a3 l p3, .slice a2 m p2] 24))
  have KX := Lib.hid (Bk.new w 24 #[.slice a1 n p1, .slice a3 l p3, .slice a2 m p2])
  go_enter Try.func21, Try.ntmps21
  go_wp2_with fail
  generalize (w.alloc _) = w0 at BX KX ⊢
  refine (HR.out _ BX.out).mono ?_
  rintro e w1 ⟨rfl, b1⟩
  have BY := Lib.hid (BX.out.trans (b1.mono BX.out.size))
  have KY := Lib.hid (KX.out.below b1)
  clear b1 HR BX KX
  cases q with
  | false =>
    go_wp2_with fail
    go_ret
    exact ⟨ret_int (by rw [← HB.out]; rfl), BY.out⟩
  | true =>
    have c0 := KY.out.cell 0
    have lw := KY.out.lt
    have HE : Hid ((n : Int) - 1 = (b : Int)) := Lib.hid (by first | exact HNN.out rfl | exact HNN.out trivial)
    clear HB HNN
    go_wp2_with fail
    go_ret
    exact ⟨ret_int HE.out, BY.out⟩

end Go.Proofs.Ytkdpimifojjhaaa
