/- Layer 6: translating nodes: C. -/
import Derived.Test.YtibkegalbcjmpaaOv
namespace Go.Proofs.Ytibkegalbcjmpaa
open Go.RowKit

theorem RsvC.mono {w0 w1 : World} {p1 p2 p3 : Nat} {rsv : Nd → Opn × Bool} (h : RsvC w0 p1 p2 p3 rsv) (hb : Below w0.heap.size w0 w1) : RsvC w1 p1 p2 p3 rsv :=
  fun W hW => h W (hb.trans (hW.mono hb.size))

set_option maxRecDepth 100000 in
set_option maxHeartbeats 4000000 in
theorem translateC (l : List Nd) (v : Value) (p1 p2 p3 : Nat) (rsv : Nd → Opn × Bool) (w : World) (hv : NdsC w v l) (hn : l.length ≤ 100000) (hz : NmOK l) (hR : RsvC w p1 p2 p3 rsv) (cs : List Opn) (ok : Bool) (hc : CodIs rsv l cs ok) :
    Calls Try.prog 26 #[v, .func (.func 34) #[] #[.pointer (some ⟨p1, 0, none⟩), .pointer (some ⟨p2, 0, none⟩), .pointer (some ⟨p3, 0, none⟩)]] w (CAns cs ok w) := by
  have HV := Lib.hid hv
  have HR := Lib.hid hR
  rcases hc with ⟨e, hwf, hfl, hr, hok, hcs⟩ | ⟨hnr, rfl, rfl⟩
  · have HRT := Lib.hid (right_any l v w hv.nds hn hz true (right_yes l hr))
    have hsz : e.size ≤ 200 := by
      have h200 : l.length ≤ 200 := by obtain ⟨_, _, _, h, _⟩ := hr; exact h
      rw [← Ex.flat_length, hfl]; exact h200
    have HTR := Lib.hid (fun (w1 : World) (hb : Below w.heap.size w w1) (nv : Value) (W : World) (hW : Below w1.heap.size w1 W) (h1 : NdsC w1 nv (e.flat ++ [])) (h2 : Bk W w1.heap.size 86 #[nv, .func (.func 34) #[] #[.pointer (some ⟨p1, 0, none⟩), .pointer (some ⟨p2, 0, none⟩), .pointer (some ⟨p3, 0, none⟩)], .slice none 0 0]) =>
      transC w1 p1 p2 p3 rsv (hR.mono hb) e.size e (Nat.le_refl _) hwf [] [] nv (.slice none 0 0) W (by simp; omega) hW h1 h2 ⟨rfl, .inl ⟨rfl, rfl⟩⟩)
    obtain ⟨q, hq⟩ : ∃ q, okE rsv e = q := ⟨_, rfl⟩
    rw [hq] at HTR hok hcs
    subst hok
    have HFL := Lib.hid hfl
    have HCS := Lib.hid hcs
    obtain ⟨ad, cap, rfl, _⟩ := id hv
    obtain ⟨n, hN⟩ : ∃ n, n = l.length := ⟨_, rfl⟩
    rw [← hN] at HRT HV ⊢
    clear hv hR hwf hfl hr hcs hq hn hz hN
    go_enter Try.func26, Try.ntmps26
    go_wp2_with fail
    refine HRT.out.mono ?_
    rintro e' w1 ⟨rfl, b1⟩
    have B1 := Lib.hid b1
    have hal : Below w1.heap.size w1 (w1.alloc (.cells #[.slice ad n cap, .func (.func 34) #[] #[.pointer (some ⟨p1, 0, none⟩), .pointer (some ⟨p2, 0, none⟩), .pointer (some ⟨p3, 0, none⟩)], .slice none 0 0] 86)) := (Below.refl _ _).alloc (Nat.le_refl _) _
    have HT := Lib.hid (HTR.out w1 b1 (.slice ad n cap) _ hal (by rw [List.append_nil, HFL.out]; exact HV.out.below b1) (Bk.new w1 _ _))
    clear b1 hal
    go_wp2_with fail
    refine HT.out.mono ?_
    rintro e' w2 ⟨rfl, b2, hyes⟩
    have B2 := Lib.hid (B1.out.trans (b2.mono B1.out.size))
    have HYES := Lib.hid hyes
    have hcs := HCS.out
    clear b2 hyes HT
    cases ok with
    | false =>
      simp only [if_false, Bool.false_eq_true] at hcs
      subst hcs
      go_wp2
      go_ret2
      exact ⟨_, rfl, ⟨rfl, .inl ⟨rfl, rfl⟩⟩, B2.out⟩
    | true =>
      simp only [if_true] at hcs
      subst hcs
      obtain ⟨nv', sv', g1, g2, g3, g4, g5⟩ := HYES.out rfl
      obtain ⟨sa, sc, rfl, _⟩ := own_shape' g3
      have G3 := Lib.hid (own_mono g3 (show w.heap.size ≤ w1.heap.size + 1 by have := B1.out.size; omega))
      have x2 := g1.cell 2
      have xl := g1.lt
      rw [List.nil_append] at x2 G3
      generalize hL : (codeE rsv e).length = L at x2 G3
      have HLL := Lib.hid hL
      clear g1 g2 g3 g4 g5 HYES hL
      go_wp2
      go_ret2
      refine ⟨_, rfl, ?_, B2.out⟩
      rw [HLL.out]
      exact G3.out
  · have HRT := Lib.hid (right_any l v w hv.nds hn hz false (right_no l hnr))
    obtain ⟨ad, cap, rfl, _⟩ := id hv
    generalize l.length = n at HRT HV ⊢
    clear hv hR hnr hn hz
    go_enter Try.func26, Try.ntmps26
    go_wp2_with fail
    refine HRT.out.mono ?_
    rintro e' w1 ⟨rfl, b1⟩
    go_wp2
    go_ret2
    exact ⟨_, rfl, ⟨rfl, .inl ⟨rfl, rfl⟩⟩, b1⟩

end Go.Proofs.Ytibkegalbcjmpaa
