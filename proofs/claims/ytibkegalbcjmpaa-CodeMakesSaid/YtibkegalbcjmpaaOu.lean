/- Layer 6: translating an expression: C. -/
import Derived.Test.YtibkegalbcjmpaaOt
namespace Go.Proofs.Ytibkegalbcjmpaa
open Go.RowKit

/-- What a resolver of these variables gives, from a world on. -/
def RsvC (w0 : World) (p1 p2 p3 : Nat) (rsv : Nd → Opn × Bool) : Prop := ∀ (W : World), Below w0.heap.size w0 W → ∀ (xo xn : Int) (xm xi : ByteArray) (xp : Int) (o : Opn) (b : Bool), rsv ⟨xo, xn, xm, xi, xp⟩ = (o, b) →
  Calls Try.prog 34 #[.agg #[.int .i64 xo, .int .i64 xn, .string xm, .string xi, .int .i64 xp], .pointer (some ⟨p1, 0, none⟩), .pointer (some ⟨p2, 0, none⟩), .pointer (some ⟨p3, 0, none⟩)] W (RAns o b W)

set_option maxRecDepth 100000 in
set_option maxHeartbeats 2000000 in
theorem stepC (w0 : World) (p1 p2 p3 : Nat) (rsv : Nd → Opn × Bool) (hR : RsvC w0 p1 p2 p3 rsv) (t : Nat) (xo xn : Int) (xm xi : ByteArray) (xp : Int) (W : World) (hW : Below w0.heap.size w0 W) (nv sv : Value) (ht : Bk W t 86 #[nv, .func (.func 34) #[] #[.pointer (some ⟨p1, 0, none⟩), .pointer (some ⟨p2, 0, none⟩), .pointer (some ⟨p3, 0, none⟩)], sv]) (o : Opn) (b : Bool) (ho : stpL rsv ⟨xo, xn, xm, xi, xp⟩ = (o, b)) :
    Calls Try.prog 66 #[.pointer (some ⟨t, 0, none⟩), .agg #[.int .i64 xo, .int .i64 xn, .string xm, .string xi, .int .i64 xp]] W (RAns o b W) := by
  have h1 := ht.cell 1
  have hl := ht.lt
  have HB := Lib.hid (two_new W 57 53 #[.int .i64 xo, .int .i64 xn, .string xm, .string xi, .int .i64 xp] #[.int .i64 0, .int .i64 0, .int .i64 0])
  by_cases hop : xo = 2 ∨ xo = 3 ∨ xo = 4
  · have hr : rsv ⟨xo, xn, xm, xi, xp⟩ = (o, b) := by unfold stpL at ho; rw [if_pos hop] at ho; exact ho
    have HR := Lib.hid (fun (V : World) (h : Below W.heap.size W V) => hR V (hW.trans (h.mono hW.size)) xo xn xm xi xp o b hr)
    have HB2 : Hid (∀ V, Below ((W.alloc (.cells #[.int .i64 xo, .int .i64 xn, .string xm, .string xi, .int .i64 xp] 57)).alloc (.cells #[.int .i64 0, .int .i64 0, .int .i64 0] 53)).drew.heap.size ((W.alloc (.cells #[.int .i64 xo, .int .i64 xn, .string xm, .string xi, .int .i64 xp] 57)).alloc (.cells #[.int .i64 0, .int .i64 0, .int .i64 0] 53)).drew V → Below W.heap.size W V ∧ Bk V (W.heap.size + 1) 53 #[.int .i64 0, .int .i64 0, .int .i64 0]) := Lib.hid fun V h => by
      have h2 := (below_end (B := ((W.alloc (.cells #[.int .i64 xo, .int .i64 xn, .string xm, .string xi, .int .i64 xp] 57)).alloc (.cells #[.int .i64 0, .int .i64 0, .int .i64 0] 53)).drew.heap.size) 1).trans h
      exact ⟨HB.out.1.trans (h2.mono HB.out.1.size), HB.out.2.2.below h2⟩
    clear ho hr hR ht hW
    rcases hop with rfl | rfl | rfl
    all_goals
      go_enter Try.func66, Try.ntmps66
      go_wp2_with fail
      go_region_law (go_simp; go_at_call 34; (with_reducible refine Calls.mono (HR.out _ HB.out.1.drew) ?_); rintro e w2 ⟨rfl, b2⟩; obtain ⟨bb, kk⟩ := HB2.out _ b2; have k0 := kk.cell 0; have k1 := kk.cell 1; have k2 := kk.cell 2; have z0 := kk.fz 0; have z1 := kk.fz 1; have z2 := kk.fz 2; have kl := kk.lt)
      all_goals
        go_wp2
        exact bodyPost_ret (v := .tuple #[.agg #[.int .i64 o.op, .int .i64 o.n, .int .i64 o.t], .bool b]) (by simp [results, Try.results66, go_sem, k0, k1, k2]) rfl ⟨rfl, ((bb.setCell (by simp) _).setCell (by simp) _).setCell (by simp) _⟩
  · obtain ⟨rfl, rfl⟩ : o = ⟨xo, xn, 0⟩ ∧ b = true := by
      unfold stpL at ho; rw [if_neg hop] at ho
      obtain ⟨h2, h3⟩ := Prod.mk.inj ho
      exact ⟨h2.symm, h3.symm⟩
    have q2 : (xo == 2) = false := by simpa using fun h => hop (.inl h)
    have q3 : (xo == 3) = false := by simpa using fun h => hop (.inr (.inl h))
    have q4 : (xo == 4) = false := by simpa using fun h => hop (.inr (.inr h))
    clear ho hR ht hW hop
    go_enter Try.func66, Try.ntmps66
    go_wp2
    exact bodyPost_ret (v := .tuple #[.agg #[.int .i64 xo, .int .i64 xn, .int .i64 0], .bool true]) (by simp [results, Try.results66, go_sem]) rfl ⟨rfl, (two_new _ _ _ _ _).1⟩

end Go.Proofs.Ytibkegalbcjmpaa
