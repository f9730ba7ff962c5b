/- Layer 12, the code: how many bytes, by lengths alone. Layer 12: a row of a buffer is made longer; what is right has few bytes. -/
import Derived.Test.YtmkgijedchpgcaaEq
import Derived.Test.YtmkgijedchpgcaaVa
import Derived.Test.YtmkgijedchpgcaaEk
import Derived.Test.YtmkgijedchpgcaaWd
import Derived.Test.YtmkgijedchpgcaaEp
namespace Go.Proofs.Ytmkgijedchpgcaa
set_option linter.unusedSimpArgs false
set_option linter.unusedVariables false
open Go.RowKit

/-- How long the rows of a configuration are. -/
structure LenD (w : World) (xp xr xm xb : Value) (c : Cf) : Prop where
  p : ∃ a k, xp = .slice a c.pc.length k
  r : ∃ a k, xr = .slice a c.regs.length k
  m : ∃ a k, xm = .slice a c.mem.length k
  b : ∃ a k, xb = .slice a c.buf.length k
  ra : ∀ k, (hk : k < c.regs.length) → ∃ b off a m n, xr = .slice (some ⟨b, off, none⟩) c.regs.length n ∧ b < w.heap.size ∧ w.cell? ⟨b, off + k, none⟩ = some (.slice a (c.regs[k]).1.length m)
  ba : ∀ k, (hk : k < c.buf.length) → ∃ b off a m n, xb = .slice (some ⟨b, off, none⟩) c.buf.length n ∧ b < w.heap.size ∧ w.cell? ⟨b, off + k, none⟩ = some (.slice a (c.buf[k]).1.length m)
theorem LenD.below {w w' : World} {xp xr xm xb : Value} {c : Cf} (h : LenD w xp xr xm xb c) (hb : Below w.heap.size w w') : LenD w' xp xr xm xb c := by
  refine ⟨h.p, h.r, h.m, h.b, fun k hk => ?_, fun k hk => ?_⟩
  · obtain ⟨b, off, a, m, n, h1, h2, h3⟩ := h.ra k hk
    exact ⟨b, off, a, m, n, h1, Nat.lt_of_lt_of_le h2 hb.size, (hb.cell (p := ⟨b, _, none⟩) h2).trans h3⟩
  · obtain ⟨b, off, a, m, n, h1, h2, h3⟩ := h.ba k hk
    exact ⟨b, off, a, m, n, h1, Nat.lt_of_lt_of_le h2 hb.size, (hb.cell (p := ⟨b, _, none⟩) h2).trans h3⟩
theorem LenD.at2 {w : World} {xp xm xb : Value} {ar : Option Addr} {n0 cr : Nat} {c : Cf} (h : LenD w xp (.slice ar n0 cr) xm xb c) (k : Nat) (hk : k < c.regs.length) : ∃ b off a m, ar = some ⟨b, off, none⟩ ∧ b < w.heap.size ∧ w.cell? ⟨b, off + k, none⟩ = some (.slice a (c.regs[k]).1.length m) ∧ True := by
  obtain ⟨b, off, a, m, n, h1, h2, h3⟩ := h.ra k hk
  injection h1 with h1
  exact ⟨b, off, a, m, h1, h2, h3, trivial⟩
theorem LenD.at3 {w : World} {xp xr xm : Value} {ab : Option Addr} {n0 cb : Nat} {c : Cf} (h : LenD w xp xr xm (.slice ab n0 cb) c) (k : Nat) (hk : k < c.buf.length) : ∃ b off a m, ab = some ⟨b, off, none⟩ ∧ b < w.heap.size ∧ w.cell? ⟨b, off + k, none⟩ = some (.slice a (c.buf[k]).1.length m) ∧ True := by
  obtain ⟨b, off, a, m, n, h1, h2, h3⟩ := h.ba k hk
  injection h1 with h1
  exact ⟨b, off, a, m, h1, h2, h3, trivial⟩

set_option maxRecDepth 100000 in
set_option maxHeartbeats 4000000 in
theorem psize_len (c : Cf) (xp xr xm xb : Value) (w : World) (hc : LenD w xp xr xm xb c) (hs : ShortC c) :
    Calls Try.prog 12 #[.agg #[xp, xr, xm, xb]] w fun e w' => e = .returned (.int .i64 (sizeP c.pf)) ∧ Below w.heap.size w w' := by
  have HS := Lib.hid hs
  have HC := Lib.hid hc
  have hp := hs.p
  have hr := hs.r
  have hm := hs.m
  have hb := hs.b
  have HR : Hid (∀ k, k < c.regs.length → regF c k ≤ 100000) := Lib.hid (fun k hk => by unfold regF; rw [List.getD_eq_getElem?_getD, List.getElem?_eq_getElem hk]; exact hs.rr _ (List.getElem_mem hk))
  have HB : Hid (∀ k, k < c.buf.length → bufF c k ≤ 200000) := Lib.hid (fun k hk => by unfold bufF; rw [List.getD_eq_getElem?_getD, List.getElem?_eq_getElem hk]; have := hs.bb _ (List.getElem_mem hk); show 2 * _ ≤ _; simp only [Option.getD_some]; omega)
  have HRS := Lib.hid (sumF_le (regF c) 100000 c.regs.length HR.out)
  have HBS := Lib.hid (sumF_le (bufF c) 200000 c.buf.length HB.out)
  have HRM := Lib.hid (fun k hk => sumF_mono (regF c) c.regs.length k hk)
  have HBM := Lib.hid (fun k hk => sumF_mono (bufF c) c.buf.length k hk)
  rw [size_cf]
  obtain ⟨ap, cp, rfl⟩ := hc.p
  obtain ⟨ar, cr, rfl⟩ := hc.r
  obtain ⟨am, cm, rfl⟩ := hc.m
  obtain ⟨ab, cb, rfl⟩ := hc.b
  have HRA := Lib.hid (fun (W : World) (h : Below w.heap.size w W) (k : Nat) (hk : k < c.regs.length) => LenD.at2 (hc.below h) k hk)
  have HBA := Lib.hid (fun (W : World) (h : Below w.heap.size w W) (k : Nat) (hk : k < c.buf.length) => LenD.at3 (hc.below h) k hk)
  have HRL : Hid (∀ k (hk : k < c.regs.length), (c.regs[k]).1.length = regF c k) := Lib.hid (fun k hk => by unfold regF; rw [List.getD_eq_getElem?_getD, List.getElem?_eq_getElem hk]; rfl)
  have HBL : Hid (∀ k (hk : k < c.buf.length), 2 * (c.buf[k]).1.length = bufF c k) := Lib.hid (fun k hk => by unfold bufF; rw [List.getD_eq_getElem?_getD, List.getElem?_eq_getElem hk]; rfl)
  clear hs hc
  have K := Lib.hid (Bk.new w 29 #[.slice ap c.pc.length cp, .slice ar c.regs.length cr, .slice am c.mem.length cm, .slice ab c.buf.length cb])
  have B : Hid (Below w.heap.size w (World.alloc w (.cells #[.slice ap c.pc.length cp, .slice ar c.regs.length cr, .slice am c.mem.length cm, .slice ab c.buf.length cb] 29))) := Lib.hid (bal (Below.refl _ _) _)
  obtain ⟨np, hnp⟩ : ∃ n, n = c.pc.length := ⟨_, rfl⟩
  obtain ⟨nr, hnr⟩ : ∃ n, n = c.regs.length := ⟨_, rfl⟩
  obtain ⟨nm, hnm⟩ : ∃ n, n = c.mem.length := ⟨_, rfl⟩
  obtain ⟨nb, hnb⟩ : ∃ n, n = c.buf.length := ⟨_, rfl⟩
  rw [← hnp, ← hnr, ← hnm, ← hnb] at K B ⊢
  rw [← hnr] at HRS HRM hr
  rw [← hnb] at HBS HBM hb
  rw [← hnp] at hp
  rw [← hnm] at hm
  replace hnp := Lib.hid hnp
  replace hnr := Lib.hid hnr
  replace hnm := Lib.hid hnm
  replace hnb := Lib.hid hnb
  clear HS HC HR HB
  have hb9 : nr * 100000 ≤ 10000000000 ∧ nb * 200000 ≤ 20000000000 := by omega
  have hRS := HRS.out
  have hBS := HBS.out
  have wp1 : IntKind.i64.wrap (3 * (np : Int)) = 3 * (np : Int) := IntWalk.i64_in _ (by omega)
  have wp2 : IntKind.i64.wrap (3 * (np : Int) + (nm : Int)) = 3 * (np : Int) + (nm : Int) := IntWalk.i64_in _ (by omega)
  obtain ⟨base, hbase⟩ : ∃ z : Nat, z = 3 * np + nm := ⟨_, rfl⟩
  have ebase : 3 * (np : Int) + (nm : Int) = (base : Int) := by omega
  have hbl : base ≤ 400000 := by omega
  rw [ebase] at wp2
  replace wp2 : IntKind.i64.wrap (3 * (np : Int) + (nm : Int)) = (base : Int) := by rw [ebase]; exact wp2
  replace ebase := Lib.hid ebase
  replace hbase := Lib.hid hbase
  rw [show 3 * np + nm = base from hbase.out.symm]
  go_enter Try.func12, Try.ntmps12
  go_wp2_with fail
  generalize World.alloc w _ = w1 at K B ⊢

  go_loopg [3, 19] nr (fun fuel s' i' wr => ∃ (k : Nat), i' = .int .i64 k ∧ k ≤ nr ∧ nr - k ≤ fuel ∧ s' = .int .i64 ((base + sumF (regF c) k : Nat) : Int) ∧ wr = w1)
  case atStart => exact ⟨0, rfl, Nat.zero_le _, Nat.le_refl _, rfl, rfl⟩
  case round =>
    obtain ⟨k, rfl, hk, hf, rfl, rfl⟩ := hrel
    obtain ⟨c0, c1, c2, c3, cl⟩ : wr.cell? ⟨w.heap.size, 0, none⟩ = some (.slice ap np cp) ∧ wr.cell? ⟨w.heap.size, 1, none⟩ = some (.slice ar nr cr) ∧ wr.cell? ⟨w.heap.size, 2, none⟩ = some (.slice am nm cm) ∧ wr.cell? ⟨w.heap.size, 3, none⟩ = some (.slice ab nb cb) ∧ w.heap.size < wr.heap.size := ⟨K.out.cell 0, K.out.cell 1, K.out.cell 2, K.out.cell 3, K.out.lt⟩
    have hm1 := HRM.out k hk
    by_cases hlt : k < nr
    · have hlt' : k < c.regs.length := by rw [← hnr.out]; exact hlt
      obtain ⟨b1, o1, a1, m1, rfl, l1, y1, _⟩ := HRA.out wr B.out k hlt'
      rw [HRL.out k hlt'] at y1
      have hm2 := HRM.out (k + 1) (by omega)
      have hs2 : sumF (regF c) (k + 1) = sumF (regF c) k + regF c k := rfl
      generalize hL : regF c k = L at y1 hs2
      replace hL := Lib.hid hL
      generalize sumF (regF c) (k + 1) = S2 at hm2 hs2
      subst hs2
      have wr1 : IntKind.i64.wrap (((base + sumF (regF c) k : Nat) : Int) + (L : Int)) = ((base + (sumF (regF c) k + L) : Nat) : Int) := by rw [IntWalk.i64_in _ (by omega)]; omega
      have e1 : (0 : Int) ≤ (k : Int) := by omega
      have e2 : (k : Int) < (nr : Int) := by omega
      go_wp2_with fail
      go_roundg (gk - 1)
      case measure => omega
      case rel => exact ⟨k + 1, by go_num, by omega, by omega, congrArg _ (by show _ = ((base + (sumF (regF c) k + regF c k) : Nat) : Int); rw [hL.out]; omega), rfl⟩
    · obtain rfl : k = nr := by omega
      clear hlt hf hk hm1
      go_wp2_with fail
      obtain ⟨base2, hbase2⟩ : ∃ z : Nat, z = base + sumF (regF c) k := ⟨_, rfl⟩
      rw [← hbase2]
      have hbl2 : base2 ≤ 10000400000 := by omega
      clear c0 c1 c2 c3 cl
      go_loopg [3, 31] nb (fun fuel s' i' wr2 => ∃ (j : Nat), i' = .int .i64 j ∧ j ≤ nb ∧ nb - j ≤ fuel ∧ s' = .int .i64 ((base2 + sumF (bufF c) j : Nat) : Int) ∧ wr2 = wr)
      case atStart => exact ⟨0, rfl, Nat.zero_le _, Nat.le_refl _, rfl, rfl⟩
      case round =>
        obtain ⟨j, rfl, hj, hf, rfl, rfl⟩ := hrel
        obtain ⟨c0, c1, c2, c3, cl⟩ : wr.cell? ⟨w.heap.size, 0, none⟩ = some (.slice ap np cp) ∧ wr.cell? ⟨w.heap.size, 1, none⟩ = some (.slice ar k cr) ∧ wr.cell? ⟨w.heap.size, 2, none⟩ = some (.slice am nm cm) ∧ wr.cell? ⟨w.heap.size, 3, none⟩ = some (.slice ab nb cb) ∧ w.heap.size < wr.heap.size := ⟨K.out.cell 0, K.out.cell 1, K.out.cell 2, K.out.cell 3, K.out.lt⟩
        have hm1 := HBM.out j hj
        by_cases hlt : j < nb
        · have hlt' : j < c.buf.length := by rw [← hnb.out]; exact hlt
          obtain ⟨b1, o1, a1, m1, rfl, l1, y1, _⟩ := HBA.out wr B.out j hlt'
          have hbe := HBL.out j hlt'
          generalize (c.buf[j]).1.length = L at y1 hbe
          have hm2 := HBM.out (j + 1) (by omega)
          have hs2 : sumF (bufF c) (j + 1) = sumF (bufF c) j + bufF c j := rfl
          rw [← hbe] at hs2
          have HBE := Lib.hid hbe
          clear hbe
          generalize sumF (bufF c) (j + 1) = S2 at hm2 hs2
          subst hs2
          have wr0 : IntKind.i64.wrap (2 * (L : Int)) = 2 * (L : Int) := IntWalk.i64_in _ (by omega)
          have wr1 : IntKind.i64.wrap (((base2 + sumF (bufF c) j : Nat) : Int) + 2 * (L : Int)) = ((base2 + (sumF (bufF c) j + 2 * L) : Nat) : Int) := by rw [IntWalk.i64_in _ (by omega)]; omega
          have e1 : (0 : Int) ≤ (j : Int) := by omega
          have e2 : (j : Int) < (nb : Int) := by omega
          replace hbase2 := Lib.hid hbase2
          go_wp2_with fail
          go_roundg (gk - 1)
          case measure => omega
          case rel => exact ⟨j + 1, by go_num, by omega, by omega, congrArg _ (by show _ = ((base2 + (sumF (bufF c) j + bufF c j) : Nat) : Int); rw [← HBE.out]; have := hbase2.out; omega), rfl⟩
        · obtain rfl : j = nb := by omega
          go_wp2_with fail
          go_ret
          exact ⟨ret_int (by rw [hbase2]), B.out⟩

end Go.Proofs.Ytmkgijedchpgcaa

namespace Go.Proofs.Ytmkgijedchpgcaa
set_option linter.unusedSimpArgs false
set_option linter.unusedVariables false
open Go.RowKit

theorem hdr_at {w : World} {B T n k : Nat} {v : Value} {xs : List Value} (h : w.ownsRow B T 1 v n xs) (hk : k < n) : ∃ g cap, v = .slice (some ⟨g, 0, none⟩) n cap ∧ g < w.heap.size ∧ w.cell? ⟨g, k, none⟩ = xs[k]? := by
  obtain ⟨g, cap, h1, _, h2, h3, _⟩ := own_put h hk
  exact ⟨g, cap, h1, h2, h3⟩
/-- A row of a buffer is made longer: what the lengths are then. -/
theorem len_more {B g cap : Nat} {wB w' : World} {yp yr ym v' : Value} {dv : Cf} (O : OwnC wB B yp yr ym (.slice (some ⟨g, 0, none⟩) dv.buf.length cap) dv) (hk : 0 < dv.buf.length) (G : wB.grownBy w' (dv.buf[0]).2.ownBlock) (l : List Ent) (hv : ∃ a m, v' = .slice a l.length m) :
    w'.cell? ⟨g, 0, none⟩ = some (dv.buf[0]).2 ∧ w'.frozen? ⟨g, 0, none⟩ = false ∧ g < w'.heap.size ∧ LenD (w'.setCell ⟨g, 0, none⟩ v') yp yr ym (.slice (some ⟨g, 0, none⟩) dv.buf.length cap) { dv with buf := dv.buf.set 0 (l, v') } := by
  obtain ⟨a9, m9, rfl⟩ := hv
  have HE : OwnE wB B (dv.buf[0]).2 (dv.buf[0]).1 := O.b.r _ (List.getElem_mem hk)
  have kb := O.b.h.kept G (own_types O.b.h HE (by decide))
  have kr := O.r.h.kept G (own_types O.r.h HE (by decide))
  obtain ⟨g', cap', e, _, h1, h2, h3, h4⟩ := own_put kb hk
  injection e with e1 e2 e3
  injection e1 with e1
  injection e1 with e1
  subst e1 e3
  have hset := h4 (.slice a9 l.length m9)
  have kr' := own_else (u := .slice a9 l.length m9) (k := 0) kr (x := .slice (some ⟨g, 0, none⟩) dv.buf.length cap) rfl (apart_types kb kr (by decide))
  rw [List.getElem?_map, List.getElem?_eq_getElem hk] at h2
  obtain ⟨a0, k0, e0, _⟩ := own_shape' O.p
  obtain ⟨a1, k1, f0, _⟩ := own_shape' O.r.h
  obtain ⟨a2, k2, i0, _⟩ := own_shape' O.m
  refine ⟨h2, h3, h1, ⟨⟨a0, k0, e0⟩, ⟨a1, k1, f0⟩, ⟨a2, k2, i0⟩, ⟨some ⟨g, 0, none⟩, cap, by simp only [List.length_set]⟩, fun k hk2 => ?_, fun k hk2 => ?_⟩⟩
  · obtain ⟨gr, cr, j1, j2, j3⟩ := hdr_at kr' hk2
    obtain ⟨ad, cd, j4, _⟩ := own_shape' (O.r.r _ (List.getElem_mem hk2))
    rw [List.getElem?_map, List.getElem?_eq_getElem hk2] at j3
    exact ⟨gr, 0, ad, cd, cr, j1, j2, by rw [Nat.zero_add, j3, ← j4]; rfl⟩
  · have hk3 : k < dv.buf.length := by simpa using hk2
    obtain ⟨gr, cr, j1, j2, j3⟩ := hdr_at hset hk3
    injection j1 with j1 _ _
    injection j1 with j1
    injection j1 with j1
    subst j1
    rw [List.getElem?_set] at j3
    by_cases h0 : 0 = k
    · subst h0
      rw [if_pos rfl, if_pos (by rw [List.length_map]; exact hk)] at j3
      refine ⟨g, 0, a9, m9, cap, by simp only [List.length_set], j2, ?_⟩
      rw [Nat.zero_add, j3]
      simp
    · rw [if_neg h0, List.getElem?_map, List.getElem?_eq_getElem hk3] at j3
      obtain ⟨ad, cd, j4, _⟩ := own_shape' (O.b.r _ (List.getElem_mem hk3))
      refine ⟨g, 0, ad, cd, cap, by simp only [List.length_set], j2, ?_⟩
      rw [Nat.zero_add, j3]
      simp only [List.getElem_set, if_neg h0]
      exact congrArg some j4
theorem ent1_wp {w : World} {o : Oper} {a : Act} {K : Act → World → Prop} {Q : Exit → Act → World → Prop} (s x : Operand)
    (ho : o.op = .call { callee := .builtin .append, args := #[s, x], argTypes := #[48, 48] }) (base : Nat) (v : Value) (l : List Ent) (hs : a.eval s = v) (hown : OwnE w base v l) (g : Nat) (hx : a.eval x = .slice (some ⟨g, 0, none⟩) 1 1) (hg : Bk w g 50 #[.int .i64 0, .int .i64 0])
    (hn : l.length ≤ 1000000) (hbase : base ≤ w.heap.size) (h : ∀ g' cap w', Hid (w.grownBy w' v.ownBlock) → Hid (Below base w w') → K (a.put o.dst (.slice (some ⟨g', 0, none⟩) (l.length + 1) cap)) w') : o.wp Try.prog a w K Q := by
  obtain ⟨i0, hi, hz0, hz1, hz2⟩ := info_parts info_ent
  refine wp_append_lies w s x 48 ho base 50 i0 (.agg #[.int .i64 0, .int .i64 0]) 2 16 Try.underlying48 hi hz0 hz1 hz2 rfl (by decide) v l.length (rowE l) hs hown ⟨g, 0, none⟩ 1 1 [.int .i64 0, .int .i64 0] hx rfl (fun j y hy => World.news_of_block (show w.heap[g]? = some (.cells #[.int .i64 0, .int .i64 0] 50 (0, 0)) from hg) j y (by simpa using hy)) (by intro y hy; simp at hy; rw [hy]; rfl) (by decide) (by unfold maxLen; omega) (by omega) hbase _ rfl ?_
  intro g' cap w' h2 h3 h4 h5
  exact h g' cap w' (Lib.hid h3) (Lib.hid ((Below.refl base w).grown h3 hbase (fun k hk => (World.ownsRow.lt hown k hk).1)))

theorem head_get {α β : Type} (l : List (α × β)) (h : 0 < l.length) : l = ((l[0]).1, (l[0]).2) :: l.tail := by
  cases l with
  | nil => simp at h
  | cons a r => rfl
theorem short_pf {c d : Cf} (h : d.pf = c.pf) (hs : ShortC c) : ShortC d := by
  obtain ⟨p1, r1, m1, b1⟩ := c
  obtain ⟨p2, r2, m2, b2⟩ := d
  unfold Cf.pf at h
  simp only [Pf.mk.injEq] at h
  obtain ⟨h1, h2, h3, h4⟩ := h
  subst h1 h3
  have l2 := congrArg List.length h2
  have l4 := congrArg List.length h4
  rw [List.length_map, List.length_map] at l2 l4
  refine ⟨hs.p, by have := hs.r; show r2.length ≤ _; rw [l2]; exact this, hs.m, by have := hs.b; show b2.length ≤ _; rw [l4]; exact this, fun x hx => ?_, fun x hx => ?_⟩
  · have hm : x.1 ∈ r1.map (·.1) := by rw [← h2]; exact List.mem_map_of_mem hx
    obtain ⟨y, hy, e⟩ := List.mem_map.1 hm
    rw [← e]
    exact hs.rr y hy
  · have hm : x.1 ∈ b1.map (·.1) := by rw [← h4]; exact List.mem_map_of_mem hx
    obtain ⟨y, hy, e⟩ := List.mem_map.1 hm
    rw [← e]
    exact hs.bb y hy
theorem short_more {d : Cf} (hs : ShortC d) (l : List Ent) (v : Value) (hl : l.length ≤ 100000) : ShortC { d with buf := d.buf.set 0 (l, v) } := by
  refine ⟨hs.p, hs.r, hs.m, by show (d.buf.set 0 _).length ≤ _; rw [List.length_set]; exact hs.b, hs.rr, fun x hx => ?_⟩
  rcases List.mem_or_eq_of_mem_set hx with h | h
  · exact hs.bb x h
  · rw [h]; exact hl
theorem size_head {d : Cf} {b : List Ent} {v w : Value} {r : List (List Ent × Value)} (h : d.buf = (b, v) :: r) (e : Ent) : sizeP ({ d with buf := d.buf.set 0 (b ++ [e], w) } : Cf).pf = sizeP d.pf + 2 := by
  rw [← size_more d.pf b (r.map (·.1)) e (by show d.buf.map (·.1) = _; rw [h]; rfl)]
  unfold Cf.pf
  simp only [h, List.set_cons_zero, List.map_cons]
theorem right_tiny {u : Un} {c : Cf} {model room : Int} (h : rightC u c model room = true) : (bytZ (encP c.pf)).size ≤ 1000 := by
  have hR := (rightC_iff u c model room).1 h
  have hu := rightU_lc hR.ru
  have hl : (bytZ (encP c.pf)).size = sizeP c.pf := by rw [byt_len, hR.small.len]
  have h1 : c.pc.length = u.regs.length := hR.lp
  have h2 : c.mem.length = u.init.length := hR.lm
  have h3 : c.regs.length = u.regs.length := by have := hR.lr; simpa [Cf.pf] using this
  have h4 : c.buf.length = u.regs.length := by have := hR.lb; simpa [Cf.pf] using this
  rw [hl, size_cf]
  have r1 := sumF_le (regF c) 6 c.regs.length (fun k hk => by
    obtain ⟨pc, x, T⟩ := hR.thr k (by omega)
    have h5 := T.rl
    have h6 := ((thrF_iff u.init.length u.regs u.code hu.2.2.2.2.2.symm).1 (by have := hR.ru; unfold rightU at this; rw [Bool.and_eq_true, Bool.and_eq_true] at this; exact this.2.2) k (by omega)).1
    have h7 := (inB_iff _ _).1 h6
    rw [show c.pf.regs.getD k [] = (c.regs.getD k ([], undef)).1 from getD_map _ _] at h5
    unfold regF
    omega)
  have r2 := sumF_le (bufF c) 48 c.buf.length (fun k hk => by unfold bufF; rw [List.getD_eq_getElem?_getD, List.getElem?_eq_getElem hk]; have h9 := (hR.small.b (c.buf[k]).1 (List.mem_map_of_mem (List.getElem_mem hk))).1; show 2 * (c.buf[k]).1.length ≤ 48; omega)
  omega

end Go.Proofs.Ytmkgijedchpgcaa
