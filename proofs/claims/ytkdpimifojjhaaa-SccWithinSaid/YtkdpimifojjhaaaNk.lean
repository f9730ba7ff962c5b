/- Layer 14, the code: list, All. -/
import Derived.Test.YtkdpimifojjhaaaNj
namespace Go.Proofs.Ytkdpimifojjhaaa
set_option linter.unusedSimpArgs false
set_option linter.unusedVariables false
open Go.RowKit

theorem run_copy_three {P : Program} (w : World) (dT sT ty elem : TypeId) (g o dLen dCap : Nat) (a : Addr) (sLen sCap : Nat) (cur : Array Value) (t : TypeId) (cs : List Value)
    (hu : P.underlying dT = some (.slice elem)) (hs : (P.info? elem).map (·.size) = some 3)
    (hg : w.heap[g]? = some (.cells cur t (0, 0))) (hn : cs.length = Nat.min sLen dLen * 3)
    (hsrc : ∀ j v, cs[j]? = some v → w.cell? (a.add j) = some v) (hfit : o + cs.length ≤ cur.size) (h1 : ∀ v ∈ cs, v.oneCell' = true) :
    (Builtin.copy_ #[dT, sT] ty #[.slice (some ⟨g, o, none⟩) dLen dCap, .slice (some a) sLen sCap]).run P w =
      .ok (goInt (Nat.min sLen dLen)) (w.setRow g (cur.toList.take o ++ cs ++ cur.toList.drop (o + cs.length)).toArray) := by
  have hl := run_loadCells_list (P := P) w a cs hsrc
  have hst := run_storeCells_at P g o t cs 0 cur w hg (by simpa using hfit) h1
  cases hq : P.info? elem with
  | none => simp [hq] at hs
  | some i =>
    have hi : i.size = 3 := by simpa [hq] using hs
    simp [Builtin.copy_, run_underlying hu, Builtin.lenOf, Builtin.firstCells, sizeOf, typeInfo, hq, hi, ← hn, hl, hst]
theorem run_copy_zero3 {P : Program} (w : World) (dT sT ty elem : TypeId) (d a : Option Addr) (dLen dCap sLen sCap : Nat) (hu : P.underlying dT = some (.slice elem)) (hs : (P.info? elem).map (·.size) = some 3) (hn : Nat.min sLen dLen = 0) :
    (Builtin.copy_ #[dT, sT] ty #[.slice d dLen dCap, .slice a sLen sCap]).run P w = .ok (goInt 0) w := by
  cases hq : P.info? elem with
  | none => simp [hq] at hs
  | some i =>
    have hl : ∀ a, (loadCells a 0).run P w = .ok #[] w := fun a => run_loadCells_list (P := P) w a [] (by simp)
    cases d <;> cases a <;> simp [Builtin.copy_, run_underlying hu, Builtin.lenOf, Builtin.firstCells, sizeOf, typeInfo, hq, hn, storeCells, hl]
theorem edgs_flat {w : World} {a : Addr} {n cap : Nat} {l : List Edg} (h : EdgsD w (.slice (some a) n cap) l) : ∀ j u, (rowG l)[j]? = some u → w.cell? (a.add j) = some u := by
  intro j u hu
  obtain ⟨ad, cap', hv, _, _, hc⟩ := h
  injection hv with h1 h2 h3
  have hj : j < l.length * 3 := by rw [← rowG_len]; exact (List.getElem?_eq_some_iff.1 hu).1
  have hi : j / 3 < l.length := by omega
  obtain ⟨b', off', hb', hlt, x0, x1, x2⟩ := hc _ hi
  rw [← h1] at hb'
  injection hb' with hb'
  subst hb'
  have hf := flat_at cellsG 3 (fun _ => rfl) l (j / 3) hi (j % 3) (by omega)
  have hjj : j / 3 * 3 + j % 3 = j := by omega
  rw [hjj] at hf
  have hu2 : (rowG l)[j]? = _ := hf
  rw [hu] at hu2
  injection hu2 with hu2
  rw [addr_add', hu2]
  have hm : j % 3 = 0 ∨ j % 3 = 1 ∨ j % 3 = 2 := by omega
  rcases hm with hm | hm | hm
  · have e : off' + j = off' + j / 3 * 3 := by omega
    rw [e]; simpa [cellsG, hm] using x0
  · have e : off' + j = off' + j / 3 * 3 + 1 := by omega
    rw [e]; simpa [cellsG, hm] using x1
  · have e : off' + j = off' + j / 3 * 3 + 2 := by omega
    rw [e]; simpa [cellsG, hm] using x2
/-- What a copy leaves. -/
def putAt (cur : List Edg) (off : Nat) (xs : List Edg) : List Edg := cur.take off ++ (xs ++ cur.drop (off + xs.length))
theorem rowG_take (l : List Edg) (k : Nat) : (rowG l).take (k * 3) = rowG (l.take k) := by
  induction l generalizing k with
  | nil => simp [rowG]
  | cons a l ih =>
    cases k with
    | zero => simp [rowG]
    | succ k =>
      show (cellsG a ++ rowG l).take _ = cellsG a ++ rowG (l.take k)
      rw [← ih k, show (k + 1) * 3 = k * 3 + 3 by omega]
      rfl
theorem rowG_drop (l : List Edg) (k : Nat) : (rowG l).drop (k * 3) = rowG (l.drop k) := by
  induction l generalizing k with
  | nil => simp [rowG]
  | cons a l ih =>
    cases k with
    | zero => simp
    | succ k =>
      show (cellsG a ++ rowG l).drop _ = rowG (l.drop k)
      rw [← ih k, show (k + 1) * 3 = k * 3 + 3 by omega]
      rfl
theorem rowG_putAt (cur : List Edg) (off : Nat) (xs : List Edg) : (rowG cur).take (off * 3) ++ rowG xs ++ (rowG cur).drop (off * 3 + (rowG xs).length) = rowG (putAt cur off xs) := by
  unfold putAt
  rw [rowG_app, rowG_app, rowG_len, ← Nat.add_mul, rowG_take, rowG_drop, List.append_assoc]
/-- copy of a row of edges into a row that is known whole, at a step of a region that draws. -/
theorem step_copy_edgs {ops : Array Oper} {o : Oper} {a : Act} {w : World} {K : Act → World → Prop} {Q : Exit → Act → World → Prop} {E : Prop} (hgd : o.guard = none) (d s : Operand)
    (ho : o.op = .call { callee := .builtin .copy, args := #[d, s], argTypes := #[37, 37] })
    (dp sp : Option Addr) (dLen dCap sLen sCap : Nat) (hd : a.eval d = .slice dp dLen dCap) (hs : a.eval s = .slice sp sLen sCap)
    (g off : Nat) (cur : List Edg) (hg : BkE w g cur) (xs : List Edg) (hle : sLen ≤ dLen) (hxs : EdgsD w (.slice sp sLen sCap) xs)
    (hpos : 0 < xs.length → dp = some ⟨g, off * 3, none⟩) (hfit : off + xs.length ≤ cur.length) (B : Nat) (w0 : World) (hb : Below B w0 w) (hBg : B ≤ g)
    (h : ∀ w', Hid (BkE w' g (putAt cur off xs)) → Hid (Below B w0 w') → K (a.put o.dst (goInt xs.length)) w') :
    if Region.wanted o (yielded ops a.tmps) = true then Oper.wp Try.prog o a w K Q else E := by
  have hw : Region.wanted o (yielded ops a.tmps) = true := by simp [Region.wanted, hgd]
  rw [if_pos hw]
  have hsz : (Try.prog.info? 41).map (·.size) = some 3 := by
    obtain ⟨i0, hi, hz0, hz1, hz2⟩ := info_parts info_edge
    rw [hi]; simp [hz1]
  have hm : xs.length = sLen := by
    obtain ⟨ad', cap', hv, h1, h2, hc⟩ := hxs
    injection hv with e1 e2 e3
    exact e2.symm
  subst hm
  have hmin : Nat.min xs.length dLen = xs.length := Nat.min_eq_left hle
  by_cases h0 : xs.length = 0
  · have hx0 := List.eq_nil_of_length_eq_zero h0
    subst hx0
    have hrun := run_copy_zero3 (P := Try.prog) w 37 37 o.type 41 dp sp dLen dCap 0 sCap Try.underlying37 hsz (Nat.zero_min _)
    unfold Oper.wp
    simp [execOp, ho, resolve, invoke, builtin, hd, hs, hrun, Result.andThen]
    exact h w (Lib.hid (by rw [show putAt cur off [] = cur by simp [putAt]]; exact hg)) (Lib.hid hb)
  · have hdp := hpos (by omega)
    subst hdp
    cases sp with
    | none =>
      obtain ⟨ad', cap', hv, h1, h2, hc⟩ := hxs
      injection hv with e1 e2 e3
      subst e1
      have := h1.2 rfl
      omega
    | some a0 =>
      have hrun := run_copy_three (P := Try.prog) w 37 37 o.type 41 g (off * 3) dLen dCap a0 _ sCap (rowG cur).toArray 41 (rowG xs) Try.underlying37 hsz hg (by rw [hmin, rowG_len]) (edgs_flat hxs) (by rw [rowG_len]; simp [rowG_len]; omega) (rowG_one xs)
      rw [hmin] at hrun
      unfold Oper.wp
      simp [execOp, ho, resolve, invoke, builtin, hd, hs, hrun, Result.andThen]
      refine h _ (Lib.hid ?_) (Lib.hid (below_setRow hb hBg _))
      have := setRow_heap w g (rowG cur).toArray ((rowG cur).take (off * 3) ++ rowG xs ++ (rowG cur).drop (off * 3 + (rowG xs).length)).toArray 41 (0, 0) hg
      show _ = _
      rw [← rowG_putAt]
      simpa using this

theorem upL_pre (g : Gr) (k n : Nat) (h : k ≤ n) : ∃ r, upL g n = upL g k ++ r := by
  induction n with
  | zero => obtain rfl : k = 0 := by omega
            exact ⟨[], by simp⟩
  | succ n ih =>
    by_cases hk : k = n + 1
    · subst hk; exact ⟨[], by simp⟩
    · obtain ⟨r, hr⟩ := ih (by omega)
      exact ⟨r ++ outL g n, by rw [upL_succ, hr, List.append_assoc]⟩
theorem RG.takeUp {g : Gr} (h : RG g) (k : Nat) (hk : k ≤ numN g) : (allL g).take (sN g k) = upL g k := by
  obtain ⟨r, hr⟩ := upL_pre g k (numN g) hk
  unfold allL
  rw [hr, ← h.upLen k hk, List.take_left]
/-- A node's edges come behind those of the nodes below. -/
theorem RG.fil {g : Gr} (h : RG g) (k : Nat) (hk : k < numN g) : putAt (filL (allL g) (sN g k)) (sN g k) (outL g k) = filL (allL g) (sN g (k + 1)) := by
  have h1 := h.takeUp k (Nat.le_of_lt hk)
  have h2 := h.takeUp (k + 1) hk
  have h3 := h.upLen k (Nat.le_of_lt hk)
  have h4 := outL_len g k
  have h5 := h.up k hk
  have h6 := h.le (k + 1) hk
  have h7 := h.allLen
  unfold putAt filL
  rw [h1, h2, upL_succ, ← h3, List.take_left, List.append_assoc, List.drop_append, List.drop_eq_nil_of_le (by omega), List.nil_append, List.drop_replicate]
  congr 3
  omega

end Go.Proofs.Ytkdpimifojjhaaa
