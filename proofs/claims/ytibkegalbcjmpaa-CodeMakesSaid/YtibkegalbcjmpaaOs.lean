/- Layer 6: names of a program; steps of names, of a claim. -/
import Derived.Test.YtibkegalbcjmpaaOr
namespace Go.Proofs.Ytibkegalbcjmpaa
open Go.RowKit

/-- A thread as it is read here: its name, its registers, and where they lie, and where its statements lie. -/
structure TN where
  nm : ByteArray
  regs : List ByteArray
  rv : Value
  ba : Option Addr
  bl : Nat
  bc : Nat
  pl : Int

def VnAt (w : World) (b off : Nat) (x : ByteArray × Int × Int) : Prop := w.cell? ⟨b, off, none⟩ = some (.string x.1) ∧ w.cell? ⟨b, off + 1, none⟩ = some (.int .i64 x.2.1) ∧ w.cell? ⟨b, off + 2, none⟩ = some (.int .i64 x.2.2)
def TnAt (w : World) (b off : Nat) (x : TN) : Prop := (w.cell? ⟨b, off, none⟩ = some (.string x.nm) ∧ w.cell? ⟨b, off + 1, none⟩ = some x.rv ∧ w.cell? ⟨b, off + 2, none⟩ = some (.slice x.ba x.bl x.bc) ∧ w.cell? ⟨b, off + 3, none⟩ = some (.int .i64 x.pl)) ∧ StrsD w x.rv x.regs
abbrev VnsD := SlD 3 VnAt
abbrev TnsD := SlD 4 TnAt
section
variable {w w' : World} {v : Value}
theorem VnsD.below {xs : List (ByteArray × Int × Int)} (h : VnsD w v xs) (hb : Below w.heap.size w w') : VnsD w' v xs := h.mono hb.size fun _ _ _ hl h => ⟨(hb.cell (p := ⟨_, _, none⟩) hl).trans h.1, (hb.cell (p := ⟨_, _, none⟩) hl).trans h.2.1, (hb.cell (p := ⟨_, _, none⟩) hl).trans h.2.2⟩
theorem TnsD.below {xs : List TN} (h : TnsD w v xs) (hb : Below w.heap.size w w') : TnsD w' v xs := h.mono hb.size fun _ _ _ hl h => ⟨⟨(hb.cell (p := ⟨_, _, none⟩) hl).trans h.1.1, (hb.cell (p := ⟨_, _, none⟩) hl).trans h.1.2.1, (hb.cell (p := ⟨_, _, none⟩) hl).trans h.1.2.2.1, (hb.cell (p := ⟨_, _, none⟩) hl).trans h.1.2.2.2⟩, StrsD.below h.2 hb⟩
end

def strV (l : List ByteArray) : List Value := l.map Value.string

theorem strsD_of_own {w : World} {B : Nat} {v : Value} {l : List ByteArray} (h : w.ownsRow B 9 1 v l.length (strV l)) : StrsD w v l := by
  have hc := @World.ownsRow.cells _ _ _ _ _ _ _ h
  have hl := h.lt
  rcases h.2 with ⟨rfl, hn⟩ | ⟨g, cap, cur, rfl, _, hh, hle, hcm, _⟩
  · obtain rfl := List.eq_nil_of_length_eq_zero hn
    exact SlD.nil
  · refine ⟨_, cap, rfl, ⟨hle, fun h => by cases h⟩, by unfold maxLen at hcm; omega, fun i hi => ?_⟩
    refine ⟨g, 0, rfl, (hl g rfl).2, ?_⟩
    have r := hc (g := g) rfl i (.string l[i]) (by simp [strV, List.getElem?_eq_getElem hi])
    rw [addr_add'] at r
    unfold StrAt
    rw [Nat.zero_add, Nat.mul_one]
    exact r

theorem info_str : (Try.prog.info? 9).map (fun i => (i.zero, i.size, i.bytes)) = some (some (.string ⟨#[]⟩), 1, 16) := by kernel_rfl

theorem append_str {w : World} {ops : Array Oper} {rest : List Oper} {o : Oper} {a : Act} {Q : Exit → Act → World → Prop} (hgd : o.guard = none) (s x : Operand)
    (ho : o.op = .call { callee := .builtin .append, args := #[s, x], argTypes := #[23, 23] }) (base n : Nat) (v : Value) (xs : List Value) (z : ByteArray) (hs : a.eval s = v) (g : Nat) (hx : a.eval x = .slice (some ⟨g, 0, none⟩) 1 1)
    (hown : w.ownsRow base 9 1 v n xs) (hc : w.cell? ⟨g, 0, none⟩ = some (.string z)) (hn : n ≤ 1000000) (hbase : base ≤ w.heap.size)
    (h : ∀ v' w', w'.ownsRow base 9 1 v' (n + 1) (xs ++ [.string z]) → Below base w w' → wpList Try.prog ops Q rest (a.put o.dst v') w') : wpList Try.prog ops Q (o :: rest) a w := by
  obtain ⟨i0, hi, hz0, hz1, hz2⟩ := info_parts info_str
  refine wpList_append_own _ hgd s x 23 ho base 9 i0 (.string ⟨#[]⟩) 1 16 Try.underlying23 hi hz0 hz1 hz2 rfl (by decide) v n xs hs hown ⟨g, 0, none⟩ 1 1 [.string z] hx rfl ?_ (fun u hu => by simp at hu; subst hu; rfl) (by unfold maxLen; omega) (by omega) hbase ?_
  · intro j u hj
    match j, hj with
    | 0, hj => simp at hj; subst hj; rw [show (⟨g, 0, none⟩ : Addr).add 0 = ⟨g, 0, none⟩ from rfl]; exact hc
    | j + 1, hj => simp at hj
  · intro v' w' h1 h2 _
    exact h v' w' h1 ((Below.refl base w).grown h2 hbase (fun k hk => (hown.lt k hk).1))

/-- The names of the first k. -/
def nmK {α : Type} (f : α → ByteArray) (l : List α) (k : Nat) : List Value := strV ((l.take k).map f)
theorem take_strV {α : Type} (f : α → ByteArray) (l : List α) (k : Nat) (h : k < l.length) : nmK f l (k + 1) = nmK f l k ++ [.string (f l[k])] := by
  unfold nmK
  rw [List.take_succ_eq_append_getElem h, List.map_append]; unfold strV; rw [List.map_append]; rfl
theorem nmK_full {α : Type} (f : α → ByteArray) (l : List α) (k : Nat) (h : l.length ≤ k) : nmK f l k = strV (l.map f) := by
  unfold nmK; rw [List.take_of_length_le h]

/-- A list of names in a row of its own. -/
def NAns (l : List ByteArray) (w : World) (e : Ending) (w' : World) : Prop := ∃ sv, e = .returned sv ∧ w'.ownsRow w.heap.size 9 1 sv l.length (strV l) ∧ Below w.heap.size w w'

set_option maxRecDepth 100000 in
set_option maxHeartbeats 4000000 in
theorem locs_any (xs : List (ByteArray × Int × Int)) (m : Int) (v1 v2 v3 : Value) (w : World) (hv : VnsD w v1 xs) (hn : xs.length ≤ 100000) (h1 : ∃ a n c, v1 = .slice a n c) (h2 : ∃ a n c, v2 = .slice a n c) (h3 : ∃ a n c, v3 = .slice a n c) :
    Calls Try.prog 32 #[.agg #[.int .i64 m, v1, v2, v3]] w (NAns (xs.map (·.1)) w) := by
  obtain ⟨ad1, n1, cap1, rfl⟩ := h1
  obtain ⟨ad2, n2, cap2, rfl⟩ := h2
  obtain ⟨ad3, n3, cap3, rfl⟩ := h3
  obtain ⟨ad, cap, hvv, hcap1, hcap2, hc⟩ := hv
  obtain ⟨rfl, rfl, rfl⟩ := Value.slice.inj hvv
  have HC := Lib.hid hc
  obtain ⟨n, hN⟩ : ∃ n, n = xs.length := ⟨_, rfl⟩
  rw [← hN] at hn ⊢
  have HN := Lib.hid hN
  have HB0 : Hid (Below w.heap.size w (w.alloc (.cells #[.int .i64 m, .slice ad1 n cap1, .slice ad2 n2 cap2, .slice ad3 n3 cap3] 28))) := (Below.refl _ _).alloc (Nat.le_refl _) _
  clear hN hc hcap1 hcap2 hvv
  go_enter Try.func32, Try.ntmps32
  go_wp2_with fail
  go_loopg [3, 9] n (fun fuel v' i' wr => ∃ (k : Nat) (ad9 : Option Addr) (cap9 : Nat), i' = .int .i64 k ∧ k ≤ n ∧ n - k ≤ fuel ∧ v' = .slice ad9 k cap9 ∧ wr.ownsRow w.heap.size 9 1 (.slice ad9 k cap9) k (nmK (·.1) xs k) ∧ Below w.heap.size w wr)
  case atStart => exact ⟨0, none, 0, rfl, Nat.zero_le _, Nat.le_refl _, rfl, ⟨rfl, .inl ⟨rfl, rfl⟩⟩, HB0.out⟩
  case round =>
    obtain ⟨k, ad9, cap9, rfl, hk, hf, rfl, ho, hb⟩ := hrel
    have HO := Lib.hid ho
    have HB := Lib.hid hb
    have hww := hb.size
    clear ho hb
    by_cases hlt : k < n
    · have hk' : k < xs.length := by have := HN.out; omega
      have HTK := Lib.hid (take_strV (·.1) xs k hk')
      obtain ⟨b, off, rfl, hbl, x0, x1, x2⟩ := HC.out k hk'
      obtain ⟨⟨xn, xv, xp⟩, hx⟩ : ∃ x, x = xs[k] := ⟨_, rfl⟩
      rw [← hx] at x0 x1 x2 HTK
      simp only [] at x0 x1 x2 HTK
      have c0 : wr.cell? ⟨b, off + k * 3, none⟩ = some (.string xn) := (HB.out.cell (p := ⟨b, _, none⟩) hbl).trans x0
      have c1 : wr.cell? ⟨b, off + k * 3 + 1, none⟩ = some (.int .i64 xv) := (HB.out.cell (p := ⟨b, _, none⟩) hbl).trans x1
      have c2 : wr.cell? ⟨b, off + k * 3 + 2, none⟩ = some (.int .i64 xp) := (HB.out.cell (p := ⟨b, _, none⟩) hbl).trans x2
      clear x0 x1 x2 hx
      go_wp2_with (at_builtin; refine append_str rfl (.tmp 13) (.tmp 16) rfl w.heap.size k _ _ xn rfl _ rfl (own_below HO.out (((Below.refl _ _).alloc (Nat.le_refl _) _).alloc (by simp) _)) ?cc (by omega) (by simp; omega) ?_)
      case cc => simp
      intro v9 w9 hown9 hb9
      obtain ⟨ad4, cap4, rfl, _⟩ := own_shape' hown9
      have HB9 := Lib.hid (((HB.out.alloc hww _).alloc (by simp; omega) _).trans hb9)
      have HO9 := Lib.hid hown9
      clear hown9 hb9
      go_wp2_with fail
      go_roundg (gk - 1)
      case measure => omega
      case rel => exact ⟨k + 1, ad4, cap4, by go_num, by omega, by omega, rfl, by rw [HTK.out]; exact HO9.out, HB9.out⟩
    · obtain rfl : k = n := by omega
      have ho := HO.out
      rw [nmK_full _ _ _ (by rw [HN.out]; exact Nat.le_refl _)] at ho
      have HO9 := Lib.hid ho
      clear ho
      go_wp2
      go_ret
      refine ⟨_, rfl, ?_, HB.out⟩
      rw [List.length_map, ← HN.out]
      exact HO9.out

set_option maxRecDepth 100000 in
set_option maxHeartbeats 4000000 in
theorem tnames_any (xs : List TN) (m : Int) (v1 v2 v3 : Value) (w : World) (hv : TnsD w v2 xs) (hn : xs.length ≤ 100000) (h1 : ∃ a n c, v1 = .slice a n c) (h2 : ∃ a n c, v2 = .slice a n c) (h3 : ∃ a n c, v3 = .slice a n c) :
    Calls Try.prog 33 #[.agg #[.int .i64 m, v1, v2, v3]] w (NAns (xs.map (·.nm)) w) := by
  obtain ⟨ad1, n1, cap1, rfl⟩ := h1
  obtain ⟨ad2, n2, cap2, rfl⟩ := h2
  obtain ⟨ad3, n3, cap3, rfl⟩ := h3
  obtain ⟨ad, cap, hvv, hcap1, hcap2, hc⟩ := hv
  obtain ⟨rfl, rfl, rfl⟩ := Value.slice.inj hvv
  have HC := Lib.hid hc
  obtain ⟨n, hN⟩ : ∃ n, n = xs.length := ⟨_, rfl⟩
  rw [← hN] at hn ⊢
  have HN := Lib.hid hN
  have HB0 : Hid (Below w.heap.size w (w.alloc (.cells #[.int .i64 m, .slice ad1 n1 cap1, .slice ad2 n cap2, .slice ad3 n3 cap3] 28))) := (Below.refl _ _).alloc (Nat.le_refl _) _
  clear hN hc hcap1 hcap2 hvv
  go_enter Try.func33, Try.ntmps33
  go_wp2_with fail
  go_loopg [3, 9] n (fun fuel v' i' wr => ∃ (k : Nat) (ad9 : Option Addr) (cap9 : Nat), i' = .int .i64 k ∧ k ≤ n ∧ n - k ≤ fuel ∧ v' = .slice ad9 k cap9 ∧ wr.ownsRow w.heap.size 9 1 (.slice ad9 k cap9) k (nmK (·.nm) xs k) ∧ Below w.heap.size w wr)
  case atStart => exact ⟨0, none, 0, rfl, Nat.zero_le _, Nat.le_refl _, rfl, ⟨rfl, .inl ⟨rfl, rfl⟩⟩, HB0.out⟩
  case round =>
    obtain ⟨k, ad9, cap9, rfl, hk, hf, rfl, ho, hb⟩ := hrel
    have HO := Lib.hid ho
    have HB := Lib.hid hb
    have hww := hb.size
    clear ho hb
    by_cases hlt : k < n
    · have hk' : k < xs.length := by have := HN.out; omega
      have HTK := Lib.hid (take_strV (·.nm) xs k hk')
      obtain ⟨b, off, rfl, hbl, ⟨x0, x1, x2, x3⟩, hst⟩ := HC.out k hk'
      obtain ⟨⟨xn, tr, trv, tba, tbl, tbc, tp⟩, hx⟩ : ∃ x, x = xs[k] := ⟨_, rfl⟩
      rw [← hx] at x0 x1 x2 x3 HTK hst
      simp only [] at x0 x1 x2 x3 HTK hst
      obtain ⟨ra, rc, rfl⟩ := hst.shape
      generalize tr.length = rl at x1
      have c0 : wr.cell? ⟨b, off + k * 4, none⟩ = some (.string xn) := (HB.out.cell (p := ⟨b, _, none⟩) hbl).trans x0
      have c1 : wr.cell? ⟨b, off + k * 4 + 1, none⟩ = some (.slice ra rl rc) := (HB.out.cell (p := ⟨b, _, none⟩) hbl).trans x1
      have c2 : wr.cell? ⟨b, off + k * 4 + 2, none⟩ = some (.slice tba tbl tbc) := (HB.out.cell (p := ⟨b, _, none⟩) hbl).trans x2
      have c3 : wr.cell? ⟨b, off + k * 4 + 3, none⟩ = some (.int .i64 tp) := (HB.out.cell (p := ⟨b, _, none⟩) hbl).trans x3
      clear x0 x1 x2 x3 hx hst
      go_wp2_with (at_builtin; refine append_str rfl (.tmp 13) (.tmp 16) rfl w.heap.size k _ _ xn rfl _ rfl (own_below HO.out (((Below.refl _ _).alloc (Nat.le_refl _) _).alloc (by simp) _)) ?cc (by omega) (by simp; omega) ?_)
      case cc => simp
      intro v9 w9 hown9 hb9
      obtain ⟨ad4, cap4, rfl, _⟩ := own_shape' hown9
      have HB9 := Lib.hid (((HB.out.alloc hww _).alloc (by simp; omega) _).trans hb9)
      have HO9 := Lib.hid hown9
      clear hown9 hb9
      go_wp2_with fail
      go_roundg (gk - 1)
      case measure => omega
      case rel => exact ⟨k + 1, ad4, cap4, by go_num, by omega, by omega, rfl, by rw [HTK.out]; exact HO9.out, HB9.out⟩
    · obtain rfl : k = n := by omega
      have ho := HO.out
      rw [nmK_full _ _ _ (by rw [HN.out]; exact Nat.le_refl _)] at ho
      have HO9 := Lib.hid ho
      clear ho
      go_wp2
      go_ret
      refine ⟨_, rfl, ?_, HB.out⟩
      rw [List.length_map, ← HN.out]
      exact HO9.out

end Go.Proofs.Ytibkegalbcjmpaa
