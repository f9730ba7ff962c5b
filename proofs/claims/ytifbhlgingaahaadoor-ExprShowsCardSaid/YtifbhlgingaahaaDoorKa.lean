/- The parser's block, what is kept beside it, and what token, sign, name, fail and refuse do. -/
import Derived.Test.YtifbhlgingaahaaDoorNa
namespace Go.Proofs.YtifbhlgingaahaaDoor
open Go.RowKit

/-- All blocks but one are as they were. -/
structure Keep (b : Nat) (w w' : World) : Prop where
  os : w'.os = w.os
  tape : w'.tape = w.tape
  output : w'.output = w.output
  size : w.heap.size ≤ w'.heap.size
  block : ∀ k, k < w.heap.size → k ≠ b → w'.heap[k]? = w.heap[k]?

theorem Keep.refl (b : Nat) (w : World) : Keep b w w := ⟨rfl, rfl, rfl, Nat.le_refl _, fun _ _ _ => rfl⟩
theorem Keep.trans {b : Nat} {x y z : World} (h : Keep b x y) (k : Keep b y z) : Keep b x z :=
  ⟨k.os.trans h.os, k.tape.trans h.tape, k.output.trans h.output, Nat.le_trans h.size k.size, fun i hi hb => (k.block i (Nat.lt_of_lt_of_le hi h.size) hb).trans (h.block i hi hb)⟩
theorem Below.keep {b : Nat} {w w' : World} (h : Below w.heap.size w w') : Keep b w w' := ⟨h.os, h.tape, h.output, h.size, fun k hk _ => h.block k hk⟩
theorem Keep.below {b : Nat} {x w w' : World} (h : Keep b x w) (k : Below w.heap.size w w') : Keep b x w' := h.trans (Below.keep k)
theorem Keep.setCell {b : Nat} {x w : World} (h : Keep b x w) (o : Nat) (u : Value) : Keep b x (w.setCell ⟨b, o, none⟩ u) :=
  h.trans ⟨rfl, rfl, rfl, by simp [World.setCell], fun k _ hb => Below.heap_setCell _ _ _ _ hb⟩
/-- What lies below the block is as it was. -/
theorem Keep.under {b : Nat} {w w' : World} (h : Keep b w w') (hb : b ≤ w.heap.size) : Below b w w' :=
  ⟨h.os, h.tape, h.output, h.size, fun k hk => h.block k (by omega) (by omega)⟩
/-- And what lies above it, while the block is given back. -/
theorem Keep.cell {b : Nat} {w w' : World} (h : Keep b w w') {p : Addr} (h1 : p.block < w.heap.size) (h2 : p.block ≠ b) : w'.cell? p = w.cell? p := World.cell?_of_block (w := w) (h.block p.block h1 h2)

theorem own_keep {w w' : World} {B e size n b : Nat} {v : Value} {xs : List Value} (h : w.ownsRow B e size v n xs) (hb : Keep b w w') (hB : b < B) : w'.ownsRow B e size v n xs := by
  obtain ⟨h1, h2⟩ := h
  refine ⟨h1, ?_⟩
  rcases h2 with h2 | ⟨g, cap, cur, hv, hg, hh, r⟩
  · exact .inl h2
  · exact .inr ⟨g, cap, cur, hv, hg, by rw [hb.block g (Array.getElem?_eq_some_iff.1 hh).1 (by omega)]; exact hh, r⟩

/-- The parser's block: its tokens, the next one, how deep it is, what is wrong, and where. -/
def Pst (w : World) (b : Nat) (lv : Value) (nx op er pl : Int) : Prop := w.heap[b]? = some (.cells #[lv, .int .i64 nx, .int .i64 op, .int .i64 er, .int .i64 pl] 46 (0, 0))

theorem Pst.lt {w : World} {b : Nat} {lv : Value} {nx op er pl : Int} (h : Pst w b lv nx op er pl) : b < w.heap.size := (Array.getElem?_eq_some_iff.1 h).1
theorem Pst.below {w w' : World} {b : Nat} {lv : Value} {nx op er pl : Int} (h : Pst w b lv nx op er pl) (hb : Below w.heap.size w w') : Pst w' b lv nx op er pl := by
  unfold Pst at *; rw [hb.block b (Pst.lt h)]; exact h
theorem Pst.facts {w : World} {b : Nat} {lv : Value} {nx op er pl : Int} (h : Pst w b lv nx op er pl) :
    (w.cell? ⟨b, 0, none⟩ = some lv ∧ w.cell? ⟨b, 1, none⟩ = some (.int .i64 nx) ∧ w.cell? ⟨b, 2, none⟩ = some (.int .i64 op) ∧ w.cell? ⟨b, 3, none⟩ = some (.int .i64 er) ∧ w.cell? ⟨b, 4, none⟩ = some (.int .i64 pl)) ∧
    w.frozen? ⟨b, 1, none⟩ = false ∧ w.frozen? ⟨b, 2, none⟩ = false ∧ w.frozen? ⟨b, 3, none⟩ = false ∧ w.frozen? ⟨b, 4, none⟩ = false := by
  unfold Pst at h
  simp [World.cell?, World.frozen?, h]
theorem Pst.set {w : World} {b : Nat} {lv : Value} {nx op er pl : Int} (h : Pst w b lv nx op er pl) :
    (∀ x, Pst (w.setCell ⟨b, 1, none⟩ (.int .i64 x)) b lv x op er pl) ∧ (∀ x, Pst (w.setCell ⟨b, 2, none⟩ (.int .i64 x)) b lv nx x er pl) ∧ (∀ x, Pst (w.setCell ⟨b, 3, none⟩ (.int .i64 x)) b lv nx op x pl) ∧ (∀ x, Pst (w.setCell ⟨b, 4, none⟩ (.int .i64 x)) b lv nx op er x) := by
  unfold Pst at h
  have hlt := (Array.getElem?_eq_some_iff.1 h).1
  have hg := (Array.getElem?_eq_some_iff.1 h).2
  refine ⟨fun x => ?_, fun x => ?_, fun x => ?_, fun x => ?_⟩ <;> simp [Pst, World.setCell, Array.getElem?_modify, h]

/-- The tokens that the parser reads, in a block of their own. -/
def TokS (w : World) (b : Nat) (v : Value) (l : List Tok) : Prop :=
  ∃ ad cap, v = .slice ad l.length cap ∧ ∀ i, (hi : i < l.length) → ∃ g, ad = some ⟨g, 0, none⟩ ∧ g < w.heap.size ∧ g ≠ b ∧
    w.cell? ⟨g, i * 4, none⟩ = some (.int .i64 l[i].1) ∧ w.cell? ⟨g, i * 4 + 1, none⟩ = some (.string ⟨l[i].2.1.toArray⟩) ∧ w.cell? ⟨g, i * 4 + 2, none⟩ = some (.int .i64 l[i].2.2.1) ∧ w.cell? ⟨g, i * 4 + 3, none⟩ = some (.int .i64 l[i].2.2.2)

theorem TokS.keep {w w' : World} {b : Nat} {v : Value} {l : List Tok} (h : TokS w b v l) (hb : Keep b w w') : TokS w' b v l := by
  obtain ⟨ad, cap, hv, hc⟩ := h
  refine ⟨ad, cap, hv, fun i hi => ?_⟩
  obtain ⟨g, hg, h1, h2, k0, k1, k2, k3⟩ := hc i hi
  exact ⟨g, hg, Nat.lt_of_lt_of_le h1 hb.size, h2, (hb.cell (p := ⟨g, _, none⟩) h1 h2).trans k0, (hb.cell (p := ⟨g, _, none⟩) h1 h2).trans k1, (hb.cell (p := ⟨g, _, none⟩) h1 h2).trans k2, (hb.cell (p := ⟨g, _, none⟩) h1 h2).trans k3⟩

/-- A token as a value. -/
def tokV (l : List Tok) (i : Nat) : Value := match l[i]? with
  | none => .agg #[.int .i64 0, .string ⟨#[]⟩, .int .i64 0, .int .i64 0]
  | some t => .agg #[.int .i64 t.1, .string ⟨t.2.1.toArray⟩, .int .i64 t.2.2.1, .int .i64 t.2.2.2]

set_option maxHeartbeats 1000000 in
theorem token_over (l : List Tok) (b : Nat) (lv : Value) (i : Nat) (op er pl : Int) (w : World) (hp : Pst w b lv i op er pl) (ht : TokS w b lv l) (_hn : l.length ≤ 100000) (hlt : ¬ i < l.length) :
    Calls Tryd.prog 66 #[.pointer (some ⟨b, 0, none⟩)] w fun e w' => e = .returned (tokV l i) ∧ Below w.heap.size w w' := by
  have he : tokV l i = .agg #[.int .i64 0, .string ⟨#[]⟩, .int .i64 0, .int .i64 0] := by unfold tokV; rw [List.getElem?_eq_none (by omega)]
  rw [he]; clear he
  obtain ⟨ad, cap, rfl, _⟩ := ht
  obtain ⟨⟨c0, c1, _, _, _⟩, _⟩ := hp.facts
  have hb := hp.lt
  obtain ⟨n, hN⟩ : ∃ n, n = l.length := ⟨_, rfl⟩
  rw [← hN] at hlt c0
  clear hN hp
  have q1 : decide ((n : Int) ≤ (i : Int)) = true := by simp; omega
  have q2 : decide (n ≤ i) = true := by simp; omega
  go_enter Tryd.func66, Tryd.ntmps66
  go_wp2
  go_quiet (fail)
  go_wp2
  refine bodyPost_ret (v := .agg #[.int .i64 0, .string ⟨#[]⟩, .int .i64 0, .int .i64 0]) (by simp [results, Tryd.results66, go_sem]) rfl ⟨rfl, ?_⟩
  exact below_set4 (below_drewN ((Below.refl _ _).alloc (Nat.le_refl _) _) _) _ _ _ _

set_option maxHeartbeats 1000000 in
theorem token_in (l : List Tok) (b : Nat) (lv : Value) (i : Nat) (op er pl : Int) (w : World) (hp : Pst w b lv i op er pl) (ht : TokS w b lv l) (hn : l.length ≤ 100000) (hlt : i < l.length) :
    Calls Tryd.prog 66 #[.pointer (some ⟨b, 0, none⟩)] w fun e w' => e = .returned (tokV l i) ∧ Below w.heap.size w w' := by
  have he : tokV l i = .agg #[.int .i64 l[i].1, .string ⟨l[i].2.1.toArray⟩, .int .i64 l[i].2.2.1, .int .i64 l[i].2.2.2] := by unfold tokV; rw [List.getElem?_eq_getElem hlt]
  rw [he]; clear he
  obtain ⟨ad, cap, rfl, hc⟩ := ht
  obtain ⟨⟨c0, c1, _, _, _⟩, _⟩ := hp.facts
  have hb := hp.lt
  obtain ⟨g, rfl, hg1, hg2, k0, k1, k2, k3⟩ := hc i hlt
  obtain ⟨⟨tk, tx, tn, tp⟩, htk⟩ : ∃ t, t = l[i] := ⟨_, rfl⟩
  rw [← htk] at k0 k1 k2 k3 ⊢
  simp only [] at k0 k1 k2 k3 ⊢
  obtain ⟨n, hN⟩ : ∃ n, n = l.length := ⟨_, rfl⟩
  rw [← hN] at hn c0
  have hlt' : i < n := by omega
  clear hN hp hc htk hlt
  have q1 : decide ((n : Int) ≤ (i : Int)) = false := by simp; omega
  have q2 : decide (n ≤ i) = false := by simp; omega
  have q3 : decide ((tp : Int) < 0) = false := by simp
  by_cases h0 : i = 0
  · subst h0
    simp only [Nat.zero_mul, Nat.zero_add] at k0 k1 k2 k3
    clear q1 q2
    have q1 : decide ((n : Int) ≤ 0) = false := by simp; omega
    have q2 : decide (n ≤ 0) = false := by simp; omega
    have q4 : decide (n = 0) = false := by simp; omega
    go_enter Tryd.func66, Tryd.ntmps66
    go_wp2
    go_quiet (fail)
    go_wp2
    go_region
    go_wp2
    refine bodyPost_ret (v := .agg #[.int .i64 tk, .string ⟨tx.toArray⟩, .int .i64 tn, .int .i64 tp]) (by simp [results, Tryd.results66, go_sem]) rfl ⟨rfl, ?_⟩
    exact below_set4 (below_drewN ((Below.refl _ _).alloc (Nat.le_refl _) _) _) _ _ _ _
  · go_enter Tryd.func66, Tryd.ntmps66
    go_wp2
    go_quiet (fail)
    go_wp2
    go_region
    go_wp2
    refine bodyPost_ret (v := .agg #[.int .i64 tk, .string ⟨tx.toArray⟩, .int .i64 tn, .int .i64 tp]) (by simp [results, Tryd.results66, go_sem]) rfl ⟨rfl, ?_⟩
    exact below_set4 (below_drewN ((Below.refl _ _).alloc (Nat.le_refl _) _) _) _ _ _ _

theorem token_any (l : List Tok) (b : Nat) (lv : Value) (i : Nat) (op er pl : Int) (w : World) (hp : Pst w b lv i op er pl) (ht : TokS w b lv l) (hn : l.length ≤ 100000) :
    Calls Tryd.prog 66 #[.pointer (some ⟨b, 0, none⟩)] w fun e w' => e = .returned (tokV l i) ∧ Below w.heap.size w w' := by
  by_cases h : i < l.length
  · exact token_in l b lv i op er pl w hp ht hn h
  · exact token_over l b lv i op er pl w hp ht hn h

/-- A token's four parts, zero where there is none. -/
def tokO (l : List Tok) (i : Nat) : Tok := (l[i]?).getD (0, [], 0, 0)
theorem tokV_eq (l : List Tok) (i : Nat) : tokV l i = .agg #[.int .i64 (tokO l i).1, .string ⟨(tokO l i).2.1.toArray⟩, .int .i64 (tokO l i).2.2.1, .int .i64 (tokO l i).2.2.2] := by
  unfold tokV tokO
  cases l[i]? with
  | none => rfl
  | some t => rfl

/-- Whether a sign stands at a place. -/
def sgAt (l : List Tok) (i : Nat) (x : List UInt8) : Bool := decide ((tokO l i).1 = 3) && ((tokO l i).2.1 == x)
/-- Whether a name stands at a place. -/
def nmAt (l : List Tok) (i : Nat) : Bool := decide ((tokO l i).1 = 1) && nameB ⟨(tokO l i).2.1.toArray⟩

theorem below_on {B : Nat} {w w1 w2 : World} {o : Obj} (h : Below B w w1) (hB : B ≤ w1.heap.size) (k : Below (w1.alloc o).heap.size (w1.alloc o) w2) : Below B w w2 :=
  (h.alloc hB o).trans (k.mono (by simp; omega))

set_option maxHeartbeats 1000000 in
theorem sign_is (l : List Tok) (b : Nat) (lv : Value) (i : Nat) (op er pl : Int) (x : ByteArray) (w : World) (hp : Pst w b lv i op er pl) (ht : TokS w b lv l) (hn : l.length ≤ 100000) (r : Bool) (hr : sgAt l i x.data.toList = r) :
    Calls Tryd.prog 60 #[.pointer (some ⟨b, 0, none⟩), .string x] w fun e w' => e = .returned (.bool r) ∧ Below w.heap.size w w' := by
  have HT := token_any l b lv i op er pl w hp ht hn
  rw [tokV_eq] at HT
  unfold sgAt at hr
  obtain ⟨⟨tk, tx, tn, tp⟩, htk⟩ : ∃ t, t = tokO l i := ⟨_, rfl⟩
  rw [← htk] at HT hr
  simp only [] at HT hr
  clear htk hp ht hn
  by_cases h3 : tk = 3
  · subst h3
    obtain ⟨y, hy⟩ : ∃ y : ByteArray, y = ⟨tx.toArray⟩ := ⟨_, rfl⟩
    have hyx : (y.toList == x.toList) = r := by rw [← hr, Lib.toList_data, Lib.toList_data, hy]; simp
    rw [← hy] at HT
    clear hy hr
    cases r <;>
    · go_enter Tryd.func60, Tryd.ntmps60
      go_wp2_with (go_at_call 66; refine HT.mono ?_; rintro e w1 ⟨rfl, hb1⟩)
      go_ret
      exact ⟨rfl, hb1.alloc hb1.size _⟩
  · have q : ((tk : Int) == 3) = false := by simp; omega
    have hr' : r = false := by rw [← hr]; simp [h3]
    subst hr'
    clear hr h3
    go_enter Tryd.func60, Tryd.ntmps60
    go_wp2_with (go_at_call 66; refine HT.mono ?_; rintro e w1 ⟨rfl, hb1⟩)
    go_ret
    exact ⟨rfl, hb1.alloc hb1.size _⟩

set_option maxHeartbeats 1000000 in
theorem name_is (l : List Tok) (b : Nat) (lv : Value) (i : Nat) (op er pl : Int) (w : World) (hp : Pst w b lv i op er pl) (ht : TokS w b lv l) (hn : l.length ≤ 100000) (hs : (tokO l i).2.1.length ≤ 100000) (r : Bool) (hr : nmAt l i = r) :
    Calls Tryd.prog 78 #[.pointer (some ⟨b, 0, none⟩)] w fun e w' => e = .returned (.bool r) ∧ Below w.heap.size w w' := by
  have HT := token_any l b lv i op er pl w hp ht hn
  rw [tokV_eq] at HT
  unfold nmAt at hr
  obtain ⟨⟨tk, tx, tn, tp⟩, htk⟩ : ∃ t, t = tokO l i := ⟨_, rfl⟩
  rw [← htk] at HT hr hs
  simp only [] at HT hr hs
  clear htk hp ht hn
  by_cases h3 : tk = 1
  · subst h3
    obtain ⟨y, hy⟩ : ∃ y : ByteArray, y = ⟨tx.toArray⟩ := ⟨_, rfl⟩
    have hyn : nameB y = r := by rw [← hr, hy]; simp
    have hys : y.size ≤ maxLen := by rw [hy, Lib.size_eq]; unfold maxLen; simp; omega
    have HN : ∀ w, Calls Tryd.prog 34 #[.string y] w fun e w' => e = .returned (.bool r) ∧ Below w.heap.size w w' := fun w => hyn ▸ name_any y w hys
    rw [← hy] at HT
    clear hy hr hyn hys hs
    go_enter Tryd.func78, Tryd.ntmps78
    go_wp2_with (first
      | (go_at_call 66; refine HT.mono ?_; rintro e w1 ⟨rfl, hb1⟩))
    refine (HN _).mono ?_
    rintro e w2 ⟨rfl, hb2⟩
    go_wp2
    go_ret
    exact ⟨rfl, below_on hb1 hb1.size hb2⟩
  · have q : ((tk : Int) == 1) = false := by simp; omega
    have hr' : r = false := by rw [← hr]; simp [h3]
    subst hr'
    clear hr h3
    go_enter Tryd.func78, Tryd.ntmps78
    go_wp2_with (go_at_call 66; refine HT.mono ?_; rintro e w1 ⟨rfl, hb1⟩)
    go_ret
    exact ⟨rfl, hb1.alloc hb1.size _⟩

end Go.Proofs.YtifbhlgingaahaaDoor
