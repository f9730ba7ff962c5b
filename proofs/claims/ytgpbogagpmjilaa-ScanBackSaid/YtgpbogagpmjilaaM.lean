/- What Show of package scan and the reference's Show do: the texts, a blank between each two. -/
import Derived.Test.YtgpbogagpmjilaaE
import Derived.Test.YtgpbogagpmjilaaL
namespace Go.Proofs.Ytgpbogagpmjilaa
open Go.RowKit

abbrev TokV := Int × ByteArray × Int × Int

/-- A slice of tokens as it lies in memory. -/
def Toks (w : World) (v : Value) (ts : List TokV) : Prop :=
  (ts = [] ∧ ∃ ad cap, v = .slice ad 0 cap) ∨
  ∃ b off cap, v = .slice (some ⟨b, off, none⟩) ts.length cap ∧ b < w.heap.size ∧
    ∀ i, (h : i < ts.length) → w.cell? ⟨b, off + i * 4, none⟩ = some (.int .i64 ts[i].1) ∧ w.cell? ⟨b, off + i * 4 + 1, none⟩ = some (.string ts[i].2.1) ∧ w.cell? ⟨b, off + i * 4 + 2, none⟩ = some (.int .i64 ts[i].2.2.1) ∧ w.cell? ⟨b, off + i * 4 + 3, none⟩ = some (.int .i64 ts[i].2.2.2)

/-- The texts, a blank between each two. -/
def showT : List TokV → List UInt8
  | [] => []
  | t :: r => t.2.1.data.toList ++ r.flatMap fun u => 32 :: u.2.1.data.toList

theorem showT_snoc (l : List TokV) (t : TokV) : showT (l ++ [t]) = showT l ++ ((if l = [] then [] else [32]) ++ t.2.1.data.toList) := by
  cases l with
  | nil => simp [showT]
  | cons a r => simp [showT]

theorem showT_take (l : List TokV) (k : Nat) (h : k < l.length) : showT (l.take (k + 1)) = showT (l.take k) ++ ((if k = 0 then [] else [32]) ++ l[k].2.1.data.toList) := by
  rw [List.take_succ_eq_append_getElem h, showT_snoc]
  congr 2
  by_cases h0 : k = 0
  · simp [h0]
  · rw [if_neg h0, if_neg]
    intro e
    have := congrArg List.length e
    rw [List.length_take, List.length_nil] at this
    omega

theorem showT_le (l : List TokV) (k : Nat) : (showT (l.take k)).length ≤ (showT l).length := by
  induction l generalizing k with
  | nil => simp
  | cons a r ih =>
    cases k with
    | zero => simp [showT]
    | succ k =>
      have key : ∀ (r : List TokV) (k : Nat), ((r.take k).flatMap fun u => (32 : UInt8) :: u.2.1.data.toList).length ≤ (r.flatMap fun u => (32 : UInt8) :: u.2.1.data.toList).length := by
        intro r
        induction r with
        | nil => intro k; simp
        | cons b r ih => intro k; cases k with
          | zero => simp
          | succ k => have := ih k; simp only [List.take_succ_cons, List.flatMap_cons, List.length_append] at this ⊢; omega
      have := key r k
      simp only [List.take_succ_cons, showT, List.length_append] at this ⊢; omega

set_option maxHeartbeats 2000000 in
theorem show_some (b off cap : Nat) (ts : List TokV) (w : World) (hb : b < w.heap.size) (hn : ts.length ≤ 140737488351232)
    (hc : ∀ i, (h : i < ts.length) → w.cell? ⟨b, off + i * 4, none⟩ = some (.int .i64 ts[i].1) ∧ w.cell? ⟨b, off + i * 4 + 1, none⟩ = some (.string ts[i].2.1) ∧ w.cell? ⟨b, off + i * 4 + 2, none⟩ = some (.int .i64 ts[i].2.2.1) ∧ w.cell? ⟨b, off + i * 4 + 3, none⟩ = some (.int .i64 ts[i].2.2.2)) (hlen : (showT ts).length ≤ 140737488355328) :
    Calls Try.prog 16 #[.slice (some ⟨b, off, none⟩) ts.length cap] w fun e w' => e = .returned (.string ⟨(showT ts).toArray⟩) ∧ Below w.heap.size w w' := by
  have HC := Lib.hid hc; clear hc
  have HL := Lib.hid hlen; clear hlen
  obtain ⟨n, hn'⟩ : ∃ n, n = ts.length := ⟨_, rfl⟩
  rw [← hn'] at hn ⊢
  have HN := Lib.hid hn'; clear hn'
  go_enter Try.func16, Try.ntmps16
  go_wp2
  go_loopg [8] n (fun fuel i wr => ∃ k : Nat, k ≤ n ∧ i = .int .i64 k ∧ n - k ≤ fuel ∧ Lib.IsBuilder 46 5 w.heap.size w.heap.size (Lib.byteCells (showT (ts.take k))) wr ∧ Below w.heap.size w wr)
  case atStart => exact ⟨0, Nat.zero_le _, rfl, Nat.le_refl _, Lib.fresh_isBuilder 46 5 w, (Below.refl _ w).alloc (Nat.le_refl _) _⟩
  case round =>
    obtain ⟨k, hk, rfl, hf, hI, hbw⟩ := hrel
    by_cases hlt : k < n
    · have hlt' : k < ts.length := by have := HN.out; omega
      obtain ⟨x0, x1, x2, x3⟩ := HC.out k hlt'
      have y0 := (hbw.cell (p := ⟨b, off + k * 4, none⟩) hb).trans x0
      have y1 := (hbw.cell (p := ⟨b, off + k * 4 + 1, none⟩) hb).trans x1
      have y2 := (hbw.cell (p := ⟨b, off + k * 4 + 2, none⟩) hb).trans x2
      have y3 := (hbw.cell (p := ⟨b, off + k * 4 + 3, none⟩) hb).trans x3
      clear x0 x1 x2 x3
      have HT := Lib.hid (showT_take ts k hlt')
      have HE := Lib.hid (showT_le ts (k + 1))
      obtain ⟨⟨t0, tx, t2, t3⟩, ht⟩ : ∃ t, t = ts[k] := ⟨_, rfl⟩
      rw [← ht] at HT y0 y1 y2 y3
      clear ht
      have HB : Hid ((showT (ts.take k)).length + (if k = 0 then 0 else 1) + tx.size ≤ 140737488355328) := by
        have h1 := HE.out
        have h2 := HL.out
        rw [HT.out] at h1
        simp only [List.length_append, ← Lib.size_eq] at h1
        show _ ≤ _
        by_cases hk0 : k = 0
        · simp only [hk0, if_true, List.length_nil] at h1 ⊢; omega
        · simp only [if_neg hk0, List.length_cons, List.length_nil] at h1 ⊢; omega
      have hT := builder_alloc hI (.cells #[.int .i64 t0, .string tx, .int .i64 t2, .int .i64 t3] 29)
      have hbT := hbw.alloc hbw.size (.cells #[.int .i64 t0, .string tx, .int .i64 t2, .int .i64 t3] 29)
      have hne := builder_lt hI
      clear hI
      by_cases hk0 : k = 0
      · subst hk0
        simp only [Nat.zero_mul, Nat.add_zero] at y0 y1 y2 y3
        go_wp2_with (go_at_call 28; refine (writeString_any _ _ _ _ _ hT ?c1 hbT.size).mono ?_; rotate_left; rintro e w2 ⟨rfl, hI2, hb2⟩)
        · go_roundg (gk - 1)
          case measure => omega
          case rel =>
            refine ⟨1, by omega, by go_num, by omega, ?_, hbT.trans hb2⟩
            have e := HT.out
            rw [if_pos trivial, List.nil_append] at e
            rw [e, Lib.byteCells_append]
            exact hI2
        case c1 =>
          have := HB.out
          rw [Lib.byteCells_length]; simpa using this
      · have hblk := heap_alloc_new wr (.cells #[.int .i64 t0, .string tx, .int .i64 t2, .int .i64 t3] 29)
        go_wp2_with (first
          | (go_at_call 27; refine (writeByte_any _ _ _ _ _ hT ?c1 hbT.size).mono ?_; rotate_left; rintro e w1 ⟨rfl, hI1, hb1, ho1⟩; have hcl := ho1 _ _ hblk (fun e => by have := Option.some.inj e; omega) (fun c fz e => by injection e with _ e2; exact absurd e2 (by decide)); have hcell : w1.cell? ⟨wr.heap.size, 1, none⟩ = some (.string tx) := by rw [Lib.cell_of_heap hcl]; rfl
             have hbw1 := hbT.trans hb1; clear hb1 ho1 hcl hT hbT)
          | (go_at_call 28; refine (writeString_any _ _ _ _ _ hI1 ?c2 hbw1.size).mono ?_; rotate_left; rintro e w2 ⟨rfl, hI2, hb2⟩))
        · go_roundg (gk - 1)
          case measure => omega
          case rel =>
            refine ⟨k + 1, by omega, by go_num, by omega, ?_, hbw1.trans hb2⟩
            have e := HT.out
            rw [if_neg hk0] at e
            rw [e, Lib.byteCells_append, Lib.byteCells_append, ← List.append_assoc]
            exact hI2
        case c2 =>
          have := HB.out
          rw [List.length_append, Lib.byteCells_length]
          simp only [if_neg hk0, List.length_cons, List.length_nil] at this ⊢; omega
        case c1 =>
          have := HB.out
          rw [Lib.byteCells_length]
          simp only [if_neg hk0] at this; omega
    · have HK : Hid (ts.take k = ts) := List.take_of_length_le (by have := HN.out; omega)
      go_wp2_with (go_at_call 29; refine (Try.Builder_String_any _ _ _ _ hI hbw.size).mono ?_; rintro e w2 ⟨rfl, hb2⟩)
      go_ret
      rw [HK.out]
      exact ⟨rfl, hbw.trans hb2⟩

set_option maxHeartbeats 1000000 in
theorem show_none (ad : Option Addr) (cap : Nat) (w : World) :
    Calls Try.prog 16 #[.slice ad 0 cap] w fun e w' => e = .returned (.string ⟨#[]⟩) ∧ Below w.heap.size w w' := by
  go_enter Try.func16, Try.ntmps16
  go_wp2
  go_loopg [8] 0 (fun fuel i wr => i = .int .i64 0 ∧ Lib.IsBuilder 46 5 w.heap.size w.heap.size (Lib.byteCells []) wr ∧ Below w.heap.size w wr)
  case atStart => exact ⟨rfl, Lib.fresh_isBuilder 46 5 w, (Below.refl _ w).alloc (Nat.le_refl _) _⟩
  case round =>
    obtain ⟨rfl, hI, hbw⟩ := hrel
    go_wp2_with (go_at_call 29; refine (Try.Builder_String_any _ _ _ _ hI hbw.size).mono ?_; rintro e w2 ⟨rfl, hb2⟩)
    go_ret
    exact ⟨rfl, hbw.trans hb2⟩

/-- Show, of tokens as they lie in memory. -/
theorem show_any (v : Value) (ts : List TokV) (w : World) (h : Toks w v ts) (hn : ts.length ≤ 140737488351232) (hlen : (showT ts).length ≤ 140737488355328) :
    Calls Try.prog 16 #[v] w fun e w' => e = .returned (.string ⟨(showT ts).toArray⟩) ∧ Below w.heap.size w w' := by
  rcases h with ⟨rfl, ad, cap, rfl⟩ | ⟨b, off, cap, rfl, hb, hc⟩
  · exact show_none ad cap w
  · exact show_some b off cap ts w hb hn hc hlen

set_option maxHeartbeats 1000000 in
theorem rshow_none (ad : Option Addr) (cap : Nat) (w : World) :
    Calls Try.prog 17 #[.slice ad 0 cap] w fun e w' => e = .returned (.string ⟨#[]⟩) ∧ w = w' := by
  go_enter Try.func17, Try.ntmps17
  go_wp2
  go_loopg [3, 4] 0 (fun fuel s i wr => s = .string ⟨#[]⟩ ∧ i = .int .i64 0 ∧ w = wr)
  case atStart => exact ⟨rfl, rfl, rfl⟩
  case round =>
    obtain ⟨rfl, rfl, rfl⟩ := hrel
    go_wp2
    go_ret
    exact ⟨rfl, rfl⟩

set_option maxHeartbeats 1000000 in
theorem rshow_some (b off cap : Nat) (ts : List TokV) (w : World) (hn : ts.length ≤ 140737488351232)
    (hc : ∀ i, (h : i < ts.length) → w.cell? ⟨b, off + i * 4, none⟩ = some (.int .i64 ts[i].1) ∧ w.cell? ⟨b, off + i * 4 + 1, none⟩ = some (.string ts[i].2.1) ∧ w.cell? ⟨b, off + i * 4 + 2, none⟩ = some (.int .i64 ts[i].2.2.1) ∧ w.cell? ⟨b, off + i * 4 + 3, none⟩ = some (.int .i64 ts[i].2.2.2)) (hlen : (showT ts).length ≤ 140737488355328) :
    Calls Try.prog 17 #[.slice (some ⟨b, off, none⟩) ts.length cap] w fun e w' => e = .returned (.string ⟨(showT ts).toArray⟩) ∧ w = w' := by
  have HC := Lib.hid hc; clear hc
  have HL := Lib.hid hlen; clear hlen
  obtain ⟨n, hn'⟩ : ∃ n, n = ts.length := ⟨_, rfl⟩
  rw [← hn'] at hn ⊢
  have HN := Lib.hid hn'; clear hn'
  go_enter Try.func17, Try.ntmps17
  go_wp2
  go_loopg [3, 4] n (fun fuel s i wr => ∃ (k : Nat) (a : ByteArray), k ≤ n ∧ s = .string a ∧ i = .int .i64 k ∧ n - k ≤ fuel ∧ a = ⟨(showT (ts.take k)).toArray⟩ ∧ w = wr)
  case atStart => exact ⟨0, ⟨#[]⟩, Nat.zero_le _, rfl, rfl, Nat.le_refl _, rfl, rfl⟩
  case round =>
    obtain ⟨k, a, hk, rfl, rfl, hf, ha, rfl⟩ := hrel
    have HA := Lib.hid ha; clear ha
    by_cases hlt : k < n
    · have hlt' : k < ts.length := by have := HN.out; omega
      obtain ⟨_, y1, _, _⟩ := HC.out k hlt'
      have HT := Lib.hid (showT_take ts k hlt')
      have HE := Lib.hid (showT_le ts (k + 1))
      obtain ⟨⟨t0, tx, t2, t3⟩, ht⟩ : ∃ t, t = ts[k] := ⟨_, rfl⟩
      rw [← ht] at HT y1
      clear ht
      have HB : Hid ((showT (ts.take k)).length + (if k = 0 then 0 else 1) + tx.size ≤ 140737488355328) := by
        have h1 := HE.out
        have h2 := HL.out
        rw [HT.out] at h1
        simp only [List.length_append, ← Lib.size_eq] at h1
        show _ ≤ _
        by_cases hk0 : k = 0
        · simp only [hk0, if_true, List.length_nil] at h1 ⊢; omega
        · simp only [if_neg hk0, List.length_cons, List.length_nil] at h1 ⊢; omega
      have hz : a.size + (if k = 0 then 0 else 1) + tx.size ≤ 140737488355328 := by
        have e : a.size = (showT (ts.take k)).length := by rw [HA.out, Lib.size_eq]
        rw [e]; exact HB.out
      clear HB
      by_cases hk0 : k = 0
      · subst hk0
        simp only [Nat.zero_mul, Nat.add_zero, if_true] at y1 hz
        go_wp2
        go_roundg (gk - 1)
        case measure => omega
        case rel =>
          refine ⟨1, a ++ tx, by omega, by rfl, by go_num, by omega, ?_, rfl⟩
          have e := HT.out
          rw [if_pos trivial, List.nil_append] at e
          rw [e, HA.out]
          exact ByteArray.ext (by simp)
      · simp only [if_neg hk0] at hz
        go_wp2
        go_roundg (gk - 1)
        case measure => omega
        case rel =>
          refine ⟨k + 1, a ++ ⟨#[32]⟩ ++ tx, by omega, by rfl, by go_num, by omega, ?_, rfl⟩
          have e := HT.out
          rw [if_neg hk0] at e
          rw [e, HA.out]
          exact ByteArray.ext (by simp)
    · have HK : Hid (ts.take k = ts) := List.take_of_length_le (by have := HN.out; omega)
      go_wp2
      go_ret
      rw [HA.out, HK.out]
      exact ⟨rfl, rfl⟩

/-- The reference's Show, of tokens as they lie in memory. -/
theorem rshow_any (v : Value) (ts : List TokV) (w : World) (h : Toks w v ts) (hn : ts.length ≤ 140737488351232) (hlen : (showT ts).length ≤ 140737488355328) :
    Calls Try.prog 17 #[v] w fun e w' => e = .returned (.string ⟨(showT ts).toArray⟩) ∧ w = w' := by
  rcases h with ⟨rfl, ad, cap, rfl⟩ | ⟨b, off, cap, rfl, _, hc⟩
  · exact rshow_none ad cap w
  · exact rshow_some b off cap ts w hn hc hlen

end Go.Proofs.Ytgpbogagpmjilaa
