/- What fail and refuse do. -/
import Derived.Test.YtifbhlgingaahaaDoorKa
import Derived.StillTailTactics
import Derived.Deep.RegionHeld3
import Derived.Deep.RegionWith
import Derived.BigRegion
namespace Go.Proofs.YtifbhlgingaahaaDoor
open Go.RowKit

theorem Pst.alloc {w : World} {b : Nat} {lv : Value} {nx op er pl : Int} (h : Pst w b lv nx op er pl) (o : Obj) : Pst (w.alloc o) b lv nx op er pl :=
  h.below ((Below.refl _ _).alloc (Nat.le_refl _) _)
theorem Pst.other {w : World} {b : Nat} {lv : Value} {nx op er pl : Int} (h : Pst w b lv nx op er pl) (g o : Nat) (hg : g ≠ b) (u : Value) : Pst (w.setCell ⟨g, o, none⟩ u) b lv nx op er pl := by
  unfold Pst at *; rw [Below.heap_setCell _ _ _ _ (by exact fun e => hg e.symm)]; exact h
theorem Pst.drewN {w : World} {b : Nat} {lv : Value} {nx op er pl : Int} (h : Pst w b lv nx op er pl) (n : Nat) : Pst (w.drewN n) b lv nx op er pl := h
theorem Keep.alloc {b : Nat} {x w : World} (h : Keep b x w) (o : Obj) : Keep b x (w.alloc o) := h.below ((Below.refl _ _).alloc (Nat.le_refl _) _)
theorem Keep.setNew {b : Nat} {x w : World} (h : Keep b x w) {g o : Nat} (hg : x.heap.size ≤ g) (u : Value) : Keep b x (w.setCell ⟨g, o, none⟩ u) :=
  ⟨h.os, h.tape, h.output, by have := h.size; simpa [World.setCell] using this, fun k hk hb => (Below.heap_setCell _ _ _ _ (by simp; omega)).trans (h.block k hk hb)⟩
theorem Keep.drewN {b : Nat} {x w : World} (h : Keep b x w) (n : Nat) : Keep b x (w.drewN n) := h.trans ⟨rfl, rfl, rfl, Nat.le_refl _, fun _ _ _ => rfl⟩

/-- A block of three cells, a part's. -/
def Blk3 (W : World) (b : Nat) (x0 x1 x2 : Value) : Prop := W.heap[b]? = some (.cells #[x0, x1, x2] 48 (0, 0))
theorem Blk3.new (w : World) (x0 x1 x2 : Value) : Blk3 (w.alloc (.cells #[x0, x1, x2] 48)) w.heap.size x0 x1 x2 := heap_alloc_new w _
theorem Blk3.lt {W : World} {b : Nat} {x0 x1 x2 : Value} (h : Blk3 W b x0 x1 x2) : b < W.heap.size := (Array.getElem?_eq_some_iff.1 h).1
theorem Blk3.below {W W' : World} {b : Nat} {x0 x1 x2 : Value} (h : Blk3 W b x0 x1 x2) (hb : Below W.heap.size W W') : Blk3 W' b x0 x1 x2 := by
  have := Blk3.lt h
  unfold Blk3 at *; rw [hb.block b this]; exact h
theorem Blk3.keep {W W' : World} {b g : Nat} {x0 x1 x2 : Value} (h : Blk3 W g x0 x1 x2) (hb : Keep b W W') (hg : g ≠ b) : Blk3 W' g x0 x1 x2 := by
  have := Blk3.lt h
  unfold Blk3 at *; rw [hb.block g this hg]; exact h
theorem Blk3.facts {W : World} {b : Nat} {x0 x1 x2 : Value} (h : Blk3 W b x0 x1 x2) :
    (W.cell? ⟨b, 0, none⟩ = some x0 ∧ W.cell? ⟨b, 1, none⟩ = some x1 ∧ W.cell? ⟨b, 2, none⟩ = some x2) ∧
    W.frozen? ⟨b, 0, none⟩ = false ∧ W.frozen? ⟨b, 1, none⟩ = false ∧ W.frozen? ⟨b, 2, none⟩ = false := by
  unfold Blk3 at h
  simp [World.cell?, World.frozen?, h]

/-- The part without nodes. -/
def partZ : Value := .agg #[.slice none 0 0, .int .i64 0, .int .i64 0]

def FailTo (b : Nat) (lv : Value) (nx op k a : Int) (w : World) (e : Ending) (w' : World) : Prop := e = .returned partZ ∧ Pst w' b lv nx op k a ∧ Keep b w w'

set_option maxHeartbeats 1000000 in
theorem fail_first (b : Nat) (lv : Value) (nx op k a : Int) (w : World) (hp : Pst w b lv nx op 0 0) :
    Calls Tryd.prog 80 #[.pointer (some ⟨b, 0, none⟩), .int .i64 k, .int .i64 a] w (FailTo b lv nx op k a w) := by
  have hb := hp.lt
  obtain ⟨⟨c0, c1, c2, c3, c4⟩, f1, f2, f3, f4⟩ := hp.facts
  have HP : Hid (Pst w b lv nx op 0 0) := hp
  clear hp
  go_enter Tryd.func80, Tryd.ntmps80
  go_wp2
  refine bodyPost_ret (v := partZ) (by simp [results, Tryd.results80, go_sem, partZ]) rfl ⟨rfl, ?_, ?_⟩
  · exact ((HP.out.set.2.2.1 k).set.2.2.2 a).alloc _
  · exact (((Keep.refl b w).setCell 3 _).setCell 4 _).alloc _

set_option maxHeartbeats 1000000 in
theorem fail_again (b : Nat) (lv : Value) (nx op er pl k a : Int) (w : World) (hp : Pst w b lv nx op er pl) (he : er ≠ 0) :
    Calls Tryd.prog 80 #[.pointer (some ⟨b, 0, none⟩), .int .i64 k, .int .i64 a] w (FailTo b lv nx op er pl w) := by
  have hb := hp.lt
  obtain ⟨⟨c0, c1, c2, c3, c4⟩, f1, f2, f3, f4⟩ := hp.facts
  have HP : Hid (Pst w b lv nx op er pl) := hp
  have q : (er == 0) = false := by simpa using he
  clear hp he
  go_enter Tryd.func80, Tryd.ntmps80
  go_wp2
  refine bodyPost_ret (v := partZ) (by simp [results, Tryd.results80, go_sem, partZ]) rfl ⟨rfl, ?_, ?_⟩
  · exact HP.out.alloc _
  · exact (Keep.refl b w).alloc _

/-- An error that is there stays. -/
def fst0 (er k : Int) : Int := if er = 0 then k else er
theorem fst0_zero (k : Int) : fst0 0 k = k := rfl
theorem fst0_not (er k : Int) (h : er ≠ 0) : fst0 er k = er := if_neg h
def snd0 (er k pl : Int) : Int := if er = 0 then k else pl

theorem fail_any (b : Nat) (lv : Value) (nx op er pl k a : Int) (w : World) (hp : Pst w b lv nx op er pl) (hz : er = 0 → pl = 0) :
    Calls Tryd.prog 80 #[.pointer (some ⟨b, 0, none⟩), .int .i64 k, .int .i64 a] w (FailTo b lv nx op (fst0 er k) (snd0 er a pl) w) := by
  by_cases h : er = 0
  · subst h
    obtain rfl := hz rfl
    exact fail_first b lv nx op k a w hp
  · unfold fst0 snd0; rw [if_neg h, if_neg h]
    exact fail_again b lv nx op er pl k a w hp h

/-- What is wrong at a token that can't stand there, or where there is none. -/
def refK (l : List Tok) (i : Nat) : Nat × Nat := if i < l.length then (5, (tokO l i).2.2.2) else (6, if l.length = 0 then 0 else (tokO l (l.length - 1)).2.2.2 + (tokO l (l.length - 1)).2.1.length)

theorem tokO_in (l : List Tok) (i : Nat) (h : i < l.length) : tokO l i = l[i] := by unfold tokO; rw [List.getElem?_eq_getElem h]; rfl

set_option maxHeartbeats 2000000 in
theorem refuse_in (l : List Tok) (b : Nat) (lv : Value) (i : Nat) (op er pl : Int) (w : World) (hp : Pst w b lv i op er pl) (hz : er = 0 → pl = 0) (ht : TokS w b lv l) (_hn : l.length ≤ 100000) (hlt : i < l.length) :
    Calls Tryd.prog 77 #[.pointer (some ⟨b, 0, none⟩)] w (FailTo b lv i op (fst0 er (refK l i).1) (snd0 er (refK l i).2 pl) w) := by
  have hr : refK l i = (5, l[i].2.2.2) := by unfold refK; rw [if_pos hlt, tokO_in l i hlt]
  rw [hr]; clear hr
  obtain ⟨ad, cap, rfl, hc⟩ := ht
  obtain ⟨⟨c0, c1, _, _, _⟩, _⟩ := hp.facts
  have hb := hp.lt
  obtain ⟨g, rfl, hg1, hg2, k0, k1, k2, k3⟩ := hc i hlt
  obtain ⟨tp, htp⟩ : ∃ t, t = l[i].2.2.2 := ⟨_, rfl⟩
  rw [← htp] at k3 ⊢
  clear k0 k1 k2
  simp only []
  obtain ⟨n, hN⟩ : ∃ n, n = l.length := ⟨_, rfl⟩
  rw [← hN] at c0 hp ⊢
  have hlt' : i < n := by omega
  have HF : ∀ w', Keep b w w' → Pst w' b (.slice (some ⟨g, 0, none⟩) n cap) i op er pl → Calls Tryd.prog 80 #[.pointer (some ⟨b, 0, none⟩), .int .i64 5, .int .i64 tp] w' (FailTo b (.slice (some ⟨g, 0, none⟩) n cap) i op (fst0 er 5) (snd0 er tp pl) w') := fun w' _ hp' => fail_any _ _ _ _ _ _ _ _ _ hp' hz
  have HP : Hid (Pst w b (.slice (some ⟨g, 0, none⟩) n cap) i op er pl) := hp
  clear hN hc htp hlt hp hz
  have q1 : decide ((i : Int) < (n : Int)) = true := by simp; omega
  have q2 : decide (i < n) = true := by simp; omega
  go_enter Tryd.func77, Tryd.ntmps77
  go_wp2
  go_quiet (fail)
  go_wp2
  have hK1 : Keep b w ((w.alloc (.cells #[.slice none 0 0, .int .i64 0, .int .i64 0] 48)).drewN nq) := ((Keep.refl b w).alloc _).drewN _
  have hR1 : Blk3 ((w.alloc (.cells #[.slice none 0 0, .int .i64 0, .int .i64 0] 48)).drewN nq) w.heap.size (.slice none 0 0) (.int .i64 0) (.int .i64 0) := heap_alloc_new w _
  have hP1 : Pst ((w.alloc (.cells #[.slice none 0 0, .int .i64 0, .int .i64 0] 48)).drewN nq) b (.slice (some ⟨g, 0, none⟩) n cap) i op er pl := (HP.out.alloc _).drewN _
  generalize ((w.alloc (.cells #[.slice none 0 0, .int .i64 0, .int .i64 0] 48)).drewN nq) = w1 at hK1 hR1 hP1 ⊢
  have hrb : w.heap.size ≠ b := by omega
  have k3' : w1.cell? ⟨g, i * 4 + 3, none⟩ = some (.int .i64 tp) := (hK1.cell (p := ⟨g, _, none⟩) hg1 hg2).trans k3
  obtain ⟨⟨d0, d1, _, _, _⟩, _⟩ := hP1.facts
  have HP1 : Hid (Pst w1 b (.slice (some ⟨g, 0, none⟩) n cap) i op er pl) := hP1
  have HR1 : Hid (Blk3 w1 w.heap.size (.slice none 0 0) (.int .i64 0) (.int .i64 0)) := hR1
  clear hP1 hR1 c0 c1 k3
  go_still_tail 12, (by kernel_rfl)
  change wpList _ _ _ _ _ w1.drew
  have hK2 : Keep b w w1.drew := hK1.drewN 1
  have HP2 : Hid (Pst w1.drew b (.slice (some ⟨g, 0, none⟩) n cap) i op er pl) := HP1.out
  have HR2 : Hid (Blk3 w1.drew w.heap.size (.slice none 0 0) (.int .i64 0) (.int .i64 0)) := HR1.out
  clear hK1 HP1 HR1 k3' d0 d1
  generalize w1.drew = w2 at hK2 HP2 HR2 ⊢
  go_wp2_with fail
  refine (HF _ hK2 HP2.out).mono ?_
  rintro e w3 ⟨rfl, hp3, hk3⟩
  obtain ⟨⟨r0, r1, r2⟩, f0, f1, f2⟩ := (HR2.out.keep hk3 hrb).facts
  have HP3 := Lib.hid hp3
  have hK3 := hK2.trans hk3
  clear hp3 hk3
  unfold partZ
  go_wp2
  refine bodyPost_ret (v := partZ) (by simp [results, Tryd.results77, go_sem, partZ, r0, r1, r2]) rfl ⟨rfl, ?_, ?_⟩
  · exact ((HP3.out.other _ _ hrb _).other _ _ hrb _).other _ _ hrb _
  · exact ((hK3.setNew (Nat.le_refl _) _).setNew (Nat.le_refl _) _).setNew (Nat.le_refl _) _

set_option maxHeartbeats 2000000 in
theorem refuse_none (l : List Tok) (b : Nat) (lv : Value) (i : Nat) (op er pl : Int) (w : World) (hp : Pst w b lv i op er pl) (hz : er = 0 → pl = 0) (ht : TokS w b lv l) (hl : l.length = 0) :
    Calls Tryd.prog 77 #[.pointer (some ⟨b, 0, none⟩)] w (FailTo b lv i op (fst0 er (refK l i).1) (snd0 er (refK l i).2 pl) w) := by
  have hr : refK l i = (6, 0) := by unfold refK; rw [if_neg (by omega), if_pos hl]
  rw [hr]; clear hr
  obtain ⟨ad, cap, rfl, hc⟩ := ht
  rw [hl] at hp ⊢
  obtain ⟨⟨c0, c1, _, _, _⟩, _⟩ := hp.facts
  have hb := hp.lt
  have HF : ∀ w', Keep b w w' → Pst w' b (.slice ad 0 cap) i op er pl → Calls Tryd.prog 80 #[.pointer (some ⟨b, 0, none⟩), .int .i64 6, .int .i64 0] w' (FailTo b (.slice ad 0 cap) i op (fst0 er 6) (snd0 er 0 pl) w') := fun w' _ hp' => fail_any _ _ _ _ _ _ _ _ _ hp' hz
  have HP : Hid (Pst w b (.slice ad 0 cap) i op er pl) := hp
  clear hc hp hz hl
  have q1 : decide ((i : Int) < 0) = false := by simp
  have hrb : w.heap.size ≠ b := by omega
  go_enter Tryd.func77, Tryd.ntmps77
  go_wp2
  go_quiet (fail)
  have hK1 : Keep b w ((w.alloc (.cells #[.slice none 0 0, .int .i64 0, .int .i64 0] 48)).drewN nq) := ((Keep.refl b w).alloc _).drewN _
  have hR1 : Blk3 ((w.alloc (.cells #[.slice none 0 0, .int .i64 0, .int .i64 0] 48)).drewN nq) w.heap.size (.slice none 0 0) (.int .i64 0) (.int .i64 0) := heap_alloc_new w _
  have hP1 : Pst ((w.alloc (.cells #[.slice none 0 0, .int .i64 0, .int .i64 0] 48)).drewN nq) b (.slice ad 0 cap) i op er pl := (HP.out.alloc _).drewN _
  generalize ((w.alloc (.cells #[.slice none 0 0, .int .i64 0, .int .i64 0] 48)).drewN nq) = w1 at hK1 hR1 hP1 ⊢
  obtain ⟨⟨d0, d1, _, _, _⟩, _⟩ := hP1.facts
  have HP1 := Lib.hid hP1
  have HR1 := Lib.hid hR1
  clear hP1 hR1 c0 c1
  go_wp2_with fail
  refine (HF _ hK1 HP1.out).mono ?_
  rintro e w3 ⟨rfl, hp3, hk3⟩
  obtain ⟨⟨r0, r1, r2⟩, f0, f1, f2⟩ := (HR1.out.keep hk3 hrb).facts
  have HP3 := Lib.hid hp3
  have hK3 := hK1.trans hk3
  clear hp3 hk3
  unfold partZ
  go_wp2
  refine bodyPost_ret (v := partZ) (by simp [results, Tryd.results77, go_sem, partZ, r0, r1, r2]) rfl ⟨rfl, ?_, ?_⟩
  · exact ((HP3.out.other _ _ hrb _).other _ _ hrb _).other _ _ hrb _
  · exact ((hK3.setNew (Nat.le_refl _) _).setNew (Nat.le_refl _) _).setNew (Nat.le_refl _) _

set_option maxHeartbeats 2000000 in
theorem refuse_end (l : List Tok) (b : Nat) (lv : Value) (i m : Nat) (op er pl : Int) (w : World) (hp : Pst w b lv i op er pl) (hz : er = 0 → pl = 0) (ht : TokS w b lv l) (hl : l.length = m + 1) (hn : m ≤ 100000) (hlt : m < i)
    (hs : (tokO l m).2.2.2 ≤ 100000 ∧ (tokO l m).2.1.length ≤ 100000) :
    Calls Tryd.prog 77 #[.pointer (some ⟨b, 0, none⟩)] w (FailTo b lv i op (fst0 er (refK l i).1) (snd0 er (refK l i).2 pl) w) := by
  have hr : refK l i = (6, (tokO l m).2.2.2 + (tokO l m).2.1.length) := by unfold refK; rw [if_neg (by omega), if_neg (by omega), hl]; rfl
  rw [hr]; clear hr
  rw [tokO_in l m (by omega)] at hs ⊢
  obtain ⟨ad, cap, rfl, hc⟩ := ht
  obtain ⟨g, rfl, hg1, hg2, k0, k1, k2, k3⟩ := hc m (by omega)
  obtain ⟨⟨tk, tx, tn, tp⟩, htk⟩ : ∃ t, t = l[m]'(by omega) := ⟨_, rfl⟩
  rw [← htk] at k0 k1 k2 k3 hs ⊢
  simp only [] at k0 k1 k2 k3 hs ⊢
  clear htk hc
  rw [hl] at hp ⊢
  obtain ⟨y, hy⟩ : ∃ y : ByteArray, y = ⟨tx.toArray⟩ := ⟨_, rfl⟩
  have hyl : tx.length = y.size := by rw [hy, Lib.size_eq]
  rw [hyl] at hs ⊢
  rw [← hy] at k1
  clear hyl hy
  obtain ⟨hs1, hs2⟩ := hs
  obtain ⟨⟨c0, c1, _, _, _⟩, _⟩ := hp.facts
  have hb := hp.lt
  obtain ⟨n, hN⟩ : ∃ n, n = m + 1 := ⟨_, rfl⟩
  rw [← hN] at c0 hp ⊢
  have hn1 : n ≤ 100001 := by omega
  have hn2 : 0 < n := by omega
  have hlt' : n ≤ i := by omega
  have HF : ∀ w', Keep b w w' → Pst w' b (.slice (some ⟨g, 0, none⟩) n cap) i op er pl → Calls Tryd.prog 80 #[.pointer (some ⟨b, 0, none⟩), .int .i64 6, .int .i64 ((tp : Int) + (y.size : Int))] w' (FailTo b (.slice (some ⟨g, 0, none⟩) n cap) i op (fst0 er 6) (snd0 er ((tp : Int) + (y.size : Int)) pl) w') := fun w' _ hp' => fail_any _ _ _ _ _ _ _ _ _ hp' hz
  have HP : Hid (Pst w b (.slice (some ⟨g, 0, none⟩) n cap) i op er pl) := hp
  have HG : Hid ((((tp + y.size : Nat)) : Int) = (tp : Int) + (y.size : Int)) := by show _ = _; omega
  have q1 : decide ((i : Int) < (n : Int)) = false := by simp; omega
  have q2 : decide (i < n) = false := by simp; omega
  have q3 : decide ((0 : Int) < (n : Int)) = true := by simp; omega
  have q4 : decide (0 < n) = true := by simp; omega
  have m1 : IntKind.i64.wrap ((n : Int) - 1) = (n : Int) - 1 := IntWalk.i64_in _ (by omega)
  have m2 : (1 : Int) ≤ (n : Int) := by omega
  have m3 : (0 : Int) ≤ (n : Int) - 1 := by omega
  have m4 : ((n : Int) - 1).toNat = m := by omega
  have m5 : (n : Int) - 1 < (n : Int) := by omega
  have hrb : w.heap.size ≠ b := by omega
  have hrb2 : w.heap.size + 1 ≠ b := by omega
  clear hN hp hl hz hlt hn
  go_enter Tryd.func77, Tryd.ntmps77
  go_wp2
  go_quiet (fail)
  have hK1 : Keep b w ((w.alloc (.cells #[.slice none 0 0, .int .i64 0, .int .i64 0] 48)).drewN nq) := ((Keep.refl b w).alloc _).drewN _
  have hR1 : Blk3 ((w.alloc (.cells #[.slice none 0 0, .int .i64 0, .int .i64 0] 48)).drewN nq) w.heap.size (.slice none 0 0) (.int .i64 0) (.int .i64 0) := heap_alloc_new w _
  have hP1 : Pst ((w.alloc (.cells #[.slice none 0 0, .int .i64 0, .int .i64 0] 48)).drewN nq) b (.slice (some ⟨g, 0, none⟩) n cap) i op er pl := (HP.out.alloc _).drewN _
  generalize ((w.alloc (.cells #[.slice none 0 0, .int .i64 0, .int .i64 0] 48)).drewN nq) = w1 at hK1 hR1 hP1 ⊢
  obtain ⟨⟨d0, d1, _, _, _⟩, _⟩ := hP1.facts
  have k0' : w1.cell? ⟨g, m * 4, none⟩ = some (.int .i64 tk) := (hK1.cell (p := ⟨g, _, none⟩) hg1 hg2).trans k0
  have k1' : w1.cell? ⟨g, m * 4 + 1, none⟩ = some (.string y) := (hK1.cell (p := ⟨g, _, none⟩) hg1 hg2).trans k1
  have k2' : w1.cell? ⟨g, m * 4 + 2, none⟩ = some (.int .i64 tn) := (hK1.cell (p := ⟨g, _, none⟩) hg1 hg2).trans k2
  have k3' : w1.cell? ⟨g, m * 4 + 3, none⟩ = some (.int .i64 tp) := (hK1.cell (p := ⟨g, _, none⟩) hg1 hg2).trans k3
  have HP1 := Lib.hid hP1
  have HR1 := Lib.hid hR1
  clear hP1 hR1 c0 c1 k0 k1 k2 k3
  go_wp2
  have hb1 : b < w1.heap.size := HP1.out.lt
  have hg1' : g < w1.heap.size := Nat.lt_of_lt_of_le hg1 hK1.size
  go_region
  have hK2 : Keep b w ((w1.alloc (.cells #[.int .i64 tk, .string y, .int .i64 tn, .int .i64 tp] 51)).drew) := (hK1.alloc _).drewN 1
  have hR2 : Blk3 ((w1.alloc (.cells #[.int .i64 tk, .string y, .int .i64 tn, .int .i64 tp] 51)).drew) w.heap.size (.slice none 0 0) (.int .i64 0) (.int .i64 0) := HR1.out.below (((Below.refl _ _).alloc (Nat.le_refl _) _).drew)
  have hP2 : Pst ((w1.alloc (.cells #[.int .i64 tk, .string y, .int .i64 tn, .int .i64 tp] 51)).drew) b (.slice (some ⟨g, 0, none⟩) n cap) i op er pl := HP1.out.alloc _
  have hB2 : ((w1.alloc (.cells #[.int .i64 tk, .string y, .int .i64 tn, .int .i64 tp] 51)).drew).heap[w1.heap.size]? = some (.cells #[.int .i64 tk, .string y, .int .i64 tn, .int .i64 tp] 51 (0, 0)) := heap_alloc_new w1 _
  generalize ((w1.alloc (.cells #[.int .i64 tk, .string y, .int .i64 tn, .int .i64 tp] 51)).drew) = w2 at hK2 hR2 hP2 hB2 ⊢
  obtain ⟨⟨e0, e1, e2, e3⟩, _⟩ := Blk4.facts (show Blk4 w2 w1.heap.size (.int .i64 tk) (.string y) (.int .i64 tn) (.int .i64 tp) from hB2)
  have HP2 := Lib.hid hP2
  have HR2 := Lib.hid hR2
  clear hP2 hR2 hB2 d0 d1 k0' k1' k2' k3' HP1 HR1 hK1 m1 m4
  go_wp2_with fail
  refine (HF _ hK2 HP2.out).mono ?_
  rintro e w3 ⟨rfl, hp3, hk3⟩
  obtain ⟨⟨r0, r1, r2⟩, f0, f1, f2⟩ := (HR2.out.keep hk3 hrb).facts
  have HP3 := Lib.hid hp3
  have hK3 := hK2.trans hk3
  clear hp3 hk3
  unfold partZ
  go_wp2
  refine bodyPost_ret (v := partZ) (by simp [results, Tryd.results77, go_sem, partZ, r0, r1, r2]) rfl ⟨rfl, ?_, ?_⟩
  · rw [HG.out]; exact ((HP3.out.other _ _ hrb _).other _ _ hrb _).other _ _ hrb _
  · exact ((hK3.setNew (Nat.le_refl _) _).setNew (Nat.le_refl _) _).setNew (Nat.le_refl _) _

/-- No token's place or text is large. -/
def TokOK (l : List Tok) : Prop := ∀ i, (tokO l i).2.2.2 ≤ 100000 ∧ (tokO l i).2.1.length ≤ 100000 ∧ (tokO l i).2.2.1 ≤ 100000

theorem refuse_any (l : List Tok) (b : Nat) (lv : Value) (i : Nat) (op er pl : Int) (w : World) (hp : Pst w b lv i op er pl) (hz : er = 0 → pl = 0) (ht : TokS w b lv l) (hn : l.length ≤ 100000) (hs : TokOK l) :
    Calls Tryd.prog 77 #[.pointer (some ⟨b, 0, none⟩)] w (FailTo b lv i op (fst0 er (refK l i).1) (snd0 er (refK l i).2 pl) w) := by
  by_cases h : i < l.length
  · exact refuse_in l b lv i op er pl w hp hz ht hn h
  · rcases hl : l.length with _ | m
    · exact refuse_none l b lv i op er pl w hp hz ht hl
    · exact refuse_end l b lv i m op er pl w hp hz ht hl (by omega) (by omega) ⟨(hs m).1, (hs m).2.1⟩

end Go.Proofs.YtifbhlgingaahaaDoor
