/- Layer 14, the code: graph. -/
import Derived.Test.YtkdpimifojjhaaaNg
import Derived.Deep.DeepCutAuto
import Derived.BigRegion
namespace Go.Proofs.Ytkdpimifojjhaaa
set_option linter.unusedSimpArgs false
set_option linter.unusedVariables false
open Go.RowKit

theorem set3_bk {w : World} {g T : Nat} {a b c : Value} (x0 x1 x2 : Value) (h : Bk w g T #[a, b, c]) : Bk (((w.setCell ⟨g, 0, none⟩ x0).setCell ⟨g, 1, none⟩ x1).setCell ⟨g, 2, none⟩ x2) g T #[x0, x1, x2] :=
  heap_setCell_same _ g 2 _ _ x2 (heap_setCell_same _ g 1 _ _ x1 (heap_setCell_same w g 0 _ _ x0 h))
/-- All is as it was, but for some blocks. -/
structure Oth (F : Nat → Prop) (w w' : World) : Prop where
  b : Below 0 w w'
  k : ∀ g, g < w.heap.size → ¬ F g → w'.heap[g]? = w.heap[g]?
theorem Oth.refl (F : Nat → Prop) (w : World) : Oth F w w := ⟨Below.refl _ _, fun _ _ _ => rfl⟩
theorem Oth.trans {F F' G : Nat → Prop} {w w1 w2 : World} (h : Oth F w w1) (h2 : Oth F' w1 w2) (h3 : ∀ g, F g → G g) (h4 : ∀ g, g < w.heap.size → F' g → G g) : Oth G w w2 :=
  ⟨h.b.trans h2.b, fun g hg hn => (h2.k g (Nat.lt_of_lt_of_le hg h.b.size) fun hf => hn (h4 g hg hf)).trans (h.k g hg fun hf => hn (h3 g hf))⟩
theorem Oth.below {B : Nat} {F : Nat → Prop} {w w' : World} (h : Oth F w w') (hF : ∀ g, F g → B ≤ g) (hB : B ≤ w.heap.size) : Below B w w' :=
  ⟨h.b.os, h.b.tape, h.b.output, h.b.size, fun k hk => h.k k (by omega) fun hf => by have := hF k hf; omega⟩
theorem Oth.of {F : Nat → Prop} {w w' : World} (h : Below w.heap.size w w') : Oth F w w' := ⟨h.mono (Nat.zero_le _), fun g hg _ => h.block g hg⟩
theorem Oth.bk {F : Nat → Prop} {w w' : World} {g T : Nat} {cs : Array Value} (h : Oth F w w') (hb : Bk w g T cs) (hg : ¬ F g) : Bk w' g T cs := (h.k g hb.lt hg).trans hb
theorem Oth.own {F : Nat → Prop} {w w' : World} {B T S n : Nat} {v : Value} {xs : List Value} (h : Oth F w w') (ho : w.ownsRow B T S v n xs) (hg : ∀ g, v.ownBlock = some g → ¬ F g) : w'.ownsRow B T S v n xs := by
  obtain ⟨h1, h2⟩ := ho
  refine ⟨h1, ?_⟩
  rcases h2 with h2 | ⟨g, cap, cur, rfl, hB, hh, r⟩
  · exact .inl h2
  · exact .inr ⟨g, cap, cur, rfl, hB, (h.k g (Array.getElem?_eq_some_iff.1 hh).1 (hg g rfl)).trans hh, r⟩
theorem Oth.set (w : World) (g k : Nat) (u : Value) : Oth (fun x => x = g) w (w.setCell ⟨g, k, none⟩ u) :=
  ⟨(Below.refl 0 w).setCell (Nat.zero_le _) _, fun x _ hn => Below.heap_setCell w ⟨g, k, none⟩ u x hn⟩
theorem set3_keep {w : World} {g : Nat} (x0 x1 x2 : Value) : Oth (fun x => x = g) w (((w.setCell ⟨g, 0, none⟩ x0).setCell ⟨g, 1, none⟩ x1).setCell ⟨g, 2, none⟩ x2) :=
  ((Oth.set w g 0 x0).trans (Oth.set _ g 1 x1) (fun _ h => h) (fun _ _ h => h)).trans (Oth.set _ g 2 x2) (fun _ h => h) (fun _ _ h => h)
/-- A graph whose rows lie whole in new blocks. -/
structure GrB (B : Nat) (w : World) (gs ga gt : Nat) (g : Gr) : Prop where
  s : BkI w gs g.st
  a : BkI w ga g.ag
  t : BkI w gt g.to
  ps : B < gs
  pa : B < ga
  pt : B < gt
theorem GrB.below {B : Nat} {w w' : World} {gs ga gt : Nat} {g : Gr} (h : GrB B w gs ga gt g) (hb : Below w.heap.size w w') : GrB B w' gs ga gt g := ⟨h.s.below hb, h.a.below hb, h.t.below hb, h.ps, h.pa, h.pt⟩
theorem GrB.oth {B : Nat} {F : Nat → Prop} {w w' : World} {gs ga gt : Nat} {g : Gr} (h : GrB B w gs ga gt g) (ho : Oth F w w') (hF : ∀ x, F x → x ≤ B) : GrB B w' gs ga gt g :=
  ⟨ho.bk h.s (fun h1 => by have := hF _ h1; have := h.ps; omega), ho.bk h.a (fun h1 => by have := hF _ h1; have := h.pa; omega), ho.bk h.t (fun h1 => by have := hF _ h1; have := h.pt; omega), h.ps, h.pa, h.pt⟩
theorem GrB.grD {B : Nat} {w : World} {gs ga gt : Nat} {n m k : Nat} {g : Gr} (h : GrB B w gs ga gt g) (h1 : g.st.length = n) (h2 : g.ag.length = m) (h3 : g.to.length = k) (hn : n ≤ 1000000 ∧ m ≤ 1000000 ∧ k ≤ 1000000) : GrD w (.slice (some ⟨gs, 0, none⟩) n n) (.slice (some ⟨ga, 0, none⟩) m m) (.slice (some ⟨gt, 0, none⟩) k k) g :=
  ⟨h.s.ints h1 hn.1, h.a.ints h2 hn.2.1, h.t.ints h3 hn.2.2⟩
theorem bld_lens (n : Nat) (l : List Edg) (h : ∀ e ∈ l, 0 ≤ e.1 ∧ e.1 < (n : Int)) : (bld n l).st.length = n + 1 ∧ (bld n l).ag.length = l.length ∧ (bld n l).to.length = l.length := by
  have hs : (srt n l).length = l.length := lenS_all n l h
  exact ⟨by simp [bld], by simp [bld, hs], by simp [bld, hs]⟩
/-- The graph that is made: its struct, its three rows, each in a block of its own; the result's block. -/
structure GW (w0 w : World) (g5 gs ga gt n m : Nat) (S A B : List Int) : Prop where
  h4 : Bk w w0.heap.size 24 #[.slice none 0 0, .slice none 0 0, .slice none 0 0]
  h5 : Bk w g5 24 #[.slice (some ⟨gs, 0, none⟩) (n + 1) (n + 1), .slice (some ⟨ga, 0, none⟩) m m, .slice (some ⟨gt, 0, none⟩) m m]
  hs : BkI w gs S
  ha : BkI w ga A
  ht : BkI w gt B
  p5 : w0.heap.size < g5
  ps : w0.heap.size < gs
  pa : w0.heap.size < ga
  pt : w0.heap.size < gt
  sa : gs ≠ ga
  st : gs ≠ gt
  at' : ga ≠ gt
  b : Below w0.heap.size w0 w

theorem bk_ne {w : World} {g g' T T' : Nat} {cs cs' : Array Value} (h : Bk w g T cs) (h' : Bk w g' T' cs') (hT : T ≠ T') : g ≠ g' := by
  rintro rfl
  unfold Bk at h h'
  rw [h] at h'
  injection h' with h'
  injection h' with _ h2 _
  exact hT h2
theorem ints_one (l : List Int) : ∀ v ∈ ints l, v.oneCell' = true := by
  intro v hv
  obtain ⟨x, _, rfl⟩ := List.mem_map.1 hv
  rfl
section
variable {w0 w : World} {g5 gs ga gt n m : Nat} {S A B : List Int}
theorem GW.below {w' : World} (h : GW w0 w g5 gs ga gt n m S A B) (hb : Below w.heap.size w w') : GW w0 w' g5 gs ga gt n m S A B :=
  ⟨h.h4.below hb, h.h5.below hb, h.hs.below hb, h.ha.below hb, h.ht.below hb, h.p5, h.ps, h.pa, h.pt, h.sa, h.st, h.at', h.b.trans (hb.mono h.b.size)⟩
theorem GW.alloc (h : GW w0 w g5 gs ga gt n m S A B) (o : Obj) : GW w0 (w.alloc o) g5 gs ga gt n m S A B :=
  ⟨bk_alloc h.h4 o, bk_alloc h.h5 o, bk_alloc h.hs o, bk_alloc h.ha o, bk_alloc h.ht o, h.p5, h.ps, h.pa, h.pt, h.sa, h.st, h.at', bal h.b o⟩
theorem GW.drew (h : GW w0 w g5 gs ga gt n m S A B) : GW w0 w.drew g5 gs ga gt n m S A B := ⟨h.h4, h.h5, h.hs, h.ha, h.ht, h.p5, h.ps, h.pa, h.pt, h.sa, h.st, h.at', bdr h.b⟩
theorem GW.lt (h : GW w0 w g5 gs ga gt n m S A B) : g5 < w.heap.size ∧ gs < w.heap.size ∧ ga < w.heap.size ∧ gt < w.heap.size := ⟨h.h5.lt, h.hs.lt, h.ha.lt, h.ht.lt⟩
theorem GW.ne5 (h : GW w0 w g5 gs ga gt n m S A B) : g5 ≠ gs ∧ g5 ≠ ga ∧ g5 ≠ gt := by
  refine ⟨?_, ?_, ?_⟩ <;> rintro rfl
  · have := h.h5; have h2 := h.hs; unfold BkI Bk at *; rw [this] at h2; injection h2 with h2; injection h2 with _ h2 _; exact absurd h2 (by decide)
  · have := h.h5; have h2 := h.ha; unfold BkI Bk at *; rw [this] at h2; injection h2 with h2; injection h2 with _ h2 _; exact absurd h2 (by decide)
  · have := h.h5; have h2 := h.ht; unfold BkI Bk at *; rw [this] at h2; injection h2 with h2; injection h2 with _ h2 _; exact absurd h2 (by decide)
theorem GW.setO (h : GW w0 w g5 gs ga gt n m S A B) {g : Nat} (h5 : g ≠ g5) (hs : g ≠ gs) (ha : g ≠ ga) (ht : g ≠ gt) (hg : w0.heap.size < g) (k : Nat) (x : Int) : GW w0 (w.setCell ⟨g, k, none⟩ (.int .i64 x)) g5 gs ga gt n m S A B :=
  ⟨h.h4.other (Nat.ne_of_lt hg) k, h.h5.other (Ne.symm h5) k, h.hs.other (Ne.symm hs) k, h.ha.other (Ne.symm ha) k, h.ht.other (Ne.symm ht) k, h.p5, h.ps, h.pa, h.pt, h.sa, h.st, h.at', h.b.setCell (Nat.le_of_lt hg) _⟩
theorem GW.setS (h : GW w0 w g5 gs ga gt n m S A B) (k : Nat) (x : Int) : GW w0 (w.setCell ⟨gs, k, none⟩ (.int .i64 x)) g5 gs ga gt n m (S.set k x) A B :=
  ⟨h.h4.other (Nat.ne_of_lt h.ps) k, h.h5.other h.ne5.1 k, h.hs.set k x, h.ha.other (Ne.symm h.sa) k, h.ht.other (Ne.symm h.st) k, h.p5, h.ps, h.pa, h.pt, h.sa, h.st, h.at', h.b.setCell (Nat.le_of_lt h.ps) _⟩
theorem GW.setA (h : GW w0 w g5 gs ga gt n m S A B) (k : Nat) (x : Int) : GW w0 (w.setCell ⟨ga, k, none⟩ (.int .i64 x)) g5 gs ga gt n m S (A.set k x) B :=
  ⟨h.h4.other (Nat.ne_of_lt h.pa) k, h.h5.other h.ne5.2.1 k, h.hs.other h.sa k, h.ha.set k x, h.ht.other (Ne.symm h.at') k, h.p5, h.ps, h.pa, h.pt, h.sa, h.st, h.at', h.b.setCell (Nat.le_of_lt h.pa) _⟩
theorem GW.setB (h : GW w0 w g5 gs ga gt n m S A B) (k : Nat) (x : Int) : GW w0 (w.setCell ⟨gt, k, none⟩ (.int .i64 x)) g5 gs ga gt n m S A (B.set k x) :=
  ⟨h.h4.other (Nat.ne_of_lt h.pt) k, h.h5.other h.ne5.2.2 k, h.hs.other h.st k, h.ha.other h.at' k, h.ht.set k x, h.p5, h.ps, h.pa, h.pt, h.sa, h.st, h.at', h.b.setCell (Nat.le_of_lt h.pt) _⟩
end
theorem gw_mk {w0 w : World} {g5 gs ga gt n m : Nat} {S A B : List Int} (h5 : Bk w g5 24 #[.slice (some ⟨gs, 0, none⟩) (n + 1) (n + 1), .slice (some ⟨ga, 0, none⟩) m m, .slice (some ⟨gt, 0, none⟩) m m])
    (h4 : Bk w w0.heap.size 24 #[.slice none 0 0, .slice none 0 0, .slice none 0 0]) (hs : BkI w gs S) (ha : BkI w ga A) (ht : BkI w gt B) (p5 : w0.heap.size < g5) (ps : w0.heap.size < gs) (pa : w0.heap.size < ga) (pt : w0.heap.size < gt)
    (sa : gs ≠ ga) (st : gs ≠ gt) (hat : ga ≠ gt) (b : Below w0.heap.size w0 w) : ∃ a b c d, Value.pointer (some ⟨g5, 0, none⟩) = .pointer (some ⟨a, 0, none⟩) ∧ GW w0 w a b c d n m S A B :=
  ⟨g5, gs, ga, gt, rfl, h4, h5, hs, ha, ht, p5, ps, pa, pt, sa, st, hat, b⟩
set_option maxRecDepth 100000 in
set_option maxHeartbeats 4000000 in
theorem graph_any (n : Nat) (l : List Edg) (v : Value) (w : World) (hl : EdgsD w v l) (hn : n ≤ 1000) (hm : l.length ≤ 1000) (hok : ∀ e ∈ l, 0 ≤ e.1 ∧ e.1 < (n : Int)) :
    Calls Try.prog 50 #[.int .i64 n, v] w fun e w' => ∃ gs ga gt, e = .returned (.agg #[.slice (some ⟨gs, 0, none⟩) (n + 1) (n + 1), .slice (some ⟨ga, 0, none⟩) l.length l.length, .slice (some ⟨gt, 0, none⟩) l.length l.length]) ∧ GrB w.heap.size w' gs ga gt (bld n l) ∧ Below w.heap.size w w' := by
  have HL := Lib.hid hl
  obtain ⟨ad, cap, rfl⟩ := hl.shape0
  obtain ⟨m, hm0⟩ : ∃ m, m = l.length := ⟨_, rfl⟩
  rw [← hm0] at HL hm ⊢
  have HM := Lib.hid hm0
  have HOK := Lib.hid hok
  have HN := Lib.hid hn
  have HMM := Lib.hid hm
  have mk1 : ∀ W : World, (Instr.makeSlice 22 (.int .i64 ((n : Int) + 1)) (.int .i64 ((n : Int) + 1))).run Try.prog W = .ok (.slice (some ⟨W.heap.size, 0, none⟩) (n + 1) (n + 1)) (W.alloc (.cells (ints (List.replicate (n + 1) 0)).toArray 3)) := fun W => make_int (n + 1) (by omega) W
  have mk2 := fun (W : World) => make_int m (by omega) W
  have hw : IntKind.i64.wrap ((n : Int) + 1) = (n : Int) + 1 := IntWalk.i64_in _ (by omega)
  clear hl hm0 hok hn hm
  go_enter Try.func50, Try.ntmps50
  go_upto_region 1 with fail
  go_cut [5] (fun s5 wx => ∃ g5 gs ga gt, s5 = .pointer (some ⟨g5, 0, none⟩) ∧ GW w wx g5 gs ga gt n m (List.replicate (n + 1) 0) (List.replicate m 0) (List.replicate m 0))
  case first =>
    go_region
    all_goals
      go_wp2_with fail
      go_meet
      apply gw_mk
      case h5 => repeat' (first | with_reducible refine bk_drew ?_ | ((with_reducible refine bk_at ?_); (simp only [alloc_size]; done)) | with_reducible refine bk_alloc ?_ _)
      case h4 => repeat' (first | with_reducible refine bk_drew ?_ | with_reducible exact Bk.new _ _ _ | with_reducible refine bk_alloc ?_ _)
      case hs => repeat' (first | with_reducible refine bk_drew ?_ | ((with_reducible refine bk_at ?_); (simp only [alloc_size]; done)) | with_reducible refine bk_alloc ?_ _)
      case ha => repeat' (first | with_reducible refine bk_drew ?_ | ((with_reducible refine bk_at ?_); (simp only [alloc_size]; done)) | with_reducible refine bk_alloc ?_ _)
      case ht => repeat' (first | with_reducible refine bk_drew ?_ | ((with_reducible refine bk_at ?_); (simp only [alloc_size]; done)) | with_reducible refine bk_alloc ?_ _)
      all_goals first
        | omega
        | (repeat' (first | with_reducible exact Below.refl _ _ | with_reducible refine bdr ?_ | with_reducible refine bal ?_ _))
  case rest =>
    obtain ⟨g5, gs, ga, gt, rfl, hg⟩ := hcut
    clear mk1 hw
    have HG := Lib.hid hg
    clear hg
    obtain ⟨w1, rfl⟩ : ∃ z, z = wc := ⟨_, rfl⟩
    go_wp2_with fail
    go_loopg [25] m (fun fuel i' wr => ∃ (k : Nat), i' = .int .i64 k ∧ k ≤ m ∧ m - k ≤ fuel ∧ GW w wr g5 gs ga gt n m (cntS n l k) (List.replicate m 0) (List.replicate m 0))
    case atStart => exact ⟨0, rfl, Nat.zero_le _, Nat.le_refl _, by rw [cntS_zero]; exact HG.out⟩
    case round =>
      clear HG
      obtain ⟨k, rfl, hk, hf, hg⟩ := hrel
      have HG := Lib.hid hg
      clear hg
      by_cases hlt : k < m
      · have hk1 : k < l.length := by rw [← HM.out]; exact hlt
        obtain ⟨i, hi⟩ : ∃ i : Nat, l[k].1 = (i : Int) := ⟨l[k].1.toNat, by have := HOK.out _ (List.getElem_mem hk1); omega⟩
        have hin : i < n := by have := HOK.out _ (List.getElem_mem hk1); omega
        have HC := Lib.hid (cntS_step n l k i hk1 hin hi)
        have hat := cntS_at n l k i hin
        have hcl : (ofN (l.take k) i).length ≤ 1000 := by have := ofN_pre l i k; have h2 : (ofN l i).length ≤ l.length := List.length_filter_le _ _; have := HMM.out; have := HM.out; omega
        generalize (ofN (l.take k) i).length = c at HC hat hcl
        obtain ⟨b1, off, rfl, hbl, x0, x1, x2⟩ := EdgsD.at2 (HL.out.below HG.out.b) k hk1
        rw [hi] at x0
        generalize l[k].2.1 = xa at x1
        generalize l[k].2.2 = xt at x2
        have c0 := HG.out.h5.cell 0
        have c1 := HG.out.hs.at hat
        have f1 := HG.out.hs.fz (i + 1)
        obtain ⟨l5, l6, l7, l8⟩ := HG.out.lt
        have i1 : (0 : Int) ≤ (i : Int) + 1 := by omega
        have i2 : (i : Int) + 1 < ((n + 1 : Nat) : Int) := by omega
        have i3 : IntKind.i64.wrap ((i : Int) + 1) = (i : Int) + 1 := IntWalk.i64_in _ (by have := HN.out; omega)
        have i4 : IntKind.i64.wrap ((c : Int) + 1) = (c : Int) + 1 := IntWalk.i64_in _ (by omega)
        have i5 : IntKind.i64.wrap ((k : Int) + 1) = (k : Int) + 1 := IntWalk.i64_in _ (by have := HMM.out; omega)
        have HGN := Lib.hid fun o => (HG.out.setS (i + 1) ((c : Int) + 1)).alloc o
        clear hk1 hi hat
        rw [HC.out] at HGN
        go_wp2_with fail
        go_roundg (gk - 1)
        case measure => omega
        case rel => exact ⟨k + 1, by go_num, by omega, by omega, HGN.out _⟩
      · obtain rfl : k = m := by omega
        have HG2 : Hid (GW w wr g5 gs ga gt n k (sumS n l 0) (List.replicate k 0) (List.replicate k 0)) := Lib.hid (by rw [← sumS_zero, ← HM.out]; exact HG.out)
        clear HG hlt hf hk
        go_wp2_with fail
        obtain ⟨w2, rfl⟩ : ∃ x, x = wr := ⟨_, rfl⟩
        obtain ⟨g2, rfl⟩ : ∃ x, x = gk := ⟨_, rfl⟩
        obtain ⟨m, rfl⟩ : ∃ x, x = k := ⟨_, rfl⟩
        go_loopg [8, 40] n (fun fuel s8 i' wr => ∃ (k : Nat), i' = .int .i64 k ∧ k ≤ n ∧ n - k ≤ fuel ∧ GW w wr g5 gs ga gt n m (sumS n l k) (List.replicate m 0) (List.replicate m 0))
        case atStart => exact ⟨0, rfl, Nat.zero_le _, Nat.le_refl _, HG2.out⟩
        case round =>
          clear HG2
          obtain ⟨k, rfl, hk, hf, hg⟩ := hrel
          have HG := Lib.hid hg
          clear hg
          by_cases hlt : k < n
          · have HS := Lib.hid (sumS_step n l k hlt)
            obtain ⟨t1, t2⟩ := sumS_at n l k hlt
            have hcl : (ofN l k).length ≤ 1000 ∧ lenS l k ≤ 1000 := by have h1 : (ofN l k).length ≤ l.length := List.length_filter_le _ _; have h2 := lenS_le k l; have := HMM.out; have := HM.out; omega
            generalize (ofN l k).length = c at HS t1 hcl
            generalize lenS l k = d at HS t2 hcl
            have c0 := HG.out.h5.cell 0
            have c1 := HG.out.hs.at t1
            have c2 := HG.out.hs.at t2
            have f1 := HG.out.hs.fz (k + 1)
            obtain ⟨l5, l6, l7, l8⟩ := HG.out.lt
            have i1 : (0 : Int) ≤ (k : Int) + 1 := by omega
            have i2 : (k : Int) + 1 < ((n + 1 : Nat) : Int) := by omega
            have i3 : IntKind.i64.wrap ((k : Int) + 1) = (k : Int) + 1 := IntWalk.i64_in _ (by have := HN.out; omega)
            have i4 : IntKind.i64.wrap ((c : Int) + (d : Int)) = (c : Int) + (d : Int) := IntWalk.i64_in _ (by omega)
            have i6 : (0 : Int) ≤ (k : Int) := by omega
            have i7 : (k : Int) < ((n + 1 : Nat) : Int) := by omega
            have HGN := Lib.hid (HG.out.setS (k + 1) ((c : Int) + (d : Int)))
            rw [HS.out] at HGN
            clear t1 t2 hcl HS
            go_wp2_with fail
            go_region
            go_wp2_with fail
            go_roundg (gk - 1)
            case measure => omega
            case rel => exact ⟨k + 1, by go_num, by omega, by omega, HGN.out.drew⟩
          · obtain rfl : k = n := by omega
            obtain ⟨n, rfl⟩ : ∃ x, x = k := ⟨_, rfl⟩
            have hn6 : n ≤ 1000000 := by have := HN.out; omega
            clear hlt hf hk
            go_wp2_with (refine make_one rfl (.tmp 57) (.tmp 57) 22 3 (.int .i64 0) 8 Try.underlying22 info_int rfl (by decide) rfl n rfl rfl hn6 ?_)
            intro w3 Z HZ hz b1
            have HF := Lib.hid (bkI_new HZ.out hz.out)
            have HG1 := Lib.hid (HG.out.below b1)
            obtain ⟨gf, hgf⟩ : ∃ x, x = wr.heap.size := ⟨_, rfl⟩
            rw [← hgf] at HF ⊢
            obtain ⟨l5, l6, l7, l8⟩ := HG.out.lt
            have HFN : Hid (gf ≠ g5 ∧ gf ≠ gs ∧ gf ≠ ga ∧ gf ≠ gt ∧ w.heap.size < gf) := Lib.hid (by have := HG.out.ps; omega)
            have c0 := HG1.out.h5.cell 0
            have l5' := HG1.out.lt.1
            have hgw : w3.heap[gf]? = some (.cells (ints (List.replicate n 0)).toArray 3 (0, 0)) := HF.out
            have HSR := Lib.hid (fun (j : Nat) (v : Value) (h : (ints ((sumS n l n).take n))[j]? = some v) => (show w3.cell? ((⟨gs, 0, none⟩ : Addr).add j) = some v from by
              rw [addr_add', Nat.zero_add, HG1.out.hs.cell j, List.getElem?_toArray, ← h]
              unfold ints
              rw [List.getElem?_map, List.getElem?_map, List.getElem?_take, if_pos]
              have := (List.getElem?_eq_some_iff.1 h).1
              rw [ints_len, List.length_take] at this
              omega))
            have HLN : Hid ((ints ((sumS n l n).take n)).length = n) := Lib.hid (by rw [ints_len, List.length_take, sumS_len]; omega)
            have HB3 := Lib.hid b1
            have hsz : gf ≤ gf := Nat.le_refl _
            have hb3 : Below gf wr w3 := hgf ▸ b1
            have HGF := Lib.hid hgf
            clear hz HZ b1 l5 l6 l7 l8 hgf
            go_wp2_with (refine wpList_copy_splice rfl (.tmp 59) (.tmp 61) 22 22 rfl 3 Try.underlying22 (by kernel_rfl) (some ⟨gf, 0, none⟩) (some ⟨gs, 0, none⟩) n n (n + 1) (n + 1) rfl rfl gf 0 _ _ hgw (ints ((sumS n l n).take n)) (by rw [HLN.out]; exact (Nat.min_eq_right (Nat.le_succ n)).symm) (fun _ => ⟨rfl, _, rfl, HSR.out⟩) (by rw [HLN.out, ints_len, List.length_replicate, Nat.zero_add]; exact Nat.le_refl _) (ints_one _) gf wr hb3 hsz ?_)
            intro w4 hw4 b4
            have HF4 : Hid (BkI w4 gf (freS n l 0)) := Lib.hid (by
              have h := hw4.out
              rw [show splice (ints (List.replicate n 0)) 0 (ints ((sumS n l n).take n)) = ints (freS n l 0) by
                rw [← freS_zero]
                unfold splice
                rw [List.take_zero, List.nil_append, HLN.out, Nat.zero_add, List.drop_eq_nil_of_le (by rw [ints_len, List.length_replicate]; exact Nat.le_refl _), List.append_nil]] at h
              exact h)
            have HG4 := Lib.hid (HG.out.below (show Below wr.heap.size wr w4 from HGF.out ▸ b4))
            have HP : Hid (Laid n l 0 (List.replicate m 0) (List.replicate m 0)) := Lib.hid (laid_zero n l _ _ (by rw [List.length_replicate, HM.out]) (by rw [List.length_replicate, HM.out]))
            clear hw4 b4 c0 l5' hgw hsz hb3 HSR HLN HB3 HF HG1
            go_wp2_with fail
            clear HG HGF hn6
            obtain ⟨w2', rfl⟩ : ∃ x, x = wr := ⟨_, rfl⟩
            obtain ⟨g3, rfl⟩ : ∃ x, x = gk := ⟨_, rfl⟩
            go_loopg [65] m (fun fuel i' wr => ∃ (k : Nat) (A B : List Int), i' = .int .i64 k ∧ k ≤ m ∧ m - k ≤ fuel ∧ GW w wr g5 gs ga gt n m (sumS n l n) A B ∧ BkI wr gf (freS n l k) ∧ Laid n l k A B)
            case atStart => exact ⟨0, _, _, rfl, Nat.zero_le _, Nat.le_refl _, HG4.out, HF4.out, HP.out⟩
            case round =>
              clear HG4 HF4 HP
              obtain ⟨k, A, B, rfl, hk, hf, hg, hfr, hp⟩ := hrel
              have HG := Lib.hid hg
              have HF := Lib.hid hfr
              have HP := Lib.hid hp
              clear hg hfr hp
              by_cases hlt : k < m
              · have hk1 : k < l.length := by rw [← HM.out]; exact hlt
                obtain ⟨i, hi⟩ : ∃ i : Nat, l[k].1 = (i : Int) := ⟨l[k].1.toNat, by have := HOK.out _ (List.getElem_mem hk1); omega⟩
                have hin : i < n := by have := HOK.out _ (List.getElem_mem hk1); omega
                have HC := Lib.hid (freS_step n l k i hk1 hin hi)
                have hat := freS_at n l k i hin
                have hpl := place_lt n l k hk1 i hin hi
                have HPN := Lib.hid (laid_step n l k A B hk1 i hin hi HP.out)
                have hAl : A.length = m := by rw [HP.out.1, HM.out]
                have hBl : B.length = m := by rw [HP.out.2.1, HM.out]
                rw [← HM.out] at hpl
                generalize lenS l i + (ofN (l.take k) i).length = p at HC hat hpl HPN
                obtain ⟨b1, off, rfl, hbl, x0, x1, x2⟩ := EdgsD.at2 (HL.out.below HG.out.b) k hk1
                rw [hi] at x0
                generalize l[k].2.1 = xa at x1 HPN
                generalize l[k].2.2 = xt at x2 HPN
                have c1 := HF.out.at hat
                have f1 := HF.out.fz i
                have lf := HF.out.lt
                have i1 : (0 : Int) ≤ (i : Int) := by omega
                have i2 : (i : Int) < (n : Int) := by omega
                have i4 : IntKind.i64.wrap ((p : Int) + 1) = (p : Int) + 1 := IntWalk.i64_in _ (by have := HMM.out; omega)
                have i5 : IntKind.i64.wrap ((k : Int) + 1) = (k : Int) + 1 := IntWalk.i64_in _ (by have := HMM.out; omega)
                clear hk1 hi hat
                go_upto_region 19 with fail
                have HG5 := Lib.hid ((HG.out.setO (g := gf) HFN.out.1 HFN.out.2.1 HFN.out.2.2.1 HFN.out.2.2.2.1 HFN.out.2.2.2.2 i ((p : Int) + 1)).alloc (.cells #[.int .i64 i, .int .i64 xa, .int .i64 xt] 41))
                have HF5 := Lib.hid (bk_alloc (HF.out.set i ((p : Int) + 1)) (.cells #[.int .i64 i, .int .i64 xa, .int .i64 xt] 41))
                have HE5 := Lib.hid (bk_at (w := wr.setCell ⟨gf, i, none⟩ (.int .i64 ((p : Int) + 1))) (g := wr.heap.size) (T := 41) (cs := #[.int .i64 i, .int .i64 xa, .int .i64 xt]) (setCell_size _ _ _).symm)
                rw [HC.out] at HF5
                obtain ⟨ge, hge⟩ : ∃ x, x = wr.heap.size := ⟨_, rfl⟩
                rw [← hge] at HE5 ⊢
                generalize World.alloc _ _ = w5 at HG5 HF5 HE5 ⊢
                clear hge c1 f1 lf x0 x1 x2
                have d1 := HG5.out.h5.cell 1
                have d2 := HG5.out.h5.cell 2
                have e1 := HE5.out.cell 1
                have e2 := HE5.out.cell 2
                have y1 := HG5.out.ha.at (getD_some A p (by rw [hAl]; exact hpl))
                have y2 := HG5.out.ht.at (getD_some B p (by rw [hBl]; exact hpl))
                generalize A.getD p 0 = ya at y1
                generalize B.getD p 0 = yb at y2
                have z1 := HG5.out.ha.fz p
                have z2 := HG5.out.ht.fz p
                obtain ⟨l5, l6, l7, l8⟩ := HG5.out.lt
                have l9 := HE5.out.lt
                have n1 : ¬ ga = gt := HG5.out.at'
                have n2 : ¬ gt = ga := fun h => n1 h.symm
                have n3 : ¬ ga = g5 := Ne.symm HG5.out.ne5.2.1
                have n4 : ¬ g5 = ga := HG5.out.ne5.2.1
                have n5 : ¬ gt = g5 := Ne.symm HG5.out.ne5.2.2
                have n6 : ¬ g5 = gt := HG5.out.ne5.2.2
                have n7 : ¬ ga = ge := bk_ne HG5.out.ha HE5.out (by decide)
                have n8 : ¬ ge = ga := Ne.symm n7
                have n9 : ¬ gt = ge := bk_ne HG5.out.ht HE5.out (by decide)
                have n10 : ¬ ge = gt := Ne.symm n9
                have j1 : (0 : Int) ≤ (p : Int) := by omega
                have j2 : (p : Int) < (m : Int) := by omega
                have HGN := Lib.hid ((HG5.out.setA p xa).setB p xt)
                have HFNN := Lib.hid (((show Bk _ _ _ _ from HF5.out).other HFN.out.2.2.1 p (u := .int .i64 xa)).other HFN.out.2.2.2.1 p (u := .int .i64 xt))
                clear HE5 HF5 hAl hBl hbl
                go_region
                go_wp2_with fail
                go_roundg (gk - 1)
                case measure => omega
                case rel => exact ⟨k + 1, _, _, by go_num, by omega, by omega, HGN.out.drew, bk_drew HFNN.out, HPN.out⟩
              · obtain rfl : k = m := by omega
                have HBB : Hid (A = (srt n l).map (·.2.1) ∧ B = (srt n l).map (·.2.2)) := Lib.hid (laid_end n l A B HOK.out (by rw [← HM.out]; exact HP.out))
                have HSL : Hid ((srt n l).length = k) := Lib.hid (by rw [HM.out]; exact lenS_all n l HOK.out)
                have c0 := HG.out.h5.cell 0
                have c1 := HG.out.h5.cell 1
                have c2 := HG.out.h5.cell 2
                have d0 := HG.out.h4.cell 0
                have d1 := HG.out.h4.cell 1
                have d2 := HG.out.h4.cell 2
                have f0 := HG.out.h4.fz 0
                have f1 := HG.out.h4.fz 1
                have f2 := HG.out.h4.fz 2
                have l4 := HG.out.h4.lt
                obtain ⟨l5, l6, l7, l8⟩ := HG.out.lt
                clear hlt hf hk HP HF
                go_wp2_with fail
                have HR := Lib.hid (set3_bk (.slice (some ⟨gs, 0, none⟩) (n + 1) (n + 1)) (.slice (some ⟨ga, 0, none⟩) k k) (.slice (some ⟨gt, 0, none⟩) k k) HG.out.h4)
                have HK := Lib.hid (set3_keep (w := wr) (g := w.heap.size) (.slice (some ⟨gs, 0, none⟩) (n + 1) (n + 1)) (.slice (some ⟨ga, 0, none⟩) k k) (.slice (some ⟨gt, 0, none⟩) k k))
                generalize ((wr.setCell _ _).setCell _ _).setCell _ _ = w9 at HR HK ⊢
                clear d0 d1 d2 c0 c1 c2
                have d0 := HR.out.cell 0
                have d1 := HR.out.cell 1
                have d2 := HR.out.cell 2
                refine bodyPost_ret (v := .agg #[.slice (some ⟨gs, 0, none⟩) (n + 1) (n + 1), .slice (some ⟨ga, 0, none⟩) k k, .slice (some ⟨gt, 0, none⟩) k k]) (by simp [results, Try.results50, go_sem, d0, d1, d2]) rfl ?_
                refine ⟨_, _, _, rfl, ⟨?_, ?_, ?_, HG.out.ps, HG.out.pa, HG.out.pt⟩, ?_⟩
                · show BkI w9 gs _; have h := HG.out.hs; rw [sumS_end] at h; exact HK.out.bk h (Ne.symm (Nat.ne_of_lt HG.out.ps))
                · show BkI w9 ga _; have h := HG.out.ha; rw [HBB.out.1] at h; exact HK.out.bk h (Ne.symm (Nat.ne_of_lt HG.out.pa))
                · show BkI w9 gt _; have h := HG.out.ht; rw [HBB.out.2] at h; exact HK.out.bk h (Ne.symm (Nat.ne_of_lt HG.out.pt))
                · exact HG.out.b.trans (HK.out.below (fun _ h => by rw [h]; exact Nat.le_refl _) HG.out.b.size)

end Go.Proofs.Ytkdpimifojjhaaa
