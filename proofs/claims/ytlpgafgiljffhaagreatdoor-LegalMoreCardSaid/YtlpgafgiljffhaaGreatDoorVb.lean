/- The reference's operand. -/
import Derived.Test.YtlpgafgiljffhaaGreatDoorNa
import Derived.Test.YtlpgafgiljffhaaGreatDoorE
import Derived.Test.YtlpgafgiljffhaaGreatDoorNf
import Derived.Test.YtlpgafgiljffhaaGreatDoorUa
namespace Go.Proofs.YtlpgafgiljffhaaGreatDoor
open Go.RowKit
structure RCtx (l : List Tok) (v : Value) (w : World) : Prop where
  ht : TokC w v l
  hn : l.length ≤ 100000
  hok : TokOK l
  hnum : ∀ i, (tokO l i).2.2.1 ≤ 9999
theorem RCtx.below {l : List Tok} {v : Value} {w w' : World} (h : RCtx l v w) (hb : Below w.heap.size w w') : RCtx l v w' := ⟨h.ht.below hb, h.hn, h.hok, h.hnum⟩
def BlkG (W : World) (b : Nat) (x0 x1 x2 x3 : Value) : Prop := W.heap[b]? = some (.cells #[x0, x1, x2, x3] 135 (0, 0))
theorem BlkG.new (w : World) (x0 x1 x2 x3 : Value) : BlkG (w.alloc (.cells #[x0, x1, x2, x3] 135)) w.heap.size x0 x1 x2 x3 := heap_alloc_new w _
theorem BlkG.lt {W : World} {b : Nat} {x0 x1 x2 x3 : Value} (h : BlkG W b x0 x1 x2 x3) : b < W.heap.size := (Array.getElem?_eq_some_iff.1 h).1
theorem BlkG.below {W W' : World} {b B : Nat} {x0 x1 x2 x3 : Value} (h : BlkG W b x0 x1 x2 x3) (hb : Below B W W') (hlt : b < B) : BlkG W' b x0 x1 x2 x3 := by
  unfold BlkG at *; rw [hb.block b hlt]; exact h
theorem BlkG.under {W W' : World} {b : Nat} {x0 x1 x2 x3 : Value} (h : BlkG W b x0 x1 x2 x3) (hb : Below W.heap.size W W') : BlkG W' b x0 x1 x2 x3 := h.below hb h.lt
theorem BlkG.facts {W : World} {b : Nat} {x0 x1 x2 x3 : Value} (h : BlkG W b x0 x1 x2 x3) :
    (W.cell? ⟨b, 0, none⟩ = some x0 ∧ W.cell? ⟨b, 1, none⟩ = some x1 ∧ W.cell? ⟨b, 2, none⟩ = some x2 ∧ W.cell? ⟨b, 3, none⟩ = some x3) ∧
    W.frozen? ⟨b, 0, none⟩ = false ∧ W.frozen? ⟨b, 1, none⟩ = false ∧ W.frozen? ⟨b, 2, none⟩ = false ∧ W.frozen? ⟨b, 3, none⟩ = false := by
  unfold BlkG at h
  simp [World.cell?, World.frozen?, h]
theorem BlkG.set {w : World} {b : Nat} {x0 x1 x2 x3 : Value} (h : BlkG w b x0 x1 x2 x3) :
    (∀ u, BlkG (w.setCell ⟨b, 0, none⟩ u) b u x1 x2 x3) ∧ (∀ u, BlkG (w.setCell ⟨b, 1, none⟩ u) b x0 u x2 x3) ∧ (∀ u, BlkG (w.setCell ⟨b, 2, none⟩ u) b x0 x1 u x3) ∧ (∀ u, BlkG (w.setCell ⟨b, 3, none⟩ u) b x0 x1 x2 u) := by
  unfold BlkG at h
  have hlt := (Array.getElem?_eq_some_iff.1 h).1
  have hg := (Array.getElem?_eq_some_iff.1 h).2
  refine ⟨fun u => ?_, fun u => ?_, fun u => ?_, fun u => ?_⟩ <;> simp [BlkG, World.setCell, Array.getElem?_modify, h]
theorem BlkG.set4 {w : World} {b : Nat} {x0 x1 x2 x3 : Value} (h : BlkG w b x0 x1 x2 x3) (u0 u1 u2 u3 : Value) :
    BlkG ((((w.setCell ⟨b, 0, none⟩ u0).setCell ⟨b, 1, none⟩ u1).setCell ⟨b, 2, none⟩ u2).setCell ⟨b, 3, none⟩ u3) b u0 u1 u2 u3 :=
  ((((h.set.1 u0).set.2.1 u1).set.2.2.1 u2).set.2.2.2 u3)
theorem BlkG.other {w : World} {b : Nat} {x0 x1 x2 x3 : Value} (h : BlkG w b x0 x1 x2 x3) (g o : Nat) (hg : b ≠ g) (u : Value) : BlkG (w.setCell ⟨g, o, none⟩ u) b x0 x1 x2 x3 := by
  unfold BlkG at *; rw [Below.heap_setCell _ _ _ _ (by exact hg)]; exact h
theorem results_got {fn : Func} {p : Tmp} (h : fn.results = #[.cell p 135]) (tmps : Array Value) (w : World) (r : Nat) (u0 u1 u2 u3 : Value) (hp : tmps.getD p undef = .pointer (some ⟨r, 0, none⟩)) (hb : BlkG w r u0 u1 u2 u3) :
    (results fn tmps).run Tryz.prog w = .ok (.agg #[u0, u1, u2, u3]) w := by
  obtain ⟨⟨y0, y1, y2, y3⟩, _⟩ := hb.facts
  have hp2 : tmps[p]?.getD undef = .pointer (some ⟨r, 0, none⟩) := by simpa using hp
  simp only [results, h]
  simp [hp2, go_sem, y0, y1, y2, y3]
theorem below_set4' {B b : Nat} {w w' : World} (h : Below B w w') (hb : B ≤ b) (x0 x1 x2 x3 : Value) : Below B w ((((w'.setCell ⟨b, 0, none⟩ x0).setCell ⟨b, 1, none⟩ x1).setCell ⟨b, 2, none⟩ x2).setCell ⟨b, 3, none⟩ x3) :=
  (((h.setCell (p := ⟨b, 0, none⟩) hb _).setCell (p := ⟨b, 1, none⟩) hb _).setCell (p := ⟨b, 2, none⟩) hb _).setCell (p := ⟨b, 3, none⟩) hb _
set_option maxRecDepth 100000 in
set_option maxHeartbeats 1000000 in
theorem rfail_any (l : List Tok) (v : Value) (i : Nat) (w : World) (hx : RCtx l v w) :
    Calls Tryz.prog 135 #[v, .int .i64 i] w fun e w' => e = .returned (.agg #[.slice none 0 0, .int .i64 0, .int .i64 (refK l i).1, .int .i64 (refK l i).2]) ∧ Below w.heap.size w w' := by
  have HPL : ∀ w', Below w.heap.size w w' → Calls Tryz.prog 112 #[v, .int .i64 i] w' fun e w'' => e = .returned (.int .i64 (refK l i).2) ∧ Below w'.heap.size w' w'' := fun w' hb => rplace_any l v i w' (hx.below hb).ht hx.hn hx.hok
  obtain ⟨ad, cap, rfl, _⟩ := hx.ht
  have hn := hx.hn
  have hk : (refK l i).1 = if i < l.length then 5 else 6 := by unfold refK; split <;> rfl
  rw [hk]
  obtain ⟨n, hN⟩ : ∃ n, n = l.length := ⟨_, rfl⟩
  rw [← hN] at hn HPL ⊢
  obtain ⟨a, ha⟩ : ∃ a, a = (refK l i).2 := ⟨_, rfl⟩
  rw [← ha] at HPL ⊢
  have HP := Lib.hid HPL
  clear HPL hx hk hN ha
  have HB1 : Hid (Below w.heap.size w (w.alloc (.cells #[.slice none 0 0, .int .i64 0, .int .i64 0, .int .i64 0] 135))) := (Below.refl _ _).alloc (Nat.le_refl _) _
  have HG1 : Hid (BlkG (w.alloc (.cells #[.slice none 0 0, .int .i64 0, .int .i64 0, .int .i64 0] 135)) w.heap.size (.slice none 0 0) (.int .i64 0) (.int .i64 0) (.int .i64 0)) := heap_alloc_new w _
  by_cases hlt : i < n
  · rw [if_pos hlt]
    go_enter Tryz.func135, Tryz.ntmps135
    go_wp2_with fail
    refine (HP.out _ HB1.out).mono ?_
    rintro e w2 ⟨rfl, hb2⟩
    have HB2 := Lib.hid (HB1.out.trans (hb2.mono HB1.out.size))
    have HG2 := Lib.hid (HG1.out.under hb2)
    obtain ⟨⟨g0, g1, g2, g3⟩, f0, f1, f2, f3⟩ := HG2.out.facts
    clear HP HB1 HG1 hb2
    go_wp2
    refine bodyPost_ret (v := .agg #[.slice none 0 0, .int .i64 0, .int .i64 5, .int .i64 a]) (results_got Tryz.results135 _ _ w.heap.size _ _ _ _ rfl (HG2.out.set4 _ _ _ _)) rfl ⟨rfl, ?_⟩
    exact below_set4' HB2.out (Nat.le_refl _) _ _ _ _
  · rw [if_neg hlt]
    have hle : n ≤ i := by omega
    go_enter Tryz.func135, Tryz.ntmps135
    go_wp2_with fail
    refine (HP.out _ HB1.out).mono ?_
    rintro e w2 ⟨rfl, hb2⟩
    have HB2 := Lib.hid (HB1.out.trans (hb2.mono HB1.out.size))
    have HG2 := Lib.hid (HG1.out.under hb2)
    obtain ⟨⟨g0, g1, g2, g3⟩, f0, f1, f2, f3⟩ := HG2.out.facts
    clear HP HB1 HG1 hb2
    go_wp2
    refine bodyPost_ret (v := .agg #[.slice none 0 0, .int .i64 0, .int .i64 6, .int .i64 a]) (results_got Tryz.results135 _ _ w.heap.size _ _ _ _ rfl (HG2.out.set4 _ _ _ _)) rfl ⟨rfl, ?_⟩
    exact below_set4' HB2.out (Nat.le_refl _) _ _ _ _
def RAns (d : Nat) (r : Res) (w : World) (e : Ending) (w' : World) : Prop := match r with
  | .err k a => ∃ tu : Nat, tu + d ≤ 31 ∧ e = .returned (.agg #[.slice none 0 0, .int .i64 tu, .int .i64 k, .int .i64 a]) ∧ Below w.heap.size w w'
  | .ok x j => ∃ v, e = .returned (.agg #[v, .int .i64 j, .int .i64 0, .int .i64 0]) ∧ w'.ownsRow w.heap.size 65 5 v x.flat.length (rowN x.flat) ∧ Below w.heap.size w w'
theorem sgAt_not {l : List Tok} {i : Nat} {x : List UInt8} (y : List UInt8) (h : sgAt l i x = true) (hxy : x ≠ y) : sgAt l i y = false := by
  unfold sgAt at *
  simp only [Bool.and_eq_true, decide_eq_true_eq, beq_iff_eq] at h
  rw [h.2]
  simp [hxy]
theorem RCtx.is {l : List Tok} {v : Value} {w w' : World} (h : RCtx l v w) (hb : Below w.heap.size w w') (i : Nat) (x : ByteArray) (r : Bool) (hr : sgAt l i x.data.toList = r) :
    Calls Tryz.prog 83 #[v, .int .i64 i, .string x] w' fun e w'' => e = .returned (.bool r) ∧ w' = w'' := ris_any l v i x w' (h.below hb).ht h.hn r hr
theorem rfail_r {l : List Tok} {v : Value} {w w' : World} (h : RCtx l v w) (hb : Below w.heap.size w w') (i : Nat) :
    Calls Tryz.prog 135 #[v, .int .i64 i] w' fun e w'' => e = .returned (.agg #[.slice none 0 0, .int .i64 0, .int .i64 (refK l i).1, .int .i64 (refK l i).2]) ∧ Below w'.heap.size w' w'' := rfail_any l v i w' (h.below hb)
set_option maxRecDepth 100000 in
set_option maxHeartbeats 1000000 in
theorem prim_over (l : List Tok) (v : Value) (i d : Nat) (w : World) (hx : RCtx l v w) (hd : d ≤ 30) (hlt : l.length ≤ i) :
    Calls Tryz.prog 128 #[v, .int .i64 i, .int .i64 d] w (RAns d (refR l i) w) := by
  have HF := Lib.hid (fun w' hb => rfail_r (w' := w') hx hb i)
  obtain ⟨ad, cap, rfl, _⟩ := hx.ht
  have hn := hx.hn
  unfold refR
  obtain ⟨k, hk⟩ : ∃ k, k = (refK l i).1 := ⟨_, rfl⟩
  obtain ⟨a, ha⟩ : ∃ k, k = (refK l i).2 := ⟨_, rfl⟩
  rw [← hk, ← ha] at HF ⊢
  obtain ⟨n, hN⟩ : ∃ n, n = l.length := ⟨_, rfl⟩
  rw [← hN] at hn hlt HF ⊢
  clear hx hN hk ha
  have HB1 : Hid (Below w.heap.size w (w.alloc (.cells #[.slice none 0 0, .int .i64 0, .int .i64 0, .int .i64 0] 135))) := (Below.refl _ _).alloc (Nat.le_refl _) _
  have HG1 : Hid (BlkG (w.alloc (.cells #[.slice none 0 0, .int .i64 0, .int .i64 0, .int .i64 0] 135)) w.heap.size (.slice none 0 0) (.int .i64 0) (.int .i64 0) (.int .i64 0)) := heap_alloc_new w _
  go_enter Tryz.func128, Tryz.ntmps128
  go_wp2_with fail
  refine (HF.out _ HB1.out).mono ?_
  rintro e w2 ⟨rfl, hb2⟩
  have HB2 := Lib.hid (HB1.out.trans (hb2.mono HB1.out.size))
  have HG2 := Lib.hid (HG1.out.under hb2)
  obtain ⟨⟨g0, g1, g2, g3⟩, f0, f1, f2, f3⟩ := HG2.out.facts
  clear HF HB1 HG1 hb2
  go_wp2
  refine bodyPost_ret (v := .agg #[.slice none 0 0, .int .i64 0, .int .i64 k, .int .i64 a]) (results_got Tryz.results128 _ _ w.heap.size _ _ _ _ rfl (HG2.out.set4 _ _ _ _)) rfl ⟨0, by omega, rfl, ?_⟩
  exact below_set4' HB2.out (Nat.le_refl _) _ _ _ _
theorem below_al2 (w : World) (o1 o2 : Obj) : Below w.heap.size w ((w.alloc o1).alloc o2) := ((Below.refl _ _).alloc (Nat.le_refl _) _).alloc (by simp) _
def Beg (l : List Tok) (v : Value) (i : Nat) (w w2 : World) : Prop :=
  RCtx l v w2 ∧ Below w.heap.size w w2 ∧ BlkG w2 w.heap.size (.slice none 0 0) (.int .i64 0) (.int .i64 0) (.int .i64 0) ∧ Blk4 w2 (w.heap.size + 1) (.int .i64 (tokO l i).1) (.string (txt l i)) (.int .i64 (tokO l i).2.2.1) (.int .i64 (plc l i)) ∧ w2.heap.size = w.heap.size + 2
theorem beg_any {l : List Tok} {v : Value} (i : Nat) {w : World} (hx : RCtx l v w) : Beg l v i w ((w.alloc (.cells #[.slice none 0 0, .int .i64 0, .int .i64 0, .int .i64 0] 135)).alloc (.cells #[.int .i64 (tokO l i).1, .string (txt l i), .int .i64 (tokO l i).2.2.1, .int .i64 (plc l i)] 89)) := by
  refine ⟨hx.below (below_al2 w _ _), below_al2 w _ _, (BlkG.new w _ _ _ _).under ((Below.refl _ _).alloc (Nat.le_refl _) _), ?_, by simp⟩
  have := Blk4.new (w.alloc (.cells #[.slice none 0 0, .int .i64 0, .int .i64 0, .int .i64 0] 135)) (.int .i64 (tokO l i).1) (.string (txt l i)) (.int .i64 (tokO l i).2.2.1) (.int .i64 (plc l i))
  simpa using this
theorem tok_cells {l : List Tok} {w : World} {g i : Nat} (hlt : i < l.length) (k0 : w.cell? ⟨g, i * 4, none⟩ = some (.int .i64 l[i].1)) (k1 : w.cell? ⟨g, i * 4 + 1, none⟩ = some (.string ⟨l[i].2.1.toArray⟩)) (k2 : w.cell? ⟨g, i * 4 + 2, none⟩ = some (.int .i64 l[i].2.2.1)) (k3 : w.cell? ⟨g, i * 4 + 3, none⟩ = some (.int .i64 l[i].2.2.2)) :
    w.cell? ⟨g, i * 4, none⟩ = some (.int .i64 (tokO l i).1) ∧ w.cell? ⟨g, i * 4 + 1, none⟩ = some (.string (txt l i)) ∧ w.cell? ⟨g, i * 4 + 2, none⟩ = some (.int .i64 (tokO l i).2.2.1) ∧ w.cell? ⟨g, i * 4 + 3, none⟩ = some (.int .i64 (plc l i)) := by
  unfold txt plc
  rw [tokO_in l i hlt]
  exact ⟨k0, k1, k2, k3⟩
set_option maxRecDepth 100000 in
set_option maxHeartbeats 1000000 in
theorem prim_deep (l : List Tok) (v : Value) (i : Nat) (w : World) (hx : RCtx l v w) (h : sgAt l i [33] = true ∨ sgAt l i [40] = true) (hlt : i < l.length) :
    Calls Tryz.prog 128 #[v, .int .i64 i, .int .i64 30] w (RAns 30 (.err 7 (plc l i)) w) := by
  have HBEG := Lib.hid (beg_any i hx)
  have HX := Lib.hid hx
  obtain ⟨ad, cap, rfl, hc⟩ := hx.ht
  obtain ⟨g, rfl, hg, k0, k1, k2, k3⟩ := hc i hlt
  obtain ⟨c0, c1, c2, c3⟩ := tok_cells hlt k0 k1 k2 k3
  have hn := hx.hn
  obtain ⟨tk, htk⟩ : ∃ t, t = (tokO l i).1 := ⟨_, rfl⟩
  obtain ⟨tn, htn⟩ : ∃ t, t = (tokO l i).2.2.1 := ⟨_, rfl⟩
  obtain ⟨tx, htx⟩ : ∃ t, t = txt l i := ⟨_, rfl⟩
  obtain ⟨tp, htp⟩ : ∃ t, t = plc l i := ⟨_, rfl⟩
  unfold Beg at HBEG
  rw [← htk, ← htn, ← htx, ← htp] at HBEG
  rw [← htk] at c0
  rw [← htx] at c1
  rw [← htn] at c2
  rw [← htp] at c3 ⊢
  obtain ⟨n, hN⟩ : ∃ n, n = l.length := ⟨_, rfl⟩
  rw [← hN] at hn hlt HBEG HX ⊢
  clear hx hN hc htk htn htx htp k0 k1 k2 k3
  cases h40 : sgAt l i [40] with
  | true =>
    have H40 := Lib.hid h40
    clear h h40
    go_enter Tryz.func128, Tryz.ntmps128
    go_wp2_with fail
    have HB := HBEG.out
    generalize ((w.alloc (.cells #[.slice none 0 0, .int .i64 0, .int .i64 0, .int .i64 0] 135)).alloc (.cells #[.int .i64 tk, .string tx, .int .i64 tn, .int .i64 tp] 89)) = w2 at HB ⊢
    obtain ⟨hx2, hb2, hg2, ht2, hs2⟩ := HB
    have HX2 := Lib.hid hx2
    have HB2 := Lib.hid hb2
    have HG2 := Lib.hid hg2
    obtain ⟨⟨g0, g1, g2, g3⟩, f0, f1, f2, f3⟩ := hg2.facts
    obtain ⟨⟨t0, t1, t2, t3⟩, _⟩ := ht2.facts
    clear hx2 hb2 hg2 ht2 HBEG
    refine (HX2.out.is (Below.refl _ _) i ⟨#[40]⟩ true H40.out).mono ?_
    rintro e w3 ⟨rfl, rfl⟩
    go_wp2
    refine bodyPost_ret (v := .agg #[.slice none 0 0, .int .i64 0, .int .i64 7, .int .i64 tp]) (results_got Tryz.results128 _ _ w.heap.size _ _ _ _ rfl (HG2.out.set4 _ _ _ _)) rfl ⟨0, by omega, rfl, ?_⟩
    exact below_set4' HB2.out (Nat.le_refl _) _ _ _ _
  | false =>
    have H40 := Lib.hid h40
    have H33 : Hid (sgAt l i [33] = true) := by rcases h with h | h; exact h; rw [h40] at h; cases h
    clear h h40
    go_enter Tryz.func128, Tryz.ntmps128
    go_wp2_with fail
    have HB := HBEG.out
    generalize ((w.alloc (.cells #[.slice none 0 0, .int .i64 0, .int .i64 0, .int .i64 0] 135)).alloc (.cells #[.int .i64 tk, .string tx, .int .i64 tn, .int .i64 tp] 89)) = w2 at HB ⊢
    obtain ⟨hx2, hb2, hg2, ht2, hs2⟩ := HB
    have HX2 := Lib.hid hx2
    have HB2 := Lib.hid hb2
    have HG2 := Lib.hid hg2
    obtain ⟨⟨g0, g1, g2, g3⟩, f0, f1, f2, f3⟩ := hg2.facts
    obtain ⟨⟨t0, t1, t2, t3⟩, _⟩ := ht2.facts
    clear hx2 hb2 hg2 ht2 HBEG
    refine (HX2.out.is (Below.refl _ _) i ⟨#[40]⟩ false H40.out).mono ?_
    rintro e w3 ⟨rfl, rfl⟩
    go_wp2_with fail
    refine (HX2.out.is (Below.refl _ _) i ⟨#[33]⟩ true H33.out).mono ?_
    rintro e w3 ⟨rfl, rfl⟩
    go_wp2
    refine bodyPost_ret (v := .agg #[.slice none 0 0, .int .i64 0, .int .i64 7, .int .i64 tp]) (results_got Tryz.results128 _ _ w.heap.size _ _ _ _ rfl (HG2.out.set4 _ _ _ _)) rfl ⟨0, by omega, rfl, ?_⟩
    exact below_set4' HB2.out (Nat.le_refl _) _ _ _ _
set_option maxRecDepth 100000 in
set_option maxHeartbeats 2000000 in
theorem prim_un_err (l : List Tok) (v : Value) (i d k a : Nat) (w : World) (hx : RCtx l v w) (h33 : sgAt l i [33] = true) (hlt : i < l.length) (hd : d < 30) (hk : k ≠ 0)
    (hF : ∀ W, Below w.heap.size w W → Calls Tryz.prog 128 #[v, .int .i64 ((i : Int) + 1), .int .i64 ((d : Int) + 1)] W (RAns (d + 1) (.err k a) W)) :
    Calls Tryz.prog 128 #[v, .int .i64 i, .int .i64 d] w (RAns d (.err k a) w) := by
  have H33 := Lib.hid h33
  have H40 := Lib.hid (sgAt_not [40] h33 (by decide))
  have HF := Lib.hid hF
  clear h33 hF
  have HBEG := Lib.hid (beg_any i hx)
  have HX := Lib.hid hx
  obtain ⟨ad, cap, rfl, hc⟩ := hx.ht
  obtain ⟨g, rfl, hg, k0, k1, k2, k3⟩ := hc i hlt
  obtain ⟨c0, c1, c2, c3⟩ := tok_cells hlt k0 k1 k2 k3
  have hn := hx.hn
  obtain ⟨tk, htk⟩ : ∃ t, t = (tokO l i).1 := ⟨_, rfl⟩
  obtain ⟨tn, htn⟩ : ∃ t, t = (tokO l i).2.2.1 := ⟨_, rfl⟩
  obtain ⟨tx, htx⟩ : ∃ t, t = txt l i := ⟨_, rfl⟩
  obtain ⟨tp, htp⟩ : ∃ t, t = plc l i := ⟨_, rfl⟩
  have HTK := Lib.hid htk
  have HTN := Lib.hid htn
  have HTX := Lib.hid htx
  have HTP := Lib.hid htp
  unfold Beg at HBEG
  rw [← htk, ← htn, ← htx, ← htp] at HBEG
  rw [← htk] at c0
  rw [← htx] at c1
  rw [← htn] at c2
  rw [← htp] at c3
  obtain ⟨n, hN⟩ : ∃ n, n = l.length := ⟨_, rfl⟩
  have HNL := Lib.hid hN
  rw [← hN] at hn hlt HBEG HX HF ⊢
  clear hx hN hc htk htn htx htp k0 k1 k2 k3
  go_enter Tryz.func128, Tryz.ntmps128
  go_wp2_with fail
  have HB := HBEG.out
  generalize ((w.alloc (.cells #[.slice none 0 0, .int .i64 0, .int .i64 0, .int .i64 0] 135)).alloc (.cells #[.int .i64 tk, .string tx, .int .i64 tn, .int .i64 tp] 89)) = w2 at HB ⊢
  obtain ⟨hx2, hb2, hg2, ht2, hs2⟩ := HB
  have HX2 := Lib.hid hx2
  have HB2 := Lib.hid hb2
  have HG2 := Lib.hid hg2
  have HT2 := Lib.hid ht2
  obtain ⟨⟨g0, g1, g2, g3⟩, f0, f1, f2, f3⟩ := hg2.facts
  obtain ⟨⟨t0, t1, t2, t3⟩, _⟩ := ht2.facts
  have hgl : g < w2.heap.size := Nat.lt_of_lt_of_le hg hb2.size
  have hl6 : w.heap.size < w2.heap.size := hg2.lt
  clear hx2 hb2 hg2 ht2 hs2 HBEG c0 c1 c2 c3
  refine (HX2.out.is (Below.refl _ _) i ⟨#[40]⟩ false H40.out).mono ?_
  rintro e w3 ⟨rfl, rfl⟩
  go_wp2_with fail
  refine (HX2.out.is (Below.refl _ _) i ⟨#[33]⟩ true H33.out).mono ?_
  rintro e w3 ⟨rfl, rfl⟩
  go_wp2_with fail
  refine (HX2.out.is (Below.refl _ _) i ⟨#[33]⟩ true H33.out).mono ?_
  rintro e w3 ⟨rfl, rfl⟩
  go_wp2_with fail
  refine (HF.out _ HB2.out).mono ?_
  rintro e w3 ⟨tu, htu, rfl, hb3⟩
  have HB3 := Lib.hid (HB2.out.trans (hb3.mono HB2.out.size))
  have HG3 := Lib.hid (HG2.out.under hb3)
  have hk3 : w2.heap.size ≤ w3.heap.size := hb3.size
  clear g0 g1 g2 g3 f0 f1 f2 f3 t0 t1 t2 t3 HB2 HG2 HT2 HF hb3
  have HKK := Lib.hid hk
  by_cases hk0 : k = 0
  · exact absurd hk0 hk
  have q1 : ((k : Int) == 0) = false := by simp; omega
  have hb4 : Below w.heap.size w (w3.alloc (.cells #[.slice none 0 0, .int .i64 tu, .int .i64 k, .int .i64 a] 135)) := HB3.out.alloc HB3.out.size _
  have HG4 := Lib.hid (HG3.out.under (W' := w3.alloc (.cells #[.slice none 0 0, .int .i64 tu, .int .i64 k, .int .i64 a] 135)) ((Below.refl _ _).alloc (Nat.le_refl _) _))
  have HR4 := Lib.hid (BlkG.new w3 (.slice none 0 0) (.int .i64 tu) (.int .i64 k) (.int .i64 a))
  obtain ⟨⟨g0, g1, g2, g3⟩, f0, f1, f2, f3⟩ := HG4.out.facts
  obtain ⟨⟨r0, r1, r2, r3⟩, _⟩ := HR4.out.facts
  have HB4 := Lib.hid hb4
  clear hb4
  go_wp2
  refine bodyPost_ret (v := .agg #[.slice none 0 0, .int .i64 tu, .int .i64 k, .int .i64 a]) (results_got Tryz.results128 _ _ w.heap.size _ _ _ _ rfl (HG4.out.set4 _ _ _ _)) rfl ⟨tu, by omega, rfl, ?_⟩
  exact below_set4' HB4.out (Nat.le_refl _) _ _ _ _
set_option maxRecDepth 100000 in
set_option maxHeartbeats 4000000 in
theorem prim_un_ok (l : List Tok) (v : Value) (i d j : Nat) (x : Ex) (w : World) (hx : RCtx l v w) (h33 : sgAt l i [33] = true) (hlt : i < l.length) (hd : d < 30) (hsz : x.flat.length ≤ 100000)
    (hF : ∀ W, Below w.heap.size w W → Calls Tryz.prog 128 #[v, .int .i64 ((i : Int) + 1), .int .i64 ((d : Int) + 1)] W (RAns (d + 1) (.ok x j) W)) :
    Calls Tryz.prog 128 #[v, .int .i64 i, .int .i64 d] w (RAns d (.ok (.un (opN 5 (plc l i)) x) j) w) := by
  have H33 := Lib.hid h33
  have H40 := Lib.hid (sgAt_not [40] h33 (by decide))
  have HF := Lib.hid hF
  clear h33 hF
  have HBEG := Lib.hid (beg_any i hx)
  have HX := Lib.hid hx
  obtain ⟨ad, cap, rfl, hc⟩ := hx.ht
  obtain ⟨g, rfl, hg, k0, k1, k2, k3⟩ := hc i hlt
  obtain ⟨c0, c1, c2, c3⟩ := tok_cells hlt k0 k1 k2 k3
  have hn := hx.hn
  obtain ⟨tk, htk⟩ : ∃ t, t = (tokO l i).1 := ⟨_, rfl⟩
  obtain ⟨tn, htn⟩ : ∃ t, t = (tokO l i).2.2.1 := ⟨_, rfl⟩
  obtain ⟨tx, htx⟩ : ∃ t, t = txt l i := ⟨_, rfl⟩
  obtain ⟨tp, htp⟩ : ∃ t, t = plc l i := ⟨_, rfl⟩
  have HTK := Lib.hid htk
  have HTN := Lib.hid htn
  have HTX := Lib.hid htx
  have HTP := Lib.hid htp
  unfold Beg at HBEG
  rw [← htk, ← htn, ← htx, ← htp] at HBEG
  rw [← htk] at c0
  rw [← htx] at c1
  rw [← htn] at c2
  rw [← htp] at c3
  obtain ⟨n, hN⟩ : ∃ n, n = l.length := ⟨_, rfl⟩
  have HNL := Lib.hid hN
  rw [← hN] at hn hlt HBEG HX HF ⊢
  clear hx hN hc htk htn htx htp k0 k1 k2 k3
  go_enter Tryz.func128, Tryz.ntmps128
  go_wp2_with fail
  have HB := HBEG.out
  generalize ((w.alloc (.cells #[.slice none 0 0, .int .i64 0, .int .i64 0, .int .i64 0] 135)).alloc (.cells #[.int .i64 tk, .string tx, .int .i64 tn, .int .i64 tp] 89)) = w2 at HB ⊢
  obtain ⟨hx2, hb2, hg2, ht2, hs2⟩ := HB
  have HX2 := Lib.hid hx2
  have HB2 := Lib.hid hb2
  have HG2 := Lib.hid hg2
  have HT2 := Lib.hid ht2
  obtain ⟨⟨g0, g1, g2, g3⟩, f0, f1, f2, f3⟩ := hg2.facts
  obtain ⟨⟨t0, t1, t2, t3⟩, _⟩ := ht2.facts
  have hgl : g < w2.heap.size := Nat.lt_of_lt_of_le hg hb2.size
  have hl6 : w.heap.size < w2.heap.size := hg2.lt
  clear hx2 hb2 hg2 ht2 hs2 HBEG c0 c1 c2 c3
  refine (HX2.out.is (Below.refl _ _) i ⟨#[40]⟩ false H40.out).mono ?_
  rintro e w3 ⟨rfl, rfl⟩
  go_wp2_with fail
  refine (HX2.out.is (Below.refl _ _) i ⟨#[33]⟩ true H33.out).mono ?_
  rintro e w3 ⟨rfl, rfl⟩
  go_wp2_with fail
  refine (HX2.out.is (Below.refl _ _) i ⟨#[33]⟩ true H33.out).mono ?_
  rintro e w3 ⟨rfl, rfl⟩
  go_wp2_with fail
  refine (HF.out _ HB2.out).mono ?_
  rintro e w3 ⟨v1, rfl, ho, hb3⟩
  have HB3 := Lib.hid (HB2.out.trans (hb3.mono HB2.out.size))
  have HG3 := Lib.hid (HG2.out.under hb3)
  have HT3 := Lib.hid (HT2.out.below hb3 HT2.out.lt)
  have hk3 : w2.heap.size ≤ w3.heap.size := hb3.size
  have HO := Lib.hid ho
  obtain ⟨ad1, cap1, rfl, _⟩ := own_shape ho
  obtain ⟨m, hm⟩ : ∃ m, m = x.flat.length := ⟨_, rfl⟩
  have HM := Lib.hid hm
  rw [← hm] at hsz HO ⊢
  clear g0 g1 g2 g3 f0 f1 f2 f3 t0 t1 t2 t3 HB2 HG2 HT2 HF hb3 ho hm
  have HR4 := Lib.hid (BlkG.new w3 (.slice ad1 m cap1) (.int .i64 j) (.int .i64 0) (.int .i64 0))
  have HG4 := Lib.hid (HG3.out.under (W' := w3.alloc (.cells #[.slice ad1 m cap1, .int .i64 j, .int .i64 0, .int .i64 0] 135)) ((Below.refl _ _).alloc (Nat.le_refl _) _))
  have HT4 := Lib.hid (HT3.out.below (W' := w3.alloc (.cells #[.slice ad1 m cap1, .int .i64 j, .int .i64 0, .int .i64 0] 135)) ((Below.refl _ _).alloc (Nat.le_refl _) _) HT3.out.lt)
  obtain ⟨⟨r0, r1, r2, r3⟩, _⟩ := HR4.out.facts
  obtain ⟨⟨t0, t1, t2, t3⟩, _⟩ := HT4.out.facts
  have HNEW : Hid (((w3.alloc (.cells #[.slice ad1 m cap1, .int .i64 j, .int .i64 0, .int .i64 0] 135)).alloc (.cells #[.int .i64 5, .int .i64 0, .string ⟨#[]⟩, .string ⟨#[]⟩, .int .i64 tp] 65)).ownsRow (w3.heap.size + 1) 65 5 (.slice (some ⟨w3.heap.size + 1, 0, none⟩) 1 1) 1 (rowN [opN 5 tp])) := by
    have := own_new (w3.alloc (.cells #[.slice ad1 m cap1, .int .i64 j, .int .i64 0, .int .i64 0] 135)) (opN 5 tp)
    rw [show (w3.alloc (.cells #[.slice ad1 m cap1, .int .i64 j, .int .i64 0, .int .i64 0] 135)).heap.size = w3.heap.size + 1 by simp] at this
    exact this
  go_wp2_with (at_builtin; refine append_nds rfl (.tmp 49) (.tmp 53) rfl (w3.heap.size + 1) (w3.heap.size + 1) 0 1 _ _ [] [opN 5 tp] rfl rfl (World.ownsRow_nil _ _ _ _) HNEW.out rfl (by omega) (by simp) ?_)
  intro v4 w4 ho4 hb4
  replace ho4 : w4.ownsRow (w3.heap.size + 1) 65 5 v4 1 (rowN [opN 5 tp]) := ho4
  have hb34 : Below (w3.heap.size + 1) (w3.alloc (.cells #[.slice ad1 m cap1, .int .i64 j, .int .i64 0, .int .i64 0] 135)) w4 := ((Below.refl _ _).alloc (by simp) _).trans hb4
  have HB4 : Hid (Below w.heap.size w w4) := (HB3.out.alloc HB3.out.size _).trans (hb34.mono (by have := HB3.out.size; omega))
  have HG5 := Lib.hid (HG4.out.below hb34 (by have := HG3.out.lt; omega))
  have HR5 := Lib.hid (HR4.out.below hb34 (by omega))
  have HO5 := Lib.hid (own_below (own_below HO.out ((Below.refl _ _).alloc (Nat.le_refl _) _)) (hb34.mono (by simp)) : w4.ownsRow w2.heap.size 65 5 (.slice ad1 m cap1) m (rowN x.flat))
  have hs4 : w3.heap.size + 1 ≤ w4.heap.size := by have := hb34.size; simpa using this
  obtain ⟨ad4, cap4, rfl, _⟩ := own_shape ho4
  have HO4 := Lib.hid ho4
  obtain ⟨N0, hN0⟩ : ∃ N, N = w3.heap.size := ⟨_, rfl⟩
  have hbn : w.heap.size < N0 := by have := HG3.out.lt; omega
  rw [← hN0] at HR5 HO4 hs4 ⊢
  clear r0 r1 r2 r3 t0 t1 t2 t3 HR4 HG4 HT4 HNEW hb4 hb34 ho4 HG3 HT3 HB3 HO hN0 hk3
  obtain ⟨⟨r0, r1, r2, r3⟩, rf0, rf1, rf2, rf3⟩ := HR5.out.facts
  go_wp2_with (at_builtin; refine append_nds rfl (.tmp 55) (.tmp 57) rfl (N0 + 1) w2.heap.size 1 m _ _ (rowN [opN 5 tp]) x.flat rfl rfl HO4.out HO5.out HM.out (by omega) hs4 ?_)
  intro v5 w5 ho5 hb5
  have HB5 := Lib.hid (HB4.out.trans (hb5.mono (by omega)))
  have HG6 := Lib.hid (HG5.out.below hb5 (by omega))
  have HR6 := Lib.hid (HR5.out.below hb5 (by omega))
  have HO6 := Lib.hid ho5
  obtain ⟨ad5, cap5, rfl, _⟩ := own_shape ho5
  clear r0 r1 r2 r3 rf0 rf1 rf2 rf3 HR5 HO4 HO5 HG5 HB4 hb5 ho5 hs4
  obtain ⟨⟨r0, r1, r2, r3⟩, rf0, rf1, rf2, rf3⟩ := HR6.out.facts
  obtain ⟨⟨g0, g1, g2, g3⟩, f0, f1, f2, f3⟩ := HG6.out.facts
  have hl66 := HG6.out.lt
  obtain ⟨q, hq⟩ : ∃ q, q = 1 + m := ⟨_, rfl⟩
  have HQ := Lib.hid hq
  rw [← hq] at HO6 ⊢
  clear hq
  have hne : N0 ≠ w.heap.size := by omega
  have hne2 : w.heap.size ≠ N0 := by omega
  go_wp2
  have HG7 := HG6.out.other N0 0 (by omega) (.slice ad5 q cap5)
  refine bodyPost_ret (v := .agg #[.slice ad5 q cap5, .int .i64 j, .int .i64 0, .int .i64 0]) (results_got Tryz.results128 _ _ w.heap.size _ _ _ _ rfl (HG7.set4 _ _ _ _)) rfl ⟨.slice ad5 q cap5, rfl, ?_, ?_⟩
  · have hf : (Ex.un (opN 5 (plc l i)) x).flat = [opN 5 tp] ++ x.flat := by rw [← HTP.out]; rfl
    rw [hf, rowN_append, List.length_append, List.length_singleton, ← HM.out, ← HQ.out]
    have h0 : N0 < w5.heap.size := HR6.out.lt
    refine own_mono (ownsRow_setCell_below (ownsRow_setCell_below (ownsRow_setCell_below (ownsRow_setCell_below (ownsRow_setCell_below HO6.out (by show N0 < N0 + 1; omega) _) (by show w.heap.size < N0 + 1; omega) _) (by show w.heap.size < N0 + 1; omega) _) (by show w.heap.size < N0 + 1; omega) _) (by show w.heap.size < N0 + 1; omega) _) (by omega)
  · exact below_set4' (HB5.out.setCell (p := ⟨N0, 0, none⟩) (by show w.heap.size ≤ N0; omega) _) (Nat.le_refl _) _ _ _ _
theorem own_setB {w : World} {B n e size m cap : Nat} {ad : Option Addr} {xs : List Value} (h : w.ownsRow B e size (.slice ad m cap) n xs) (b o : Nat) (u : Value) (hb : ∀ g, ad = some ⟨g, 0, none⟩ → g ≠ b) : (w.setCell ⟨b, o, none⟩ u).ownsRow B e size (.slice ad m cap) n xs := by
  obtain ⟨h1, h2⟩ := h
  refine ⟨h1, ?_⟩
  rcases h2 with h2 | ⟨g, cap', cur, hv, hg, hh, r⟩
  · exact .inl h2
  · refine .inr ⟨g, cap', cur, hv, hg, ?_, r⟩
    cases hv
    rw [Below.heap_setCell _ _ _ _ (hb g rfl)]; exact hh
set_option maxRecDepth 100000 in
set_option maxHeartbeats 4000000 in
theorem prim_br_err (l : List Tok) (v : Value) (i d k a : Nat) (w : World) (hx : RCtx l v w) (h40 : sgAt l i [40] = true) (hlt : i < l.length) (hd : d < 30) (hk : k ≠ 0)
    (hF : ∀ W, Below w.heap.size w W → Calls Tryz.prog 114 #[v, .int .i64 ((i : Int) + 1), .int .i64 ((d : Int) + 1), .int .i64 0] W (RAns (d + 1) (.err k a) W)) :
    Calls Tryz.prog 128 #[v, .int .i64 i, .int .i64 d] w (RAns d (.err k a) w) := by
  have H40 := Lib.hid h40
  have H33 := Lib.hid (sgAt_not [33] h40 (by decide))
  have HF := Lib.hid hF
  clear h40 hF
  have HBEG := Lib.hid (beg_any i hx)
  have HX := Lib.hid hx
  obtain ⟨ad, cap, rfl, hc⟩ := hx.ht
  obtain ⟨g, rfl, hg, k0, k1, k2, k3⟩ := hc i hlt
  obtain ⟨c0, c1, c2, c3⟩ := tok_cells hlt k0 k1 k2 k3
  have hn := hx.hn
  obtain ⟨tk, htk⟩ : ∃ t, t = (tokO l i).1 := ⟨_, rfl⟩
  obtain ⟨tn, htn⟩ : ∃ t, t = (tokO l i).2.2.1 := ⟨_, rfl⟩
  obtain ⟨tx, htx⟩ : ∃ t, t = txt l i := ⟨_, rfl⟩
  obtain ⟨tp, htp⟩ : ∃ t, t = plc l i := ⟨_, rfl⟩
  have HTK := Lib.hid htk
  have HTN := Lib.hid htn
  have HTX := Lib.hid htx
  have HTP := Lib.hid htp
  unfold Beg at HBEG
  rw [← htk, ← htn, ← htx, ← htp] at HBEG
  rw [← htk] at c0
  rw [← htx] at c1
  rw [← htn] at c2
  rw [← htp] at c3
  obtain ⟨n, hN⟩ : ∃ n, n = l.length := ⟨_, rfl⟩
  have HNL := Lib.hid hN
  rw [← hN] at hn hlt HBEG HX HF ⊢
  clear hx hN hc htk htn htx htp k0 k1 k2 k3
  go_enter Tryz.func128, Tryz.ntmps128
  go_wp2_with fail
  have HB := HBEG.out
  generalize ((w.alloc (.cells #[.slice none 0 0, .int .i64 0, .int .i64 0, .int .i64 0] 135)).alloc (.cells #[.int .i64 tk, .string tx, .int .i64 tn, .int .i64 tp] 89)) = w2 at HB ⊢
  obtain ⟨hx2, hb2, hg2, ht2, hs2⟩ := HB
  have HX2 := Lib.hid hx2
  have HB2 := Lib.hid hb2
  have HG2 := Lib.hid hg2
  have HT2 := Lib.hid ht2
  obtain ⟨⟨g0, g1, g2, g3⟩, f0, f1, f2, f3⟩ := hg2.facts
  obtain ⟨⟨t0, t1, t2, t3⟩, _⟩ := ht2.facts
  have hgl : g < w2.heap.size := Nat.lt_of_lt_of_le hg hb2.size
  have hl6 : w.heap.size < w2.heap.size := hg2.lt
  clear hx2 hb2 hg2 ht2 hs2 HBEG c0 c1 c2 c3
  refine (HX2.out.is (Below.refl _ _) i ⟨#[40]⟩ true H40.out).mono ?_
  rintro e w3 ⟨rfl, rfl⟩
  go_wp2_with fail
  refine (HX2.out.is (Below.refl _ _) i ⟨#[33]⟩ false H33.out).mono ?_
  rintro e w3 ⟨rfl, rfl⟩
  go_wp2_with fail
  refine (HX2.out.is (Below.refl _ _) i ⟨#[40]⟩ true H40.out).mono ?_
  rintro e w3 ⟨rfl, rfl⟩
  go_wp2_with fail
  refine (HF.out _ HB2.out).mono ?_
  rintro e w3 ⟨tu, htu, rfl, hb3⟩
  have HB3 := Lib.hid (HB2.out.trans (hb3.mono HB2.out.size))
  have HG3 := Lib.hid (HG2.out.under hb3)
  clear g0 g1 g2 g3 f0 f1 f2 f3 t0 t1 t2 t3 HB2 HG2 HT2 HF hb3
  by_cases hk0 : k = 0
  · exact absurd hk0 hk
  have q1 : ((k : Int) == 0) = false := by simp; omega
  have HB4 : Hid (Below w.heap.size w (w3.alloc (.cells #[.slice none 0 0, .int .i64 tu, .int .i64 k, .int .i64 a] 135))) := HB3.out.alloc HB3.out.size _
  have HG4 := Lib.hid (HG3.out.under (W' := w3.alloc (.cells #[.slice none 0 0, .int .i64 tu, .int .i64 k, .int .i64 a] 135)) ((Below.refl _ _).alloc (Nat.le_refl _) _))
  have HR4 := Lib.hid (BlkG.new w3 (.slice none 0 0) (.int .i64 tu) (.int .i64 k) (.int .i64 a))
  obtain ⟨⟨g0, g1, g2, g3⟩, f0, f1, f2, f3⟩ := HG3.out.facts
  obtain ⟨⟨r0, r1, r2, r3⟩, rf0, rf1, rf2, rf3⟩ := HR4.out.facts
  have hgb : w.heap.size < w3.heap.size := HG3.out.lt
  have hne : w3.heap.size ≠ w.heap.size := by omega
  have hne2 : w.heap.size ≠ w3.heap.size := by omega
  clear HB4 HG4 HR4
  go_wp2
  refine bodyPost_ret (v := .agg #[.slice none 0 0, .int .i64 ((tu : Int) + 1), .int .i64 k, .int .i64 a]) (results_got Tryz.results128 _ _ w.heap.size _ _ _ _ rfl ((HG3.out.set4 _ _ _ _).under ((Below.refl _ _).alloc (Nat.le_refl _) _))) rfl ⟨tu + 1, by omega, rfl, ?_⟩
  have h := below_set4' HB3.out (Nat.le_refl _) (.slice none 0 0) (.int .i64 ((tu : Int) + 1)) (.int .i64 k) (.int .i64 a)
  exact h.alloc h.size _
set_option maxRecDepth 100000 in
set_option maxHeartbeats 4000000 in
theorem prim_br_ok (l : List Tok) (v : Value) (i d j : Nat) (x : Ex) (w : World) (hx : RCtx l v w) (h40 : sgAt l i [40] = true) (hlt : i < l.length) (hd : d < 30) (_hj : j ≤ l.length) (h41 : sgAt l j [41] = true)
    (hF : ∀ W, Below w.heap.size w W → Calls Tryz.prog 114 #[v, .int .i64 ((i : Int) + 1), .int .i64 ((d : Int) + 1), .int .i64 0] W (RAns (d + 1) (.ok x j) W)) :
    Calls Tryz.prog 128 #[v, .int .i64 i, .int .i64 d] w (RAns d (.ok x (j + 1)) w) := by
  have H40 := Lib.hid h40
  have H33 := Lib.hid (sgAt_not [33] h40 (by decide))
  have HF := Lib.hid hF
  clear h40 hF
  have H41 := Lib.hid h41
  clear h41
  have HBEG := Lib.hid (beg_any i hx)
  have HX := Lib.hid hx
  obtain ⟨ad, cap, rfl, hc⟩ := hx.ht
  obtain ⟨g, rfl, hg, k0, k1, k2, k3⟩ := hc i hlt
  obtain ⟨c0, c1, c2, c3⟩ := tok_cells hlt k0 k1 k2 k3
  have hn := hx.hn
  obtain ⟨tk, htk⟩ : ∃ t, t = (tokO l i).1 := ⟨_, rfl⟩
  obtain ⟨tn, htn⟩ : ∃ t, t = (tokO l i).2.2.1 := ⟨_, rfl⟩
  obtain ⟨tx, htx⟩ : ∃ t, t = txt l i := ⟨_, rfl⟩
  obtain ⟨tp, htp⟩ : ∃ t, t = plc l i := ⟨_, rfl⟩
  have HTK := Lib.hid htk
  have HTN := Lib.hid htn
  have HTX := Lib.hid htx
  have HTP := Lib.hid htp
  unfold Beg at HBEG
  rw [← htk, ← htn, ← htx, ← htp] at HBEG
  rw [← htk] at c0
  rw [← htx] at c1
  rw [← htn] at c2
  rw [← htp] at c3
  obtain ⟨n, hN⟩ : ∃ n, n = l.length := ⟨_, rfl⟩
  have HNL := Lib.hid hN
  rw [← hN] at hn hlt HBEG HX HF _hj ⊢
  clear hx hN hc htk htn htx htp k0 k1 k2 k3
  go_enter Tryz.func128, Tryz.ntmps128
  go_wp2_with fail
  have HB := HBEG.out
  generalize ((w.alloc (.cells #[.slice none 0 0, .int .i64 0, .int .i64 0, .int .i64 0] 135)).alloc (.cells #[.int .i64 tk, .string tx, .int .i64 tn, .int .i64 tp] 89)) = w2 at HB ⊢
  obtain ⟨hx2, hb2, hg2, ht2, hs2⟩ := HB
  have HX2 := Lib.hid hx2
  have HB2 := Lib.hid hb2
  have HG2 := Lib.hid hg2
  have HT2 := Lib.hid ht2
  obtain ⟨⟨g0, g1, g2, g3⟩, f0, f1, f2, f3⟩ := hg2.facts
  obtain ⟨⟨t0, t1, t2, t3⟩, _⟩ := ht2.facts
  have hgl : g < w2.heap.size := Nat.lt_of_lt_of_le hg hb2.size
  have hl6 : w.heap.size < w2.heap.size := hg2.lt
  clear hx2 hb2 hg2 ht2 hs2 HBEG c0 c1 c2 c3
  refine (HX2.out.is (Below.refl _ _) i ⟨#[40]⟩ true H40.out).mono ?_
  rintro e w3 ⟨rfl, rfl⟩
  go_wp2_with fail
  refine (HX2.out.is (Below.refl _ _) i ⟨#[33]⟩ false H33.out).mono ?_
  rintro e w3 ⟨rfl, rfl⟩
  go_wp2_with fail
  refine (HX2.out.is (Below.refl _ _) i ⟨#[40]⟩ true H40.out).mono ?_
  rintro e w3 ⟨rfl, rfl⟩
  go_wp2_with fail
  refine (HF.out _ HB2.out).mono ?_
  rintro e w3 ⟨v1, rfl, ho, hb3⟩
  have HB3 := Lib.hid (HB2.out.trans (hb3.mono HB2.out.size))
  have HX3 := Lib.hid (HX2.out.below hb3)
  have HG3 := Lib.hid (HG2.out.under hb3)
  have hk3 : w2.heap.size ≤ w3.heap.size := hb3.size
  have HO := Lib.hid (own_below ho ((Below.refl _ _).alloc (Nat.le_refl _) (.cells #[v1, .int .i64 j, .int .i64 0, .int .i64 0] 135)))
  obtain ⟨ad1, cap1, rfl, hw⟩ := own_shape ho
  obtain ⟨m, hm⟩ : ∃ m, m = x.flat.length := ⟨_, rfl⟩
  have HM := Lib.hid hm
  rw [← hm] at HO hw ⊢
  clear g0 g1 g2 g3 f0 f1 f2 f3 t0 t1 t2 t3 HB2 HG2 HT2 HF hb3 ho hm
  have hgb : w.heap.size < w3.heap.size := HG3.out.lt
  have HB4 : Hid (Below w.heap.size w (w3.alloc (.cells #[.slice ad1 m cap1, .int .i64 j, .int .i64 0, .int .i64 0] 135))) := HB3.out.alloc HB3.out.size _
  have HX4 : Hid (RCtx l _ (w3.alloc (.cells #[.slice ad1 m cap1, .int .i64 j, .int .i64 0, .int .i64 0] 135))) := HX3.out.below ((Below.refl _ _).alloc (Nat.le_refl _) _)
  have HG4 := Lib.hid (HG3.out.under (W' := w3.alloc (.cells #[.slice ad1 m cap1, .int .i64 j, .int .i64 0, .int .i64 0] 135)) ((Below.refl _ _).alloc (Nat.le_refl _) _))
  have HR4 := Lib.hid (BlkG.new w3 (.slice ad1 m cap1) (.int .i64 j) (.int .i64 0) (.int .i64 0))
  go_wp2_with fail
  generalize (w3.alloc (.cells #[.slice ad1 m cap1, .int .i64 j, .int .i64 0, .int .i64 0] 135)) = w4 at HB4 HX4 HG4 HR4 HO ⊢
  obtain ⟨b, hb⟩ : ∃ b, b = w3.heap.size := ⟨_, rfl⟩
  rw [← hb] at hgb HR4 hk3 ⊢
  have hwb : ∀ g', ad1 = some ⟨g', 0, none⟩ → g' ≠ b := by
    intro g' hg'
    rcases hw with ⟨h1, _⟩ | ⟨g2, h1, _, h2⟩
    · rw [h1] at hg'; cases hg'
    · rw [h1] at hg'; cases hg'; omega
  clear hb hw HG3 HX3 HB3
  obtain ⟨⟨g0, g1, g2, g3⟩, f0, f1, f2, f3⟩ := HG4.out.facts
  obtain ⟨⟨r0, r1, r2, r3⟩, rf0, rf1, rf2, rf3⟩ := HR4.out.facts
  refine (HX4.out.is (Below.refl _ _) j ⟨#[41]⟩ true H41.out).mono ?_
  rintro e w5 ⟨rfl, rfl⟩
  have hne : b ≠ w.heap.size := by omega
  have hne2 : w.heap.size ≠ b := by omega
  go_wp2
  have HG7 := HG4.out.other b 1 (by omega) (.int .i64 ((j : Int) + 1))
  refine bodyPost_ret (v := .agg #[.slice ad1 m cap1, .int .i64 ((j : Int) + 1), .int .i64 0, .int .i64 0]) (results_got Tryz.results128 _ _ w.heap.size _ _ _ _ rfl (HG7.set4 _ _ _ _)) rfl ⟨.slice ad1 m cap1, rfl, ?_, ?_⟩
  · rw [← HM.out]
    have hwl := HG4.out.lt
    have h5 := own_setB HO.out b 1 (.int .i64 ((j : Int) + 1)) hwb
    refine own_mono (ownsRow_setCell_below (ownsRow_setCell_below (ownsRow_setCell_below (ownsRow_setCell_below h5 (by show w.heap.size < w2.heap.size; omega) _) (by show w.heap.size < w2.heap.size; omega) _) (by show w.heap.size < w2.heap.size; omega) _) (by show w.heap.size < w2.heap.size; omega) _) (by omega)
  · exact below_set4' (HB4.out.setCell (p := ⟨b, 1, none⟩) (by show w.heap.size ≤ b; omega) _) (Nat.le_refl _) _ _ _ _
set_option maxRecDepth 100000 in
set_option maxHeartbeats 4000000 in
theorem prim_br_bad (l : List Tok) (v : Value) (i d j : Nat) (x : Ex) (w : World) (hx : RCtx l v w) (h40 : sgAt l i [40] = true) (hlt : i < l.length) (hd : d < 30) (_hj : j ≤ l.length) (h41 : sgAt l j [41] = false)
    (hF : ∀ W, Below w.heap.size w W → Calls Tryz.prog 114 #[v, .int .i64 ((i : Int) + 1), .int .i64 ((d : Int) + 1), .int .i64 0] W (RAns (d + 1) (.ok x j) W)) :
    Calls Tryz.prog 128 #[v, .int .i64 i, .int .i64 d] w (RAns d (refR l j) w) := by
  have H40 := Lib.hid h40
  have H33 := Lib.hid (sgAt_not [33] h40 (by decide))
  have HF := Lib.hid hF
  clear h40 hF
  have H41 := Lib.hid h41
  clear h41
  unfold refR
  have HBEG := Lib.hid (beg_any i hx)
  have HX := Lib.hid hx
  obtain ⟨ad, cap, rfl, hc⟩ := hx.ht
  obtain ⟨g, rfl, hg, k0, k1, k2, k3⟩ := hc i hlt
  obtain ⟨c0, c1, c2, c3⟩ := tok_cells hlt k0 k1 k2 k3
  have hn := hx.hn
  obtain ⟨tk, htk⟩ : ∃ t, t = (tokO l i).1 := ⟨_, rfl⟩
  obtain ⟨tn, htn⟩ : ∃ t, t = (tokO l i).2.2.1 := ⟨_, rfl⟩
  obtain ⟨tx, htx⟩ : ∃ t, t = txt l i := ⟨_, rfl⟩
  obtain ⟨tp, htp⟩ : ∃ t, t = plc l i := ⟨_, rfl⟩
  have HTK := Lib.hid htk
  have HTN := Lib.hid htn
  have HTX := Lib.hid htx
  have HTP := Lib.hid htp
  unfold Beg at HBEG
  rw [← htk, ← htn, ← htx, ← htp] at HBEG
  rw [← htk] at c0
  rw [← htx] at c1
  rw [← htn] at c2
  rw [← htp] at c3
  obtain ⟨n, hN⟩ : ∃ n, n = l.length := ⟨_, rfl⟩
  have HNL := Lib.hid hN
  rw [← hN] at hn hlt HBEG HX HF _hj ⊢
  clear hx hN hc htk htn htx htp k0 k1 k2 k3
  go_enter Tryz.func128, Tryz.ntmps128
  go_wp2_with fail
  have HB := HBEG.out
  generalize ((w.alloc (.cells #[.slice none 0 0, .int .i64 0, .int .i64 0, .int .i64 0] 135)).alloc (.cells #[.int .i64 tk, .string tx, .int .i64 tn, .int .i64 tp] 89)) = w2 at HB ⊢
  obtain ⟨hx2, hb2, hg2, ht2, hs2⟩ := HB
  have HX2 := Lib.hid hx2
  have HB2 := Lib.hid hb2
  have HG2 := Lib.hid hg2
  have HT2 := Lib.hid ht2
  obtain ⟨⟨g0, g1, g2, g3⟩, f0, f1, f2, f3⟩ := hg2.facts
  obtain ⟨⟨t0, t1, t2, t3⟩, _⟩ := ht2.facts
  have hgl : g < w2.heap.size := Nat.lt_of_lt_of_le hg hb2.size
  have hl6 : w.heap.size < w2.heap.size := hg2.lt
  clear hx2 hb2 hg2 ht2 hs2 HBEG c0 c1 c2 c3
  refine (HX2.out.is (Below.refl _ _) i ⟨#[40]⟩ true H40.out).mono ?_
  rintro e w3 ⟨rfl, rfl⟩
  go_wp2_with fail
  refine (HX2.out.is (Below.refl _ _) i ⟨#[33]⟩ false H33.out).mono ?_
  rintro e w3 ⟨rfl, rfl⟩
  go_wp2_with fail
  refine (HX2.out.is (Below.refl _ _) i ⟨#[40]⟩ true H40.out).mono ?_
  rintro e w3 ⟨rfl, rfl⟩
  go_wp2_with fail
  refine (HF.out _ HB2.out).mono ?_
  rintro e w3 ⟨v1, rfl, ho, hb3⟩
  have HB3 := Lib.hid (HB2.out.trans (hb3.mono HB2.out.size))
  have HX3 := Lib.hid (HX2.out.below hb3)
  have HG3 := Lib.hid (HG2.out.under hb3)
  obtain ⟨ad1, cap1, rfl, _⟩ := own_shape ho
  clear g0 g1 g2 g3 f0 f1 f2 f3 t0 t1 t2 t3 HB2 HG2 HT2 HF hb3 ho
  obtain ⟨m, hm⟩ : ∃ m, m = x.flat.length := ⟨_, rfl⟩
  rw [← hm]
  clear hm
  have HB4 : Hid (Below w.heap.size w (w3.alloc (.cells #[.slice ad1 m cap1, .int .i64 j, .int .i64 0, .int .i64 0] 135))) := HB3.out.alloc HB3.out.size _
  have HX4 : Hid (RCtx l _ (w3.alloc (.cells #[.slice ad1 m cap1, .int .i64 j, .int .i64 0, .int .i64 0] 135))) := HX3.out.below ((Below.refl _ _).alloc (Nat.le_refl _) _)
  have HG4 := Lib.hid (HG3.out.under (W' := w3.alloc (.cells #[.slice ad1 m cap1, .int .i64 j, .int .i64 0, .int .i64 0] 135)) ((Below.refl _ _).alloc (Nat.le_refl _) _))
  have HR4 := Lib.hid (BlkG.new w3 (.slice ad1 m cap1) (.int .i64 j) (.int .i64 0) (.int .i64 0))
  go_wp2_with fail
  generalize (w3.alloc (.cells #[.slice ad1 m cap1, .int .i64 j, .int .i64 0, .int .i64 0] 135)) = w4 at HB4 HX4 HG4 HR4 ⊢
  obtain ⟨b, hb⟩ : ∃ b, b = w3.heap.size := ⟨_, rfl⟩
  rw [← hb] at HR4 ⊢
  clear hb HG3 HX3 HB3
  obtain ⟨⟨r0, r1, r2, r3⟩, rf0, rf1, rf2, rf3⟩ := HR4.out.facts
  refine (HX4.out.is (Below.refl _ _) j ⟨#[41]⟩ false H41.out).mono ?_
  rintro e w5 ⟨rfl, rfl⟩
  go_wp2_with fail
  refine (rfail_r HX4.out (Below.refl _ _) j).mono ?_
  rintro e w5 ⟨rfl, hb5⟩
  have HB5 := Lib.hid (HB4.out.trans (hb5.mono HB4.out.size))
  have HG5 := Lib.hid (HG4.out.under hb5)
  clear r0 r1 r2 r3 rf0 rf1 rf2 rf3
  obtain ⟨⟨g0, g1, g2, g3⟩, f0, f1, f2, f3⟩ := HG5.out.facts
  go_wp2
  refine bodyPost_ret (v := .agg #[.slice none 0 0, .int .i64 0, .int .i64 (refK l j).1, .int .i64 (refK l j).2]) (results_got Tryz.results128 _ _ w.heap.size _ _ _ _ rfl (HG5.out.set4 _ _ _ _)) rfl ⟨0, by omega, rfl, ?_⟩
  exact below_set4' HB5.out (Nat.le_refl _) _ _ _ _
theorem leaf_fin {w w2 : World} {x0 x1 x2 x3 : Value} (hg : BlkG w2 w.heap.size x0 x1 x2 x3) (hb : Below w.heap.size w w2) (x : Nd) (j : Int) :
    BlkG (((((w2.setCell ⟨w.heap.size, 0, none⟩ (.slice (some ⟨w2.heap.size, 0, none⟩) 1 1)).setCell ⟨w.heap.size, 1, none⟩ (.int .i64 j)).setCell ⟨w.heap.size, 2, none⟩ (.int .i64 0)).setCell ⟨w.heap.size, 3, none⟩ (.int .i64 0)).alloc (.cells #[.int .i64 x.op, .int .i64 x.n, .string x.nm, .string x.inn, .int .i64 x.pl] 65)) w.heap.size (.slice (some ⟨w2.heap.size, 0, none⟩) 1 1) (.int .i64 j) (.int .i64 0) (.int .i64 0) ∧
    (((((w2.setCell ⟨w.heap.size, 0, none⟩ (.slice (some ⟨w2.heap.size, 0, none⟩) 1 1)).setCell ⟨w.heap.size, 1, none⟩ (.int .i64 j)).setCell ⟨w.heap.size, 2, none⟩ (.int .i64 0)).setCell ⟨w.heap.size, 3, none⟩ (.int .i64 0)).alloc (.cells #[.int .i64 x.op, .int .i64 x.n, .string x.nm, .string x.inn, .int .i64 x.pl] 65)).ownsRow w.heap.size 65 5 (.slice (some ⟨w2.heap.size, 0, none⟩) 1 1) 1 (rowN [x]) ∧
    Below w.heap.size w (((((w2.setCell ⟨w.heap.size, 0, none⟩ (.slice (some ⟨w2.heap.size, 0, none⟩) 1 1)).setCell ⟨w.heap.size, 1, none⟩ (.int .i64 j)).setCell ⟨w.heap.size, 2, none⟩ (.int .i64 0)).setCell ⟨w.heap.size, 3, none⟩ (.int .i64 0)).alloc (.cells #[.int .i64 x.op, .int .i64 x.n, .string x.nm, .string x.inn, .int .i64 x.pl] 65)) := by
  have h1 := hg.set4 (.slice (some ⟨w2.heap.size, 0, none⟩) 1 1) (.int .i64 j) (.int .i64 0) (.int .i64 0)
  have h2 := below_set4' hb (Nat.le_refl _) (.slice (some ⟨w2.heap.size, 0, none⟩) 1 1) (.int .i64 j) (.int .i64 0) (.int .i64 0)
  have hs : ((((w2.setCell ⟨w.heap.size, 0, none⟩ (.slice (some ⟨w2.heap.size, 0, none⟩) 1 1)).setCell ⟨w.heap.size, 1, none⟩ (.int .i64 j)).setCell ⟨w.heap.size, 2, none⟩ (.int .i64 0)).setCell ⟨w.heap.size, 3, none⟩ (.int .i64 0)).heap.size = w2.heap.size := by simp [World.setCell]
  generalize ((((w2.setCell ⟨w.heap.size, 0, none⟩ (.slice (some ⟨w2.heap.size, 0, none⟩) 1 1)).setCell ⟨w.heap.size, 1, none⟩ (.int .i64 j)).setCell ⟨w.heap.size, 2, none⟩ (.int .i64 0)).setCell ⟨w.heap.size, 3, none⟩ (.int .i64 0)) = w4 at h1 h2 hs ⊢
  have h3 := own_new w4 x
  rw [hs] at h3
  exact ⟨h1.under ((Below.refl _ _).alloc (Nat.le_refl _) _), own_mono h3 (by rw [← hs]; exact h2.size), h2.alloc h2.size _⟩
theorem TokC.at2 {w : World} {l : List Tok} {g m cap j : Nat} (h : TokC w (.slice (some ⟨g, 0, none⟩) m cap) l) (_hm : m = m) (hj : j < l.length) :
    w.cell? ⟨g, j * 4, none⟩ = some (.int .i64 (tokO l j).1) ∧ w.cell? ⟨g, j * 4 + 1, none⟩ = some (.string (txt l j)) ∧ w.cell? ⟨g, j * 4 + 2, none⟩ = some (.int .i64 (tokO l j).2.2.1) ∧ w.cell? ⟨g, j * 4 + 3, none⟩ = some (.int .i64 (plc l j)) := by
  obtain ⟨ad, cap', hv, hc⟩ := h
  obtain ⟨g', hg, _, k0, k1, k2, k3⟩ := hc j hj
  cases hv
  cases hg
  exact tok_cells hj k0 k1 k2 k3
set_option maxRecDepth 100000 in
set_option maxHeartbeats 4000000 in
theorem prim_num (l : List Tok) (v : Value) (i d : Nat) (w : World) (hx : RCtx l v w) (_hd : d ≤ 30) (h33 : sgAt l i [33] = false) (h40 : sgAt l i [40] = false) (hlt : i < l.length) (hk : (tokO l i).1 = 2) :
    Calls Tryz.prog 128 #[v, .int .i64 i, .int .i64 d] w (RAns d (.ok (.leaf ⟨1, (tokO l i).2.2.1, ⟨#[]⟩, ⟨#[]⟩, plc l i⟩) (i + 1)) w) := by
  have H33 := Lib.hid h33
  have H40 := Lib.hid h40
  clear h33 h40
  have HK := Lib.hid hk
  clear hk
  have HBEG := Lib.hid (beg_any i hx)
  have HX := Lib.hid hx
  obtain ⟨ad, cap, rfl, hc⟩ := hx.ht
  obtain ⟨g, rfl, hg, k0, k1, k2, k3⟩ := hc i hlt
  obtain ⟨c0, c1, c2, c3⟩ := tok_cells hlt k0 k1 k2 k3
  have hn := hx.hn
  obtain ⟨tk, htk⟩ : ∃ t, t = (tokO l i).1 := ⟨_, rfl⟩
  obtain ⟨tn, htn⟩ : ∃ t, t = (tokO l i).2.2.1 := ⟨_, rfl⟩
  obtain ⟨tx, htx⟩ : ∃ t, t = txt l i := ⟨_, rfl⟩
  obtain ⟨tp, htp⟩ : ∃ t, t = plc l i := ⟨_, rfl⟩
  have HTK := Lib.hid htk
  have HTN := Lib.hid htn
  have HTX := Lib.hid htx
  have HTP := Lib.hid htp
  unfold Beg at HBEG
  rw [← htk, ← htn, ← htx, ← htp] at HBEG
  rw [← htk] at c0
  rw [← htx] at c1
  rw [← htn] at c2
  rw [← htp] at c3
  obtain ⟨n, hN⟩ : ∃ n, n = l.length := ⟨_, rfl⟩
  have HNL := Lib.hid hN
  rw [← hN] at hn hlt HBEG HX ⊢
  clear hx hN hc htk htn htx htp k0 k1 k2 k3
  have htk2 : tk = 2 := HTK.out.trans HK.out
  have q2 : ((tk : Int) == 2) = true := by rw [htk2]; rfl
  clear htk2
  go_enter Tryz.func128, Tryz.ntmps128
  go_wp2_with fail
  have HB := HBEG.out
  generalize ((w.alloc (.cells #[.slice none 0 0, .int .i64 0, .int .i64 0, .int .i64 0] 135)).alloc (.cells #[.int .i64 tk, .string tx, .int .i64 tn, .int .i64 tp] 89)) = w2 at HB ⊢
  obtain ⟨hx2, hb2, hg2, ht2, hs2⟩ := HB
  have HX2 := Lib.hid hx2
  have HB2 := Lib.hid hb2
  have HG2 := Lib.hid hg2
  have HT2 := Lib.hid ht2
  obtain ⟨⟨g0, g1, g2, g3⟩, f0, f1, f2, f3⟩ := hg2.facts
  obtain ⟨⟨t0, t1, t2, t3⟩, _⟩ := ht2.facts
  have hgl : g < w2.heap.size := Nat.lt_of_lt_of_le hg hb2.size
  have hl6 : w.heap.size < w2.heap.size := hg2.lt
  clear hx2 hb2 hg2 ht2 hs2 HBEG c0 c1 c2 c3
  refine (HX2.out.is (Below.refl _ _) i ⟨#[40]⟩ false H40.out).mono ?_
  rintro e w3 ⟨rfl, rfl⟩
  go_wp2_with fail
  refine (HX2.out.is (Below.refl _ _) i ⟨#[33]⟩ false H33.out).mono ?_
  rintro e w3 ⟨rfl, rfl⟩
  go_wp2_with fail
  refine (HX2.out.is (Below.refl _ _) i ⟨#[33]⟩ false H33.out).mono ?_
  rintro e w3 ⟨rfl, rfl⟩
  go_wp2_with fail
  refine (HX2.out.is (Below.refl _ _) i ⟨#[40]⟩ false H40.out).mono ?_
  rintro e w3 ⟨rfl, rfl⟩
  go_wp2_with fail
  have HFIN := leaf_fin HG2.out HB2.out ⟨1, tn, ⟨#[]⟩, ⟨#[]⟩, tp⟩ ((i : Int) + 1)
  refine bodyPost_ret (v := .agg #[.slice (some ⟨w2.heap.size, 0, none⟩) 1 1, .int .i64 ((i : Int) + 1), .int .i64 0, .int .i64 0]) (results_got Tryz.results128 _ _ w.heap.size _ _ _ _ rfl HFIN.1) rfl ⟨_, rfl, ?_, HFIN.2.2⟩
  rw [← HTN.out, ← HTP.out]
  exact HFIN.2.1
set_option maxRecDepth 100000 in
set_option maxHeartbeats 4000000 in
theorem prim_reg (l : List Tok) (v : Value) (i d : Nat) (w : World) (hx : RCtx l v w) (_hd : d ≤ 30) (h33 : sgAt l i [33] = false) (h40 : sgAt l i [40] = false) (hlt : i < l.length) (hn1 : nmAt l i = true) (h46 : sgAt l (i + 1) [46] = false) :
    Calls Tryz.prog 128 #[v, .int .i64 i, .int .i64 d] w (RAns d (.ok (.leaf ⟨2, 0, txt l i, ⟨#[]⟩, plc l i⟩) (i + 1)) w) := by
  have H33 := Lib.hid h33
  have H40 := Lib.hid h40
  clear h33 h40
  have HN1 := Lib.hid hn1
  have H46 := Lib.hid h46
  clear hn1 h46
  have HBEG := Lib.hid (beg_any i hx)
  have HX := Lib.hid hx
  obtain ⟨ad, cap, rfl, hc⟩ := hx.ht
  obtain ⟨g, rfl, hg, k0, k1, k2, k3⟩ := hc i hlt
  obtain ⟨c0, c1, c2, c3⟩ := tok_cells hlt k0 k1 k2 k3
  have hn := hx.hn
  obtain ⟨tk, htk⟩ : ∃ t, t = (tokO l i).1 := ⟨_, rfl⟩
  obtain ⟨tn, htn⟩ : ∃ t, t = (tokO l i).2.2.1 := ⟨_, rfl⟩
  obtain ⟨tx, htx⟩ : ∃ t, t = txt l i := ⟨_, rfl⟩
  obtain ⟨tp, htp⟩ : ∃ t, t = plc l i := ⟨_, rfl⟩
  have HTK := Lib.hid htk
  have HTN := Lib.hid htn
  have HTX := Lib.hid htx
  have HTP := Lib.hid htp
  unfold Beg at HBEG
  rw [← htk, ← htn, ← htx, ← htp] at HBEG
  rw [← htk] at c0
  rw [← htx] at c1
  rw [← htn] at c2
  rw [← htp] at c3
  obtain ⟨n, hN⟩ : ∃ n, n = l.length := ⟨_, rfl⟩
  have HNL := Lib.hid hN
  rw [← hN] at hn hlt HBEG HX ⊢
  clear hx hN hc htk htn htx htp k0 k1 k2 k3
  have HSZ : Hid (tx.size ≤ 100000) := by
    have h1 := (HX.out.hok i).2.1
    show tx.size ≤ 100000
    rw [HTX.out, Lib.size_eq]
    exact h1
  have htk1 : tk = 1 := by
    have h := HN1.out
    unfold nmAt at h
    rw [Bool.and_eq_true, decide_eq_true_eq] at h
    exact HTK.out.trans h.1
  have q1 : ((tk : Int) != 1) = false := by rw [htk1]; rfl
  have q2 : ((tk : Int) == 2) = false := by rw [htk1]; rfl
  clear htk1
  have HNM : Hid (nameB tx = true) := by
    have h := HN1.out
    unfold nmAt at h
    rw [Bool.and_eq_true] at h
    show nameB tx = true
    rw [HTX.out]; exact h.2
  go_enter Tryz.func128, Tryz.ntmps128
  go_wp2_with fail
  have HB := HBEG.out
  generalize ((w.alloc (.cells #[.slice none 0 0, .int .i64 0, .int .i64 0, .int .i64 0] 135)).alloc (.cells #[.int .i64 tk, .string tx, .int .i64 tn, .int .i64 tp] 89)) = w2 at HB ⊢
  obtain ⟨hx2, hb2, hg2, ht2, hs2⟩ := HB
  have HX2 := Lib.hid hx2
  have HB2 := Lib.hid hb2
  have HG2 := Lib.hid hg2
  have HT2 := Lib.hid ht2
  obtain ⟨⟨g0, g1, g2, g3⟩, f0, f1, f2, f3⟩ := hg2.facts
  obtain ⟨⟨t0, t1, t2, t3⟩, _⟩ := ht2.facts
  have hgl : g < w2.heap.size := Nat.lt_of_lt_of_le hg hb2.size
  have hl6 : w.heap.size < w2.heap.size := hg2.lt
  clear hx2 hb2 hg2 ht2 hs2 HBEG c0 c1 c2 c3
  refine (HX2.out.is (Below.refl _ _) i ⟨#[40]⟩ false H40.out).mono ?_
  rintro e w3 ⟨rfl, rfl⟩
  go_wp2_with fail
  refine (HX2.out.is (Below.refl _ _) i ⟨#[33]⟩ false H33.out).mono ?_
  rintro e w3 ⟨rfl, rfl⟩
  go_wp2_with fail
  refine (HX2.out.is (Below.refl _ _) i ⟨#[33]⟩ false H33.out).mono ?_
  rintro e w3 ⟨rfl, rfl⟩
  go_wp2_with fail
  refine (HX2.out.is (Below.refl _ _) i ⟨#[40]⟩ false H40.out).mono ?_
  rintro e w3 ⟨rfl, rfl⟩
  go_wp2_with fail
  refine (rname_is2 tx _ HSZ.out true HNM.out).mono ?_
  rintro e w3 ⟨rfl, hb3⟩
  have HB3 := Lib.hid (HB2.out.trans (hb3.mono HB2.out.size))
  have HX3 := Lib.hid (HX2.out.below hb3)
  have HG3 := Lib.hid (HG2.out.under hb3)
  have HT3 := Lib.hid (HT2.out.below hb3 HT2.out.lt)
  have hgl3 : g < w3.heap.size := Nat.lt_of_lt_of_le hgl hb3.size
  have hl63 : w.heap.size < w3.heap.size := HG3.out.lt
  clear g0 g1 g2 g3 f0 f1 f2 f3 t0 t1 t2 t3 HB2 HG2 HT2 HX2 hb3 hgl
  obtain ⟨⟨g0, g1, g2, g3⟩, f0, f1, f2, f3⟩ := HG3.out.facts
  obtain ⟨⟨t0, t1, t2, t3⟩, tf0, tf1, tf2, tf3⟩ := HT3.out.facts
  go_wp2_with fail
  refine (show Calls Tryz.prog 83 #[_, .int .i64 ((i : Int) + 1), .string ⟨#[46]⟩] w3 _ from HX3.out.is (Below.refl _ _) (i + 1) ⟨#[46]⟩ false H46.out).mono ?_
  rintro e w4 ⟨rfl, rfl⟩
  go_wp2_with fail
  have HFIN := leaf_fin HG3.out HB3.out ⟨2, 0, tx, ⟨#[]⟩, tp⟩ ((i : Int) + 1)
  refine bodyPost_ret (v := .agg #[.slice (some ⟨w3.heap.size, 0, none⟩) 1 1, .int .i64 ((i : Int) + 1), .int .i64 0, .int .i64 0]) (results_got Tryz.results128 _ _ w.heap.size _ _ _ _ rfl HFIN.1) rfl ⟨_, rfl, ?_, HFIN.2.2⟩
  rw [← HTX.out, ← HTP.out]
  exact HFIN.2.1
set_option maxRecDepth 100000 in
set_option maxHeartbeats 4000000 in
theorem prim_bad (l : List Tok) (v : Value) (i d : Nat) (w : World) (hx : RCtx l v w) (_hd : d ≤ 30) (h33 : sgAt l i [33] = false) (h40 : sgAt l i [40] = false) (hlt : i < l.length) (hn1 : nmAt l i = false) (hk2 : (tokO l i).1 ≠ 2) :
    Calls Tryz.prog 128 #[v, .int .i64 i, .int .i64 d] w (RAns d (refR l i) w) := by
  have H33 := Lib.hid h33
  have H40 := Lib.hid h40
  clear h33 h40
  have HN1 := Lib.hid hn1
  have HK2 := Lib.hid hk2
  clear hn1 hk2
  unfold refR
  have HBEG := Lib.hid (beg_any i hx)
  have HX := Lib.hid hx
  obtain ⟨ad, cap, rfl, hc⟩ := hx.ht
  obtain ⟨g, rfl, hg, k0, k1, k2, k3⟩ := hc i hlt
  obtain ⟨c0, c1, c2, c3⟩ := tok_cells hlt k0 k1 k2 k3
  have hn := hx.hn
  obtain ⟨tk, htk⟩ : ∃ t, t = (tokO l i).1 := ⟨_, rfl⟩
  obtain ⟨tn, htn⟩ : ∃ t, t = (tokO l i).2.2.1 := ⟨_, rfl⟩
  obtain ⟨tx, htx⟩ : ∃ t, t = txt l i := ⟨_, rfl⟩
  obtain ⟨tp, htp⟩ : ∃ t, t = plc l i := ⟨_, rfl⟩
  have HTK := Lib.hid htk
  have HTN := Lib.hid htn
  have HTX := Lib.hid htx
  have HTP := Lib.hid htp
  unfold Beg at HBEG
  rw [← htk, ← htn, ← htx, ← htp] at HBEG
  rw [← htk] at c0
  rw [← htx] at c1
  rw [← htn] at c2
  rw [← htp] at c3
  obtain ⟨n, hN⟩ : ∃ n, n = l.length := ⟨_, rfl⟩
  have HNL := Lib.hid hN
  rw [← hN] at hn hlt HBEG HX ⊢
  clear hx hN hc htk htn htx htp k0 k1 k2 k3
  have HSZ : Hid (tx.size ≤ 100000) := by
    have h1 := (HX.out.hok i).2.1
    show tx.size ≤ 100000
    rw [HTX.out, Lib.size_eq]
    exact h1
  have htk2 : tk ≠ 2 := fun h => HK2.out (HTK.out.symm.trans h)
  have q2 : ((tk : Int) == 2) = false := by simp; omega
  by_cases h1 : tk = 1
  · have q1 : ((tk : Int) != 1) = false := by rw [h1]; rfl
    have HNM : Hid (nameB tx = false) := by
      have h := HN1.out
      unfold nmAt at h
      rw [← HTK.out, h1] at h
      show nameB tx = false
      rw [HTX.out]
      exact h
    clear htk2 h1
    go_enter Tryz.func128, Tryz.ntmps128
    go_wp2_with fail
    have HB := HBEG.out
    generalize ((w.alloc (.cells #[.slice none 0 0, .int .i64 0, .int .i64 0, .int .i64 0] 135)).alloc (.cells #[.int .i64 tk, .string tx, .int .i64 tn, .int .i64 tp] 89)) = w2 at HB ⊢
    obtain ⟨hx2, hb2, hg2, ht2, hs2⟩ := HB
    have HX2 := Lib.hid hx2
    have HB2 := Lib.hid hb2
    have HG2 := Lib.hid hg2
    have HT2 := Lib.hid ht2
    obtain ⟨⟨g0, g1, g2, g3⟩, f0, f1, f2, f3⟩ := hg2.facts
    obtain ⟨⟨t0, t1, t2, t3⟩, _⟩ := ht2.facts
    have hgl : g < w2.heap.size := Nat.lt_of_lt_of_le hg hb2.size
    have hl6 : w.heap.size < w2.heap.size := hg2.lt
    clear hx2 hb2 hg2 ht2 hs2 HBEG c0 c1 c2 c3
    refine (HX2.out.is (Below.refl _ _) i ⟨#[40]⟩ false H40.out).mono ?_
    rintro e w3 ⟨rfl, rfl⟩
    go_wp2_with fail
    refine (HX2.out.is (Below.refl _ _) i ⟨#[33]⟩ false H33.out).mono ?_
    rintro e w3 ⟨rfl, rfl⟩
    go_wp2_with fail
    refine (HX2.out.is (Below.refl _ _) i ⟨#[33]⟩ false H33.out).mono ?_
    rintro e w3 ⟨rfl, rfl⟩
    go_wp2_with fail
    refine (HX2.out.is (Below.refl _ _) i ⟨#[40]⟩ false H40.out).mono ?_
    rintro e w3 ⟨rfl, rfl⟩
    go_wp2_with fail
    refine (rname_is2 tx _ HSZ.out false HNM.out).mono ?_
    rintro e w3 ⟨rfl, hb3⟩
    have HB3 := Lib.hid (HB2.out.trans (hb3.mono HB2.out.size))
    have HX3 := Lib.hid (HX2.out.below hb3)
    have HG3 := Lib.hid (HG2.out.under hb3)
    have HT3 := Lib.hid (HT2.out.below hb3 HT2.out.lt)
    have hgl3 : g < w3.heap.size := Nat.lt_of_lt_of_le hgl hb3.size
    have hl63 : w.heap.size < w3.heap.size := HG3.out.lt
    clear g0 g1 g2 g3 f0 f1 f2 f3 t0 t1 t2 t3 HB2 HG2 HT2 HX2 hb3 hgl
    obtain ⟨⟨g0, g1, g2, g3⟩, f0, f1, f2, f3⟩ := HG3.out.facts
    obtain ⟨⟨t0, t1, t2, t3⟩, tf0, tf1, tf2, tf3⟩ := HT3.out.facts
    go_wp2_with (go_at_call 135; refine (rfail_r HX3.out (Below.refl _ _) i).mono ?_; rintro e w5 ⟨rfl, hb5⟩; have HB5 := Lib.hid (HB3.out.trans (hb5.mono HB3.out.size)); have HG5 := Lib.hid (HG3.out.under hb5); obtain ⟨⟨y0, y1, y2, y3⟩, yf0, yf1, yf2, yf3⟩ := HG5.out.facts; have hl65 : w.heap.size < w5.heap.size := HG5.out.lt)
    refine bodyPost_ret (v := .agg #[.slice none 0 0, .int .i64 0, .int .i64 (refK l i).1, .int .i64 (refK l i).2]) (results_got Tryz.results128 _ _ w.heap.size _ _ _ _ rfl (HG5.out.set4 _ _ _ _)) rfl ⟨0, by omega, rfl, ?_⟩
    exact below_set4' HB5.out (Nat.le_refl _) _ _ _ _
  · have q1 : ((tk : Int) != 1) = true := by simp; omega
    go_enter Tryz.func128, Tryz.ntmps128
    go_wp2_with fail
    have HB := HBEG.out
    generalize ((w.alloc (.cells #[.slice none 0 0, .int .i64 0, .int .i64 0, .int .i64 0] 135)).alloc (.cells #[.int .i64 tk, .string tx, .int .i64 tn, .int .i64 tp] 89)) = w2 at HB ⊢
    obtain ⟨hx2, hb2, hg2, ht2, hs2⟩ := HB
    have HX2 := Lib.hid hx2
    have HB2 := Lib.hid hb2
    have HG2 := Lib.hid hg2
    have HT2 := Lib.hid ht2
    obtain ⟨⟨g0, g1, g2, g3⟩, f0, f1, f2, f3⟩ := hg2.facts
    obtain ⟨⟨t0, t1, t2, t3⟩, _⟩ := ht2.facts
    have hgl : g < w2.heap.size := Nat.lt_of_lt_of_le hg hb2.size
    have hl6 : w.heap.size < w2.heap.size := hg2.lt
    clear hx2 hb2 hg2 ht2 hs2 HBEG c0 c1 c2 c3
    refine (HX2.out.is (Below.refl _ _) i ⟨#[40]⟩ false H40.out).mono ?_
    rintro e w3 ⟨rfl, rfl⟩
    go_wp2_with fail
    refine (HX2.out.is (Below.refl _ _) i ⟨#[33]⟩ false H33.out).mono ?_
    rintro e w3 ⟨rfl, rfl⟩
    go_wp2_with fail
    refine (HX2.out.is (Below.refl _ _) i ⟨#[33]⟩ false H33.out).mono ?_
    rintro e w3 ⟨rfl, rfl⟩
    go_wp2_with fail
    refine (HX2.out.is (Below.refl _ _) i ⟨#[40]⟩ false H40.out).mono ?_
    rintro e w3 ⟨rfl, rfl⟩
    go_wp2_with (go_at_call 135; refine (rfail_r HX2.out (Below.refl _ _) i).mono ?_; rintro e w5 ⟨rfl, hb5⟩; have HB5 := Lib.hid (HB2.out.trans (hb5.mono HB2.out.size)); have HG5 := Lib.hid (HG2.out.under hb5); obtain ⟨⟨y0, y1, y2, y3⟩, yf0, yf1, yf2, yf3⟩ := HG5.out.facts; have hl65 : w.heap.size < w5.heap.size := HG5.out.lt)
    refine bodyPost_ret (v := .agg #[.slice none 0 0, .int .i64 0, .int .i64 (refK l i).1, .int .i64 (refK l i).2]) (results_got Tryz.results128 _ _ w.heap.size _ _ _ _ rfl (HG5.out.set4 _ _ _ _)) rfl ⟨0, by omega, rfl, ?_⟩
    exact below_set4' HB5.out (Nat.le_refl _) _ _ _ _
set_option maxRecDepth 100000 in
set_option maxHeartbeats 4000000 in
theorem prim_named_a (l : List Tok) (v : Value) (i d : Nat) (w : World) (hx : RCtx l v w) (_hd : d ≤ 30) (h33 : sgAt l i [33] = false) (h40 : sgAt l i [40] = false) (hlt : i < l.length) (hn1 : nmAt l i = true) (h46 : sgAt l (i + 1) [46] = true) (hlt2 : l.length ≤ i + 2) :
    Calls Tryz.prog 128 #[v, .int .i64 i, .int .i64 d] w (RAns d (refR l (i + 2)) w) := by
  have H33 := Lib.hid h33
  have H40 := Lib.hid h40
  clear h33 h40
  have HN1 := Lib.hid hn1
  have H46 := Lib.hid h46
  clear hn1 h46
  unfold refR
  have HBEG := Lib.hid (beg_any i hx)
  have HX := Lib.hid hx
  obtain ⟨ad, cap, rfl, hc⟩ := hx.ht
  obtain ⟨g, rfl, hg, k0, k1, k2, k3⟩ := hc i hlt
  obtain ⟨c0, c1, c2, c3⟩ := tok_cells hlt k0 k1 k2 k3
  have hn := hx.hn
  obtain ⟨tk, htk⟩ : ∃ t, t = (tokO l i).1 := ⟨_, rfl⟩
  obtain ⟨tn, htn⟩ : ∃ t, t = (tokO l i).2.2.1 := ⟨_, rfl⟩
  obtain ⟨tx, htx⟩ : ∃ t, t = txt l i := ⟨_, rfl⟩
  obtain ⟨tp, htp⟩ : ∃ t, t = plc l i := ⟨_, rfl⟩
  have HTK := Lib.hid htk
  have HTN := Lib.hid htn
  have HTX := Lib.hid htx
  have HTP := Lib.hid htp
  unfold Beg at HBEG
  rw [← htk, ← htn, ← htx, ← htp] at HBEG
  rw [← htk] at c0
  rw [← htx] at c1
  rw [← htn] at c2
  rw [← htp] at c3
  obtain ⟨n, hN⟩ : ∃ n, n = l.length := ⟨_, rfl⟩
  have HNL := Lib.hid hN
  rw [← hN] at hn hlt HBEG HX hlt2 ⊢
  clear hx hN hc htk htn htx htp k0 k1 k2 k3
  have HSZ : Hid (tx.size ≤ 100000) := by
    have h1 := (HX.out.hok i).2.1
    show tx.size ≤ 100000
    rw [HTX.out, Lib.size_eq]
    exact h1
  have htk1 : tk = 1 := by
    have h := HN1.out
    unfold nmAt at h
    rw [Bool.and_eq_true, decide_eq_true_eq] at h
    exact HTK.out.trans h.1
  have q1 : ((tk : Int) != 1) = false := by rw [htk1]; rfl
  have q2 : ((tk : Int) == 2) = false := by rw [htk1]; rfl
  clear htk1
  have HNM : Hid (nameB tx = true) := by
    have h := HN1.out
    unfold nmAt at h
    rw [Bool.and_eq_true] at h
    show nameB tx = true
    rw [HTX.out]; exact h.2
  go_enter Tryz.func128, Tryz.ntmps128
  go_wp2_with fail
  have HB := HBEG.out
  generalize ((w.alloc (.cells #[.slice none 0 0, .int .i64 0, .int .i64 0, .int .i64 0] 135)).alloc (.cells #[.int .i64 tk, .string tx, .int .i64 tn, .int .i64 tp] 89)) = w2 at HB ⊢
  obtain ⟨hx2, hb2, hg2, ht2, hs2⟩ := HB
  have HX2 := Lib.hid hx2
  have HB2 := Lib.hid hb2
  have HG2 := Lib.hid hg2
  have HT2 := Lib.hid ht2
  obtain ⟨⟨g0, g1, g2, g3⟩, f0, f1, f2, f3⟩ := hg2.facts
  obtain ⟨⟨t0, t1, t2, t3⟩, _⟩ := ht2.facts
  have hgl : g < w2.heap.size := Nat.lt_of_lt_of_le hg hb2.size
  have hl6 : w.heap.size < w2.heap.size := hg2.lt
  clear hx2 hb2 hg2 ht2 hs2 HBEG c0 c1 c2 c3
  refine (HX2.out.is (Below.refl _ _) i ⟨#[40]⟩ false H40.out).mono ?_
  rintro e w3 ⟨rfl, rfl⟩
  go_wp2_with fail
  refine (HX2.out.is (Below.refl _ _) i ⟨#[33]⟩ false H33.out).mono ?_
  rintro e w3 ⟨rfl, rfl⟩
  go_wp2_with fail
  refine (HX2.out.is (Below.refl _ _) i ⟨#[33]⟩ false H33.out).mono ?_
  rintro e w3 ⟨rfl, rfl⟩
  go_wp2_with fail
  refine (HX2.out.is (Below.refl _ _) i ⟨#[40]⟩ false H40.out).mono ?_
  rintro e w3 ⟨rfl, rfl⟩
  go_wp2_with fail
  refine (rname_is2 tx _ HSZ.out true HNM.out).mono ?_
  rintro e w3 ⟨rfl, hb3⟩
  have HB3 := Lib.hid (HB2.out.trans (hb3.mono HB2.out.size))
  have HX3 := Lib.hid (HX2.out.below hb3)
  have HG3 := Lib.hid (HG2.out.under hb3)
  have HT3 := Lib.hid (HT2.out.below hb3 HT2.out.lt)
  have hgl3 : g < w3.heap.size := Nat.lt_of_lt_of_le hgl hb3.size
  have hl63 : w.heap.size < w3.heap.size := HG3.out.lt
  clear g0 g1 g2 g3 f0 f1 f2 f3 t0 t1 t2 t3 HB2 HG2 HT2 HX2 hb3 hgl
  obtain ⟨⟨g0, g1, g2, g3⟩, f0, f1, f2, f3⟩ := HG3.out.facts
  obtain ⟨⟨t0, t1, t2, t3⟩, tf0, tf1, tf2, tf3⟩ := HT3.out.facts
  go_wp2_with fail
  refine (show Calls Tryz.prog 83 #[_, .int .i64 ((i : Int) + 1), .string ⟨#[46]⟩] w3 _ from HX3.out.is (Below.refl _ _) (i + 1) ⟨#[46]⟩ true H46.out).mono ?_
  rintro e w4 ⟨rfl, rfl⟩
  go_wp2_with (go_at_call 135; refine (show Calls Tryz.prog 135 #[_, .int .i64 ((i : Int) + 2)] w3 _ from rfail_r HX3.out (Below.refl _ _) (i + 2)).mono ?_; rintro e w5 ⟨rfl, hb5⟩; have HB5 := Lib.hid (HB3.out.trans (hb5.mono HB3.out.size)); have HG5 := Lib.hid (HG3.out.under hb5); obtain ⟨⟨y0, y1, y2, y3⟩, yf0, yf1, yf2, yf3⟩ := HG5.out.facts; have hl65 : w.heap.size < w5.heap.size := HG5.out.lt)
  refine bodyPost_ret (v := .agg #[.slice none 0 0, .int .i64 0, .int .i64 (refK l (i + 2)).1, .int .i64 (refK l (i + 2)).2]) (results_got Tryz.results128 _ _ w.heap.size _ _ _ _ rfl (HG5.out.set4 _ _ _ _)) rfl ⟨0, by omega, rfl, ?_⟩
  exact below_set4' HB5.out (Nat.le_refl _) _ _ _ _
set_option maxRecDepth 100000 in
set_option maxHeartbeats 4000000 in
theorem prim_named_b (l : List Tok) (v : Value) (i d : Nat) (w : World) (hx : RCtx l v w) (_hd : d ≤ 30) (h33 : sgAt l i [33] = false) (h40 : sgAt l i [40] = false) (hlt : i < l.length) (hn1 : nmAt l i = true) (h46 : sgAt l (i + 1) [46] = true) (hlt2 : i + 2 < l.length) (hk2 : (tokO l (i + 2)).1 ≠ 1) :
    Calls Tryz.prog 128 #[v, .int .i64 i, .int .i64 d] w (RAns d (refR l (i + 2)) w) := by
  have H33 := Lib.hid h33
  have H40 := Lib.hid h40
  clear h33 h40
  have HN1 := Lib.hid hn1
  have H46 := Lib.hid h46
  clear hn1 h46
  have HLT2 := Lib.hid hlt2
  have HK2 := Lib.hid hk2
  clear hk2
  unfold refR
  have HBEG := Lib.hid (beg_any i hx)
  have HX := Lib.hid hx
  obtain ⟨ad, cap, rfl, hc⟩ := hx.ht
  obtain ⟨g, rfl, hg, k0, k1, k2, k3⟩ := hc i hlt
  obtain ⟨c0, c1, c2, c3⟩ := tok_cells hlt k0 k1 k2 k3
  have hn := hx.hn
  obtain ⟨tk, htk⟩ : ∃ t, t = (tokO l i).1 := ⟨_, rfl⟩
  obtain ⟨tn, htn⟩ : ∃ t, t = (tokO l i).2.2.1 := ⟨_, rfl⟩
  obtain ⟨tx, htx⟩ : ∃ t, t = txt l i := ⟨_, rfl⟩
  obtain ⟨tp, htp⟩ : ∃ t, t = plc l i := ⟨_, rfl⟩
  have HTK := Lib.hid htk
  have HTN := Lib.hid htn
  have HTX := Lib.hid htx
  have HTP := Lib.hid htp
  unfold Beg at HBEG
  rw [← htk, ← htn, ← htx, ← htp] at HBEG
  rw [← htk] at c0
  rw [← htx] at c1
  rw [← htn] at c2
  rw [← htp] at c3
  obtain ⟨n, hN⟩ : ∃ n, n = l.length := ⟨_, rfl⟩
  have HNL := Lib.hid hN
  rw [← hN] at hn hlt HBEG HX hlt2 ⊢
  clear hx hN hc htk htn htx htp k0 k1 k2 k3
  have HSZ : Hid (tx.size ≤ 100000) := by
    have h1 := (HX.out.hok i).2.1
    show tx.size ≤ 100000
    rw [HTX.out, Lib.size_eq]
    exact h1
  have htk1 : tk = 1 := by
    have h := HN1.out
    unfold nmAt at h
    rw [Bool.and_eq_true, decide_eq_true_eq] at h
    exact HTK.out.trans h.1
  have q1 : ((tk : Int) != 1) = false := by rw [htk1]; rfl
  have q2 : ((tk : Int) == 2) = false := by rw [htk1]; rfl
  clear htk1
  have HNM : Hid (nameB tx = true) := by
    have h := HN1.out
    unfold nmAt at h
    rw [Bool.and_eq_true] at h
    show nameB tx = true
    rw [HTX.out]; exact h.2
  obtain ⟨yk, hyk⟩ : ∃ t, t = (tokO l (i + 2)).1 := ⟨_, rfl⟩
  obtain ⟨yx, hyx⟩ : ∃ t, t = txt l (i + 2) := ⟨_, rfl⟩
  have HYK := Lib.hid hyk
  have HYX := Lib.hid hyx
  have q5 : ((yk : Int) != 1) = true := by
    have h := HK2.out
    rw [← hyk] at h
    simp; omega
  clear hyk hyx
  go_enter Tryz.func128, Tryz.ntmps128
  go_wp2_with fail
  have HB := HBEG.out
  generalize ((w.alloc (.cells #[.slice none 0 0, .int .i64 0, .int .i64 0, .int .i64 0] 135)).alloc (.cells #[.int .i64 tk, .string tx, .int .i64 tn, .int .i64 tp] 89)) = w2 at HB ⊢
  obtain ⟨hx2, hb2, hg2, ht2, hs2⟩ := HB
  have HX2 := Lib.hid hx2
  have HB2 := Lib.hid hb2
  have HG2 := Lib.hid hg2
  have HT2 := Lib.hid ht2
  obtain ⟨⟨g0, g1, g2, g3⟩, f0, f1, f2, f3⟩ := hg2.facts
  obtain ⟨⟨t0, t1, t2, t3⟩, _⟩ := ht2.facts
  have hgl : g < w2.heap.size := Nat.lt_of_lt_of_le hg hb2.size
  have hl6 : w.heap.size < w2.heap.size := hg2.lt
  clear hx2 hb2 hg2 ht2 hs2 HBEG c0 c1 c2 c3
  refine (HX2.out.is (Below.refl _ _) i ⟨#[40]⟩ false H40.out).mono ?_
  rintro e w3 ⟨rfl, rfl⟩
  go_wp2_with fail
  refine (HX2.out.is (Below.refl _ _) i ⟨#[33]⟩ false H33.out).mono ?_
  rintro e w3 ⟨rfl, rfl⟩
  go_wp2_with fail
  refine (HX2.out.is (Below.refl _ _) i ⟨#[33]⟩ false H33.out).mono ?_
  rintro e w3 ⟨rfl, rfl⟩
  go_wp2_with fail
  refine (HX2.out.is (Below.refl _ _) i ⟨#[40]⟩ false H40.out).mono ?_
  rintro e w3 ⟨rfl, rfl⟩
  go_wp2_with fail
  refine (rname_is2 tx _ HSZ.out true HNM.out).mono ?_
  rintro e w3 ⟨rfl, hb3⟩
  have HB3 := Lib.hid (HB2.out.trans (hb3.mono HB2.out.size))
  have HX3 := Lib.hid (HX2.out.below hb3)
  have HG3 := Lib.hid (HG2.out.under hb3)
  have HT3 := Lib.hid (HT2.out.below hb3 HT2.out.lt)
  have hgl3 : g < w3.heap.size := Nat.lt_of_lt_of_le hgl hb3.size
  have hl63 : w.heap.size < w3.heap.size := HG3.out.lt
  clear g0 g1 g2 g3 f0 f1 f2 f3 t0 t1 t2 t3 HB2 HG2 HT2 HX2 hb3 hgl
  obtain ⟨⟨g0, g1, g2, g3⟩, f0, f1, f2, f3⟩ := HG3.out.facts
  obtain ⟨⟨t0, t1, t2, t3⟩, tf0, tf1, tf2, tf3⟩ := HT3.out.facts
  go_wp2_with fail
  obtain ⟨e0, e1, e2, e3⟩ := (HX3.out.ht.at2 rfl HLT2.out : _ ∧ _ ∧ _ ∧ _)
  rw [← HYK.out] at e0
  rw [← HYX.out] at e1
  clear e2 e3
  refine (show Calls Tryz.prog 83 #[_, .int .i64 ((i : Int) + 1), .string ⟨#[46]⟩] w3 _ from HX3.out.is (Below.refl _ _) (i + 1) ⟨#[46]⟩ true H46.out).mono ?_
  rintro e w4 ⟨rfl, rfl⟩
  go_wp2_with (go_at_call 135; refine (show Calls Tryz.prog 135 #[_, .int .i64 ((i : Int) + 2)] w3 _ from rfail_r HX3.out (Below.refl _ _) (i + 2)).mono ?_; rintro e w5 ⟨rfl, hb5⟩; have HB5 := Lib.hid (HB3.out.trans (hb5.mono HB3.out.size)); have HG5 := Lib.hid (HG3.out.under hb5); obtain ⟨⟨y0, y1, y2, y3⟩, yf0, yf1, yf2, yf3⟩ := HG5.out.facts; have hl65 : w.heap.size < w5.heap.size := HG5.out.lt)
  refine bodyPost_ret (v := .agg #[.slice none 0 0, .int .i64 0, .int .i64 (refK l (i + 2)).1, .int .i64 (refK l (i + 2)).2]) (results_got Tryz.results128 _ _ w.heap.size _ _ _ _ rfl (HG5.out.set4 _ _ _ _)) rfl ⟨0, by omega, rfl, ?_⟩
  exact below_set4' HB5.out (Nat.le_refl _) _ _ _ _
set_option maxRecDepth 100000 in
set_option maxHeartbeats 4000000 in
theorem prim_named_c (l : List Tok) (v : Value) (i d : Nat) (w : World) (hx : RCtx l v w) (_hd : d ≤ 30) (h33 : sgAt l i [33] = false) (h40 : sgAt l i [40] = false) (hlt : i < l.length) (hn1 : nmAt l i = true) (h46 : sgAt l (i + 1) [46] = true) (hlt2 : i + 2 < l.length) (hk2 : (tokO l (i + 2)).1 = 1) (hn2 : nmAt l (i + 2) = false) :
    Calls Tryz.prog 128 #[v, .int .i64 i, .int .i64 d] w (RAns d (refR l (i + 2)) w) := by
  have H33 := Lib.hid h33
  have H40 := Lib.hid h40
  clear h33 h40
  have HN1 := Lib.hid hn1
  have H46 := Lib.hid h46
  clear hn1 h46
  have HLT2 := Lib.hid hlt2
  have HK2 := Lib.hid hk2
  have HN2 := Lib.hid hn2
  clear hk2 hn2
  unfold refR
  have HBEG := Lib.hid (beg_any i hx)
  have HX := Lib.hid hx
  obtain ⟨ad, cap, rfl, hc⟩ := hx.ht
  obtain ⟨g, rfl, hg, k0, k1, k2, k3⟩ := hc i hlt
  obtain ⟨c0, c1, c2, c3⟩ := tok_cells hlt k0 k1 k2 k3
  have hn := hx.hn
  obtain ⟨tk, htk⟩ : ∃ t, t = (tokO l i).1 := ⟨_, rfl⟩
  obtain ⟨tn, htn⟩ : ∃ t, t = (tokO l i).2.2.1 := ⟨_, rfl⟩
  obtain ⟨tx, htx⟩ : ∃ t, t = txt l i := ⟨_, rfl⟩
  obtain ⟨tp, htp⟩ : ∃ t, t = plc l i := ⟨_, rfl⟩
  have HTK := Lib.hid htk
  have HTN := Lib.hid htn
  have HTX := Lib.hid htx
  have HTP := Lib.hid htp
  unfold Beg at HBEG
  rw [← htk, ← htn, ← htx, ← htp] at HBEG
  rw [← htk] at c0
  rw [← htx] at c1
  rw [← htn] at c2
  rw [← htp] at c3
  obtain ⟨n, hN⟩ : ∃ n, n = l.length := ⟨_, rfl⟩
  have HNL := Lib.hid hN
  rw [← hN] at hn hlt HBEG HX hlt2 ⊢
  clear hx hN hc htk htn htx htp k0 k1 k2 k3
  have HSZ : Hid (tx.size ≤ 100000) := by
    have h1 := (HX.out.hok i).2.1
    show tx.size ≤ 100000
    rw [HTX.out, Lib.size_eq]
    exact h1
  have htk1 : tk = 1 := by
    have h := HN1.out
    unfold nmAt at h
    rw [Bool.and_eq_true, decide_eq_true_eq] at h
    exact HTK.out.trans h.1
  have q1 : ((tk : Int) != 1) = false := by rw [htk1]; rfl
  have q2 : ((tk : Int) == 2) = false := by rw [htk1]; rfl
  clear htk1
  have HNM : Hid (nameB tx = true) := by
    have h := HN1.out
    unfold nmAt at h
    rw [Bool.and_eq_true] at h
    show nameB tx = true
    rw [HTX.out]; exact h.2
  obtain ⟨yk, hyk⟩ : ∃ t, t = (tokO l (i + 2)).1 := ⟨_, rfl⟩
  obtain ⟨yx, hyx⟩ : ∃ t, t = txt l (i + 2) := ⟨_, rfl⟩
  have HYK := Lib.hid hyk
  have HYX := Lib.hid hyx
  have q5 : ((yk : Int) != 1) = false := by
    have h := HK2.out
    rw [← hyk] at h
    rw [h]; rfl
  have HNM2 : Hid (nameB yx = false) := by
    have h := HN2.out
    unfold nmAt at h
    rw [HK2.out] at h
    show nameB yx = false
    rw [hyx]; exact h
  clear hyk hyx
  have HSZ2 : Hid (yx.size ≤ 100000) := by
    have h1 := (HX.out.hok (i + 2)).2.1
    show yx.size ≤ 100000
    rw [HYX.out, Lib.size_eq]
    exact h1
  go_enter Tryz.func128, Tryz.ntmps128
  go_wp2_with fail
  have HB := HBEG.out
  generalize ((w.alloc (.cells #[.slice none 0 0, .int .i64 0, .int .i64 0, .int .i64 0] 135)).alloc (.cells #[.int .i64 tk, .string tx, .int .i64 tn, .int .i64 tp] 89)) = w2 at HB ⊢
  obtain ⟨hx2, hb2, hg2, ht2, hs2⟩ := HB
  have HX2 := Lib.hid hx2
  have HB2 := Lib.hid hb2
  have HG2 := Lib.hid hg2
  have HT2 := Lib.hid ht2
  obtain ⟨⟨g0, g1, g2, g3⟩, f0, f1, f2, f3⟩ := hg2.facts
  obtain ⟨⟨t0, t1, t2, t3⟩, _⟩ := ht2.facts
  have hgl : g < w2.heap.size := Nat.lt_of_lt_of_le hg hb2.size
  have hl6 : w.heap.size < w2.heap.size := hg2.lt
  clear hx2 hb2 hg2 ht2 hs2 HBEG c0 c1 c2 c3
  refine (HX2.out.is (Below.refl _ _) i ⟨#[40]⟩ false H40.out).mono ?_
  rintro e w3 ⟨rfl, rfl⟩
  go_wp2_with fail
  refine (HX2.out.is (Below.refl _ _) i ⟨#[33]⟩ false H33.out).mono ?_
  rintro e w3 ⟨rfl, rfl⟩
  go_wp2_with fail
  refine (HX2.out.is (Below.refl _ _) i ⟨#[33]⟩ false H33.out).mono ?_
  rintro e w3 ⟨rfl, rfl⟩
  go_wp2_with fail
  refine (HX2.out.is (Below.refl _ _) i ⟨#[40]⟩ false H40.out).mono ?_
  rintro e w3 ⟨rfl, rfl⟩
  go_wp2_with fail
  refine (rname_is2 tx _ HSZ.out true HNM.out).mono ?_
  rintro e w3 ⟨rfl, hb3⟩
  have HB3 := Lib.hid (HB2.out.trans (hb3.mono HB2.out.size))
  have HX3 := Lib.hid (HX2.out.below hb3)
  have HG3 := Lib.hid (HG2.out.under hb3)
  have HT3 := Lib.hid (HT2.out.below hb3 HT2.out.lt)
  have hgl3 : g < w3.heap.size := Nat.lt_of_lt_of_le hgl hb3.size
  have hl63 : w.heap.size < w3.heap.size := HG3.out.lt
  clear g0 g1 g2 g3 f0 f1 f2 f3 t0 t1 t2 t3 HB2 HG2 HT2 HX2 hb3 hgl
  obtain ⟨⟨g0, g1, g2, g3⟩, f0, f1, f2, f3⟩ := HG3.out.facts
  obtain ⟨⟨t0, t1, t2, t3⟩, tf0, tf1, tf2, tf3⟩ := HT3.out.facts
  go_wp2_with fail
  obtain ⟨e0, e1, e2, e3⟩ := (HX3.out.ht.at2 rfl HLT2.out : _ ∧ _ ∧ _ ∧ _)
  rw [← HYK.out] at e0
  rw [← HYX.out] at e1
  clear e2 e3
  refine (show Calls Tryz.prog 83 #[_, .int .i64 ((i : Int) + 1), .string ⟨#[46]⟩] w3 _ from HX3.out.is (Below.refl _ _) (i + 1) ⟨#[46]⟩ true H46.out).mono ?_
  rintro e w4 ⟨rfl, rfl⟩
  go_wp2_with fail
  refine (rname_is2 yx _ HSZ2.out false HNM2.out).mono ?_
  rintro e w4 ⟨rfl, hb4⟩
  have HB4 := Lib.hid (HB3.out.trans (hb4.mono HB3.out.size))
  have HX4 := Lib.hid (HX3.out.below hb4)
  have HG4 := Lib.hid (HG3.out.under hb4)
  have HT4 := Lib.hid (HT3.out.below hb4 HT3.out.lt)
  have hgl4 : g < w4.heap.size := Nat.lt_of_lt_of_le hgl3 hb4.size
  have hl64 : w.heap.size < w4.heap.size := HG4.out.lt
  obtain ⟨d0, d1, d2, d3⟩ := (HX4.out.ht.at2 rfl HLT2.out : _ ∧ _ ∧ _ ∧ _)
  rw [← HYX.out] at d1
  clear g0 g1 g2 g3 f0 f1 f2 f3 t0 t1 t2 t3 tf0 tf1 tf2 tf3 HB3 HG3 HT3 HX3 hb4 hgl3 hl63 e0 e1 d0 d2 d3
  obtain ⟨⟨g0, g1, g2, g3⟩, f0, f1, f2, f3⟩ := HG4.out.facts
  obtain ⟨⟨t0, t1, t2, t3⟩, tf0, tf1, tf2, tf3⟩ := HT4.out.facts
  go_wp2_with (go_at_call 135; refine (show Calls Tryz.prog 135 #[_, .int .i64 ((i : Int) + 2)] w4 _ from rfail_r HX4.out (Below.refl _ _) (i + 2)).mono ?_; rintro e w5 ⟨rfl, hb5⟩; have HB5 := Lib.hid (HB4.out.trans (hb5.mono HB4.out.size)); have HG5 := Lib.hid (HG4.out.under hb5); obtain ⟨⟨y0, y1, y2, y3⟩, yf0, yf1, yf2, yf3⟩ := HG5.out.facts; have hl65 : w.heap.size < w5.heap.size := HG5.out.lt)
  refine bodyPost_ret (v := .agg #[.slice none 0 0, .int .i64 0, .int .i64 (refK l (i + 2)).1, .int .i64 (refK l (i + 2)).2]) (results_got Tryz.results128 _ _ w.heap.size _ _ _ _ rfl (HG5.out.set4 _ _ _ _)) rfl ⟨0, by omega, rfl, ?_⟩
  exact below_set4' HB5.out (Nat.le_refl _) _ _ _ _
set_option maxRecDepth 100000 in
set_option maxHeartbeats 4000000 in
theorem prim_of (l : List Tok) (v : Value) (i d : Nat) (w : World) (hx : RCtx l v w) (_hd : d ≤ 30) (h33 : sgAt l i [33] = false) (h40 : sgAt l i [40] = false) (hlt : i < l.length) (hn1 : nmAt l i = true) (h46 : sgAt l (i + 1) [46] = true) (hlt2 : i + 2 < l.length) (hn2 : nmAt l (i + 2) = true) :
    Calls Tryz.prog 128 #[v, .int .i64 i, .int .i64 d] w (RAns d (.ok (.leaf ⟨4, 0, txt l (i + 2), txt l i, plc l i⟩) (i + 3)) w) := by
  have H33 := Lib.hid h33
  have H40 := Lib.hid h40
  clear h33 h40
  have HN1 := Lib.hid hn1
  have H46 := Lib.hid h46
  clear hn1 h46
  have HLT2 := Lib.hid hlt2
  have HN2 := Lib.hid hn2
  clear hn2
  have HBEG := Lib.hid (beg_any i hx)
  have HX := Lib.hid hx
  obtain ⟨ad, cap, rfl, hc⟩ := hx.ht
  obtain ⟨g, rfl, hg, k0, k1, k2, k3⟩ := hc i hlt
  obtain ⟨c0, c1, c2, c3⟩ := tok_cells hlt k0 k1 k2 k3
  have hn := hx.hn
  obtain ⟨tk, htk⟩ : ∃ t, t = (tokO l i).1 := ⟨_, rfl⟩
  obtain ⟨tn, htn⟩ : ∃ t, t = (tokO l i).2.2.1 := ⟨_, rfl⟩
  obtain ⟨tx, htx⟩ : ∃ t, t = txt l i := ⟨_, rfl⟩
  obtain ⟨tp, htp⟩ : ∃ t, t = plc l i := ⟨_, rfl⟩
  have HTK := Lib.hid htk
  have HTN := Lib.hid htn
  have HTX := Lib.hid htx
  have HTP := Lib.hid htp
  unfold Beg at HBEG
  rw [← htk, ← htn, ← htx, ← htp] at HBEG
  rw [← htk] at c0
  rw [← htx] at c1
  rw [← htn] at c2
  rw [← htp] at c3
  obtain ⟨n, hN⟩ : ∃ n, n = l.length := ⟨_, rfl⟩
  have HNL := Lib.hid hN
  rw [← hN] at hn hlt HBEG HX hlt2 ⊢
  clear hx hN hc htk htn htx htp k0 k1 k2 k3
  have HSZ : Hid (tx.size ≤ 100000) := by
    have h1 := (HX.out.hok i).2.1
    show tx.size ≤ 100000
    rw [HTX.out, Lib.size_eq]
    exact h1
  have htk1 : tk = 1 := by
    have h := HN1.out
    unfold nmAt at h
    rw [Bool.and_eq_true, decide_eq_true_eq] at h
    exact HTK.out.trans h.1
  have q1 : ((tk : Int) != 1) = false := by rw [htk1]; rfl
  have q2 : ((tk : Int) == 2) = false := by rw [htk1]; rfl
  clear htk1
  have HNM : Hid (nameB tx = true) := by
    have h := HN1.out
    unfold nmAt at h
    rw [Bool.and_eq_true] at h
    show nameB tx = true
    rw [HTX.out]; exact h.2
  obtain ⟨yk, hyk⟩ : ∃ t, t = (tokO l (i + 2)).1 := ⟨_, rfl⟩
  obtain ⟨yx, hyx⟩ : ∃ t, t = txt l (i + 2) := ⟨_, rfl⟩
  have HYK := Lib.hid hyk
  have HYX := Lib.hid hyx
  have q5 : ((yk : Int) != 1) = false := by
    have h := HN2.out
    unfold nmAt at h
    rw [Bool.and_eq_true, decide_eq_true_eq, ← hyk] at h
    rw [h.1]; rfl
  have HNM2 : Hid (nameB yx = true) := by
    have h := HN2.out
    unfold nmAt at h
    rw [Bool.and_eq_true] at h
    show nameB yx = true
    rw [hyx]; exact h.2
  clear hyk hyx
  have HSZ2 : Hid (yx.size ≤ 100000) := by
    have h1 := (HX.out.hok (i + 2)).2.1
    show yx.size ≤ 100000
    rw [HYX.out, Lib.size_eq]
    exact h1
  go_enter Tryz.func128, Tryz.ntmps128
  go_wp2_with fail
  have HB := HBEG.out
  generalize ((w.alloc (.cells #[.slice none 0 0, .int .i64 0, .int .i64 0, .int .i64 0] 135)).alloc (.cells #[.int .i64 tk, .string tx, .int .i64 tn, .int .i64 tp] 89)) = w2 at HB ⊢
  obtain ⟨hx2, hb2, hg2, ht2, hs2⟩ := HB
  have HX2 := Lib.hid hx2
  have HB2 := Lib.hid hb2
  have HG2 := Lib.hid hg2
  have HT2 := Lib.hid ht2
  obtain ⟨⟨g0, g1, g2, g3⟩, f0, f1, f2, f3⟩ := hg2.facts
  obtain ⟨⟨t0, t1, t2, t3⟩, _⟩ := ht2.facts
  have hgl : g < w2.heap.size := Nat.lt_of_lt_of_le hg hb2.size
  have hl6 : w.heap.size < w2.heap.size := hg2.lt
  clear hx2 hb2 hg2 ht2 hs2 HBEG c0 c1 c2 c3
  refine (HX2.out.is (Below.refl _ _) i ⟨#[40]⟩ false H40.out).mono ?_
  rintro e w3 ⟨rfl, rfl⟩
  go_wp2_with fail
  refine (HX2.out.is (Below.refl _ _) i ⟨#[33]⟩ false H33.out).mono ?_
  rintro e w3 ⟨rfl, rfl⟩
  go_wp2_with fail
  refine (HX2.out.is (Below.refl _ _) i ⟨#[33]⟩ false H33.out).mono ?_
  rintro e w3 ⟨rfl, rfl⟩
  go_wp2_with fail
  refine (HX2.out.is (Below.refl _ _) i ⟨#[40]⟩ false H40.out).mono ?_
  rintro e w3 ⟨rfl, rfl⟩
  go_wp2_with fail
  refine (rname_is2 tx _ HSZ.out true HNM.out).mono ?_
  rintro e w3 ⟨rfl, hb3⟩
  have HB3 := Lib.hid (HB2.out.trans (hb3.mono HB2.out.size))
  have HX3 := Lib.hid (HX2.out.below hb3)
  have HG3 := Lib.hid (HG2.out.under hb3)
  have HT3 := Lib.hid (HT2.out.below hb3 HT2.out.lt)
  have hgl3 : g < w3.heap.size := Nat.lt_of_lt_of_le hgl hb3.size
  have hl63 : w.heap.size < w3.heap.size := HG3.out.lt
  clear g0 g1 g2 g3 f0 f1 f2 f3 t0 t1 t2 t3 HB2 HG2 HT2 HX2 hb3 hgl
  obtain ⟨⟨g0, g1, g2, g3⟩, f0, f1, f2, f3⟩ := HG3.out.facts
  obtain ⟨⟨t0, t1, t2, t3⟩, tf0, tf1, tf2, tf3⟩ := HT3.out.facts
  go_wp2_with fail
  obtain ⟨e0, e1, e2, e3⟩ := (HX3.out.ht.at2 rfl HLT2.out : _ ∧ _ ∧ _ ∧ _)
  rw [← HYK.out] at e0
  rw [← HYX.out] at e1
  clear e2 e3
  refine (show Calls Tryz.prog 83 #[_, .int .i64 ((i : Int) + 1), .string ⟨#[46]⟩] w3 _ from HX3.out.is (Below.refl _ _) (i + 1) ⟨#[46]⟩ true H46.out).mono ?_
  rintro e w4 ⟨rfl, rfl⟩
  go_wp2_with fail
  refine (rname_is2 yx _ HSZ2.out true HNM2.out).mono ?_
  rintro e w4 ⟨rfl, hb4⟩
  have HB4 := Lib.hid (HB3.out.trans (hb4.mono HB3.out.size))
  have HX4 := Lib.hid (HX3.out.below hb4)
  have HG4 := Lib.hid (HG3.out.under hb4)
  have HT4 := Lib.hid (HT3.out.below hb4 HT3.out.lt)
  have hgl4 : g < w4.heap.size := Nat.lt_of_lt_of_le hgl3 hb4.size
  have hl64 : w.heap.size < w4.heap.size := HG4.out.lt
  obtain ⟨d0, d1, d2, d3⟩ := (HX4.out.ht.at2 rfl HLT2.out : _ ∧ _ ∧ _ ∧ _)
  rw [← HYX.out] at d1
  clear g0 g1 g2 g3 f0 f1 f2 f3 t0 t1 t2 t3 tf0 tf1 tf2 tf3 HB3 HG3 HT3 HX3 hb4 hgl3 hl63 e0 e1 d0 d2 d3
  obtain ⟨⟨g0, g1, g2, g3⟩, f0, f1, f2, f3⟩ := HG4.out.facts
  obtain ⟨⟨t0, t1, t2, t3⟩, tf0, tf1, tf2, tf3⟩ := HT4.out.facts
  go_wp2_with fail
  go_region
  go_wp2
  have HFIN := leaf_fin HG4.out HB4.out ⟨4, 0, yx, tx, tp⟩ ((i : Int) + 3)
  refine bodyPost_ret (v := .agg #[.slice (some ⟨w4.heap.size, 0, none⟩) 1 1, .int .i64 ((i : Int) + 3), .int .i64 0, .int .i64 0]) (results_got Tryz.results128 _ _ w.heap.size _ _ _ _ rfl (show BlkG (World.drew _) _ _ _ _ _ from HFIN.1)) rfl ⟨_, rfl, ?_, HFIN.2.2.drew⟩
  rw [← HTX.out, ← HTP.out, ← HYX.out]
  exact own_below HFIN.2.1 (Below.refl _ _).drew
theorem prim_step (l : List Tok) (v : Value) (f d i : Nat) (r : Res) (w : World) (hx : RCtx l v w) (hd : d ≤ 30) (hi : i ≤ l.length) (hr : run l (f + 1) (.lv 5) d i = some r)
    (hP : ∀ d' i' r', d' ≤ 30 → i' ≤ l.length → run l f (.lv 5) d' i' = some r' → ∀ W, RCtx l v W → Calls Tryz.prog 128 #[v, .int .i64 i', .int .i64 d'] W (RAns d' r' W))
    (hF : ∀ d' i' r', d' ≤ 30 → i' ≤ l.length → run l f (.lv 0) d' i' = some r' → ∀ W, RCtx l v W → Calls Tryz.prog 114 #[v, .int .i64 i', .int .i64 d', .int .i64 0] W (RAns d' r' W)) :
    Calls Tryz.prog 128 #[v, .int .i64 i, .int .i64 d] w (RAns d r w) := by
  have hn := hx.hn
  rw [run_op] at hr
  by_cases hlt : i < l.length
  · cases h33 : sgAt l i [33] with
    | true =>
      rw [if_pos h33] at hr
      by_cases hd30 : d = 30
      · subst hd30
        rw [if_pos rfl] at hr
        cases hr
        exact prim_deep l v i w hx (.inl h33) hlt
      · rw [if_neg hd30] at hr
        cases h1 : run l f (.lv 5) (d + 1) (i + 1) with
        | none => rw [h1] at hr; cases hr
        | some r1 =>
          rw [h1] at hr
          have hfit := (run_fit f (.lv 5) (d + 1) (i + 1) r1 0 (by omega) (fun n h => rfl) (fun n e h => by cases h) h1).1
          have H := fun W hb => hP (d + 1) (i + 1) r1 (by omega) (by omega) h1 W (hx.below hb)
          cases r1 with
          | err k a => cases hr; exact prim_un_err l v i d k a w hx h33 hlt (by omega) hfit H
          | ok x j =>
            cases hr
            obtain ⟨g1, g2, g3⟩ := hfit
            exact prim_un_ok l v i d j x w hx h33 hlt (by omega) (by rw [x.flat_length]; omega) H
    | false =>
      rw [if_neg (by rw [h33]; decide)] at hr
      cases h40 : sgAt l i [40] with
      | true =>
        rw [if_pos h40] at hr
        by_cases hd30 : d = 30
        · subst hd30
          rw [if_pos rfl] at hr
          cases hr
          exact prim_deep l v i w hx (.inr h40) hlt
        · rw [if_neg hd30] at hr
          cases h1 : run l f (.lv 0) (d + 1) (i + 1) with
          | none => rw [h1] at hr; cases hr
          | some r1 =>
            rw [h1] at hr
            have hfit := (run_fit f (.lv 0) (d + 1) (i + 1) r1 0 (by omega) (fun n h => rfl) (fun n e h => by cases h) h1).1
            have H := fun W hb => hF (d + 1) (i + 1) r1 (by omega) (by omega) h1 W (hx.below hb)
            cases r1 with
            | err k a => cases hr; exact prim_br_err l v i d k a w hx h40 hlt (by omega) hfit H
            | ok x j =>
              obtain ⟨g1, g2, g3⟩ := hfit
              cases h41 : sgAt l j [41] with
              | true =>
                simp only [h41, if_true] at hr
                cases hr
                exact prim_br_ok l v i d j x w hx h40 hlt (by omega) g2 h41 H
              | false =>
                simp only [h41, Bool.false_eq_true, if_false] at hr
                cases hr
                exact prim_br_bad l v i d j x w hx h40 hlt (by omega) g2 h41 H
      | false =>
        rw [if_neg (by rw [h40]; decide)] at hr
        cases hnm : nmAt l i with
        | true =>
          rw [if_pos hnm] at hr
          cases hr
          unfold namedR
          cases h46 : sgAt l (i + 1) [46] with
          | true =>
            rw [if_pos rfl]
            cases hn2 : nmAt l (i + 2) with
            | true => rw [if_pos rfl]; exact prim_of l v i d w hx hd h33 h40 hlt hnm h46 (nmAt_lt hn2) hn2
            | false =>
              rw [if_neg (by decide)]
              by_cases h2 : i + 2 < l.length
              · by_cases h3 : (tokO l (i + 2)).1 = 1
                · exact prim_named_c l v i d w hx hd h33 h40 hlt hnm h46 h2 h3 hn2
                · exact prim_named_b l v i d w hx hd h33 h40 hlt hnm h46 h2 h3
              · exact prim_named_a l v i d w hx hd h33 h40 hlt hnm h46 (by omega)
          | false => rw [if_neg (by decide)]; exact prim_reg l v i d w hx hd h33 h40 hlt hnm h46
        | false =>
          rw [if_neg (by rw [hnm]; decide)] at hr
          cases hnu : nuAt l i with
          | true =>
            rw [if_pos hnu] at hr
            cases hr
            unfold nuAt at hnu
            rw [Bool.and_eq_true, decide_eq_true_eq] at hnu
            exact prim_num l v i d w hx hd h33 h40 hlt hnu.1
          | false =>
            rw [if_neg (by rw [hnu]; decide)] at hr
            cases hr
            refine prim_bad l v i d w hx hd h33 h40 hlt hnm fun h => ?_
            have h9 := hx.hnum i
            unfold nuAt numB at hnu
            rw [h] at hnu
            simp at hnu
            omega
  · have h33 : sgAt l i [33] = false := by
      cases h : sgAt l i [33] with
      | true => exact absurd (sgAt_lt h) hlt
      | false => rfl
    have h40 : sgAt l i [40] = false := by
      cases h : sgAt l i [40] with
      | true => exact absurd (sgAt_lt h) hlt
      | false => rfl
    have hnm : nmAt l i = false := by
      cases h : nmAt l i with
      | true => exact absurd (nmAt_lt h) hlt
      | false => rfl
    have hnu : nuAt l i = false := by
      cases h : nuAt l i with
      | true => exact absurd (nuAt_lt h) hlt
      | false => rfl
    rw [if_neg (by rw [h33]; decide), if_neg (by rw [h40]; decide), if_neg (by rw [hnm]; decide), if_neg (by rw [hnu]; decide)] at hr
    cases hr
    exact prim_over l v i d w hx hd (by omega)
end Go.Proofs.YtlpgafgiljffhaaGreatDoor
