/- The reference's parser of programs: claim. -/
import Derived.Test.YtlpgafgiljffhaaGreatDoorHd
import Derived.BigRegion
import Derived.Deep.RegionHeld3
namespace Go.Proofs.YtlpgafgiljffhaaGreatDoor
open Go.RowKit
set_option linter.unusedSimpArgs false
set_option linter.unusedVariables false
theorem own_keepB {w w' : World} {B b e size n T : Nat} {v : Value} {cs : Array Value} {xs : List Value} (h : w.ownsRow B e size v n xs) (hc : Bk w b T cs) (hT : e ≠ T) (hk : Keep b w w') : w'.ownsRow B e size v n xs := by
  have hne := own_noBk h hc hT
  rcases h.2 with ⟨rfl, h2⟩ | ⟨g, cap, cur, rfl, h2, h3, h4⟩
  · exact ⟨h.1, .inl ⟨rfl, h2⟩⟩
  · have hgb : g ≠ b := fun e => hne (by rw [e]; rfl)
    have hgl : g < w.heap.size := (Array.getElem?_eq_some_iff.1 h3).1
    exact ⟨h.1, .inr ⟨g, cap, cur, rfl, h2, by rw [hk.block g hgl hgb]; exact h3, h4⟩⟩
theorem results_clm {fn : Func} {p : Tmp} (h : fn.results = #[.cell p 49]) (tmps : Array Value) (w : World) (b : Nat) (u0 u1 u2 : Value) (hp : tmps.getD p undef = .pointer (some ⟨b, 0, none⟩)) (hb : Bk w b 49 #[u0, u1, u2]) :
    (results fn tmps).run Tryz.prog w = .ok (.agg #[u0, u1, u2]) w := by
  have y0 := hb.cell 0
  have y1 := hb.cell 1
  have y2 := hb.cell 2
  have hp2 : tmps[p]?.getD undef = .pointer (some ⟨b, 0, none⟩) := by simpa using hp
  simp only [results, h]
  simp [hp2, go_sem, y0, y1, y2]
theorem hbk_drew {w : World} {b T : Nat} {cs : Array Value} (h : Bk w b T cs) : Bk w.drew b T cs := h
theorem hbk_alloc {w : World} {b T : Nat} {cs : Array Value} (h : Bk w b T cs) (o : Obj) : Bk (w.alloc o) b T cs := h.below ((Below.refl _ _).alloc (Nat.le_refl _) o)
theorem hbk_new {w : World} {b T : Nat} {cs : Array Value} (hb : b = w.heap.size) : Bk (w.alloc (.cells cs T)) b T cs := by subst hb; exact Bk.new _ _ _
theorem hbel2 (w : World) (o p : Obj) : Below w.heap.size w ((w.alloc o).alloc p).drew := (((Below.refl _ _).alloc (Nat.le_refl _) o).alloc (by rw [alloc_size]; omega) p).drew
/-- A claim that is read: the state, the two blocks. -/
structure CF (w : World) (b : Nat) (l : List Tok) (v : Value) (q : Pq) (wr : World) (x0 x1 x2 : Value) : Prop where
  rs : Rs wr b l v q
  kp : Keep b w wr
  rb : Bk wr w.heap.size 49 #[.int .i64 0, .slice none 0 0, .int .i64 0]
  cb : Bk wr (w.heap.size + 1) 49 #[x0, x1, x2]
  lb : b < w.heap.size
  t0 : TokS w b v l
theorem hkeep_new {b : Nat} {x w : World} (h : Keep b x w) {g o : Nat} (hg : x.heap.size ≤ g) (u : Value) : Keep b x (w.setCell ⟨g, o, none⟩ u) :=
  ⟨h.os, h.tape, h.output, by have := h.size; simpa [World.setCell] using this, fun k hk hb => (Below.heap_setCell _ _ _ _ (by simp; omega)).trans (h.block k hk hb)⟩
section
variable {w : World} {b : Nat} {l : List Tok} {v : Value} {q q2 : Pq} {wr w2 : World} {x0 x1 x2 : Value}
theorem CF.call (h : CF w b l v q wr x0 x1 x2) (hs : Rs w2 b l v q2) (hk : Keep b wr w2) : CF w b l v q2 w2 x0 x1 x2 :=
  ⟨hs, h.kp.trans hk, h.rb.keep hk (by have := h.lb; omega), h.cb.keep hk (by have := h.lb; omega), h.lb, h.t0⟩
theorem CF.below (h : CF w b l v q wr x0 x1 x2) (hb : Below wr.heap.size wr w2) : CF w b l v q w2 x0 x1 x2 := h.call (h.rs.below hb) (Below.keep hb)
theorem CF.at1 (h : CF w b l v q wr x0 x1 x2) (u : Value) : CF w b l v q (wr.setCell ⟨w.heap.size + 1, 1, none⟩ u) x0 u x2 := by
  refine ⟨?_, hkeep_new h.kp (by omega) u, ?_, ?_, h.lb, h.t0⟩
  · exact ⟨by have := h.rs.bk; unfold Bk at *; rw [Below.heap_setCell _ _ _ _ (by show b ≠ w.heap.size + 1; have := h.lb; omega)]; exact this, h.t0.keep (hkeep_new h.kp (by omega) u), h.rs.hn, h.rs.hok, h.rs.hnum⟩
  · have := h.rb
    unfold Bk at *
    rw [Below.heap_setCell _ _ _ _ (by show w.heap.size ≠ w.heap.size + 1; omega)]
    exact this
  · have := h.cb.set 1 u
    simpa using this
theorem Rs.setNew (h : Rs wr b l v q) (hk : Keep b w wr) (t0 : TokS w b v l) (g o : Nat) (hg : w.heap.size ≤ g) (hb : g ≠ b) (u : Value) : Rs (wr.setCell ⟨g, o, none⟩ u) b l v q :=
  ⟨by have := h.bk; unfold Bk at *; rw [Below.heap_setCell _ _ _ _ (fun e => hb e.symm)]; exact this, t0.keep (hkeep_new hk hg u), h.hn, h.hok, h.hnum⟩
theorem CF.fin (h : CF w b l v q wr x0 x1 x2) (u0 u1 u2 : Value) : Rs (((wr.setCell ⟨w.heap.size, 0, none⟩ u0).setCell ⟨w.heap.size, 1, none⟩ u1).setCell ⟨w.heap.size, 2, none⟩ u2) b l v q ∧ Keep b w (((wr.setCell ⟨w.heap.size, 0, none⟩ u0).setCell ⟨w.heap.size, 1, none⟩ u1).setCell ⟨w.heap.size, 2, none⟩ u2) := by
  have hb : w.heap.size ≠ b := by have := h.lb; omega
  have k1 := hkeep_new (o := 0) h.kp (Nat.le_refl _) u0
  have k2 := hkeep_new (o := 1) k1 (Nat.le_refl _) u1
  exact ⟨((h.rs.setNew h.kp h.t0 _ 0 (Nat.le_refl _) hb u0).setNew k1 h.t0 _ 1 (Nat.le_refl _) hb u1).setNew k2 h.t0 _ 2 (Nat.le_refl _) hb u2, hkeep_new k2 (Nat.le_refl _) u2⟩
theorem CF.set (h : CF w b l v q wr x0 x1 x2) (g o : Nat) (hg : w.heap.size ≤ g) (h1 : g ≠ b) (h2 : g ≠ w.heap.size) (h3 : g ≠ w.heap.size + 1) (u : Value) : CF w b l v q (wr.setCell ⟨g, o, none⟩ u) x0 x1 x2 :=
  ⟨h.rs.setNew h.kp h.t0 g o hg h1 u, hkeep_new h.kp hg u, by have := h.rb; unfold Bk at *; rw [Below.heap_setCell _ _ _ _ (fun e => h2 e.symm)]; exact this, by have := h.cb; unfold Bk at *; rw [Below.heap_setCell _ _ _ _ (fun e => h3 e.symm)]; exact this, h.lb, h.t0⟩
theorem own_fin {B e size n c : Nat} {cs : Array Value} {y u0 u1 u2 : Value} {xs : List Value} (h : wr.ownsRow B e size y n xs) (hb : Bk wr c 49 cs) (he : e ≠ 49) : (((wr.setCell ⟨c, 0, none⟩ u0).setCell ⟨c, 1, none⟩ u1).setCell ⟨c, 2, none⟩ u2).ownsRow B e size y n xs :=
  own_setBk (own_setBk (own_setBk h hb he) (hb.set 0 u0) he) ((hb.set 0 u0).set 1 u1) he
set_option maxRecDepth 100000 in
set_option maxHeartbeats 4000000 in
theorem sclaim_err (h : Rs w b l v q) (kd : Int) (hk : q.k = 0) (hlt : q.n < l.length) {k a : Nat} (hR : parseR l (q.n + 1) = .err k a) :
    Calls Tryz.prog 58 #[.pointer (some ⟨b, 0, none⟩), .int .i64 kd] w fun e w' => ∃ ev, e = .returned (.agg #[.int .i64 kd, ev, .int .i64 ((tokO l q.n).2.2.2 : Nat)]) ∧ Rs w' b l v (rclP l q kd).2 ∧ Keep b w w' ∧
      w'.ownsRow w.heap.size 65 5 ev (rclP l q kd).1.e.length (rowN (rclP l q kd).1.e) := by
  obtain ⟨n, qk, qa⟩ := q
  simp only [] at hk hlt hR
  subst hk
  obtain ⟨ad, cap, rfl⟩ := h.shape
  obtain ⟨g, rfl, hgb, hg, _, _, _, k3⟩ := h.tok n hlt
  have c0 : w.cell? ⟨b, 0, none⟩ = some (.slice (some ⟨g, 0, none⟩) l.length cap) := h.cells.1
  have c1 : w.cell? ⟨b, 1, none⟩ = some (.int .i64 (n : Int)) := h.cells.2.1
  have f1 := h.fz.1
  have lb := h.bk.lt
  have H := Lib.hid h
  have HLT := Lib.hid hlt
  have hn := h.hn
  have e2 : (0 : Int) ≤ (n : Int) := by omega
  have e3 : (n : Int) < (l.length : Int) := by omega
  have e4 : IntKind.i64.wrap ((n : Int) + 1) = (n : Int) + 1 := IntWalk.i64_in _ (by omega)
  have HP := Lib.hid (fun (W : World) (hW : Rs W b l (.slice (some ⟨g, 0, none⟩) l.length cap) ⟨n + 1, 0, qa⟩) => rparse_any l (.slice (some ⟨g, 0, none⟩) l.length cap) (n + 1) W hW.cx (by omega))
  have HO := Lib.hid (parse_out' l (n + 1) (by omega) (fun i => by have := h.hok i; omega))
  rw [hR] at HP HO
  have HRC : Hid (rclP l ⟨n, 0, qa⟩ kd = (⟨kd, [], (tokO l n).2.2.2⟩, rsgP l ⟨n + 1, k, a⟩ [59])) := Lib.hid (by unfold rclP; simp only [hR])
  rw [HRC.out]
  obtain ⟨pl, hpl⟩ : ∃ pl, pl = (tokO l n).2.2.2 := ⟨_, rfl⟩
  rw [← hpl] at k3 ⊢
  clear h hlt hpl hR
  go_enter Tryz.func58, Tryz.ntmps58
  go_wp2_with fail
  go_region
  have HC : Hid (CF w b l (.slice (some ⟨g, 0, none⟩) l.length cap) ⟨n, 0, qa⟩ ((w.alloc (.cells #[.int .i64 0, .slice none 0 0, .int .i64 0] 49)).alloc (.cells #[.int .i64 kd, .slice none 0 0, .int .i64 pl] 49)).drew (.int .i64 kd) (.slice none 0 0) (.int .i64 pl)) := Lib.hid ⟨H.out.below (hbel2 w _ _), Below.keep (hbel2 w _ _), hbk_drew (hbk_alloc (Bk.new w 49 #[.int .i64 0, .slice none 0 0, .int .i64 0]) (.cells #[.int .i64 kd, .slice none 0 0, .int .i64 pl] 49)), hbk_drew (hbk_new (by rw [alloc_size])), lb, H.out.ts⟩
  generalize World.drew _ = w1 at HC ⊢
  have d1 : w1.cell? ⟨b, 1, none⟩ = some (.int .i64 (n : Int)) := HC.out.rs.cells.2.1
  have d2 := HC.out.rs.fz.1
  have d3 := HC.out.rs.bk.lt
  have HC2 := Lib.hid (HC.out.call (HC.out.rs.setN (n + 1) ((n : Int) + 1) (by omega)) ((Keep.refl b w1).setCell 1 (.int .i64 ((n : Int) + 1))))
  clear HC c0 c1 f1 k3
  go_wp2_with fail
  clear d1 d2
  generalize World.setCell _ _ _ = w2 at HC2 ⊢
  have c0 : w2.cell? ⟨b, 0, none⟩ = some (.slice (some ⟨g, 0, none⟩) l.length cap) := HC2.out.rs.cells.1
  have c1 : w2.cell? ⟨b, 1, none⟩ = some (.int .i64 ((n : Int) + 1)) := HC2.out.rs.cells.2.1
  have hr := HC2.out.rs.bk.lt
  have HPP := Lib.hid (fun (W : World) (hb : Below w2.heap.size w2 W) => (show Calls Tryz.prog 88 #[.slice (some ⟨g, 0, none⟩) l.length cap, .int .i64 ((n : Int) + 1)] W (fun e W2 => e = .returned (.tuple #[.slice none 0 0, .int .i64 0, .int .i64 k, .int .i64 a]) ∧ Below W.heap.size W W2) from HP.out W (HC2.out.rs.below hb)))
  generalize l.length = L at c0 HPP e3 hn
  go_region_held3 (fun w' => w'.cell? ⟨b, 0, none⟩ = some (.slice (some ⟨g, 0, none⟩) L cap) ∧ w'.cell? ⟨b, 1, none⟩ = some (.int .i64 ((n : Int) + 1)) ∧ Below w2.heap.size w2 w')
    (first | exact ⟨c0, c1, Below.refl _ _⟩ | exact ⟨c0, c1, (Below.refl _ _).drew⟩ | assumption | (go_split_ands; exact ⟨(hb3.cell (p := ⟨b, 0, none⟩) hr).trans c0, (hb3.cell (p := ⟨b, 1, none⟩) hr).trans c1, hb3⟩))
    ((go_split_ands; with_reducible refine Calls.mono (HPP.out _ (by assumption)) ?_; rintro e w5 ⟨rfl, hb2⟩; have hb3 : Below w2.heap.size w2 w5 := Below.trans (by assumption) (hb2.mono (Below.size (by assumption)))))
  have HC5 := Lib.hid (HC2.out.below hb3)
  have hk0 : k ≠ 0 := HO.out
  have e6 : faP ⟨n + 1, 0, qa⟩ k a = ⟨n + 1, k, a⟩ := by unfold faP; rw [if_pos ⟨rfl, hk0⟩]
  have HFA := Lib.hid (sfault_any k a HC5.out.rs)
  rw [e6] at HFA
  have e7 : ((k : Int) == 0) = false := by rw [beq_eq_false_iff_ne]; omega
  clear e6 hk0 c0 c1 hr
  go_split_ands
  go_wp2_with fail
  refine HFA.out.mono ?_
  rintro e w6 ⟨rfl, h6, k6⟩
  have HC6 := Lib.hid (HC5.out.call h6 k6)
  clear h6 k6
  go_wp2_with fail
  go_loopg [10] 1 (fun fuel i' wr => i' = .int .i64 0 ∧ wr = w6)
  case atStart => exact ⟨rfl, rfl⟩
  case round =>
    obtain ⟨rfl, rfl⟩ := hrel
    have y1 := HC6.out.cb.cell 1
    have y2 := HC6.out.cb.fz 1
    have y3 := HC6.out.cb.lt
    have HC7 := Lib.hid (HC6.out.at1 (.slice none 0 0))
    have z2 := HC7.out.rs.cells.2.2.1
    have z3 := HC7.out.rs.bk.lt
    go_wp2_with fail
    generalize World.setCell _ _ _ = w7 at HC7 ⊢
    refine (ssign_any ⟨#[59]⟩ HC7.out.rs).mono ?_
    rintro e w8 ⟨rfl, h8, k8⟩
    have HC8 := Lib.hid (HC7.out.call h8 k8)
    clear y1 y2 y3 z2 z3 h8 k8
    have c0 := HC8.out.cb.cell 0
    have c1 := HC8.out.cb.cell 1
    have c2 := HC8.out.cb.cell 2
    have lc := HC8.out.cb.lt
    have r0 := HC8.out.rb.cell 0
    have r1 := HC8.out.rb.cell 1
    have r2 := HC8.out.rb.cell 2
    have t0 := HC8.out.rb.fz 0
    have t1 := HC8.out.rb.fz 1
    have t2 := HC8.out.rb.fz 2
    have lr := HC8.out.rb.lt
    go_wp2_with fail
    refine bodyPost_ret (v := .agg #[.int .i64 kd, .slice none 0 0, .int .i64 pl]) (results_clm rfl _ _ _ _ _ _ rfl (HC8.out.rb.set3 _ _ _)) rfl ⟨_, rfl, (HC8.out.fin _ _ _).1, (HC8.out.fin _ _ _).2, World.ownsRow_nil _ _ _ _⟩
set_option maxRecDepth 100000 in
set_option maxHeartbeats 4000000 in
theorem sclaim_ok (h : Rs w b l v q) (kd : Int) (hk : q.k = 0) (hlt : q.n < l.length) {x : Ex} {j : Nat} (hR : parseR l (q.n + 1) = .ok x j) :
    Calls Tryz.prog 58 #[.pointer (some ⟨b, 0, none⟩), .int .i64 kd] w fun e w' => ∃ ev, e = .returned (.agg #[.int .i64 kd, ev, .int .i64 ((tokO l q.n).2.2.2 : Nat)]) ∧ Rs w' b l v (rclP l q kd).2 ∧ Keep b w w' ∧
      w'.ownsRow w.heap.size 65 5 ev (rclP l q kd).1.e.length (rowN (rclP l q kd).1.e) := by
  obtain ⟨n, qk, qa⟩ := q
  simp only [] at hk hlt hR
  subst hk
  obtain ⟨ad, cap, rfl⟩ := h.shape
  obtain ⟨g, rfl, hgb, hg, _, _, _, k3⟩ := h.tok n hlt
  have c0 : w.cell? ⟨b, 0, none⟩ = some (.slice (some ⟨g, 0, none⟩) l.length cap) := h.cells.1
  have c1 : w.cell? ⟨b, 1, none⟩ = some (.int .i64 (n : Int)) := h.cells.2.1
  have f1 := h.fz.1
  have lb := h.bk.lt
  have H := Lib.hid h
  have HLT := Lib.hid hlt
  have hn := h.hn
  have e2 : (0 : Int) ≤ (n : Int) := by omega
  have e3 : (n : Int) < (l.length : Int) := by omega
  have e4 : IntKind.i64.wrap ((n : Int) + 1) = (n : Int) + 1 := IntWalk.i64_in _ (by omega)
  have HP := Lib.hid (fun (W : World) (hW : Rs W b l (.slice (some ⟨g, 0, none⟩) l.length cap) ⟨n + 1, 0, qa⟩) => rparse_any l (.slice (some ⟨g, 0, none⟩) l.length cap) (n + 1) W hW.cx (by omega))
  have HO := Lib.hid (parse_out' l (n + 1) (by omega) (fun i => by have := h.hok i; omega))
  rw [hR] at HP HO
  have HRC : Hid (rclP l ⟨n, 0, qa⟩ kd = (⟨kd, x.flat.map clm, (tokO l n).2.2.2⟩, rsgP l ⟨j, 0, qa⟩ [59])) := Lib.hid (by unfold rclP; simp only [hR])
  rw [HRC.out]
  obtain ⟨pl, hpl⟩ : ∃ pl, pl = (tokO l n).2.2.2 := ⟨_, rfl⟩
  rw [← hpl] at k3 ⊢
  clear h hlt hpl hR
  go_enter Tryz.func58, Tryz.ntmps58
  go_wp2_with fail
  go_region
  have HC : Hid (CF w b l (.slice (some ⟨g, 0, none⟩) l.length cap) ⟨n, 0, qa⟩ ((w.alloc (.cells #[.int .i64 0, .slice none 0 0, .int .i64 0] 49)).alloc (.cells #[.int .i64 kd, .slice none 0 0, .int .i64 pl] 49)).drew (.int .i64 kd) (.slice none 0 0) (.int .i64 pl)) := Lib.hid ⟨H.out.below (hbel2 w _ _), Below.keep (hbel2 w _ _), hbk_drew (hbk_alloc (Bk.new w 49 #[.int .i64 0, .slice none 0 0, .int .i64 0]) (.cells #[.int .i64 kd, .slice none 0 0, .int .i64 pl] 49)), hbk_drew (hbk_new (by rw [alloc_size])), lb, H.out.ts⟩
  generalize World.drew _ = w1 at HC ⊢
  have d1 : w1.cell? ⟨b, 1, none⟩ = some (.int .i64 (n : Int)) := HC.out.rs.cells.2.1
  have d2 := HC.out.rs.fz.1
  have d3 := HC.out.rs.bk.lt
  have HC2 := Lib.hid (HC.out.call (HC.out.rs.setN (n + 1) ((n : Int) + 1) (by omega)) ((Keep.refl b w1).setCell 1 (.int .i64 ((n : Int) + 1))))
  clear HC c0 c1 f1 k3
  go_wp2_with fail
  clear d1 d2
  generalize World.setCell _ _ _ = w2 at HC2 ⊢
  have c0 : w2.cell? ⟨b, 0, none⟩ = some (.slice (some ⟨g, 0, none⟩) l.length cap) := HC2.out.rs.cells.1
  have c1 : w2.cell? ⟨b, 1, none⟩ = some (.int .i64 ((n : Int) + 1)) := HC2.out.rs.cells.2.1
  have hr := HC2.out.rs.bk.lt
  have HPP := Lib.hid (fun (W : World) (hb : Below w2.heap.size w2 W) => (show Calls Tryz.prog 88 #[.slice (some ⟨g, 0, none⟩) l.length cap, .int .i64 ((n : Int) + 1)] W (fun e W2 => ∃ v, e = .returned (.tuple #[v, .int .i64 j, .int .i64 0, .int .i64 0]) ∧ W2.ownsRow W.heap.size 65 5 v x.flat.length (rowN x.flat) ∧ Below W.heap.size W W2) from HP.out W (HC2.out.rs.below hb)))
  generalize l.length = L at c0 HPP e3 hn
  go_region_held3 (fun w' => w'.cell? ⟨b, 0, none⟩ = some (.slice (some ⟨g, 0, none⟩) L cap) ∧ w'.cell? ⟨b, 1, none⟩ = some (.int .i64 ((n : Int) + 1)) ∧ Below w2.heap.size w2 w')
    (first | exact ⟨c0, c1, Below.refl _ _⟩ | exact ⟨c0, c1, (Below.refl _ _).drew⟩ | assumption | (go_split_ands; exact ⟨(hb3.cell (p := ⟨b, 0, none⟩) hr).trans c0, (hb3.cell (p := ⟨b, 1, none⟩) hr).trans c1, hb3⟩))
    ((go_split_ands; with_reducible refine Calls.mono (HPP.out _ (by assumption)) ?_; rintro e w5 ⟨yv, rfl, hyo, hb2⟩; have HYO := Lib.hid hyo; clear hyo; have hb3 : Below w2.heap.size w2 w5 := Below.trans (by assumption) (hb2.mono (Below.size (by assumption)))))
  obtain ⟨_, _, p3, p4, p5⟩ := HO.out
  have HC5 := Lib.hid (HC2.out.below hb3)
  have e6 : faP ⟨n + 1, 0, qa⟩ 0 0 = ⟨n + 1, 0, qa⟩ := by unfold faP; rw [if_neg (fun h => h.2 rfl)]
  have HFA := Lib.hid (sfault_any 0 0 HC5.out.rs)
  rw [e6] at HFA
  have O5 := Lib.hid (own_mono HYO.out (B' := w.heap.size) (Nat.le_trans HC2.out.kp.size (Below.size (by assumption))))
  have hyl : x.flat.length ≤ 200 := by rw [x.flat_length]; exact p3
  have hy1 : 1 ≤ x.flat.length := by cases x <;> simp [Ex.flat]
  obtain ⟨ad9, cap9, rfl, _⟩ := own_shape HYO.out
  obtain ⟨ys, hys⟩ : ∃ ys, ys = x.flat := ⟨_, rfl⟩
  rw [← hys] at O5 hyl hy1 ⊢
  have HYS := Lib.hid hys
  clear e6 c0 c1 hr HYO hb2 hys
  go_split_ands
  go_wp2_with fail
  refine HFA.out.mono ?_
  rintro e w6 ⟨rfl, h6, k6⟩
  have O6 := Lib.hid (own_keepB O5.out HC5.out.rs.bk (by decide) k6)
  have HC6 := Lib.hid (HC5.out.call h6 k6)
  clear h6 k6 O5
  obtain ⟨g2, rfl, hgB, hgl⟩ : ∃ g2, ad9 = some ⟨g2, 0, none⟩ ∧ w.heap.size ≤ g2 ∧ g2 < w6.heap.size := by
    obtain ⟨ad', cap', he, hh⟩ := own_shape O6.out
    injection he with e1 e2 e3
    subst e1
    rcases hh with ⟨_, h0, _⟩ | ⟨g, e, h1, h2⟩
    · omega
    · exact ⟨g, e, h1, h2⟩
  have n1 : g2 ≠ b := by omega
  have n2 : g2 ≠ w.heap.size := fun e => own_noBk O6.out HC6.out.rb (by decide) (by rw [e]; rfl)
  have n3 : g2 ≠ w.heap.size + 1 := fun e => own_noBk O6.out HC6.out.cb (by decide) (by rw [e]; rfl)
  obtain ⟨m, hm⟩ : ∃ m, m = ys.length := ⟨_, rfl⟩
  have HM := Lib.hid hm
  rw [← hm] at O6 hyl hy1 ⊢
  clear hm
  go_wp2_with fail
  go_loopg [10] m (fun fuel i' wr => ∃ k : Nat, i' = .int .i64 k ∧ k ≤ m ∧ m - k ≤ fuel ∧ wr.ownsRow w.heap.size 65 5 (.slice (some ⟨g2, 0, none⟩) m cap9) m (rowN ((ys.take k).map clm ++ ys.drop k)) ∧ CF w b l (.slice (some ⟨g, 0, none⟩) l.length cap) ⟨n + 1, 0, qa⟩ wr (.int .i64 kd) (.slice none 0 0) (.int .i64 pl))
  case atStart => exact ⟨0, rfl, Nat.zero_le _, Nat.le_refl _, by simpa using O6.out, HC6.out⟩
  case round =>
    obtain ⟨k, rfl, hk, hf, ho, hcf⟩ := hrel
    have HO1 := Lib.hid ho
    have HK := Lib.hid hcf
    have hgw : g2 < wr.heap.size := (ho.lt g2 rfl).2
    clear hcf
    by_cases hlt : k < m
    · have hky : k < ys.length := by have := HM.out; omega
      obtain ⟨xk, hxk⟩ : ∃ x, x = ys[k] := ⟨_, rfl⟩
      have hdr : ys.drop k = xk :: ys.drop (k + 1) := by rw [hxk]; exact List.drop_eq_getElem_cons hky
      have htk : ys.take (k + 1) = ys.take k ++ [xk] := by rw [hxk]; exact List.take_succ_eq_append_getElem hky
      have hlen : ((ys.take k).map clm).length = k := by rw [List.length_map, List.length_take]; omega
      have hcl : wr.cell? ⟨g2, k * 5, none⟩ = some (.int .i64 xk.op) := by
        rw [ho.cellAt (k * 5) (by omega), hdr]
        have := rowN_get ((ys.take k).map clm) (ys.drop (k + 1)) xk
        rw [hlen] at this
        exact this
      have hfz : wr.frozen? ⟨g2, k * 5, none⟩ = false := ho.frozenAt _
      have hnew : (ys.take (k + 1)).map clm ++ ys.drop (k + 1) = (ys.take k).map clm ++ clm xk :: ys.drop (k + 1) := by rw [htk, List.map_append]; simp
      have hset := (ho.stored (k * 5) (.int .i64 3)).1
      rw [hdr] at hset
      have hrs := rowN_set ((ys.take k).map clm) (ys.drop (k + 1)) xk 3
      rw [hlen] at hrs
      rw [hrs] at hset
      have HSET := Lib.hid hset
      have HNEW := Lib.hid hnew
      rw [hdr] at HO1
      obtain ⟨xo, xn, xm, xi, xp⟩ := xk
      simp only [] at hcl
      clear hxk hdr htk hlen hrs hset hnew ho
      by_cases h2 : xo = 2
      · subst h2
        go_wp2
        go_roundg (gk - 1)
        case measure => omega
        case rel =>
          refine ⟨k + 1, by go_num, by omega, by omega, ?_, HK.out.set g2 _ hgB n1 n2 n3 _⟩
          rw [HNEW.out]
          exact HSET.out
      · have q2 : (xo == 2) = false := by simpa using h2
        have e : clm ⟨xo, xn, xm, xi, xp⟩ = ⟨xo, xn, xm, xi, xp⟩ := by unfold clm; rw [if_neg h2]
        go_wp2
        go_roundg (gk - 1)
        case measure => omega
        case rel =>
          refine ⟨k + 1, by go_num, by omega, by omega, ?_, HK.out⟩
          rw [HNEW.out, e]
          exact HO1.out
    · obtain rfl : k = m := by omega
      have h1 := HO1.out
      rw [HM.out, List.take_length, List.drop_length, List.append_nil] at h1
      rw [← HM.out] at h1
      have h2 := own_setBk (o := 1) (u := .slice (some ⟨g2, 0, none⟩) k cap9) h1 HK.out.cb (by decide)
      have y1 := HK.out.cb.cell 1
      have y2 := HK.out.cb.fz 1
      have y3 := HK.out.cb.lt
      have HC7 := Lib.hid (HK.out.at1 (.slice (some ⟨g2, 0, none⟩) k cap9))
      have O7 := Lib.hid (own_setBk (o := 1) (u := .int .i64 j) h2 HC7.out.rs.bk (by decide))
      have z1 := HC7.out.rs.cells.2.1
      have z2 := HC7.out.rs.cells.2.2.1
      have z3 := HC7.out.rs.bk.lt
      have z4 := HC7.out.rs.fz.1
      have HC7 := Lib.hid (HC7.out.call (HC7.out.rs.setN j (j : Int) rfl) ((Keep.refl b _).setCell 1 (.int .i64 (j : Int))))
      clear h1 h2 ho
      go_wp2_with fail
      generalize World.setCell (World.setCell _ _ _) _ _ = w7 at HC7 O7 ⊢
      refine (ssign_any ⟨#[59]⟩ HC7.out.rs).mono ?_
      rintro e w8 ⟨rfl, h8, k8⟩
      have O8 := Lib.hid (own_keepB O7.out HC7.out.rs.bk (by decide) k8)
      have HC8 := Lib.hid (HC7.out.call h8 k8)
      clear y1 y2 y3 z1 z2 z3 z4 h8 k8 O7
      have c0 := HC8.out.cb.cell 0
      have c1 := HC8.out.cb.cell 1
      have c2 := HC8.out.cb.cell 2
      have lc := HC8.out.cb.lt
      have r0 := HC8.out.rb.cell 0
      have r1 := HC8.out.rb.cell 1
      have r2 := HC8.out.rb.cell 2
      have t0 := HC8.out.rb.fz 0
      have t1 := HC8.out.rb.fz 1
      have t2 := HC8.out.rb.fz 2
      have lr := HC8.out.rb.lt
      have HL := Lib.hid (show (ys.map clm).length = k from by rw [List.length_map]; exact HM.out.symm)
      go_wp2_with fail
      refine bodyPost_ret (v := .agg #[.int .i64 kd, .slice (some ⟨g2, 0, none⟩) k cap9, .int .i64 pl]) (results_clm rfl _ _ _ _ _ _ rfl (HC8.out.rb.set3 _ _ _)) rfl ⟨_, rfl, (HC8.out.fin _ _ _).1, (HC8.out.fin _ _ _).2, ?_⟩
      show World.ownsRow _ _ _ _ _ (List.map clm x.flat).length (rowN (List.map clm x.flat))
      rw [← HYS.out, HL.out]
      exact own_fin O8.out HC8.out.rb (by decide)
theorem sclaim_any (h : Rs w b l v q) (kd : Int) (hk : q.k = 0) (hlt : q.n < l.length) :
    Calls Tryz.prog 58 #[.pointer (some ⟨b, 0, none⟩), .int .i64 kd] w fun e w' => ∃ ev, e = .returned (.agg #[.int .i64 kd, ev, .int .i64 ((tokO l q.n).2.2.2 : Nat)]) ∧ Rs w' b l v (rclP l q kd).2 ∧ Keep b w w' ∧
      w'.ownsRow w.heap.size 65 5 ev (rclP l q kd).1.e.length (rowN (rclP l q kd).1.e) := by
  cases hR : parseR l (q.n + 1) with
  | err k a => exact sclaim_err h kd hk hlt hR
  | ok x j => exact sclaim_ok h kd hk hlt hR
end

end Go.Proofs.YtlpgafgiljffhaaGreatDoor
