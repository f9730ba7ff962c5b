/- Right of programs. The tokens of right statements are read as these statements, but for their places. The tokens of a program's text. The readers depend on their tokens' places in nothing but places. Statements' readers depend on their tokens' places in nothing but places. The parser of programs: claims; the parser goes on. Parsing statements that were scanned. The parser of programs: Parse. The program's reader depends on its tokens' places in nothing but places. Bare of programs: each, what it is made of. What the reference's Same tells of programs that are alike. Programs that are the same but for places are alike. What Parse gives is right, or an error that stands within the text. A right program without places is right. Slices of structs that came in: of nodes, of statements. -/
import Derived.Test.YtlpgafgiljffhaaGreatDoorZg
import Derived.Test.YtlpgafgiljffhaaGreatDoorVm
import Derived.Shelf.Strings.Builder1
import Derived.Shelf.Strings.Builder2
import Derived.Shelf.Strings.BuilderF
import Derived.Shelf.Strings.Prefix
import Derived.Shelf.Bits.Mul64
import Derived.Shelf.Strings.Repeat
import Derived.Test.YtlpgafgiljffhaaGreatDoorProg
import Derived.Shelf.LaysM
import Derived.Shelf.Strconv.Clone
import Derived.Shelf.Strconv.Itoa3
import Derived.Lib.Slices
import Derived.Lib.Walk
import Derived.Lib.Builder
import Derived.Lib.AppendStr
import Derived.WalkKit
import Derived.Laws.Externs
import Derived.Lib.OthersKept
import Derived.Test.YtlpgafgiljffhaaGreatDoorE
import Derived.Test.YtlpgafgiljffhaaGreatDoorYb
import Derived.Laws.AppendOwnNone
import Derived.Test.YtlpgafgiljffhaaGreatDoorZa
import Derived.ProofKit
import Derived.LaidMore
import Derived.OpenShut
import Derived.ShutString
import Derived.Stop.Joined
import Derived.Deep.Slices
import Derived.WalkSmall
import Derived.MakeChecks
namespace Go.Proofs.YtlpgafgiljffhaaGreatDoor
open Go.RowKit
theorem numB_and (n : Int) : numB n = (decide (0 ≤ n) && decide (n ≤ 9999)) := by unfold numB; rw [Bool.decide_and]
def flV (x : Vr) : Bool := !nameB x.nm || (!numB x.n || decide (x.pl < 0))
noncomputable def flT (x : Th) : Bool := !nameB x.nm || (!(x.regs.all fun s => !(!nameB s)) || (!rightSB x.body || decide (x.pl < 0)))
def ownless (x : Nd) : Bool := decide (x.op = 2)
def kindB (k : Int) : Bool := decide (1 ≤ k) && decide (k ≤ 3)
noncomputable def flC (x : Cl) : Bool := !kindB x.kind || (!rightB x.e || (!(x.e.all fun n => !ownless n) || decide (x.pl < 0)))
noncomputable def rightPB (g : Pg) : Bool := numB g.mod && ((g.locs.all fun x => !flV x) && ((g.ths.all fun x => !flT x) && (g.cls.all fun x => !flC x)))
def TmOK (x : Th) : Prop := x.nm.size ≤ 100000 ∧ x.regs.length ≤ 100000 ∧ (∀ s ∈ x.regs, s.size ≤ 100000) ∧ x.body.length ≤ 100000 ∧ SmOK x.body
def CmOK (x : Cl) : Prop := x.e.length ≤ 100000 ∧ NmOK x.e
structure PmOK (g : Pg) : Prop where
  l : g.locs.length ≤ 100000 ∧ ∀ x ∈ g.locs, x.nm.size ≤ 100000
  t : g.ths.length ≤ 100000 ∧ ∀ x ∈ g.ths, TmOK x
  c : g.cls.length ≤ 100000 ∧ ∀ x ∈ g.cls, CmOK x
set_option maxRecDepth 100000 in
set_option maxHeartbeats 1000000 in
theorem pnumber_any (n : Int) (w : World) : Calls Tryz.prog 35 #[.int .i64 n] w fun e w' => e = .returned (.bool (numB n)) ∧ Below w.heap.size w w' := by
  rw [numB_and]
  by_cases h1 : 0 ≤ n
  · have d1 : decide (0 ≤ n) = true := decide_eq_true h1
    rw [d1]
    by_cases h2 : n ≤ 9999
    · have d2 : decide (n ≤ 9999) = true := decide_eq_true h2
      rw [d2]
      go_enter Tryz.func35, Tryz.ntmps35
      go_wp2
      go_ret
      exact ⟨rfl, Below.refl _ _⟩
    · have d2 : decide (n ≤ 9999) = false := decide_eq_false h2
      rw [d2]
      go_enter Tryz.func35, Tryz.ntmps35
      go_wp2
      go_ret
      exact ⟨rfl, Below.refl _ _⟩
  · have d1 : decide (0 ≤ n) = false := decide_eq_false h1
    rw [d1]
    go_enter Tryz.func35, Tryz.ntmps35
    go_wp2
    go_ret
    exact ⟨rfl, Below.refl _ _⟩
set_option maxRecDepth 100000 in
set_option maxHeartbeats 1000000 in
theorem pstrange_any (s : ByteArray) (w : World) (hs : s.size ≤ 100000) : Calls Tryz.prog 70 #[.string s] w fun e w' => e = .returned (.bool (!nameB s)) ∧ Below w.heap.size w w' := by
  have HN := Lib.hid (name_any s w (by unfold maxLen; omega))
  obtain ⟨b, hb⟩ : ∃ b, nameB s = b := ⟨_, rfl⟩
  rw [hb] at HN ⊢
  clear hb hs
  cases b <;>
  · go_enter Tryz.func70, Tryz.ntmps70
    go_wp2_with fail
    refine HN.out.mono ?_
    rintro e w2 ⟨rfl, hb2⟩
    go_wp2
    go_ret
    exact ⟨rfl, hb2⟩
set_option maxRecDepth 100000 in
set_option maxHeartbeats 1000000 in
theorem pownless_any (x : Nd) (w : World) : Calls Tryz.prog 74 #[.agg x.cells.toArray] w fun e w' => e = .returned (.bool (ownless x)) ∧ Below w.heap.size w w' := by
  obtain ⟨xo, xn, xm, xi, xp⟩ := x
  have hc : (Nd.cells ⟨xo, xn, xm, xi, xp⟩).toArray = #[.int .i64 xo, .int .i64 xn, .string xm, .string xi, .int .i64 xp] := rfl
  rw [hc]
  unfold ownless
  simp only []
  by_cases h3 : xo = 2
  · subst h3
    go_enter Tryz.func74, Tryz.ntmps74
    go_wp2
    go_ret
    exact ⟨rfl, (Below.refl _ _).alloc (Nat.le_refl _) _⟩
  · rw [decide_eq_false h3]
    have q3 : (xo == 2) = false := by simp; omega
    clear h3
    go_enter Tryz.func74, Tryz.ntmps74
    go_wp2
    go_ret
    exact ⟨rfl, (Below.refl _ _).alloc (Nat.le_refl _) _⟩
set_option maxRecDepth 100000 in
set_option maxHeartbeats 2000000 in
theorem pflV_any (x : Vr) (w : World) (hs : x.nm.size ≤ 100000) : Calls Tryz.prog 37 #[.agg (cellsV x).toArray] w fun e w' => e = .returned (.bool (flV x)) ∧ Below w.heap.size w w' := by
  obtain ⟨nm, n, p⟩ := x
  have hc : (cellsV ⟨nm, n, p⟩).toArray = #[.string nm, .int .i64 n, .int .i64 p] := rfl
  rw [hc]
  unfold flV
  simp only [] at hs ⊢
  have HN := Lib.hid (fun W => name_any nm W (by unfold maxLen; omega))
  have HU := Lib.hid (fun W => pnumber_any n W)
  obtain ⟨b1, hb1⟩ : ∃ b, nameB nm = b := ⟨_, rfl⟩
  obtain ⟨b2, hb2⟩ : ∃ b, numB n = b := ⟨_, rfl⟩
  obtain ⟨b3, hb3⟩ : ∃ b, decide (p < 0) = b := ⟨_, rfl⟩
  rw [hb1] at HN ⊢
  rw [hb2] at HU ⊢
  rw [hb3]
  have HB := Lib.hid (Bk.new w 40 #[.string nm, .int .i64 n, .int .i64 p])
  clear hb1 hb2 hs hc
  go_enter Tryz.func37, Tryz.ntmps37
  go_wp2_with fail
  refine (HN.out _).mono ?_
  rintro e w2 ⟨rfl, k2⟩
  cases b1 with
  | false =>
    go_wp2
    go_ret
    exact ⟨rfl, below_a k2⟩
  | true =>
    have B2 := HB.out.below k2
    have c1 := B2.cell 1
    have l2 := B2.lt
    go_wp2_with fail
    refine (HU.out _).mono ?_
    rintro e w3 ⟨rfl, k3⟩
    cases b2 with
    | false =>
      go_wp2
      go_ret
      exact ⟨rfl, below_t (below_a k2) k3 (Nat.le_refl _)⟩
    | true =>
      have B3 := B2.below k3
      have c2 := B3.cell 2
      have l3 := B3.lt
      cases b3 <;>
      · go_wp2
        go_ret
        exact ⟨rfl, below_t (below_a k2) k3 (Nat.le_refl _)⟩
set_option maxRecDepth 100000 in
set_option maxHeartbeats 2000000 in
theorem pflT_any (t : TI) (w : World) (hR : StrsD w t.2.1 t.1.regs) (ss : List SI) (hss : ss.map (·.1) = t.1.body) (hS : StsD w t.2.2 ss) (hz : TmOK t.1) (hf : Flds w) : Calls Tryz.prog 39 #[.agg (cellsT t).toArray] w fun e w' => e = .returned (.bool (flT t.1)) ∧ Below w.heap.size w w' := by
  obtain ⟨⟨nm, rs, bd, p⟩, v1, v2⟩ := t
  have hc : (cellsT ⟨⟨nm, rs, bd, p⟩, v1, v2⟩).toArray = #[.string nm, v1, v2, .int .i64 p] := rfl
  rw [hc]
  unfold flT
  obtain ⟨z1, z2, z3, z4, z5⟩ := hz
  simp only [] at hR hss hS z1 z2 z3 z4 z5 ⊢
  subst hss
  have hl : ss.length ≤ 100000 := by simpa using z4
  have HN := Lib.hid (fun W => pstrange_any nm W z1)
  have HC := Lib.hid (fun (W : World) (h : Below w.heap.size w W) => pscont_any rs v1 W (StrsD.below hR h) z2 (fun s => !nameB s) (fun W' i hi _ => pstrange_any rs[i] W' (z3 _ (List.getElem_mem hi))) _ rfl)
  have HRT := Lib.hid (fun (W : World) (h : Below w.heap.size w W) => sright_any ss v2 W (hS.below h) hl z5 (hf.below h))
  obtain ⟨b1, hb1⟩ : ∃ b, nameB nm = b := ⟨_, rfl⟩
  obtain ⟨b2, hb2⟩ : ∃ b, (rs.all fun s => !(!nameB s)) = b := ⟨_, rfl⟩
  obtain ⟨b3, hb3⟩ : ∃ b, rightSB (ss.map (·.1)) = b := ⟨_, rfl⟩
  obtain ⟨b4, hb4⟩ : ∃ b, decide (p < 0) = b := ⟨_, rfl⟩
  rw [hb1] at HN ⊢
  rw [hb2] at HC ⊢
  rw [hb3] at HRT ⊢
  rw [hb4]
  obtain ⟨a1, p1, rfl⟩ := hR.shape
  obtain ⟨a2, p2, rfl⟩ : ∃ ad cap, v2 = .slice ad ss.length cap := by obtain ⟨ad, cap, h, _⟩ := hS; exact ⟨ad, cap, h⟩
  obtain ⟨m1, hm1⟩ : ∃ m, m = rs.length := ⟨_, rfl⟩
  obtain ⟨m2, hm2⟩ : ∃ m, m = ss.length := ⟨_, rfl⟩
  rw [← hm1] at HC ⊢
  rw [← hm2] at HRT ⊢
  have HB := Lib.hid (Bk.new w 43 #[.string nm, .slice a1 m1 p1, .slice a2 m2 p2, .int .i64 p])
  clear hb1 hb2 hb3 hc hR hS hf z1 z2 z3 z4 z5 hl hm1 hm2
  go_enter Tryz.func39, Tryz.ntmps39
  go_wp2_with fail
  refine (HN.out _).mono ?_
  rintro e w2 ⟨rfl, k2⟩
  cases b1 with
  | false =>
    go_wp2
    go_ret
    exact ⟨rfl, below_a k2⟩
  | true =>
    have B2 := HB.out.below k2
    have K2 := Lib.hid (below_a k2)
    have c1 := B2.cell 1
    have l2 := B2.lt
    clear k2
    go_wp2_with fail
    refine (HC.out _ K2.out).mono ?_
    rintro e w3 ⟨rfl, k3⟩
    have K3 := Lib.hid (below_t K2.out k3 (Nat.le_refl _))
    cases b2 with
    | false =>
      go_wp2
      go_ret
      exact ⟨rfl, K3.out⟩
    | true =>
      have B3 := B2.below k3
      have c2 := B3.cell 2
      have l3 := B3.lt
      clear k3 c1
      go_wp2_with fail
      refine (HRT.out _ K3.out).mono ?_
      rintro e w4 ⟨rfl, k4⟩
      have K4 := Lib.hid (below_t K3.out k4 (Nat.le_refl _))
      cases b3 with
      | false =>
        go_wp2
        go_ret
        exact ⟨rfl, K4.out⟩
      | true =>
        have B4 := B3.below k4
        have c3 := B4.cell 3
        have l4 := B4.lt
        clear k4 c2
        cases b4 <;>
        · go_wp2
          go_ret
          exact ⟨rfl, K4.out⟩
set_option maxRecDepth 100000 in
set_option maxHeartbeats 2000000 in
theorem pflC_any (t : CI) (w : World) (hE : NdsC w t.2 t.1.e) (hz : CmOK t.1) : Calls Tryz.prog 41 #[.agg (cellsC t).toArray] w fun e w' => e = .returned (.bool (flC t.1)) ∧ Below w.heap.size w w' := by
  obtain ⟨⟨k, es, p⟩, v1⟩ := t
  have hc : (cellsC ⟨⟨k, es, p⟩, v1⟩).toArray = #[.int .i64 k, v1, .int .i64 p] := rfl
  rw [hc]
  unfold flC kindB
  obtain ⟨z1, z2⟩ := hz
  simp only [] at hE z1 z2 ⊢
  have HC := Lib.hid (fun (W : World) (h : Below w.heap.size w W) => pncont_any es v1 W (hE.below h) z1 ownless (fun W' i hi _ => pownless_any es[i] W') _ rfl)
  have HRT := Lib.hid (fun (W : World) (h : Below w.heap.size w W) => right_any es v1 W (hE.below h).nds z1 z2 _ rfl)
  obtain ⟨b1, hb1⟩ : ∃ b, decide (1 ≤ k) = b := ⟨_, rfl⟩
  obtain ⟨b2, hb2⟩ : ∃ b, decide (k ≤ 3) = b := ⟨_, rfl⟩
  obtain ⟨b3, hb3⟩ : ∃ b, rightB es = b := ⟨_, rfl⟩
  obtain ⟨b4, hb4⟩ : ∃ b, (es.all fun n => !ownless n) = b := ⟨_, rfl⟩
  obtain ⟨b5, hb5⟩ : ∃ b, decide (p < 0) = b := ⟨_, rfl⟩
  rw [hb1, hb2, hb5]
  rw [hb3] at HRT ⊢
  rw [hb4] at HC ⊢
  obtain ⟨a1, p1, rfl⟩ : ∃ ad cap, v1 = .slice ad es.length cap := by obtain ⟨ad, cap, h, _⟩ := hE; exact ⟨ad, cap, h⟩
  obtain ⟨m1, hm1⟩ : ∃ m, m = es.length := ⟨_, rfl⟩
  rw [← hm1] at HC HRT ⊢
  have HB := Lib.hid (Bk.new w 49 #[.int .i64 k, .slice a1 m1 p1, .int .i64 p])
  clear hb3 hb4 hc hE z1 z2 hm1
  cases b1 with
  | false =>
    go_enter Tryz.func41, Tryz.ntmps41
    go_wp2
    go_ret
    exact ⟨rfl, (Below.refl _ _).alloc (Nat.le_refl _) _⟩
  | true =>
    cases b2 with
    | false =>
      go_enter Tryz.func41, Tryz.ntmps41
      go_wp2
      go_ret
      exact ⟨rfl, (Below.refl _ _).alloc (Nat.le_refl _) _⟩
    | true =>
      go_enter Tryz.func41, Tryz.ntmps41
      go_wp2_with fail
      refine (HRT.out _ ((Below.refl _ _).alloc (Nat.le_refl _) _)).mono ?_
      rintro e w2 ⟨rfl, k2⟩
      have K2 := Lib.hid (below_a k2)
      cases b3 with
      | false =>
        go_wp2
        go_ret
        exact ⟨rfl, K2.out⟩
      | true =>
        have B2 := HB.out.below k2
        have c1 := B2.cell 1
        have l2 := B2.lt
        clear k2
        go_wp2_with fail
        refine (HC.out _ K2.out).mono ?_
        rintro e w3 ⟨rfl, k3⟩
        have K3 := Lib.hid (below_t K2.out k3 (Nat.le_refl _))
        cases b4 with
        | false =>
          go_wp2
          go_ret
          exact ⟨rfl, K3.out⟩
        | true =>
          have B3 := B2.below k3
          have c2 := B3.cell 2
          have l3 := B3.lt
          clear k3 c1
          cases b5 <;>
          · go_wp2
            go_ret
            exact ⟨rfl, K3.out⟩
theorem all_ths {α β : Type} (ts : List (α × β)) (f : α → Bool) : (ts.all fun t => !f t.1) = ((ts.map (·.1)).all fun x => !f x) := by rw [List.all_map]; rfl
set_option maxRecDepth 100000 in
set_option maxHeartbeats 2000000 in
theorem pright_any (g : Pg) (x y z : Value) (w : World) (hd : PgD w x y z g) (hz : PmOK g) (hf : Flds w) : Calls Tryz.prog 21 #[.agg #[.int .i64 g.mod, x, y, z]] w fun e w' => e = .returned (.bool (rightPB g)) ∧ Below w.heap.size w w' := by
  obtain ⟨m, ls, hs, cs⟩ := g
  obtain ⟨dl, ⟨ts, rfl, dt⟩, us, rfl, dc⟩ := hd
  obtain ⟨⟨l1, l2⟩, ⟨t1, t2⟩, c1, c2⟩ := hz
  unfold rightPB
  simp only [] at dl dt dc l1 l2 t1 t2 c1 c2 ⊢
  rw [← all_ths, ← all_ths]
  have tl : ts.length ≤ 100000 := by simpa using t1
  have cl : us.length ≤ 100000 := by simpa using c1
  have HU := Lib.hid (fun W => pnumber_any m W)
  have HL := Lib.hid (fun (W : World) (h : Below w.heap.size w W) => pvcont_any ls x W (VrsD.below dl h) l1 flV (fun W' i hi _ => pflV_any ls[i] W' (l2 _ (List.getElem_mem hi))) _ rfl)
  have HT := Lib.hid (fun (W : World) (h : Below w.heap.size w W) => ptcont_any ts y W (ThsD.below dt h) tl (fun t => flT t.1) (fun W' i hi hb => by
    obtain ⟨ad, cap, _, _, _, hc⟩ := ThsD.below dt h
    obtain ⟨b, off, _, hl, _, hR, ss, e1, hS⟩ := hc i hi
    exact pflT_any ts[i] W' (StrsD.below hR hb) ss e1 (hS.below hb) (t2 _ (List.mem_map_of_mem (List.getElem_mem hi))) ((hf.below h).below hb)) _ rfl)
  have HC := Lib.hid (fun (W : World) (h : Below w.heap.size w W) => pccont_any us z W (ClsD.below dc h) cl (fun t => flC t.1) (fun W' i hi hb => by
    obtain ⟨ad, cap, _, _, _, hc⟩ := ClsD.below dc h
    obtain ⟨b, off, _, hl, _, hE⟩ := hc i hi
    exact pflC_any us[i] W' (hE.below hb) (c2 _ (List.mem_map_of_mem (List.getElem_mem hi)))) _ rfl)
  obtain ⟨b1, hb1⟩ : ∃ b, numB m = b := ⟨_, rfl⟩
  obtain ⟨b2, hb2⟩ : ∃ b, (ls.all fun x => !flV x) = b := ⟨_, rfl⟩
  obtain ⟨b3, hb3⟩ : ∃ b, (ts.all fun t => !flT t.1) = b := ⟨_, rfl⟩
  obtain ⟨b4, hb4⟩ : ∃ b, (us.all fun t => !flC t.1) = b := ⟨_, rfl⟩
  rw [hb1] at HU ⊢
  rw [hb2] at HL ⊢
  rw [hb3] at HT ⊢
  rw [hb4] at HC ⊢
  obtain ⟨a1, p1, rfl⟩ := dl.shape
  obtain ⟨a2, p2, rfl⟩ := dt.shape
  obtain ⟨a3, p3, rfl⟩ := dc.shape
  obtain ⟨m1, hm1⟩ : ∃ m, m = ls.length := ⟨_, rfl⟩
  obtain ⟨m2, hm2⟩ : ∃ m, m = ts.length := ⟨_, rfl⟩
  obtain ⟨m3, hm3⟩ : ∃ m, m = us.length := ⟨_, rfl⟩
  rw [← hm1] at HL ⊢
  rw [← hm2] at HT ⊢
  rw [← hm3] at HC ⊢
  have HB := Lib.hid (Bk.new w 26 #[.int .i64 m, .slice a1 m1 p1, .slice a2 m2 p2, .slice a3 m3 p3])
  clear hb1 hb2 hb3 hb4 dl dt dc hf l1 l2 t1 t2 c1 c2 tl cl hm1 hm2 hm3
  go_enter Tryz.func21, Tryz.ntmps21
  go_wp2_with fail
  refine (HU.out _).mono ?_
  rintro e w2 ⟨rfl, k2⟩
  have K2 := Lib.hid (below_a k2)
  cases b1 with
  | false =>
    go_wp2
    go_ret
    exact ⟨rfl, K2.out⟩
  | true =>
    have B2 := HB.out.below k2
    have c1 := B2.cell 1
    have l2 := B2.lt
    clear k2
    go_wp2_with fail
    refine (HL.out _ K2.out).mono ?_
    rintro e w3 ⟨rfl, k3⟩
    have K3 := Lib.hid (below_t K2.out k3 (Nat.le_refl _))
    cases b2 with
    | false =>
      go_wp2
      go_ret
      exact ⟨rfl, K3.out⟩
    | true =>
      have B3 := B2.below k3
      have c2 := B3.cell 2
      have l3 := B3.lt
      clear k3 c1
      go_wp2_with fail
      refine (HT.out _ K3.out).mono ?_
      rintro e w4 ⟨rfl, k4⟩
      have K4 := Lib.hid (below_t K3.out k4 (Nat.le_refl _))
      cases b3 with
      | false =>
        go_wp2
        go_ret
        exact ⟨rfl, K4.out⟩
      | true =>
        have B4 := B3.below k4
        have c3 := B4.cell 3
        have l4 := B4.lt
        clear k4 c2
        go_wp2_with fail
        refine (HC.out _ K4.out).mono ?_
        rintro e w5 ⟨rfl, k5⟩
        have K5 := Lib.hid (below_t K4.out k5 (Nat.le_refl _))
        cases b4 <;>
        · go_wp2
          go_ret
          exact ⟨rfl, K5.out⟩
end Go.Proofs.YtlpgafgiljffhaaGreatDoor

namespace Go.Proofs.YtlpgafgiljffhaaGreatDoor
open Go.RowKit
def St.er (x : St) : St := { x with e := x.e.map Nd.er, f := x.f.map Nd.er, pl := 0 }
end Go.Proofs.YtlpgafgiljffhaaGreatDoor

namespace Go.Proofs.YtlpgafgiljffhaaGreatDoor
open Go.RowKit
structure okV (x : Vr) : Prop where
  nm : nameB x.nm = true
  n0 : 0 ≤ x.n
  n1 : x.n ≤ 9999
  pl : 0 ≤ x.pl
structure okT (x : Th) : Prop where
  nm : nameB x.nm = true
  rg : ∀ s ∈ x.regs, nameB s = true
  bd : rightS x.body
  pl : 0 ≤ x.pl
structure okC (x : Cl) : Prop where
  k1 : 1 ≤ x.kind
  k3 : x.kind ≤ 3
  e : rightP x.e
  ow : ∀ y ∈ x.e, y.op ≠ 2
  pl : 0 ≤ x.pl
structure okP (g : Pg) : Prop where
  m0 : 0 ≤ g.mod
  m1 : g.mod ≤ 9999
  l : ∀ x ∈ g.locs, okV x
  t : ∀ x ∈ g.ths, okT x
  c : ∀ x ∈ g.cls, okC x
end Go.Proofs.YtlpgafgiljffhaaGreatDoor

namespace Go.Proofs.YtlpgafgiljffhaaGreatDoor
section
variable {l l' : List Tok} (hl : l.map strip = l'.map strip)
include hl
end
inductive RA : Option Res → Option Res → Prop
  | n : RA none none
  | e (k a a' : Nat) : RA (some (.err k a)) (some (.err k a'))
  | o (e e' : Ex) (j : Nat) (h : e.er = e'.er) : RA (some (.ok e j)) (some (.ok e' j))
inductive CA : Cmd → Cmd → Prop
  | lv (n : Nat) : CA (.lv n) (.lv n)
  | more (n : Nat) (e e' : Ex) (h : e.er = e'.er) : CA (.more n e) (.more n e')
end Go.Proofs.YtlpgafgiljffhaaGreatDoor

namespace Go.Proofs.YtlpgafgiljffhaaGreatDoor
inductive RB : Res → Res → Prop
  | e (k a a' : Nat) : RB (.err k a) (.err k a')
  | o (e e' : Ex) (j : Nat) (h : e.er = e'.er) : RB (.ok e j) (.ok e' j)
inductive FA : FRes → FRes → Prop
  | e (k a a' : Nat) : FA (.err k a) (.err k a')
  | o (x x' : St) (j : Nat) (h : x.er = x'.er) : FA (.ok x j) (.ok x' j)
inductive SB : Option SRes → Option SRes → Prop
  | n : SB none none
  | e (k a a' : Nat) : SB (some (.err k a)) (some (.err k a'))
  | o (x x' : List St) (j : Nat) (h : x.map St.er = x'.map St.er) : SB (some (.ok x j)) (some (.ok x' j))
inductive SC : SRes → SRes → Prop
  | e (k a a' : Nat) : SC (.err k a) (.err k a')
  | o (x x' : List St) (j : Nat) (h : x.map St.er = x'.map St.er) : SC (.ok x j) (.ok x' j)
end Go.Proofs.YtlpgafgiljffhaaGreatDoor

namespace Go.Proofs.YtlpgafgiljffhaaGreatDoor
open Go.RowKit
def Adv (L : Nat) (q q' : Pq) : Prop := q.n ≤ L → q.n ≤ q'.n ∧ q'.n ≤ L
theorem Adv.trans {L : Nat} {a b c : Pq} (h : Adv L a b) (h2 : Adv L b c) : Adv L a c := fun ha => by
  have h3 := h ha
  have h4 := h2 h3.2
  omega
section
variable {w0 wb : World} {l : List Tok} {lv : Value} {r pb rb xb ib : Nat} {q : Pq}
end
end Go.Proofs.YtlpgafgiljffhaaGreatDoor

namespace Go.Proofs.YtlpgafgiljffhaaGreatDoor
open Go.RowKit
theorem scan_num (l : List UInt8) : ∀ i, (tokO (scanL l).1 i).2.2.1 ≤ 9999 := by
  intro i
  have hg := scanL_good l
  obtain ⟨ts, hts⟩ : ∃ ts, ts = (scanL l).1 := ⟨_, rfl⟩
  rw [← hts] at hg ⊢
  by_cases hi : i < ts.length
  · have e : tokO ts i = ts[i] := by simp [tokO, hi]
    rw [e]
    have h2 := hg _ (List.getElem_mem hi)
    unfold Good at h2
    have h3 := tk_num _ _ _ _ h2
    omega
  · have e : tokO ts i = (0, [], 0, 0) := by simp [tokO, hi]
    rw [e]
    simp
end Go.Proofs.YtlpgafgiljffhaaGreatDoor

namespace Go.Proofs.YtlpgafgiljffhaaGreatDoor
open Go.RowKit
theorem POwn.mono {w : World} {B B' : Nat} {a b c : Value} {g : Pg} (h : POwn w B a b c g) (hB : B' ≤ B) : POwn w B' a b c g := ⟨own_mono h.l hB, h.t.mono hB, h.c.mono hB⟩
end Go.Proofs.YtlpgafgiljffhaaGreatDoor

namespace Go.Proofs.YtlpgafgiljffhaaGreatDoor
def Vr.er (x : Vr) : Vr := { x with pl := 0 }
def Th.er (x : Th) : Th := { x with body := x.body.map St.er, pl := 0 }
def Cl.er (x : Cl) : Cl := { x with e := x.e.map Nd.er, pl := 0 }
def Pg.er (g : Pg) : Pg := ⟨g.mod, g.locs.map Vr.er, g.ths.map Th.er, g.cls.map Cl.er⟩
section
variable {l l' : List Tok} (hl : l.map strip = l'.map strip)
include hl
end
end Go.Proofs.YtlpgafgiljffhaaGreatDoor

namespace Go.Proofs.YtlpgafgiljffhaaGreatDoor
open Go.RowKit
theorem SIn.snoc {w : World} {ts : List SI} {t : SI} (h : SIn w ts) (h1 : w.ownsRow 0 65 5 t.2.1 t.1.e.length (rowN t.1.e)) (h2 : w.ownsRow 0 65 5 t.2.2 t.1.f.length (rowN t.1.f)) : SIn w (ts ++ [t]) := fun s hs => by
  rcases List.mem_append.1 hs with h0 | h0
  · exact h s h0
  · obtain rfl := List.mem_singleton.1 h0; exact ⟨h1, h2⟩
end Go.Proofs.YtlpgafgiljffhaaGreatDoor

namespace Go.Proofs.YtlpgafgiljffhaaGreatDoor
open Go.RowKit
def alikeV (p : Bool) (a b : Vr) : Prop := a.nm = b.nm ∧ a.n = b.n ∧ (p = true → a.pl = b.pl)
def StsAlike (p : Bool) (a b : List St) : Prop := b.length = a.length ∧ ∀ i, (h1 : i < a.length) → (h2 : i < b.length) → alikeS p a[i] b[i]
def alikeT (p : Bool) (a b : Th) : Prop := a.nm = b.nm ∧ a.regs = b.regs ∧ StsAlike p a.body b.body ∧ (p = true → a.pl = b.pl) ∧ a.regs.length ≤ 100000 ∧ a.body.length ≤ 100000
def alikeC (p : Bool) (a b : Cl) : Prop := a.kind = b.kind ∧ NodesAlike p a.e b.e ∧ (p = true → a.pl = b.pl) ∧ a.e.length ≤ 100000
structure AlikeP (p : Bool) (g h : Pg) : Prop where
  mod : g.mod = h.mod
  l : h.locs.length = g.locs.length ∧ g.locs.length ≤ 100000 ∧ ∀ i, (h1 : i < g.locs.length) → (h2 : i < h.locs.length) → alikeV p g.locs[i] h.locs[i]
  t : h.ths.length = g.ths.length ∧ g.ths.length ≤ 100000 ∧ ∀ i, (h1 : i < g.ths.length) → (h2 : i < h.ths.length) → alikeT p g.ths[i] h.ths[i]
  c : h.cls.length = g.cls.length ∧ g.cls.length ≤ 100000 ∧ ∀ i, (h1 : i < g.cls.length) → (h2 : i < h.cls.length) → alikeC p g.cls[i] h.cls[i]
end Go.Proofs.YtlpgafgiljffhaaGreatDoor

namespace Go.Proofs.YtlpgafgiljffhaaGreatDoor
structure BdP (g : Pg) : Prop where
  l : g.locs.length ≤ 100000
  t : g.ths.length ≤ 100000
  c : g.cls.length ≤ 100000
  tt : ∀ x ∈ g.ths, x.regs.length ≤ 100000 ∧ x.body.length ≤ 100000 ∧ ∀ s ∈ x.body, s.e.length ≤ 100000 ∧ s.f.length ≤ 100000
  cc : ∀ x ∈ g.cls, x.e.length ≤ 100000
end Go.Proofs.YtlpgafgiljffhaaGreatDoor

namespace Go.Proofs.YtlpgafgiljffhaaGreatDoor
open Go.RowKit
def Ex.clm : Ex → Ex
  | .leaf x => .leaf (Go.Proofs.YtlpgafgiljffhaaGreatDoor.clm x)
  | .un x a => .un x a.clm
  | .bin x a b => .bin x a.clm b.clm
def Wk (N : Nat) (l : List Tok) (q q' : Pq) (P : Prop) : Prop := q.n ≤ l.length → q'.n ≤ l.length ∧ ((q.k ≠ 0 → q.a ≤ N) → q'.k ≠ 0 → q'.a ≤ N) ∧ (q'.k = 0 → q.k = 0 ∧ P)
section
variable {N : Nat} {l : List Tok} {q q1 q2 : Pq} {P Q : Prop}
theorem Wk.trans (h : Wk N l q q1 P) (h2 : Wk N l q1 q2 Q) : Wk N l q q2 (P ∧ Q) := fun hn => by
  obtain ⟨a1, a2, a3⟩ := h hn
  obtain ⟨b1, b2, b3⟩ := h2 a1
  exact ⟨b1, fun ha => b2 (a2 ha), fun hk => ⟨(a3 (b3 hk).1).1, (a3 (b3 hk).1).2, (b3 hk).2⟩⟩
theorem Wk.mono (h : Wk N l q q1 P) (f : P → Q) : Wk N l q q1 Q := fun hn => by
  obtain ⟨a1, a2, a3⟩ := h hn
  exact ⟨a1, a2, fun hk => ⟨(a3 hk).1, f (a3 hk).2⟩⟩
theorem Wk.refl (h : P) : Wk N l q q P := fun hn => ⟨hn, fun ha => ha, fun hk => ⟨hk, h⟩⟩
end
end Go.Proofs.YtlpgafgiljffhaaGreatDoor

namespace Go.Proofs.YtlpgafgiljffhaaGreatDoor
open Go.RowKit
def Tr.er : Tr → Tr
  | .nil => .nil
  | .node s b o r => .node s.er b.er o.er r.er
end Go.Proofs.YtlpgafgiljffhaaGreatDoor

namespace Go.Proofs.YtlpgafgiljffhaaGreatDoor
open Go.ChangeShapes Go.WideShapes Go.ChangeAt Go.RowKit
theorem cell_spot {w : World} {b off : Nat} {sp : Option Nat} {x : Value} (h : w.cell? ⟨b, off, sp⟩ = some x) : sp = none ∧ b < w.heap.size := by
  unfold World.cell? at h
  constructor
  · cases sp with
    | none => rfl
    | some k => split at h <;> simp at h
  · rcases Nat.lt_or_ge b w.heap.size with h' | h'
    · exact h'
    · simp [Array.getElem?_eq_none h'] at h
def NilOK (v : Value) : Prop := v = .slice none 0 0 ∨ ∃ a n c, v = .slice (some a) n c
theorem open_gen {α H : Type} {enc : TypeId × Value → H} {W : World} {fuel T E S : Nat} {c : Value} {x : DataW H × List MemPlace} (z : α) (hT : Tryz.prog.underlying T = some (.slice E)) (hS : Tryz.prog.cellsOf E = S) (h0 : 0 < S) (R : Nat → Nat → α → Prop)
    (hR : ∀ n cs y b off, DataW.trod enc Tryz.prog W 0 (fun _ => true) true n E cs = some y → cs.length = S → (∀ j, j < S → W.cell? ⟨b, off + j, none⟩ = cs[j]?) → b < W.heap.size → ∃ t, R b off t)
    (h : DataW.trod enc Tryz.prog W 0 (fun _ => true) true fuel T [c] = some x) :
    ∃ (ts : List α) (ad : Option Addr) (cap : Nat), c = .slice ad ts.length cap ∧ NilOK c ∧ ts.length ≤ cap ∧ cap ≤ maxLen ∧ ∀ i, (hi : i < ts.length) → ∃ b off, ad = some ⟨b, off, none⟩ ∧ b < W.heap.size ∧ R b (off + i * S) ts[i] := by
  haveI : Inhabited α := ⟨z⟩
  rcases Deep.open_slice hT h with ⟨hcs, _⟩ | ⟨a, len, cap, m, n, D, Pl, hcs, _, hl, hm, hmm, _, hx⟩
  · obtain rfl : c = .slice none 0 0 := (List.cons.inj hcs).1
    exact ⟨[], none, 0, rfl, .inl rfl, Nat.zero_le _, Nat.zero_le _, fun i hi => absurd hi (Nat.not_lt_zero _)⟩
  · obtain rfl : c = .slice (some a) len cap := (List.cons.inj hcs).1
    rw [hS] at hx
    simp only [if_true] at hmm
    by_cases hz : len = 0
    · subst hz
      exact ⟨[], some a, cap, rfl, .inr ⟨_, _, _, rfl⟩, Nat.zero_le _, hm, fun i hi => absurd hi (Nat.not_lt_zero _)⟩
    · obtain ⟨b, off, sp⟩ := a
      obtain ⟨rfl, hb⟩ : sp = none ∧ b < W.heap.size := by
        obtain ⟨cs', h1, _⟩ := hx 0 (by omega)
        obtain ⟨_, hcl, hat⟩ := World.cells?_some h1
        have k := hat 0 h0
        have e0 : ((⟨b, off, sp⟩ : Addr).add (0 * S)).add 0 = ⟨b, off, sp⟩ := by simp [Addr.add]
        rw [e0, List.getElem?_eq_getElem (by omega)] at k
        exact cell_spot k
      have e : ∀ j, (⟨b, off, none⟩ : Addr).add j = ⟨b, off + j, none⟩ := by
        intro j; unfold Addr.add; split <;> simp_all
      have hc : ∀ i, i < len → ∃ t : α, R b (off + i * S) t := by
        intro i hi
        obtain ⟨cs', h1, h2⟩ := hx i (by omega)
        obtain ⟨_, hcl, hat⟩ := World.cells?_some h1
        refine hR n cs' _ b (off + i * S) h2 hcl (fun j hj => ?_) hb
        have k := hat j hj
        rw [Deep.add_add, e, ← Nat.add_assoc] at k
        exact k
      obtain ⟨V, hV⟩ := Deep.choose_lt (α := α) (p := fun i t => R b (off + i * S) t) hc
      refine ⟨(List.range len).map V, some ⟨b, off, none⟩, cap, by simp, .inr ⟨_, _, _, rfl⟩, by simpa using hl, hm, fun i hi => ?_⟩
      have hi' : i < len := by simpa using hi
      refine ⟨b, off, rfl, hb, ?_⟩
      simp only [List.getElem_map, List.getElem_range]
      exact hV i hi'
theorem c_int : Tryz.prog.cellsOf 3 = 1 := by kernel_rfl
theorem c_str : Tryz.prog.cellsOf 9 = 1 := by kernel_rfl
theorem c_bool : Tryz.prog.cellsOf 4 = 1 := by kernel_rfl
theorem c_nds : Tryz.prog.cellsOf 47 = 1 := by kernel_rfl
set_option maxRecDepth 100000 in
theorem cell_node {H : Type} {enc : TypeId × Value → H} {W : World} {n : Nat} {cs : List Value} {x : DataW H × List MemPlace} (h : DataW.trod enc Tryz.prog W 0 (fun _ => true) true n 65 cs = some x) (hl : cs.length = 5) :
    ∃ t : Nd, cs = t.cells := by
  obtain ⟨xs, m, _, _, _, hxl, hf⟩ := DataW.trod_struct Tryz.underlying65 h
  match cs, hl with
  | [c0, c1, c2, c3, c4], _ =>
    match xs, hxl with
    | [x0, x1, x2, x3, x4], _ =>
      have f0 : DataW.trod enc Tryz.prog W 0 (fun _ => true) true m 3 (([c0, c1, c2, c3, c4].drop 0).take (Tryz.prog.cellsOf 3)) = some x0 := hf 0 _ rfl
      have f1 : DataW.trod enc Tryz.prog W 0 (fun _ => true) true m 3 (([c0, c1, c2, c3, c4].drop 1).take (Tryz.prog.cellsOf 3)) = some x1 := hf 1 _ rfl
      have f2 : DataW.trod enc Tryz.prog W 0 (fun _ => true) true m 9 (([c0, c1, c2, c3, c4].drop 2).take (Tryz.prog.cellsOf 9)) = some x2 := hf 2 _ rfl
      have f3 : DataW.trod enc Tryz.prog W 0 (fun _ => true) true m 9 (([c0, c1, c2, c3, c4].drop 3).take (Tryz.prog.cellsOf 9)) = some x3 := hf 3 _ rfl
      have f4 : DataW.trod enc Tryz.prog W 0 (fun _ => true) true m 3 (([c0, c1, c2, c3, c4].drop 4).take (Tryz.prog.cellsOf 3)) = some x4 := hf 4 _ rfl
      rw [c_int] at f0 f1 f4
      rw [c_str] at f2 f3
      obtain ⟨n0, e0, _⟩ := DataW.trod_int Tryz.underlying3 f0
      obtain ⟨n1, e1, _⟩ := DataW.trod_int Tryz.underlying3 f1
      obtain ⟨n2, e2, _⟩ := DataW.trod_string Tryz.underlying9 f2
      obtain ⟨n3, e3, _⟩ := DataW.trod_string Tryz.underlying9 f3
      obtain ⟨n4, e4, _⟩ := DataW.trod_int Tryz.underlying3 f4
      have e0' : c0 = _ := (List.cons.inj e0).1
      have e1' : c1 = _ := (List.cons.inj e1).1
      have e2' : c2 = _ := (List.cons.inj e2).1
      have e3' : c3 = _ := (List.cons.inj e3).1
      have e4' : c4 = _ := (List.cons.inj e4).1
      subst e0' e1' e2' e3' e4'
      exact ⟨⟨n0, n1, n2, n3, n4⟩, rfl⟩
set_option maxRecDepth 100000 in
theorem open_ndsF {H : Type} {enc : TypeId × Value → H} {W : World} {fuel : Nat} {c : Value} {x : DataW H × List MemPlace} (h : DataW.trod enc Tryz.prog W 0 (fun _ => true) true fuel 47 [c] = some x) :
    ∃ ts : List Nd, NdsC W c ts ∧ ts.length ≤ maxLen := by
  obtain ⟨ts, ad, cap, rfl, _, h1, h2, h3⟩ := open_gen (α := Nd) (S := 5) ⟨0, 0, ⟨#[]⟩, ⟨#[]⟩, 0⟩ Tryz.underlying47 (by kernel_rfl) (by decide)
    (fun b off t => W.cell? ⟨b, off, none⟩ = some (.int .i64 t.op) ∧ W.cell? ⟨b, off + 1, none⟩ = some (.int .i64 t.n) ∧ W.cell? ⟨b, off + 2, none⟩ = some (.string t.nm) ∧ W.cell? ⟨b, off + 3, none⟩ = some (.string t.inn) ∧ W.cell? ⟨b, off + 4, none⟩ = some (.int .i64 t.pl))
    (fun n cs y b off hy hl hc hb => by
      obtain ⟨t, rfl⟩ := cell_node hy hl
      exact ⟨t, hc 0 (by decide), hc 1 (by decide), hc 2 (by decide), hc 3 (by decide), hc 4 (by decide)⟩) h
  exact ⟨ts, ⟨ad, cap, rfl, h1, by unfold maxLen at h2; omega, h3⟩, by omega⟩
def BigOK (ts : List SI) : Prop := ts.length ≤ maxLen ∧ ∀ t ∈ ts, t.1.e.length ≤ maxLen ∧ t.1.f.length ≤ maxLen
set_option maxRecDepth 100000 in
theorem cell_stmt {H : Type} {enc : TypeId × Value → H} {W : World} {n : Nat} {cs : List Value} {x : DataW H × List MemPlace} (h : DataW.trod enc Tryz.prog W 0 (fun _ => true) true n 61 cs = some x) (hl : cs.length = 9) :
    ∃ t : SI, cs = cellsI t ∧ NdsC W t.2.1 t.1.e ∧ NdsC W t.2.2 t.1.f ∧ t.1.e.length ≤ maxLen ∧ t.1.f.length ≤ maxLen := by
  obtain ⟨xs, m, _, _, _, hxl, hf⟩ := DataW.trod_struct Tryz.underlying61 h
  match cs, hl with
  | [c0, c1, c2, c3, c4, c5, c6, c7, c8], _ =>
    match xs, hxl with
    | [x0, x1, x2, x3, x4, x5, x6, x7, x8], _ =>
      have f0 : DataW.trod enc Tryz.prog W 0 (fun _ => true) true m 3 (([c0, c1, c2, c3, c4, c5, c6, c7, c8].drop 0).take (Tryz.prog.cellsOf 3)) = some x0 := hf 0 _ rfl
      have f1 : DataW.trod enc Tryz.prog W 0 (fun _ => true) true m 9 (([c0, c1, c2, c3, c4, c5, c6, c7, c8].drop 1).take (Tryz.prog.cellsOf 9)) = some x1 := hf 1 _ rfl
      have f2 : DataW.trod enc Tryz.prog W 0 (fun _ => true) true m 9 (([c0, c1, c2, c3, c4, c5, c6, c7, c8].drop 2).take (Tryz.prog.cellsOf 9)) = some x2 := hf 2 _ rfl
      have f3 : DataW.trod enc Tryz.prog W 0 (fun _ => true) true m 47 (([c0, c1, c2, c3, c4, c5, c6, c7, c8].drop 3).take (Tryz.prog.cellsOf 47)) = some x3 := hf 3 _ rfl
      have f4 : DataW.trod enc Tryz.prog W 0 (fun _ => true) true m 47 (([c0, c1, c2, c3, c4, c5, c6, c7, c8].drop 4).take (Tryz.prog.cellsOf 47)) = some x4 := hf 4 _ rfl
      have f5 : DataW.trod enc Tryz.prog W 0 (fun _ => true) true m 4 (([c0, c1, c2, c3, c4, c5, c6, c7, c8].drop 5).take (Tryz.prog.cellsOf 4)) = some x5 := hf 5 _ rfl
      have f6 : DataW.trod enc Tryz.prog W 0 (fun _ => true) true m 3 (([c0, c1, c2, c3, c4, c5, c6, c7, c8].drop 6).take (Tryz.prog.cellsOf 3)) = some x6 := hf 6 _ rfl
      have f7 : DataW.trod enc Tryz.prog W 0 (fun _ => true) true m 3 (([c0, c1, c2, c3, c4, c5, c6, c7, c8].drop 7).take (Tryz.prog.cellsOf 3)) = some x7 := hf 7 _ rfl
      have f8 : DataW.trod enc Tryz.prog W 0 (fun _ => true) true m 3 (([c0, c1, c2, c3, c4, c5, c6, c7, c8].drop 8).take (Tryz.prog.cellsOf 3)) = some x8 := hf 8 _ rfl
      rw [c_int] at f0 f6 f7 f8
      rw [c_str] at f1 f2
      rw [c_nds] at f3 f4
      rw [c_bool] at f5
      obtain ⟨n0, e0, _⟩ := DataW.trod_int Tryz.underlying3 f0
      obtain ⟨n1, e1, _⟩ := DataW.trod_string Tryz.underlying9 f1
      obtain ⟨n2, e2, _⟩ := DataW.trod_string Tryz.underlying9 f2
      obtain ⟨l3, g3, i3⟩ := open_ndsF f3
      obtain ⟨l4, g4, i4⟩ := open_ndsF f4
      obtain ⟨n5, e5, _⟩ := DataW.trod_bool Tryz.underlying4 f5
      obtain ⟨n6, e6, _⟩ := DataW.trod_int Tryz.underlying3 f6
      obtain ⟨n7, e7, _⟩ := DataW.trod_int Tryz.underlying3 f7
      obtain ⟨n8, e8, _⟩ := DataW.trod_int Tryz.underlying3 f8
      have e0' : c0 = _ := (List.cons.inj e0).1
      have e1' : c1 = _ := (List.cons.inj e1).1
      have e2' : c2 = _ := (List.cons.inj e2).1
      have e5' : c5 = _ := (List.cons.inj e5).1
      have e6' : c6 = _ := (List.cons.inj e6).1
      have e7' : c7 = _ := (List.cons.inj e7).1
      have e8' : c8 = _ := (List.cons.inj e8).1
      subst e0' e1' e2' e5' e6' e7' e8'
      exact ⟨(⟨n0, n1, n2, l3, l4, n5, n6, n7, n8⟩, c3, c4), rfl, g3, g4, i3, i4⟩
set_option maxRecDepth 100000 in
theorem open_stsF {H : Type} {enc : TypeId × Value → H} {W : World} {fuel : Nat} {c : Value} {x : DataW H × List MemPlace} (h : DataW.trod enc Tryz.prog W 0 (fun _ => true) true fuel 41 [c] = some x) :
    ∃ ts : List SI, StsD W c ts ∧ BigOK ts ∧ NilOK c := by
  obtain ⟨ts, ad, cap, rfl, h0, h1, h2, h3⟩ := open_gen (α := SI) (S := 9) (⟨0, ⟨#[]⟩, ⟨#[]⟩, [], [], false, 0, 0, 0⟩, .bool false, .bool false) Tryz.underlying41 (by kernel_rfl) (by decide)
    (fun b off t => StAt W b off t ∧ NdsC W t.2.1 t.1.e ∧ NdsC W t.2.2 t.1.f ∧ t.1.e.length ≤ maxLen ∧ t.1.f.length ≤ maxLen)
    (fun n cs y b off hy hl hc hb => by
      obtain ⟨t, rfl, g⟩ := cell_stmt hy hl
      exact ⟨t, ⟨hc 0 (by decide), hc 1 (by decide), hc 2 (by decide), hc 3 (by decide), hc 4 (by decide), hc 5 (by decide), hc 6 (by decide), hc 7 (by decide), hc 8 (by decide)⟩, g⟩) h
  refine ⟨ts, ⟨ad, cap, rfl, h1, by unfold maxLen at h2; omega, fun i hi => ?_⟩, ⟨by omega, fun t ht => ?_⟩, h0⟩
  · obtain ⟨b, off, g1, g2, g3, g4, g5, _⟩ := h3 i hi
    exact ⟨b, off, g1, g2, g3, g4, g5⟩
  · obtain ⟨i, hi, rfl⟩ := List.mem_iff_getElem.1 ht
    obtain ⟨b, off, g1, g2, g3, g4, g5, g6⟩ := h3 i hi
    exact g6
end Go.Proofs.YtlpgafgiljffhaaGreatDoor
