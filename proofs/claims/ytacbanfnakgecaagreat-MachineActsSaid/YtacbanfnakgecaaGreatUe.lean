/- Units and configurations as they lie in memory; plainly, when they are right. Layer 7: Right of a unit: its parts. Layer 7: Right of a unit: rows of instructions. Layer 7: Right of a unit. -/
import Derived.Test.YtacbanfnakgecaaGreatUc
namespace Go.Proofs.YtacbanfnakgecaaGreat
set_option linter.unusedSimpArgs false
set_option linter.unusedVariables false
open Go.RowKit
structure Ins where
  op : Int
  reg : Int
  loc : Int
  e : List Opn
  f : List Opn
  ne : Bool
  to : Int
structure II where
  x : Ins
  ev : Value
  fv : Value
def II.cells (t : II) : List Value := [.int .i64 t.x.op, .int .i64 t.x.reg, .int .i64 t.x.loc, t.ev, t.fv, .bool t.x.ne, .int .i64 t.x.to]
structure IsAt (w : World) (b off : Nat) (t : II) : Prop where
  c0 : w.cell? ⟨b, off, none⟩ = some (.int .i64 t.x.op)
  c1 : w.cell? ⟨b, off + 1, none⟩ = some (.int .i64 t.x.reg)
  c2 : w.cell? ⟨b, off + 2, none⟩ = some (.int .i64 t.x.loc)
  c3 : w.cell? ⟨b, off + 3, none⟩ = some t.ev
  c4 : w.cell? ⟨b, off + 4, none⟩ = some t.fv
  c5 : w.cell? ⟨b, off + 5, none⟩ = some (.bool t.x.ne)
  c6 : w.cell? ⟨b, off + 6, none⟩ = some (.int .i64 t.x.to)
  e : OpsD w t.ev t.x.e
  f : OpsD w t.fv t.x.f
abbrev InsD := SlD 7 IsAt
structure RwAt (w : World) (b off : Nat) (x : List II × Value) : Prop where
  c : w.cell? ⟨b, off, none⟩ = some x.2
  r : InsD w x.2 x.1
abbrev CodD := SlD 1 RwAt
structure BfAt (w : World) (b off : Nat) (x : List Ent × Value) : Prop where
  c : w.cell? ⟨b, off, none⟩ = some x.2
  r : EntsD w x.2 x.1
abbrev BufsD := SlD 1 BfAt
section
variable {w w' : World} {v : Value}
theorem IsAt.below {b off : Nat} {t : II} (h : IsAt w b off t) (hb : Below w.heap.size w w') (hl : b < w.heap.size) : IsAt w' b off t :=
  ⟨(hb.cell (p := ⟨_, _, none⟩) hl).trans h.c0, (hb.cell (p := ⟨_, _, none⟩) hl).trans h.c1, (hb.cell (p := ⟨_, _, none⟩) hl).trans h.c2, (hb.cell (p := ⟨_, _, none⟩) hl).trans h.c3, (hb.cell (p := ⟨_, _, none⟩) hl).trans h.c4, (hb.cell (p := ⟨_, _, none⟩) hl).trans h.c5, (hb.cell (p := ⟨_, _, none⟩) hl).trans h.c6, OpsD.below h.e hb, OpsD.below h.f hb⟩
theorem InsD.below {xs : List II} (h : InsD w v xs) (hb : Below w.heap.size w w') : InsD w' v xs := h.mono hb.size fun _ _ _ hl h => h.below hb hl
theorem CodD.below {xs : List (List II × Value)} (h : CodD w v xs) (hb : Below w.heap.size w w') : CodD w' v xs := h.mono hb.size fun _ _ _ hl h => ⟨(hb.cell (p := ⟨_, _, none⟩) hl).trans h.c, InsD.below h.r hb⟩
theorem BufsD.below {xs : List (List Ent × Value)} (h : BufsD w v xs) (hb : Below w.heap.size w w') : BufsD w' v xs := h.mono hb.size fun _ _ _ hl h => ⟨(hb.cell (p := ⟨_, _, none⟩) hl).trans h.c, EntsD.below h.r hb⟩
end
theorem SlD.at {α : Type} {S : Nat} {R : World → Nat → Nat → α → Prop} {w : World} {ad : Option Addr} {n cap : Nat} {xs : List α} (h : SlD S R w (.slice ad n cap) xs) (k : Nat) (hk : k < xs.length) : ∃ b off, ad = some ⟨b, off, none⟩ ∧ b < w.heap.size ∧ R w b (off + k * S) xs[k] := by
  obtain ⟨ad', cap', hv, _, _, hc⟩ := h
  injection hv with e1 _ _
  obtain ⟨b, off, he, hl, h3⟩ := hc _ hk
  exact ⟨b, off, e1.trans he, hl, h3⟩
theorem SlD.len {α : Type} {S : Nat} {R : World → Nat → Nat → α → Prop} {w : World} {ad : Option Addr} {n cap : Nat} {xs : List α} (h : SlD S R w (.slice ad n cap) xs) : n = xs.length := by
  obtain ⟨ad', cap', hv, _⟩ := h
  injection hv
structure Un where
  mod : Int
  init : List Int
  regs : List Int
  code : List (List II × Value)
structure UnD (w : World) (vi vr vc : Value) (u : Un) : Prop where
  i : IntsD w vi u.init
  r : IntsD w vr u.regs
  c : CodD w vc u.code
structure Cf where
  pc : List Int
  regs : List (List Int × Value)
  mem : List Int
  buf : List (List Ent × Value)
structure CfD (w : World) (vp vr vm vb : Value) (c : Cf) : Prop where
  p : IntsD w vp c.pc
  r : AllD w vr c.regs
  m : IntsD w vm c.mem
  b : BufsD w vb c.buf
theorem UnD.below {w w' : World} {vi vr vc : Value} {u : Un} (h : UnD w vi vr vc u) (hb : Below w.heap.size w w') : UnD w' vi vr vc u := ⟨IntsD.below h.i hb, IntsD.below h.r hb, CodD.below h.c hb⟩
theorem CfD.below {w w' : World} {vp vr vm vb : Value} {c : Cf} (h : CfD w vp vr vm vb c) (hb : Below w.heap.size w w') : CfD w' vp vr vm vb c := ⟨IntsD.below h.p hb, AllD.below h.r hb, IntsD.below h.m hb, BufsD.below h.b hb⟩
def lightI (x : Ins) : Bool := decide (x.e.length ≤ 300) && decide (x.f.length ≤ 300)
def lightR (l : List II) : Bool := decide (l.length ≤ 200) && l.all fun t => lightI t.x
def lightU (u : Un) : Bool := decide (u.init.length ≤ 20) && (decide (u.regs.length ≤ 20) && (decide (u.code.length ≤ 8) && u.code.all fun r => lightR r.1))
def hasR (op : Int) : Bool := decide (op = 2 ∨ op = 3 ∨ op = 5 ∨ op = 6 ∨ op = 7)
def hasL (op : Int) : Bool := decide (op = 3 ∨ op = 4 ∨ op = 5 ∨ op = 6 ∨ op = 7 ∨ op = 9)
def hasE (op : Int) : Bool := decide (op = 2 ∨ op = 4 ∨ op = 5 ∨ op = 6 ∨ op = 7 ∨ op = 9 ∨ op = 21)
def hasF (op : Int) : Bool := decide (op = 5)
def hasN (op : Int) : Bool := decide (op = 9)
def hasT (op : Int) : Bool := decide (op = 20 ∨ op = 21)
def isK (op : Int) : Bool := decide ((2 ≤ op ∧ op ≤ 9) ∨ (20 ≤ op ∧ op ≤ 22))
def idxB (i : Int) (h : Bool) (n : Int) : Bool := if h then inB i n else decide (i = 0)
def codB (l : List Opn) (h : Bool) (own : Int) : Bool := if h then rightO l [] own 0 else decide (l.length = 0)
def insB (x : Ins) (own locs n : Int) : Bool :=
  isK x.op && (idxB x.reg (hasR x.op) own && (idxB x.loc (hasL x.op) locs && (idxB x.to (hasT x.op) n && (codB x.e (hasE x.op) own && (codB x.f (hasF x.op) own && (hasN x.op || !x.ne))))))
def seqF (own locs n : Int) : List II → Nat → Bool
  | [], _ => true
  | t :: r, k => (decide (t.x.op = 22) == decide ((k : Int) = n - 1) && insB t.x own locs n) && seqF own locs n r (k + 1)
def seqB (l : List II) (own locs : Int) : Bool := decide (1 ≤ l.length ∧ l.length ≤ 1000) && seqF own locs l.length l 0
def thrF (locs : Int) : List Int → List (List II × Value) → Bool
  | o :: r, c :: s => (inB o 7 && seqB c.1 o locs) && thrF locs r s
  | _, _ => true
def rightU (u : Un) : Bool :=
  decide (2 ≤ u.mod ∧ u.mod ≤ 16 ∧ u.init.length ≤ 6 ∧ 1 ≤ u.regs.length ∧ u.regs.length ≤ 4 ∧ u.code.length = u.regs.length) && (u.init.all (fun n => inB n u.mod) && thrF u.init.length u.regs u.code)
end Go.Proofs.YtacbanfnakgecaaGreat

namespace Go.Proofs.YtacbanfnakgecaaGreat
set_option linter.unusedSimpArgs false
set_option linter.unusedVariables false
open Go.RowKit
theorem lbelow_is (i n : Int) (b : Bool) (h : inB i n = b) (w : World) : Calls Tryz.prog 94 #[.int .i64 i, .int .i64 n] w fun e w' => e = .returned (.bool b) ∧ w = w' := by
  subst h
  go_enter Tryz.func94, Tryz.ntmps94
  go_wp2
  all_goals
    go_ret
    exact ⟨ret_bool (by simp_all [inB] <;> omega), rfl⟩
theorem ridx_is (i n : Int) (h b : Bool) (hb : idxB i h n = b) (w : World) : Calls Tryz.prog 123 #[.int .i64 i, .bool h, .int .i64 n] w fun e w' => e = .returned (.bool b) ∧ w = w' := by
  subst hb
  cases h with
  | false =>
    go_enter Tryz.func123, Tryz.ntmps123
    go_wp2
    go_ret
    exact ⟨ret_bool (by show (i == 0) = decide (i = 0); rfl), rfl⟩
  | true =>
    go_enter Tryz.func123, Tryz.ntmps123
    go_wp2_with (go_at_call 94; refine (lbelow_is _ _ _ rfl _).mono ?_; rintro e w2 ⟨rfl, rfl⟩)
    go_ret
    exact ⟨rfl, rfl⟩
theorem rcod_is (l : List Opn) (v : Value) (own : Int) (h b : Bool) (hb : codB l h own = b) (w : World) (hv : OpsD w v l) (hn : l.length ≤ 100000) : Calls Tryz.prog 124 #[v, .bool h, .int .i64 own] w fun e w' => e = .returned (.bool b) ∧ Below w.heap.size w w' := by
  have HV := Lib.hid hv
  obtain ⟨ad, cap, rfl⟩ := hv.shape0
  cases h with
  | false =>
    have HB : Hid (decide (l.length = 0) = b) := Lib.hid hb
    generalize l.length = n at HB HV
    clear hb hv hn
    go_enter Tryz.func124, Tryz.ntmps124
    go_wp2
    go_ret
    exact ⟨ret_bool (by rw [← HB.out, Bool.eq_iff_iff]; simp), Below.refl _ _⟩
  | true =>
    have H := Lib.hid (right_code l [] _ (.slice none 0 0) own 0 w hv SlD.nil hn b hb)
    generalize l.length = n at H HV
    clear hb hv hn
    go_enter Tryz.func124, Tryz.ntmps124
    go_wp2_with fail
    refine H.out.mono ?_
    rintro e w2 ⟨rfl, b2⟩
    go_wp2
    go_ret
    exact ⟨rfl, b2⟩
def prtV (op : Int) : Value := if isK op then .agg #[.bool (hasR op), .bool (hasL op), .bool (hasE op), .bool (hasF op), .bool (hasN op), .bool (hasT op)] else .agg #[.bool false, .bool false, .bool false, .bool false, .bool false, .bool false]
set_option maxRecDepth 100000 in
set_option maxHeartbeats 2000000 in
theorem parts_any (op : Int) (w : World) : Calls Tryz.prog 122 #[.int .i64 op] w fun e w' => e = .returned (.tuple #[prtV op, .bool (isK op)]) ∧ Below w.heap.size w w' := by
  go_enter Tryz.func122, Tryz.ntmps122
  go_wp2
  all_goals
    refine bodyPost_ret (by simp [results, Tryz.results122, go_sem]; rfl) rfl ⟨?_, (Below.refl _ _).alloc (Nat.le_refl _) _⟩
    refine congrArg Ending.returned (congrArg Value.tuple ?_)
    first | (have ho := eq_of_beq (by assumption : (op == _) = true); subst ho; rfl) | skip
  all_goals
    have hn : ¬ op = 2 ∧ ¬ op = 3 ∧ ¬ op = 4 ∧ ¬ op = 5 ∧ ¬ op = 6 ∧ ¬ op = 7 ∧ ¬ op = 8 ∧ ¬ op = 9 ∧ ¬ op = 20 ∧ ¬ op = 21 ∧ ¬ op = 22 := by simp_all
    have h1 : isK op = false := by unfold isK; exact decide_eq_false (by omega)
    unfold prtV
    rw [h1]
    rfl
set_option maxRecDepth 100000 in
set_option maxHeartbeats 4000000 in
theorem rinstr_any (t : II) (own locs n : Int) (w : World) (he : OpsD w t.ev t.x.e) (hf : OpsD w t.fv t.x.f) (hn : t.x.e.length ≤ 100000 ∧ t.x.f.length ≤ 100000) (b : Bool) (hb : insB t.x own locs n = b) :
    Calls Tryz.prog 114 #[.agg t.cells.toArray, .int .i64 own, .int .i64 locs, .int .i64 n] w fun e w' => e = .returned (.bool b) ∧ Below w.heap.size w w' := by
  obtain ⟨⟨op, reg, loc, le, lf, ne, to⟩, ev, fv⟩ := t
  simp only [] at he hf hn hb
  have HE := Lib.hid he
  have HF := Lib.hid hf
  obtain ⟨ae, ce, rfl⟩ := he.shape0
  obtain ⟨af, cf, rfl⟩ := hf.shape0
  show Calls Tryz.prog 114 #[.agg #[.int .i64 op, .int .i64 reg, .int .i64 loc, .slice ae le.length ce, .slice af lf.length cf, .bool ne, .int .i64 to], .int .i64 own, .int .i64 locs, .int .i64 n] w _
  have HN := Lib.hid hn
  have HB := Lib.hid hb
  have HLE := Lib.hid (fun (own : Int) (h : Bool) (W : World) (hb : Below w.heap.size w W) => rcod_is le _ own h _ rfl W (OpsD.below he hb) hn.1)
  have HLF := Lib.hid (fun (own : Int) (h : Bool) (W : World) (hb : Below w.heap.size w W) => rcod_is lf _ own h _ rfl W (OpsD.below hf hb) hn.2)
  generalize le.length = ne1 at HE HN HLE ⊢
  generalize lf.length = nf1 at HF HN HLF ⊢
  have K1 := Lib.hid (Bk.new w 57 #[.int .i64 op, .int .i64 reg, .int .i64 loc, .slice ae ne1 ce, .slice af nf1 cf, .bool ne, .int .i64 to])
  have L1 : Hid (Below w.heap.size w (w.alloc (.cells #[.int .i64 op, .int .i64 reg, .int .i64 loc, .slice ae ne1 ce, .slice af nf1 cf, .bool ne, .int .i64 to] 57))) := (Below.refl _ _).alloc (Nat.le_refl _) _
  clear he hf hn hb
  go_enter Tryz.func114, Tryz.ntmps114
  go_wp2_with fail
  generalize w.alloc _ = w1 at K1 L1 ⊢
  refine (parts_any op w1).mono ?_
  rintro e w2 ⟨rfl, b2⟩
  have K2 := Lib.hid (K1.out.below b2)
  have L2 := Lib.hid (L1.out.trans (b2.mono L1.out.size))
  clear b2 K1 L1
  cases hk : isK op with
  | false =>
    rw [show prtV op = .agg #[.bool false, .bool false, .bool false, .bool false, .bool false, .bool false] by unfold prtV; rw [hk]; rfl]
    have HK := Lib.hid hk
    clear hk
    go_wp2_with fail
    go_ret
    refine ⟨ret_bool ?_, L2.out.alloc L2.out.size _⟩
    rw [← HB.out]; unfold insB; rw [HK.out]; rfl
  | true =>
    have hbb : (idxB reg (hasR op) own && (idxB loc (hasL op) locs && (idxB to (hasT op) n && (codB le (hasE op) own && (codB lf (hasF op) own && (hasN op || !ne)))))) = b := by
      have := HB.out
      unfold insB at this
      rw [hk, Bool.true_and] at this
      exact this
    rw [show prtV op = .agg #[.bool (hasR op), .bool (hasL op), .bool (hasE op), .bool (hasF op), .bool (hasN op), .bool (hasT op)] by unfold prtV; rw [hk]; rfl]
    clear hk HB
    have H1 := Lib.hid (fun W => ridx_is reg own (hasR op) _ rfl W)
    have H2 := Lib.hid (fun W => ridx_is loc locs (hasL op) _ rfl W)
    have H3 := Lib.hid (fun W => ridx_is to n (hasT op) _ rfl W)
    have H4 := Lib.hid (HLE.out own (hasE op))
    have H5 := Lib.hid (HLF.out own (hasF op))
    clear HLE HLF HE HF HN
    generalize idxB reg (hasR op) own = b1 at H1 hbb
    generalize idxB loc (hasL op) locs = b2 at H2 hbb
    generalize idxB to (hasT op) n = b3 at H3 hbb
    generalize codB le (hasE op) own = b4 at H4 hbb
    generalize codB lf (hasF op) own = b5 at H5 hbb
    generalize hasR op = h1 at H1 ⊢
    generalize hasL op = h2 at H2 ⊢
    generalize hasE op = h3 at H4 ⊢
    generalize hasF op = h4 at H5 ⊢
    generalize hasN op = h5 at hbb ⊢
    generalize hasT op = h6 at H3 ⊢
    have HBB := Lib.hid hbb
    clear hbb
    have KN := Lib.hid (Bk.new w2 141 #[.bool h1, .bool h2, .bool h3, .bool h4, .bool h5, .bool h6])
    have LN : Hid (Below w2.heap.size w2 (w2.alloc (.cells #[.bool h1, .bool h2, .bool h3, .bool h4, .bool h5, .bool h6] 141))) := (Below.refl _ _).alloc (Nat.le_refl _) _
    have K3 := Lib.hid (K2.out.below LN.out)
    have L3 := Lib.hid (L2.out.trans (LN.out.mono L2.out.size))
    clear K2 LN L2
    cases b1 with
    | false =>
      have c0 : (w2.alloc (.cells #[.bool h1, .bool h2, .bool h3, .bool h4, .bool h5, .bool h6] 141)).cell? ⟨w.heap.size, 0, none⟩ = some (.int .i64 op) := K3.out.cell 0; have c1 : (w2.alloc (.cells #[.bool h1, .bool h2, .bool h3, .bool h4, .bool h5, .bool h6] 141)).cell? ⟨w.heap.size, 1, none⟩ = some (.int .i64 reg) := K3.out.cell 1; have c2 : (w2.alloc (.cells #[.bool h1, .bool h2, .bool h3, .bool h4, .bool h5, .bool h6] 141)).cell? ⟨w.heap.size, 2, none⟩ = some (.int .i64 loc) := K3.out.cell 2; have c3 : (w2.alloc (.cells #[.bool h1, .bool h2, .bool h3, .bool h4, .bool h5, .bool h6] 141)).cell? ⟨w.heap.size, 3, none⟩ = some (.slice ae ne1 ce) := K3.out.cell 3; have c4 : (w2.alloc (.cells #[.bool h1, .bool h2, .bool h3, .bool h4, .bool h5, .bool h6] 141)).cell? ⟨w.heap.size, 4, none⟩ = some (.slice af nf1 cf) := K3.out.cell 4; have c5 : (w2.alloc (.cells #[.bool h1, .bool h2, .bool h3, .bool h4, .bool h5, .bool h6] 141)).cell? ⟨w.heap.size, 5, none⟩ = some (.bool ne) := K3.out.cell 5; have c6 : (w2.alloc (.cells #[.bool h1, .bool h2, .bool h3, .bool h4, .bool h5, .bool h6] 141)).cell? ⟨w.heap.size, 6, none⟩ = some (.int .i64 to) := K3.out.cell 6; have d0 : (w2.alloc (.cells #[.bool h1, .bool h2, .bool h3, .bool h4, .bool h5, .bool h6] 141)).cell? ⟨w2.heap.size, 0, none⟩ = some (.bool h1) := KN.out.cell 0; have d1 : (w2.alloc (.cells #[.bool h1, .bool h2, .bool h3, .bool h4, .bool h5, .bool h6] 141)).cell? ⟨w2.heap.size, 1, none⟩ = some (.bool h2) := KN.out.cell 1; have d2 : (w2.alloc (.cells #[.bool h1, .bool h2, .bool h3, .bool h4, .bool h5, .bool h6] 141)).cell? ⟨w2.heap.size, 2, none⟩ = some (.bool h3) := KN.out.cell 2; have d3 : (w2.alloc (.cells #[.bool h1, .bool h2, .bool h3, .bool h4, .bool h5, .bool h6] 141)).cell? ⟨w2.heap.size, 3, none⟩ = some (.bool h4) := KN.out.cell 3; have d4 : (w2.alloc (.cells #[.bool h1, .bool h2, .bool h3, .bool h4, .bool h5, .bool h6] 141)).cell? ⟨w2.heap.size, 4, none⟩ = some (.bool h5) := KN.out.cell 4; have d5 : (w2.alloc (.cells #[.bool h1, .bool h2, .bool h3, .bool h4, .bool h5, .bool h6] 141)).cell? ⟨w2.heap.size, 5, none⟩ = some (.bool h6) := KN.out.cell 5; have hl1 := K3.out.lt; have hl2 := KN.out.lt
      go_wp2_with (first
        | (go_at_call 123; (first | (with_reducible refine (H1.out _).mono ?_) | (with_reducible refine (H2.out _).mono ?_) | (with_reducible refine (H3.out _).mono ?_)); rintro e wn ⟨rfl, rfl⟩)
        | (go_at_call 124; (first | (with_reducible refine (H4.out _ L3.out).mono ?_) | (with_reducible refine (H5.out _ L3.out).mono ?_)); rintro e wn ⟨rfl, bn⟩; replace K3 := Lib.hid (K3.out.below bn); replace KN := Lib.hid (KN.out.below bn); replace L3 := Lib.hid (L3.out.trans (bn.mono L3.out.size)); clear c0 c1 c2 c3 c4 c5 c6 d0 d1 d2 d3 d4 d5 hl1 hl2 bn; have c0 : wn.cell? ⟨w.heap.size, 0, none⟩ = some (.int .i64 op) := K3.out.cell 0; have c1 : wn.cell? ⟨w.heap.size, 1, none⟩ = some (.int .i64 reg) := K3.out.cell 1; have c2 : wn.cell? ⟨w.heap.size, 2, none⟩ = some (.int .i64 loc) := K3.out.cell 2; have c3 : wn.cell? ⟨w.heap.size, 3, none⟩ = some (.slice ae ne1 ce) := K3.out.cell 3; have c4 : wn.cell? ⟨w.heap.size, 4, none⟩ = some (.slice af nf1 cf) := K3.out.cell 4; have c5 : wn.cell? ⟨w.heap.size, 5, none⟩ = some (.bool ne) := K3.out.cell 5; have c6 : wn.cell? ⟨w.heap.size, 6, none⟩ = some (.int .i64 to) := K3.out.cell 6; have d0 : wn.cell? ⟨w2.heap.size, 0, none⟩ = some (.bool h1) := KN.out.cell 0; have d1 : wn.cell? ⟨w2.heap.size, 1, none⟩ = some (.bool h2) := KN.out.cell 1; have d2 : wn.cell? ⟨w2.heap.size, 2, none⟩ = some (.bool h3) := KN.out.cell 2; have d3 : wn.cell? ⟨w2.heap.size, 3, none⟩ = some (.bool h4) := KN.out.cell 3; have d4 : wn.cell? ⟨w2.heap.size, 4, none⟩ = some (.bool h5) := KN.out.cell 4; have d5 : wn.cell? ⟨w2.heap.size, 5, none⟩ = some (.bool h6) := KN.out.cell 5; have hl1 := K3.out.lt; have hl2 := KN.out.lt))
      go_ret
      exact ⟨ret_bool (by rw [← HBB.out]; rfl), L3.out⟩
    | true =>
      cases b2 with
      | false =>
        have c0 : (w2.alloc (.cells #[.bool h1, .bool h2, .bool h3, .bool h4, .bool h5, .bool h6] 141)).cell? ⟨w.heap.size, 0, none⟩ = some (.int .i64 op) := K3.out.cell 0; have c1 : (w2.alloc (.cells #[.bool h1, .bool h2, .bool h3, .bool h4, .bool h5, .bool h6] 141)).cell? ⟨w.heap.size, 1, none⟩ = some (.int .i64 reg) := K3.out.cell 1; have c2 : (w2.alloc (.cells #[.bool h1, .bool h2, .bool h3, .bool h4, .bool h5, .bool h6] 141)).cell? ⟨w.heap.size, 2, none⟩ = some (.int .i64 loc) := K3.out.cell 2; have c3 : (w2.alloc (.cells #[.bool h1, .bool h2, .bool h3, .bool h4, .bool h5, .bool h6] 141)).cell? ⟨w.heap.size, 3, none⟩ = some (.slice ae ne1 ce) := K3.out.cell 3; have c4 : (w2.alloc (.cells #[.bool h1, .bool h2, .bool h3, .bool h4, .bool h5, .bool h6] 141)).cell? ⟨w.heap.size, 4, none⟩ = some (.slice af nf1 cf) := K3.out.cell 4; have c5 : (w2.alloc (.cells #[.bool h1, .bool h2, .bool h3, .bool h4, .bool h5, .bool h6] 141)).cell? ⟨w.heap.size, 5, none⟩ = some (.bool ne) := K3.out.cell 5; have c6 : (w2.alloc (.cells #[.bool h1, .bool h2, .bool h3, .bool h4, .bool h5, .bool h6] 141)).cell? ⟨w.heap.size, 6, none⟩ = some (.int .i64 to) := K3.out.cell 6; have d0 : (w2.alloc (.cells #[.bool h1, .bool h2, .bool h3, .bool h4, .bool h5, .bool h6] 141)).cell? ⟨w2.heap.size, 0, none⟩ = some (.bool h1) := KN.out.cell 0; have d1 : (w2.alloc (.cells #[.bool h1, .bool h2, .bool h3, .bool h4, .bool h5, .bool h6] 141)).cell? ⟨w2.heap.size, 1, none⟩ = some (.bool h2) := KN.out.cell 1; have d2 : (w2.alloc (.cells #[.bool h1, .bool h2, .bool h3, .bool h4, .bool h5, .bool h6] 141)).cell? ⟨w2.heap.size, 2, none⟩ = some (.bool h3) := KN.out.cell 2; have d3 : (w2.alloc (.cells #[.bool h1, .bool h2, .bool h3, .bool h4, .bool h5, .bool h6] 141)).cell? ⟨w2.heap.size, 3, none⟩ = some (.bool h4) := KN.out.cell 3; have d4 : (w2.alloc (.cells #[.bool h1, .bool h2, .bool h3, .bool h4, .bool h5, .bool h6] 141)).cell? ⟨w2.heap.size, 4, none⟩ = some (.bool h5) := KN.out.cell 4; have d5 : (w2.alloc (.cells #[.bool h1, .bool h2, .bool h3, .bool h4, .bool h5, .bool h6] 141)).cell? ⟨w2.heap.size, 5, none⟩ = some (.bool h6) := KN.out.cell 5; have hl1 := K3.out.lt; have hl2 := KN.out.lt
        go_wp2_with (first
        | (go_at_call 123; (first | (with_reducible refine (H1.out _).mono ?_) | (with_reducible refine (H2.out _).mono ?_) | (with_reducible refine (H3.out _).mono ?_)); rintro e wn ⟨rfl, rfl⟩)
        | (go_at_call 124; (first | (with_reducible refine (H4.out _ L3.out).mono ?_) | (with_reducible refine (H5.out _ L3.out).mono ?_)); rintro e wn ⟨rfl, bn⟩; replace K3 := Lib.hid (K3.out.below bn); replace KN := Lib.hid (KN.out.below bn); replace L3 := Lib.hid (L3.out.trans (bn.mono L3.out.size)); clear c0 c1 c2 c3 c4 c5 c6 d0 d1 d2 d3 d4 d5 hl1 hl2 bn; have c0 : wn.cell? ⟨w.heap.size, 0, none⟩ = some (.int .i64 op) := K3.out.cell 0; have c1 : wn.cell? ⟨w.heap.size, 1, none⟩ = some (.int .i64 reg) := K3.out.cell 1; have c2 : wn.cell? ⟨w.heap.size, 2, none⟩ = some (.int .i64 loc) := K3.out.cell 2; have c3 : wn.cell? ⟨w.heap.size, 3, none⟩ = some (.slice ae ne1 ce) := K3.out.cell 3; have c4 : wn.cell? ⟨w.heap.size, 4, none⟩ = some (.slice af nf1 cf) := K3.out.cell 4; have c5 : wn.cell? ⟨w.heap.size, 5, none⟩ = some (.bool ne) := K3.out.cell 5; have c6 : wn.cell? ⟨w.heap.size, 6, none⟩ = some (.int .i64 to) := K3.out.cell 6; have d0 : wn.cell? ⟨w2.heap.size, 0, none⟩ = some (.bool h1) := KN.out.cell 0; have d1 : wn.cell? ⟨w2.heap.size, 1, none⟩ = some (.bool h2) := KN.out.cell 1; have d2 : wn.cell? ⟨w2.heap.size, 2, none⟩ = some (.bool h3) := KN.out.cell 2; have d3 : wn.cell? ⟨w2.heap.size, 3, none⟩ = some (.bool h4) := KN.out.cell 3; have d4 : wn.cell? ⟨w2.heap.size, 4, none⟩ = some (.bool h5) := KN.out.cell 4; have d5 : wn.cell? ⟨w2.heap.size, 5, none⟩ = some (.bool h6) := KN.out.cell 5; have hl1 := K3.out.lt; have hl2 := KN.out.lt))
        go_ret
        exact ⟨ret_bool (by rw [← HBB.out]; rfl), L3.out⟩
      | true =>
        cases b3 with
        | false =>
          have c0 : (w2.alloc (.cells #[.bool h1, .bool h2, .bool h3, .bool h4, .bool h5, .bool h6] 141)).cell? ⟨w.heap.size, 0, none⟩ = some (.int .i64 op) := K3.out.cell 0; have c1 : (w2.alloc (.cells #[.bool h1, .bool h2, .bool h3, .bool h4, .bool h5, .bool h6] 141)).cell? ⟨w.heap.size, 1, none⟩ = some (.int .i64 reg) := K3.out.cell 1; have c2 : (w2.alloc (.cells #[.bool h1, .bool h2, .bool h3, .bool h4, .bool h5, .bool h6] 141)).cell? ⟨w.heap.size, 2, none⟩ = some (.int .i64 loc) := K3.out.cell 2; have c3 : (w2.alloc (.cells #[.bool h1, .bool h2, .bool h3, .bool h4, .bool h5, .bool h6] 141)).cell? ⟨w.heap.size, 3, none⟩ = some (.slice ae ne1 ce) := K3.out.cell 3; have c4 : (w2.alloc (.cells #[.bool h1, .bool h2, .bool h3, .bool h4, .bool h5, .bool h6] 141)).cell? ⟨w.heap.size, 4, none⟩ = some (.slice af nf1 cf) := K3.out.cell 4; have c5 : (w2.alloc (.cells #[.bool h1, .bool h2, .bool h3, .bool h4, .bool h5, .bool h6] 141)).cell? ⟨w.heap.size, 5, none⟩ = some (.bool ne) := K3.out.cell 5; have c6 : (w2.alloc (.cells #[.bool h1, .bool h2, .bool h3, .bool h4, .bool h5, .bool h6] 141)).cell? ⟨w.heap.size, 6, none⟩ = some (.int .i64 to) := K3.out.cell 6; have d0 : (w2.alloc (.cells #[.bool h1, .bool h2, .bool h3, .bool h4, .bool h5, .bool h6] 141)).cell? ⟨w2.heap.size, 0, none⟩ = some (.bool h1) := KN.out.cell 0; have d1 : (w2.alloc (.cells #[.bool h1, .bool h2, .bool h3, .bool h4, .bool h5, .bool h6] 141)).cell? ⟨w2.heap.size, 1, none⟩ = some (.bool h2) := KN.out.cell 1; have d2 : (w2.alloc (.cells #[.bool h1, .bool h2, .bool h3, .bool h4, .bool h5, .bool h6] 141)).cell? ⟨w2.heap.size, 2, none⟩ = some (.bool h3) := KN.out.cell 2; have d3 : (w2.alloc (.cells #[.bool h1, .bool h2, .bool h3, .bool h4, .bool h5, .bool h6] 141)).cell? ⟨w2.heap.size, 3, none⟩ = some (.bool h4) := KN.out.cell 3; have d4 : (w2.alloc (.cells #[.bool h1, .bool h2, .bool h3, .bool h4, .bool h5, .bool h6] 141)).cell? ⟨w2.heap.size, 4, none⟩ = some (.bool h5) := KN.out.cell 4; have d5 : (w2.alloc (.cells #[.bool h1, .bool h2, .bool h3, .bool h4, .bool h5, .bool h6] 141)).cell? ⟨w2.heap.size, 5, none⟩ = some (.bool h6) := KN.out.cell 5; have hl1 := K3.out.lt; have hl2 := KN.out.lt
          go_wp2_with (first
        | (go_at_call 123; (first | (with_reducible refine (H1.out _).mono ?_) | (with_reducible refine (H2.out _).mono ?_) | (with_reducible refine (H3.out _).mono ?_)); rintro e wn ⟨rfl, rfl⟩)
        | (go_at_call 124; (first | (with_reducible refine (H4.out _ L3.out).mono ?_) | (with_reducible refine (H5.out _ L3.out).mono ?_)); rintro e wn ⟨rfl, bn⟩; replace K3 := Lib.hid (K3.out.below bn); replace KN := Lib.hid (KN.out.below bn); replace L3 := Lib.hid (L3.out.trans (bn.mono L3.out.size)); clear c0 c1 c2 c3 c4 c5 c6 d0 d1 d2 d3 d4 d5 hl1 hl2 bn; have c0 : wn.cell? ⟨w.heap.size, 0, none⟩ = some (.int .i64 op) := K3.out.cell 0; have c1 : wn.cell? ⟨w.heap.size, 1, none⟩ = some (.int .i64 reg) := K3.out.cell 1; have c2 : wn.cell? ⟨w.heap.size, 2, none⟩ = some (.int .i64 loc) := K3.out.cell 2; have c3 : wn.cell? ⟨w.heap.size, 3, none⟩ = some (.slice ae ne1 ce) := K3.out.cell 3; have c4 : wn.cell? ⟨w.heap.size, 4, none⟩ = some (.slice af nf1 cf) := K3.out.cell 4; have c5 : wn.cell? ⟨w.heap.size, 5, none⟩ = some (.bool ne) := K3.out.cell 5; have c6 : wn.cell? ⟨w.heap.size, 6, none⟩ = some (.int .i64 to) := K3.out.cell 6; have d0 : wn.cell? ⟨w2.heap.size, 0, none⟩ = some (.bool h1) := KN.out.cell 0; have d1 : wn.cell? ⟨w2.heap.size, 1, none⟩ = some (.bool h2) := KN.out.cell 1; have d2 : wn.cell? ⟨w2.heap.size, 2, none⟩ = some (.bool h3) := KN.out.cell 2; have d3 : wn.cell? ⟨w2.heap.size, 3, none⟩ = some (.bool h4) := KN.out.cell 3; have d4 : wn.cell? ⟨w2.heap.size, 4, none⟩ = some (.bool h5) := KN.out.cell 4; have d5 : wn.cell? ⟨w2.heap.size, 5, none⟩ = some (.bool h6) := KN.out.cell 5; have hl1 := K3.out.lt; have hl2 := KN.out.lt))
          go_ret
          exact ⟨ret_bool (by rw [← HBB.out]; rfl), L3.out⟩
        | true =>
          cases b4 with
          | false =>
            have c0 : (w2.alloc (.cells #[.bool h1, .bool h2, .bool h3, .bool h4, .bool h5, .bool h6] 141)).cell? ⟨w.heap.size, 0, none⟩ = some (.int .i64 op) := K3.out.cell 0; have c1 : (w2.alloc (.cells #[.bool h1, .bool h2, .bool h3, .bool h4, .bool h5, .bool h6] 141)).cell? ⟨w.heap.size, 1, none⟩ = some (.int .i64 reg) := K3.out.cell 1; have c2 : (w2.alloc (.cells #[.bool h1, .bool h2, .bool h3, .bool h4, .bool h5, .bool h6] 141)).cell? ⟨w.heap.size, 2, none⟩ = some (.int .i64 loc) := K3.out.cell 2; have c3 : (w2.alloc (.cells #[.bool h1, .bool h2, .bool h3, .bool h4, .bool h5, .bool h6] 141)).cell? ⟨w.heap.size, 3, none⟩ = some (.slice ae ne1 ce) := K3.out.cell 3; have c4 : (w2.alloc (.cells #[.bool h1, .bool h2, .bool h3, .bool h4, .bool h5, .bool h6] 141)).cell? ⟨w.heap.size, 4, none⟩ = some (.slice af nf1 cf) := K3.out.cell 4; have c5 : (w2.alloc (.cells #[.bool h1, .bool h2, .bool h3, .bool h4, .bool h5, .bool h6] 141)).cell? ⟨w.heap.size, 5, none⟩ = some (.bool ne) := K3.out.cell 5; have c6 : (w2.alloc (.cells #[.bool h1, .bool h2, .bool h3, .bool h4, .bool h5, .bool h6] 141)).cell? ⟨w.heap.size, 6, none⟩ = some (.int .i64 to) := K3.out.cell 6; have d0 : (w2.alloc (.cells #[.bool h1, .bool h2, .bool h3, .bool h4, .bool h5, .bool h6] 141)).cell? ⟨w2.heap.size, 0, none⟩ = some (.bool h1) := KN.out.cell 0; have d1 : (w2.alloc (.cells #[.bool h1, .bool h2, .bool h3, .bool h4, .bool h5, .bool h6] 141)).cell? ⟨w2.heap.size, 1, none⟩ = some (.bool h2) := KN.out.cell 1; have d2 : (w2.alloc (.cells #[.bool h1, .bool h2, .bool h3, .bool h4, .bool h5, .bool h6] 141)).cell? ⟨w2.heap.size, 2, none⟩ = some (.bool h3) := KN.out.cell 2; have d3 : (w2.alloc (.cells #[.bool h1, .bool h2, .bool h3, .bool h4, .bool h5, .bool h6] 141)).cell? ⟨w2.heap.size, 3, none⟩ = some (.bool h4) := KN.out.cell 3; have d4 : (w2.alloc (.cells #[.bool h1, .bool h2, .bool h3, .bool h4, .bool h5, .bool h6] 141)).cell? ⟨w2.heap.size, 4, none⟩ = some (.bool h5) := KN.out.cell 4; have d5 : (w2.alloc (.cells #[.bool h1, .bool h2, .bool h3, .bool h4, .bool h5, .bool h6] 141)).cell? ⟨w2.heap.size, 5, none⟩ = some (.bool h6) := KN.out.cell 5; have hl1 := K3.out.lt; have hl2 := KN.out.lt
            go_wp2_with (first
        | (go_at_call 123; (first | (with_reducible refine (H1.out _).mono ?_) | (with_reducible refine (H2.out _).mono ?_) | (with_reducible refine (H3.out _).mono ?_)); rintro e wn ⟨rfl, rfl⟩)
        | (go_at_call 124; (first | (with_reducible refine (H4.out _ L3.out).mono ?_) | (with_reducible refine (H5.out _ L3.out).mono ?_)); rintro e wn ⟨rfl, bn⟩; replace K3 := Lib.hid (K3.out.below bn); replace KN := Lib.hid (KN.out.below bn); replace L3 := Lib.hid (L3.out.trans (bn.mono L3.out.size)); clear c0 c1 c2 c3 c4 c5 c6 d0 d1 d2 d3 d4 d5 hl1 hl2 bn; have c0 : wn.cell? ⟨w.heap.size, 0, none⟩ = some (.int .i64 op) := K3.out.cell 0; have c1 : wn.cell? ⟨w.heap.size, 1, none⟩ = some (.int .i64 reg) := K3.out.cell 1; have c2 : wn.cell? ⟨w.heap.size, 2, none⟩ = some (.int .i64 loc) := K3.out.cell 2; have c3 : wn.cell? ⟨w.heap.size, 3, none⟩ = some (.slice ae ne1 ce) := K3.out.cell 3; have c4 : wn.cell? ⟨w.heap.size, 4, none⟩ = some (.slice af nf1 cf) := K3.out.cell 4; have c5 : wn.cell? ⟨w.heap.size, 5, none⟩ = some (.bool ne) := K3.out.cell 5; have c6 : wn.cell? ⟨w.heap.size, 6, none⟩ = some (.int .i64 to) := K3.out.cell 6; have d0 : wn.cell? ⟨w2.heap.size, 0, none⟩ = some (.bool h1) := KN.out.cell 0; have d1 : wn.cell? ⟨w2.heap.size, 1, none⟩ = some (.bool h2) := KN.out.cell 1; have d2 : wn.cell? ⟨w2.heap.size, 2, none⟩ = some (.bool h3) := KN.out.cell 2; have d3 : wn.cell? ⟨w2.heap.size, 3, none⟩ = some (.bool h4) := KN.out.cell 3; have d4 : wn.cell? ⟨w2.heap.size, 4, none⟩ = some (.bool h5) := KN.out.cell 4; have d5 : wn.cell? ⟨w2.heap.size, 5, none⟩ = some (.bool h6) := KN.out.cell 5; have hl1 := K3.out.lt; have hl2 := KN.out.lt))
            go_ret
            exact ⟨ret_bool (by rw [← HBB.out]; rfl), L3.out⟩
          | true =>
            cases b5 with
            | false =>
              have c0 : (w2.alloc (.cells #[.bool h1, .bool h2, .bool h3, .bool h4, .bool h5, .bool h6] 141)).cell? ⟨w.heap.size, 0, none⟩ = some (.int .i64 op) := K3.out.cell 0; have c1 : (w2.alloc (.cells #[.bool h1, .bool h2, .bool h3, .bool h4, .bool h5, .bool h6] 141)).cell? ⟨w.heap.size, 1, none⟩ = some (.int .i64 reg) := K3.out.cell 1; have c2 : (w2.alloc (.cells #[.bool h1, .bool h2, .bool h3, .bool h4, .bool h5, .bool h6] 141)).cell? ⟨w.heap.size, 2, none⟩ = some (.int .i64 loc) := K3.out.cell 2; have c3 : (w2.alloc (.cells #[.bool h1, .bool h2, .bool h3, .bool h4, .bool h5, .bool h6] 141)).cell? ⟨w.heap.size, 3, none⟩ = some (.slice ae ne1 ce) := K3.out.cell 3; have c4 : (w2.alloc (.cells #[.bool h1, .bool h2, .bool h3, .bool h4, .bool h5, .bool h6] 141)).cell? ⟨w.heap.size, 4, none⟩ = some (.slice af nf1 cf) := K3.out.cell 4; have c5 : (w2.alloc (.cells #[.bool h1, .bool h2, .bool h3, .bool h4, .bool h5, .bool h6] 141)).cell? ⟨w.heap.size, 5, none⟩ = some (.bool ne) := K3.out.cell 5; have c6 : (w2.alloc (.cells #[.bool h1, .bool h2, .bool h3, .bool h4, .bool h5, .bool h6] 141)).cell? ⟨w.heap.size, 6, none⟩ = some (.int .i64 to) := K3.out.cell 6; have d0 : (w2.alloc (.cells #[.bool h1, .bool h2, .bool h3, .bool h4, .bool h5, .bool h6] 141)).cell? ⟨w2.heap.size, 0, none⟩ = some (.bool h1) := KN.out.cell 0; have d1 : (w2.alloc (.cells #[.bool h1, .bool h2, .bool h3, .bool h4, .bool h5, .bool h6] 141)).cell? ⟨w2.heap.size, 1, none⟩ = some (.bool h2) := KN.out.cell 1; have d2 : (w2.alloc (.cells #[.bool h1, .bool h2, .bool h3, .bool h4, .bool h5, .bool h6] 141)).cell? ⟨w2.heap.size, 2, none⟩ = some (.bool h3) := KN.out.cell 2; have d3 : (w2.alloc (.cells #[.bool h1, .bool h2, .bool h3, .bool h4, .bool h5, .bool h6] 141)).cell? ⟨w2.heap.size, 3, none⟩ = some (.bool h4) := KN.out.cell 3; have d4 : (w2.alloc (.cells #[.bool h1, .bool h2, .bool h3, .bool h4, .bool h5, .bool h6] 141)).cell? ⟨w2.heap.size, 4, none⟩ = some (.bool h5) := KN.out.cell 4; have d5 : (w2.alloc (.cells #[.bool h1, .bool h2, .bool h3, .bool h4, .bool h5, .bool h6] 141)).cell? ⟨w2.heap.size, 5, none⟩ = some (.bool h6) := KN.out.cell 5; have hl1 := K3.out.lt; have hl2 := KN.out.lt
              go_wp2_with (first
        | (go_at_call 123; (first | (with_reducible refine (H1.out _).mono ?_) | (with_reducible refine (H2.out _).mono ?_) | (with_reducible refine (H3.out _).mono ?_)); rintro e wn ⟨rfl, rfl⟩)
        | (go_at_call 124; (first | (with_reducible refine (H4.out _ L3.out).mono ?_) | (with_reducible refine (H5.out _ L3.out).mono ?_)); rintro e wn ⟨rfl, bn⟩; replace K3 := Lib.hid (K3.out.below bn); replace KN := Lib.hid (KN.out.below bn); replace L3 := Lib.hid (L3.out.trans (bn.mono L3.out.size)); clear c0 c1 c2 c3 c4 c5 c6 d0 d1 d2 d3 d4 d5 hl1 hl2 bn; have c0 : wn.cell? ⟨w.heap.size, 0, none⟩ = some (.int .i64 op) := K3.out.cell 0; have c1 : wn.cell? ⟨w.heap.size, 1, none⟩ = some (.int .i64 reg) := K3.out.cell 1; have c2 : wn.cell? ⟨w.heap.size, 2, none⟩ = some (.int .i64 loc) := K3.out.cell 2; have c3 : wn.cell? ⟨w.heap.size, 3, none⟩ = some (.slice ae ne1 ce) := K3.out.cell 3; have c4 : wn.cell? ⟨w.heap.size, 4, none⟩ = some (.slice af nf1 cf) := K3.out.cell 4; have c5 : wn.cell? ⟨w.heap.size, 5, none⟩ = some (.bool ne) := K3.out.cell 5; have c6 : wn.cell? ⟨w.heap.size, 6, none⟩ = some (.int .i64 to) := K3.out.cell 6; have d0 : wn.cell? ⟨w2.heap.size, 0, none⟩ = some (.bool h1) := KN.out.cell 0; have d1 : wn.cell? ⟨w2.heap.size, 1, none⟩ = some (.bool h2) := KN.out.cell 1; have d2 : wn.cell? ⟨w2.heap.size, 2, none⟩ = some (.bool h3) := KN.out.cell 2; have d3 : wn.cell? ⟨w2.heap.size, 3, none⟩ = some (.bool h4) := KN.out.cell 3; have d4 : wn.cell? ⟨w2.heap.size, 4, none⟩ = some (.bool h5) := KN.out.cell 4; have d5 : wn.cell? ⟨w2.heap.size, 5, none⟩ = some (.bool h6) := KN.out.cell 5; have hl1 := K3.out.lt; have hl2 := KN.out.lt))
              go_ret
              exact ⟨ret_bool (by rw [← HBB.out]; rfl), L3.out⟩
            | true =>
              have c0 : (w2.alloc (.cells #[.bool h1, .bool h2, .bool h3, .bool h4, .bool h5, .bool h6] 141)).cell? ⟨w.heap.size, 0, none⟩ = some (.int .i64 op) := K3.out.cell 0; have c1 : (w2.alloc (.cells #[.bool h1, .bool h2, .bool h3, .bool h4, .bool h5, .bool h6] 141)).cell? ⟨w.heap.size, 1, none⟩ = some (.int .i64 reg) := K3.out.cell 1; have c2 : (w2.alloc (.cells #[.bool h1, .bool h2, .bool h3, .bool h4, .bool h5, .bool h6] 141)).cell? ⟨w.heap.size, 2, none⟩ = some (.int .i64 loc) := K3.out.cell 2; have c3 : (w2.alloc (.cells #[.bool h1, .bool h2, .bool h3, .bool h4, .bool h5, .bool h6] 141)).cell? ⟨w.heap.size, 3, none⟩ = some (.slice ae ne1 ce) := K3.out.cell 3; have c4 : (w2.alloc (.cells #[.bool h1, .bool h2, .bool h3, .bool h4, .bool h5, .bool h6] 141)).cell? ⟨w.heap.size, 4, none⟩ = some (.slice af nf1 cf) := K3.out.cell 4; have c5 : (w2.alloc (.cells #[.bool h1, .bool h2, .bool h3, .bool h4, .bool h5, .bool h6] 141)).cell? ⟨w.heap.size, 5, none⟩ = some (.bool ne) := K3.out.cell 5; have c6 : (w2.alloc (.cells #[.bool h1, .bool h2, .bool h3, .bool h4, .bool h5, .bool h6] 141)).cell? ⟨w.heap.size, 6, none⟩ = some (.int .i64 to) := K3.out.cell 6; have d0 : (w2.alloc (.cells #[.bool h1, .bool h2, .bool h3, .bool h4, .bool h5, .bool h6] 141)).cell? ⟨w2.heap.size, 0, none⟩ = some (.bool h1) := KN.out.cell 0; have d1 : (w2.alloc (.cells #[.bool h1, .bool h2, .bool h3, .bool h4, .bool h5, .bool h6] 141)).cell? ⟨w2.heap.size, 1, none⟩ = some (.bool h2) := KN.out.cell 1; have d2 : (w2.alloc (.cells #[.bool h1, .bool h2, .bool h3, .bool h4, .bool h5, .bool h6] 141)).cell? ⟨w2.heap.size, 2, none⟩ = some (.bool h3) := KN.out.cell 2; have d3 : (w2.alloc (.cells #[.bool h1, .bool h2, .bool h3, .bool h4, .bool h5, .bool h6] 141)).cell? ⟨w2.heap.size, 3, none⟩ = some (.bool h4) := KN.out.cell 3; have d4 : (w2.alloc (.cells #[.bool h1, .bool h2, .bool h3, .bool h4, .bool h5, .bool h6] 141)).cell? ⟨w2.heap.size, 4, none⟩ = some (.bool h5) := KN.out.cell 4; have d5 : (w2.alloc (.cells #[.bool h1, .bool h2, .bool h3, .bool h4, .bool h5, .bool h6] 141)).cell? ⟨w2.heap.size, 5, none⟩ = some (.bool h6) := KN.out.cell 5; have hl1 := K3.out.lt; have hl2 := KN.out.lt
              go_wp2_with (first
        | (go_at_call 123; (first | (with_reducible refine (H1.out _).mono ?_) | (with_reducible refine (H2.out _).mono ?_) | (with_reducible refine (H3.out _).mono ?_)); rintro e wn ⟨rfl, rfl⟩)
        | (go_at_call 124; (first | (with_reducible refine (H4.out _ L3.out).mono ?_) | (with_reducible refine (H5.out _ L3.out).mono ?_)); rintro e wn ⟨rfl, bn⟩; replace K3 := Lib.hid (K3.out.below bn); replace KN := Lib.hid (KN.out.below bn); replace L3 := Lib.hid (L3.out.trans (bn.mono L3.out.size)); clear c0 c1 c2 c3 c4 c5 c6 d0 d1 d2 d3 d4 d5 hl1 hl2 bn; have c0 : wn.cell? ⟨w.heap.size, 0, none⟩ = some (.int .i64 op) := K3.out.cell 0; have c1 : wn.cell? ⟨w.heap.size, 1, none⟩ = some (.int .i64 reg) := K3.out.cell 1; have c2 : wn.cell? ⟨w.heap.size, 2, none⟩ = some (.int .i64 loc) := K3.out.cell 2; have c3 : wn.cell? ⟨w.heap.size, 3, none⟩ = some (.slice ae ne1 ce) := K3.out.cell 3; have c4 : wn.cell? ⟨w.heap.size, 4, none⟩ = some (.slice af nf1 cf) := K3.out.cell 4; have c5 : wn.cell? ⟨w.heap.size, 5, none⟩ = some (.bool ne) := K3.out.cell 5; have c6 : wn.cell? ⟨w.heap.size, 6, none⟩ = some (.int .i64 to) := K3.out.cell 6; have d0 : wn.cell? ⟨w2.heap.size, 0, none⟩ = some (.bool h1) := KN.out.cell 0; have d1 : wn.cell? ⟨w2.heap.size, 1, none⟩ = some (.bool h2) := KN.out.cell 1; have d2 : wn.cell? ⟨w2.heap.size, 2, none⟩ = some (.bool h3) := KN.out.cell 2; have d3 : wn.cell? ⟨w2.heap.size, 3, none⟩ = some (.bool h4) := KN.out.cell 3; have d4 : wn.cell? ⟨w2.heap.size, 4, none⟩ = some (.bool h5) := KN.out.cell 4; have d5 : wn.cell? ⟨w2.heap.size, 5, none⟩ = some (.bool h6) := KN.out.cell 5; have hl1 := K3.out.lt; have hl2 := KN.out.lt))
              all_goals
                go_ret
                exact ⟨ret_bool (by rw [← HBB.out]; simp_all), L3.out⟩
end Go.Proofs.YtacbanfnakgecaaGreat

namespace Go.Proofs.YtacbanfnakgecaaGreat
set_option linter.unusedSimpArgs false
set_option linter.unusedVariables false
open Go.RowKit
theorem seqF_at (own locs n : Int) (l : List II) (k : Nat) (h : k < l.length) : seqF own locs n (l.drop k) k = ((decide (l[k].x.op = 22) == decide ((k : Int) = n - 1) && insB l[k].x own locs n) && seqF own locs n (l.drop (k + 1)) (k + 1)) := by
  rw [List.drop_eq_getElem_cons h]; rfl
theorem seqF_over (own locs n : Int) (l : List II) (k : Nat) (h : ¬ k < l.length) : seqF own locs n (l.drop k) k = true := by
  rw [List.drop_eq_nil_of_le (by omega)]; rfl
theorem rinstr_lit (op reg loc : Int) (le lf : List Opn) (ne : Bool) (to : Int) (ev fv : Value) (own locs n : Int) (w : World) (he : OpsD w ev le) (hf : OpsD w fv lf) (hn : le.length ≤ 100000 ∧ lf.length ≤ 100000) (b : Bool) (hb : insB ⟨op, reg, loc, le, lf, ne, to⟩ own locs n = b) :
    Calls Tryz.prog 114 #[.agg #[.int .i64 op, .int .i64 reg, .int .i64 loc, ev, fv, .bool ne, .int .i64 to], .int .i64 own, .int .i64 locs, .int .i64 n] w fun e w' => e = .returned (.bool b) ∧ Below w.heap.size w w' :=
  rinstr_any ⟨⟨op, reg, loc, le, lf, ne, to⟩, ev, fv⟩ own locs n w he hf hn b hb
set_option maxRecDepth 100000 in
set_option maxHeartbeats 4000000 in
theorem seq_any (l : List II) (v : Value) (own locs : Int) (w : World) (hv : InsD w v l) (hn : l.length ≤ 100000) (hz : ∀ t ∈ l, t.x.e.length ≤ 100000 ∧ t.x.f.length ≤ 100000) (b : Bool) (hb : seqB l own locs = b) :
    Calls Tryz.prog 95 #[v, .int .i64 own, .int .i64 locs] w fun e w' => e = .returned (.bool b) ∧ Below w.heap.size w w' := by
  have HV := Lib.hid hv
  obtain ⟨ad, cap, rfl⟩ := hv.shape0
  by_cases hl : 1 ≤ l.length ∧ l.length ≤ 1000
  · have HB0 : Hid (seqF own locs l.length (l.drop 0) 0 = b) := Lib.hid (by rw [← hb]; unfold seqB; rw [decide_eq_true hl, Bool.true_and]; rfl)
    have HZ := Lib.hid hz
    obtain ⟨n, hN⟩ : ∃ n, n = l.length := ⟨_, rfl⟩
    rw [← hN] at HV HB0 hl ⊢
    have HN := Lib.hid hN
    obtain ⟨n1, hn1⟩ : ∃ m, n = m + 1 := ⟨n - 1, by omega⟩
    have ew : IntKind.i64.wrap ((n : Int) - 1) = (n1 : Int) := by rw [IntKind.wrap_i64]; omega
    have g1 : ¬ (n : Int) < 1 := by omega
    have g2 : ¬ (1000 : Int) < (n : Int) := by omega
    have HN1 := Lib.hid hn1
    clear hv hn hz hb hN hn1
    go_enter Tryz.func95, Tryz.ntmps95
    go_wp2_with fail
    go_loopg [21] n (fun fuel i' wr => ∃ (k : Nat), i' = .int .i64 k ∧ k ≤ n ∧ n - k ≤ fuel ∧ seqF own locs n (l.drop k) k = b ∧ Below w.heap.size w wr)
    case atStart => exact ⟨0, rfl, Nat.zero_le _, Nat.le_refl _, HB0.out, Below.refl _ _⟩
    case round =>
      obtain ⟨k, rfl, hk, hf, ha, hb⟩ := hrel
      have HA := Lib.hid ha
      have HB := Lib.hid hb
      have hww := hb.size
      clear ha hb
      by_cases hlt : k < n
      · have hk' : k < l.length := by have := HN.out; omega
        have HE := Lib.hid (seqF_at own locs n l k hk')
        obtain ⟨vb, off, rfl, hbl, hx⟩ := SlD.at HV.out k hk'
        have hzz := HZ.out _ (List.getElem_mem hk')
        obtain ⟨t, ht⟩ : ∃ t, t = l[k] := ⟨_, rfl⟩
        rw [← ht] at hx HE hzz
        have HX := Lib.hid (hx.below HB.out hbl)
        obtain ⟨⟨op, reg, loc, le, lf, ne, to⟩, ev, fv⟩ := t
        obtain ⟨ae, ce, rfl⟩ : ∃ a c, ev = .slice a le.length c := HX.out.e.shape0
        obtain ⟨af, cf, rfl⟩ : ∃ a c, fv = .slice a lf.length c := HX.out.f.shape0
        have HZZ := Lib.hid hzz
        have HEE : Hid (OpsD wr (.slice ae le.length ce) le) := Lib.hid HX.out.e
        have HFF : Hid (OpsD wr (.slice af lf.length cf) lf) := Lib.hid HX.out.f
        have c0 : wr.cell? ⟨vb, off + k * 7, none⟩ = some (.int .i64 op) := HX.out.c0
        have c1 : wr.cell? ⟨vb, off + k * 7 + 1, none⟩ = some (.int .i64 reg) := HX.out.c1
        have c2 : wr.cell? ⟨vb, off + k * 7 + 2, none⟩ = some (.int .i64 loc) := HX.out.c2
        have c3 : wr.cell? ⟨vb, off + k * 7 + 3, none⟩ = some (.slice ae le.length ce) := HX.out.c3
        have c4 : wr.cell? ⟨vb, off + k * 7 + 4, none⟩ = some (.slice af lf.length cf) := HX.out.c4
        have c5 : wr.cell? ⟨vb, off + k * 7 + 5, none⟩ = some (.bool ne) := HX.out.c5
        have c6 : wr.cell? ⟨vb, off + k * 7 + 6, none⟩ = some (.int .i64 to) := HX.out.c6
        have hbl2 : vb < wr.heap.size := Nat.lt_of_lt_of_le hbl hww
        have KX := Lib.hid (Bk.new wr 57 #[.int .i64 op, .int .i64 reg, .int .i64 loc, .slice ae le.length ce, .slice af lf.length cf, .bool ne, .int .i64 to])
        have LX : Hid (Below wr.heap.size wr (wr.alloc (.cells #[.int .i64 op, .int .i64 reg, .int .i64 loc, .slice ae le.length ce, .slice af lf.length cf, .bool ne, .int .i64 to] 57))) := (Below.refl _ _).alloc (Nat.le_refl _) _
        have HC := Lib.hid (fun (W : World) (hb : Below wr.heap.size wr W) => rinstr_lit op reg loc le lf ne to (.slice ae le.length ce) (.slice af lf.length cf) own locs n W (OpsD.below HEE.out hb) (OpsD.below HFF.out hb) HZZ.out _ rfl)
        generalize insB ⟨op, reg, loc, le, lf, ne, to⟩ own locs n = bi at HC HE
        generalize le.length = ne1 at HEE KX LX HC c3
        generalize lf.length = nf1 at HFF KX LX HC c4
        clear hx ht hbl HX hzz HZZ HEE HFF
        have HE2 : Hid (seqF own locs n (l.drop k) k = ((((op == 22) == ((k : Int) == (n1 : Int))) && bi) && seqF own locs n (l.drop (k + 1)) (k + 1))) := Lib.hid (by
          rw [HE.out, show (n : Int) - 1 = (n1 : Int) by have := HN1.out; omega]; rfl)
        clear HE
        have g3 : 1 ≤ n := hl.1
        clear hl
        cases bi with
        | false =>
          have hbf : b = false := by rw [← HA.out, HE2.out]; simp
          go_wp2_with (go_at_call 114; (with_reducible refine (HC.out _ LX.out).mono ?_); rintro e wn ⟨rfl, bn⟩)
          all_goals
            go_ret
            first
              | exact ⟨ret_bool hbf.symm, HB.out.trans ((LX.out.trans (bn.mono LX.out.size)).mono hww)⟩
              | exact ⟨ret_bool hbf.symm, HB.out.trans (LX.out.mono hww)⟩
        | true =>
          go_wp2_with (go_at_call 114; (with_reducible refine (HC.out _ LX.out).mono ?_); rintro e wn ⟨rfl, bn⟩)
          all_goals first
            | (go_roundg (gk - 1)
               case measure => omega
               case rel =>
                 refine ⟨k + 1, by go_num, by omega, by omega, ?_, HB.out.trans ((LX.out.trans (bn.mono LX.out.size)).mono hww)⟩
                 have h2 := HA.out
                 rw [HE2.out] at h2
                 simp_all)
            | (go_ret
               refine ⟨ret_bool ?_, HB.out.trans (LX.out.mono hww)⟩
               have h2 := HA.out
               rw [HE2.out, show ((op == 22) == ((k : Int) == (n1 : Int))) = false from beq_eq_false_iff_ne.2 (by assumption)] at h2
               rw [← h2]; rfl)
      · have HE := Lib.hid (seqF_over own locs n l k (by have := HN.out; omega))
        go_wp2
        go_ret
        exact ⟨ret_bool (by rw [← HA.out, HE.out]), HB.out⟩
  · have hbf : b = false := by rw [← hb]; unfold seqB; rw [decide_eq_false hl]; rfl
    have HBF := Lib.hid hbf
    generalize l.length = n at hl HV
    clear hv hn hz hb hbf
    by_cases h1 : (n : Int) < 1
    · go_enter Tryz.func95, Tryz.ntmps95
      go_wp2
      go_ret
      exact ⟨ret_bool HBF.out.symm, Below.refl _ _⟩
    · have h2 : (1000 : Int) < (n : Int) := by omega
      go_enter Tryz.func95, Tryz.ntmps95
      go_wp2
      go_ret
      exact ⟨ret_bool HBF.out.symm, Below.refl _ _⟩
end Go.Proofs.YtacbanfnakgecaaGreat

namespace Go.Proofs.YtacbanfnakgecaaGreat
set_option linter.unusedSimpArgs false
set_option linter.unusedVariables false
open Go.RowKit
set_option maxRecDepth 100000 in
set_option maxHeartbeats 2000000 in
theorem inidx_any (xs : List Int) (v : Value) (w : World) (hv : IntsD w v xs) (hn : xs.length ≤ 100000) (FL : Int → Bool) (p1 : Nat)
    (hF : ∀ w' i, (hi : i < xs.length) → Below w.heap.size w w' → Calls Tryz.prog 93 #[.int .i64 xs[i], .pointer (some ⟨p1, 0, none⟩)] w' fun e w'' => e = .returned (.bool (FL xs[i])) ∧ Below w'.heap.size w' w'') :
    Calls Tryz.prog 113 #[v, .func (.func 93) #[] #[.pointer (some ⟨p1, 0, none⟩)]] w (IdxAns (!(xs.all fun x => !FL x)) w) := by
  obtain ⟨B, hB⟩ : ∃ B, ((xs.drop 0).all fun x => !FL x) = B := ⟨_, rfl⟩
  rw [show (xs.all fun x => !FL x) = B from hB]
  have HB0 := Lib.hid hB
  obtain ⟨ad, cap, rfl, hcap1, hcap2, hc⟩ := hv
  have HC := Lib.hid hc
  have HF := Lib.hid hF
  obtain ⟨n, hN⟩ : ∃ n, n = xs.length := ⟨_, rfl⟩
  rw [← hN] at hn ⊢
  have HN := Lib.hid hN
  clear hN hB hc hF hcap1 hcap2
  go_enter Tryz.func113, Tryz.ntmps113
  go_wp2_with fail
  go_loopg [8] n (fun fuel i' wr => ∃ k : Nat, i' = .int .i64 k ∧ k ≤ n ∧ n - k ≤ fuel ∧ ((xs.drop k).all fun x => !FL x) = B ∧ Below w.heap.size w wr)
  case atStart => exact ⟨0, rfl, Nat.zero_le _, Nat.le_refl _, HB0.out, Below.refl _ _⟩
  case round =>
    obtain ⟨k, rfl, hk, hf, ha, hb⟩ := hrel
    have HA := Lib.hid ha
    have HB := Lib.hid hb
    have hww := hb.size
    clear ha hb
    by_cases hlt : k < n
    · have hk' : k < xs.length := by have := HN.out; omega
      have HD := Lib.hid (List.drop_eq_getElem_cons hk')
      obtain ⟨b, off, rfl, hbl, x0⟩ := HC.out k hk'
      have HFL := Lib.hid (HF.out wr k hk' HB.out)
      obtain ⟨q, hq⟩ : ∃ q, FL xs[k] = q := ⟨_, rfl⟩
      rw [hq] at HFL
      have HQ := Lib.hid hq
      obtain ⟨xn, hx⟩ : ∃ x, x = xs[k] := ⟨_, rfl⟩
      rw [← hx] at x0 HFL
      simp only [IntAt, Nat.mul_one] at x0 HFL
      have c0 : wr.cell? ⟨b, off + k, none⟩ = some (.int .i64 xn) := (HB.out.cell (p := ⟨b, _, none⟩) hbl).trans x0
      clear x0 hx hq
      go_wp2_with fail
      refine HFL.out.mono ?_
      rintro e w2 ⟨rfl, hb2⟩
      have HB2 := Lib.hid (HB.out.trans (hb2.mono hww))
      clear hb2 c0
      cases q with
      | false =>
        go_wp2
        go_roundg (gk - 1)
        case measure => omega
        case rel =>
          refine ⟨k + 1, by go_num, by omega, by omega, ?_, HB2.out⟩
          have h2 := HA.out
          rw [HD.out, List.all_cons, HQ.out] at h2
          simpa using h2
      | true =>
        go_wp2
        go_ret
        refine ⟨k, rfl, ?_, HB2.out⟩
        have h2 := HA.out
        rw [HD.out, List.all_cons, HQ.out] at h2
        rw [← h2]; simp
    · have HE := Lib.hid (drop_over xs k (by have := HN.out; omega))
      go_wp2
      go_ret
      refine ⟨-1, rfl, ?_, HB.out⟩
      have := HA.out
      rw [HE.out] at this
      rw [← this]; rfl
set_option maxRecDepth 100000 in
set_option maxHeartbeats 400000 in
theorem incont_any (xs : List Int) (v : Value) (w : World) (hv : IntsD w v xs) (hn : xs.length ≤ 100000) (FL : Int → Bool) (p1 : Nat)
    (hF : ∀ w' i, (hi : i < xs.length) → Below w.heap.size w w' → Calls Tryz.prog 93 #[.int .i64 xs[i], .pointer (some ⟨p1, 0, none⟩)] w' fun e w'' => e = .returned (.bool (FL xs[i])) ∧ Below w'.heap.size w' w'') (b : Bool) (hb : (xs.all fun x => !FL x) = b) :
    Calls Tryz.prog 92 #[v, .func (.func 93) #[] #[.pointer (some ⟨p1, 0, none⟩)]] w fun e w' => e = .returned (.bool (!b)) ∧ Below w.heap.size w w' := by
  have H := inidx_any xs v w hv hn FL p1 hF
  rw [hb] at H
  clear hv hn hb hF
  go_enter Tryz.func92, Tryz.ntmps92
  go_wp2_with fail
  refine H.mono ?_
  rintro e w2 ⟨z, rfl, hz, hb2⟩
  have HZ := Lib.hid hz
  clear hz
  go_wp2
  go_ret
  exact ⟨ret_bool HZ.out, hb2⟩
theorem calls_below {f : Nat} {args : Array Value} {w : World} {v : Value} (h : Calls Tryz.prog f args w fun e w' => e = .returned v ∧ w = w') : Calls Tryz.prog f args w fun e w' => e = .returned v ∧ Below w.heap.size w w' :=
  h.mono fun _ _ ⟨e, k⟩ => ⟨e, k ▸ Below.refl _ _⟩
theorem calls_quiet {f : Nat} {args : Array Value} {w : World} {j : Nat} {v : Value} (h : Calls Tryz.prog f args (w.drewN j) fun e w' => e = .returned v ∧ w.drewN j = w') : Calls Tryz.prog f args (w.drewN j) fun e w' => e = .returned v ∧ ∃ m, w' = w.drewN m :=
  h.mono fun _ _ ⟨e, k⟩ => ⟨e, _, k.symm⟩
theorem lr1_any (x m : Int) (v1 v2 v3 : Value) (p : Nat) (w : World) (hk : Bk w p 25 #[.int .i64 m, v1, v2, v3]) (b : Bool) (hb : inB x m = b) :
    Calls Tryz.prog 93 #[.int .i64 x, .pointer (some ⟨p, 0, none⟩)] w fun e w' => e = .returned (.bool (!b)) ∧ Below w.heap.size w w' := by
  have c0 : w.cell? ⟨p, 0, none⟩ = some (.int .i64 m) := hk.cell 0
  have l1 := hk.lt
  have H := Lib.hid (lbelow_is x m b hb)
  clear hb hk
  go_enter Tryz.func93, Tryz.ntmps93
  go_wp2_with (go_at_call 94; refine (H.out _).mono ?_; rintro e w2 ⟨rfl, rfl⟩)
  all_goals
    go_ret
    exact ⟨rfl, by first | exact Below.refl _ _ | exact (Below.refl _ _).alloc (Nat.le_refl _) _⟩
theorem thrF_at (locs : Int) (rs : List Int) (cs : List (List II × Value)) (k : Nat) (h1 : k < rs.length) (h2 : k < cs.length) : thrF locs (rs.drop k) (cs.drop k) = ((inB rs[k] 7 && seqB cs[k].1 rs[k] locs) && thrF locs (rs.drop (k + 1)) (cs.drop (k + 1))) := by
  rw [List.drop_eq_getElem_cons h1, List.drop_eq_getElem_cons h2]; rfl
theorem thrF_over (locs : Int) (rs : List Int) (cs : List (List II × Value)) (k : Nat) (h1 : ¬ k < rs.length) : thrF locs (rs.drop k) (cs.drop k) = true := by
  rw [List.drop_eq_nil_of_le (by omega)]; rfl
def ShortU (u : Un) : Prop := u.init.length ≤ 100000 ∧ u.regs.length ≤ 100000 ∧ ∀ r ∈ u.code, r.1.length ≤ 100000 ∧ ∀ t ∈ r.1, t.x.e.length ≤ 100000 ∧ t.x.f.length ≤ 100000
theorem all_notI (l : List Int) (p : Int → Bool) : (l.all fun x => !(!p x)) = l.all p := by
  congr 1; funext x; exact Bool.not_not _
set_option maxRecDepth 100000 in
set_option maxHeartbeats 4000000 in
theorem lright_any (u : Un) (vi vr vc : Value) (w : World) (hd : UnD w vi vr vc u) (hs : ShortU u) (b : Bool) (hb : rightU u = b) :
    Calls Tryz.prog 63 #[.agg #[.int .i64 u.mod, vi, vr, vc]] w fun e w' => e = .returned (.bool b) ∧ Below w.heap.size w w' := by
  have HD := Lib.hid hd
  obtain ⟨ai, ci, rfl⟩ := hd.i.shape0
  obtain ⟨ar, cr, rfl⟩ := hd.r.shape0
  obtain ⟨ac, cc, rfl⟩ := hd.c.shape0
  by_cases hP : 2 ≤ u.mod ∧ u.mod ≤ 16 ∧ u.init.length ≤ 6 ∧ 1 ≤ u.regs.length ∧ u.regs.length ≤ 4 ∧ u.code.length = u.regs.length
  · obtain ⟨m, hm⟩ : ∃ m, m = u.mod := ⟨_, rfl⟩
    have HBB : Hid ((u.init.all (fun n => inB n m) && thrF u.init.length u.regs u.code) = b) := Lib.hid (by rw [← hb, hm]; unfold rightU; rw [decide_eq_true hP, Bool.true_and])
    have HCT := Lib.hid (fun (W : World) (hbw : Below w.heap.size w W) (p : Nat) (v1 v2 v3 : Value) (hk : Bk W p 25 #[.int .i64 m, v1, v2, v3]) =>
      incont_any u.init _ W (IntsD.below hd.i hbw) hs.1 (fun x => !inB x m) p (fun w' i hi hbw' => lr1_any u.init[i] m v1 v2 v3 p w' (hk.below hbw') _ rfl) _ (all_notI u.init (fun x => inB x m)))
    have HS := Lib.hid hs
    rw [← hm] at hP ⊢
    obtain ⟨ni, hni⟩ : ∃ n, n = u.init.length := ⟨_, rfl⟩
    obtain ⟨nr, hnr⟩ : ∃ n, n = u.regs.length := ⟨_, rfl⟩
    obtain ⟨nc, hnc⟩ : ∃ n, n = u.code.length := ⟨_, rfl⟩
    have HNI := Lib.hid hni
    have HNR := Lib.hid hnr
    have HNC := Lib.hid hnc
    rw [← hni] at hP HD HCT HBB ⊢
    rw [← hnr] at hP HD ⊢
    rw [← hnc] at hP HD ⊢
    have HP := Lib.hid hP
    obtain ⟨p1, p2, p3, p4, p5, p6⟩ := hP
    have g1 : ¬ m < 2 := by omega
    have g2 : ¬ 16 < m := by omega
    have g3 : ¬ (6 : Int) < (ni : Int) := by omega
    have g4 : ¬ (nr : Int) < 1 := by omega
    have g5 : ¬ (4 : Int) < (nr : Int) := by omega
    have g6 : ((nc : Int) == (nr : Int)) = true := by simp; omega
    generalize hA : (u.init.all fun x => inB x m) = qa at HCT HBB
    have K1 := Lib.hid (Bk.new w 25 #[.int .i64 m, .slice ai ni ci, .slice ar nr cr, .slice ac nc cc])
    have L1 : Hid (Below w.heap.size w (w.alloc (.cells #[.int .i64 m, .slice ai ni ci, .slice ar nr cr, .slice ac nc cc] 25))) := (Below.refl _ _).alloc (Nat.le_refl _) _
    clear hd hs hb hm hni hnr hnc p1 p2 p3 p4 p5 p6 hA
    go_enter Tryz.func63, Tryz.ntmps63
    go_wp2_with fail
    generalize w.alloc _ = w1 at K1 L1 ⊢
    refine (HCT.out w1 L1.out w.heap.size _ _ _ K1.out).mono ?_
    rintro e w2 ⟨rfl, b2⟩
    have K2 := Lib.hid (K1.out.below b2)
    have L2 := Lib.hid (L1.out.trans (b2.mono L1.out.size))
    have c1 : w2.cell? ⟨w.heap.size, 1, none⟩ = some (.slice ai ni ci) := K2.out.cell 1
    have c2 : w2.cell? ⟨w.heap.size, 2, none⟩ = some (.slice ar nr cr) := K2.out.cell 2
    have c3 : w2.cell? ⟨w.heap.size, 3, none⟩ = some (.slice ac nc cc) := K2.out.cell 3
    have l2 := K2.out.lt
    clear b2 K1 L1 HCT g1 g2 g3 g4 g5 g6
    cases qa with
    | false =>
      go_wp2_with fail
      go_ret
      exact ⟨ret_bool (by rw [← HBB.out]; rfl), L2.out⟩
    | true =>
      go_wp2_with fail
      go_loopg [45] nr (fun fuel i' wr => ∃ (k : Nat), i' = .int .i64 k ∧ k ≤ nr ∧ nr - k ≤ fuel ∧ thrF ni (u.regs.drop k) (u.code.drop k) = b ∧ Below w2.heap.size w2 wr)
      case atStart => exact ⟨0, rfl, Nat.zero_le _, Nat.le_refl _, by have := HBB.out; rw [Bool.true_and] at this; exact this, Below.refl _ _⟩
      case round =>
        obtain ⟨k, rfl, hk, hf, ha, hb⟩ := hrel
        have HA := Lib.hid ha
        have HB := Lib.hid hb
        clear ha hb
        by_cases hlt : k < nr
        · have hk1 : k < u.regs.length := by rw [← HNR.out]; exact hlt
          have hk2 : k < u.code.length := by rw [← HNC.out, HP.out.2.2.2.2.2]; exact hlt
          have HE := Lib.hid (thrF_at ni u.regs u.code k hk1 hk2)
          have HDR := Lib.hid (HD.out.below (L2.out.trans (HB.out.mono L2.out.size)))
          have KR := Lib.hid (K2.out.below HB.out)
          obtain ⟨br, offr, rfl, hbr, y0⟩ := IntsD.at2 HDR.out.r k hk1
          obtain ⟨bc, offc, rfl, hbc, hx⟩ := SlD.at HDR.out.c k hk2
          obtain ⟨own, ho⟩ : ∃ o, o = u.regs[k] := ⟨_, rfl⟩
          have hlen := (HS.out.2.2 _ (List.getElem_mem hk2))
          obtain ⟨row, hrow⟩ : ∃ r, r = u.code[k] := ⟨_, rfl⟩
          rw [← ho] at y0 HE
          rw [← hrow] at hx HE hlen
          obtain ⟨ls, lv⟩ := row
          have HROW := Lib.hid hx.r
          have y1 : wr.cell? ⟨bc, offc + k, none⟩ = some lv := by have := hx.c; rw [Nat.mul_one] at this; exact this
          obtain ⟨al, cl, rfl⟩ : ∃ a c, lv = .slice a ls.length c := HROW.out.shape0
          have HSEQ := Lib.hid (fun (W : World) (hb : Below wr.heap.size wr W) => seq_any ls _ own ni W (InsD.below HROW.out hb) hlen.1 hlen.2 _ rfl)
          have HQ := Lib.hid (fun (W : World) => lbelow_is own 7 _ rfl W)
          have c1 : wr.cell? ⟨w.heap.size, 1, none⟩ = some (.slice ai ni ci) := KR.out.cell 1
          have c2 : wr.cell? ⟨w.heap.size, 2, none⟩ = some (.slice (some ⟨br, offr, none⟩) nr cr) := KR.out.cell 2
          have c3 : wr.cell? ⟨w.heap.size, 3, none⟩ = some (.slice (some ⟨bc, offc, none⟩) nc cc) := KR.out.cell 3
          have l3 := KR.out.lt
          have e1 : (0 : Int) ≤ (k : Int) := Int.natCast_nonneg _
          have e2 : (k : Int) < (nc : Int) := by have := HP.out.2.2.2.2.2; omega
          have e3 : k < nc := by have := HP.out.2.2.2.2.2; omega
          generalize ls.length = nl at HSEQ y1 hlen
          simp only [] at HE
          generalize hqs : seqB ls own ni = qs at HSEQ HE
          generalize hqb : inB own 7 = qb at HQ HE
          clear ho hrow hx hlen HROW hqs hqb hk1 hk2
          cases qb with
          | false =>
            have hbf : b = false := by rw [← HA.out, HE.out]; simp
            have HBF := Lib.hid hbf
            have HQ2 := Lib.hid (fun (W : World) (j : Nat) => calls_quiet (HQ.out (W.drewN j)))
            clear hbf HSEQ
            go_wp2_with fail
            go_quiet ((go_at_call 94; with_reducible exact HQ2.out _ _))
            go_wp2
            go_ret
            exact ⟨ret_bool HBF.out.symm, L2.out.trans ((below_drewN' HB.out _).mono L2.out.size)⟩
          | true =>
            have HQ3 := Lib.hid (fun (W : World) => calls_below (HQ.out W))
            have HCO := Lib.hid (SlD.at HDR.out.c k (by rw [← HNC.out]; exact e3))
            have KK := Lib.hid (fun W (hb : Below wr.heap.size wr W) => (⟨(KR.out.below hb).cell 1, (KR.out.below hb).cell 3, (hb.cell (p := ⟨bc, _, none⟩) hbc).trans y1, hb⟩ : W.cell? ⟨w.heap.size, 1, none⟩ = some (.slice ai ni ci) ∧ W.cell? ⟨w.heap.size, 3, none⟩ = some (.slice (some ⟨bc, offc, none⟩) nc cc) ∧ W.cell? ⟨bc, offc + k, none⟩ = some (.slice al nl cl) ∧ Below wr.heap.size wr W))
            have hb0 : Below wr.heap.size wr wr := Below.refl _ _
            go_wp2_with fail
            go_region_held3 (fun w' => w'.cell? ⟨w.heap.size, 1, none⟩ = some (.slice ai ni ci) ∧ w'.cell? ⟨w.heap.size, 3, none⟩ = some (.slice (some ⟨bc, offc, none⟩) nc cc) ∧ w'.cell? ⟨bc, offc + k, none⟩ = some (.slice al nl cl) ∧ Below wr.heap.size wr w')
              (first | exact ⟨c1, c3, y1, Below.refl _ _⟩ | exact ⟨c1, c3, y1, (Below.refl _ _).drew⟩ | assumption | (go_split_ands; exact KK.out _ bb))
              ((first
                | (go_at_call 94; go_split_ands; (with_reducible refine Calls.mono (HQ3.out _) ?_); rintro e wn ⟨rfl, bn⟩; have bb : Below wr.heap.size wr wn := Below.trans (by assumption) (bn.mono (Below.size (by assumption))))
                | (go_at_call 95; go_split_ands; (with_reducible refine Calls.mono (HSEQ.out _ (by assumption)) ?_); rintro e wn2 ⟨rfl, bn2⟩; have bb : Below wr.heap.size wr wn2 := Below.trans (by assumption) (bn2.mono (Below.size (by assumption))))))
            have BW := Lib.hid (HB.out.trans (bb.mono HB.out.size))
            clear HCO KK hb0 bb bn bn2
            cases qs with
            | false =>
              go_wp2
              go_ret
              exact ⟨ret_bool (by rw [← HA.out, HE.out]; simp), L2.out.trans (BW.out.mono L2.out.size)⟩
            | true =>
              have g5 : nr ≤ 4 := HP.out.2.2.2.2.1
              go_wp2
              go_roundg (gk - 1)
              case measure => omega
              case rel => exact ⟨k + 1, by go_num, by omega, by omega, by have h2 := HA.out; rw [HE.out] at h2; simpa using h2, BW.out⟩
        · have HE := Lib.hid (thrF_over ni u.regs u.code k (by rw [← HNR.out]; exact hlt))
          go_wp2
          go_ret
          exact ⟨ret_bool (by rw [← HA.out, HE.out]), L2.out.trans (HB.out.mono L2.out.size)⟩
  · have hbf : b = false := by rw [← hb]; unfold rightU; rw [decide_eq_false hP]; rfl
    have HBF := Lib.hid hbf
    obtain ⟨m, hm⟩ : ∃ m, m = u.mod := ⟨_, rfl⟩
    rw [← hm] at hP ⊢
    generalize u.init.length = ni at hP HD
    generalize u.regs.length = nr at hP HD
    generalize u.code.length = nc at hP HD
    clear hd hs hb hbf hm
    go_enter Tryz.func63, Tryz.ntmps63
    go_wp2_with fail
    all_goals first
      | (go_ret
         exact ⟨ret_bool HBF.out.symm, (Below.refl _ _).alloc (Nat.le_refl _) _⟩)
      | (exfalso
         simp only [bne_eq_false_iff_eq] at *
         omega)
end Go.Proofs.YtacbanfnakgecaaGreat
