/- Facts. -/
import Derived.Test.YtcghccjnadagcaaGreatDoorH
import Derived.StillTailTactics
import Derived.Deep.RegionHeld3
import Derived.Deep.RegionWith
import Derived.BigRegion
import Derived.Laws.AppendOwnNone
set_option maxRecDepth 100000
set_option maxHeartbeats 32000000
namespace Go.Proofs.YtcghccjnadagcaaGreatDoor
open Go.RowKit
structure Keep (b : Nat) (w w' : World) : Prop where
 os : w'.os = w.os
 tape : w'.tape = w.tape
 output : w'.output = w.output
 size : w.heap.size ≤ w'.heap.size
 block : ∀ k,k < w.heap.size → k ≠ b → w'.heap[k]? = w.heap[k]?
theorem Keep.refl (b : Nat) (w : World) : Keep b w w:=⟨rfl,rfl,rfl,Nat.le_refl _,fun _ _ _ => rfl⟩
theorem Keep.trans {b : Nat} {x y z : World} (h : Keep b x y) (k : Keep b y z) : Keep b x z:=
 ⟨k.os.trans h.os,k.tape.trans h.tape,k.output.trans h.output,Nat.le_trans h.size k.size,fun i hi hb => (k.block i (Nat.lt_of_lt_of_le hi h.size) hb).trans (h.block i hi hb)⟩
theorem Below.keep {b : Nat} {w w' : World} (h : Below w.heap.size w w') : Keep b w w':=⟨h.os,h.tape,h.output,h.size,fun k hk _ => h.block k hk⟩
theorem Keep.below {b : Nat} {x w w' : World} (h : Keep b x w) (k : Below w.heap.size w w') : Keep b x w':=h.trans (Below.keep k)
theorem Keep.setCell {b : Nat} {x w : World} (h : Keep b x w) (o : Nat) (u : Value) : Keep b x (w.setCell ⟨b,o,none⟩ u):=
 h.trans ⟨rfl,rfl,rfl,by simp [World.setCell],fun k _ hb => Below.heap_setCell _ _ _ _ hb⟩
theorem Keep.under {b : Nat} {w w' : World} (h : Keep b w w') (hb : b ≤ w.heap.size) : Below b w w':=
 ⟨h.os,h.tape,h.output,h.size,fun k hk => h.block k (by omega) (by omega)⟩
theorem Keep.cell {b : Nat} {w w' : World} (h : Keep b w w') {p : Addr} (h1 : p.block < w.heap.size) (h2 : p.block ≠ b) : w'.cell? p = w.cell? p:=World.cell?_of_block (w:=w) (h.block p.block h1 h2)
theorem own_keep {w w' : World} {B e size n b : Nat} {v : Value} {xs : List Value} (h : w.ownsRow B e size v n xs) (hb : Keep b w w') (hB : b < B) : w'.ownsRow B e size v n xs:=by
 obtain ⟨h1,h2⟩:=h
 refine ⟨h1,?_⟩
 rcases h2 with h2 | ⟨g,cap,cur,hv,hg,hh,r⟩
 ·exact .inl h2
 ·exact .inr ⟨g,cap,cur,hv,hg,by rw [hb.block g (Array.getElem?_eq_some_iff.1 hh).1 (by omega)]; exact hh,r⟩
def Pst (w : World) (b : Nat) (lv : Value) (nx op er pl : Int) : Prop:=w.heap[b]? = some (.cells #[lv,.int .i64 nx,.int .i64 op,.int .i64 er,.int .i64 pl] 199 (0,0))
theorem Pst.lt {w : World} {b : Nat} {lv : Value} {nx op er pl : Int} (h : Pst w b lv nx op er pl) : b < w.heap.size:=(Array.getElem?_eq_some_iff.1 h).1
theorem Pst.below {w w' : World} {b : Nat} {lv : Value} {nx op er pl : Int} (h : Pst w b lv nx op er pl) (hb : Below w.heap.size w w') : Pst w' b lv nx op er pl:=by
 unfold Pst at *; rw [hb.block b (Pst.lt h)]; exact h
theorem Pst.facts {w : World} {b : Nat} {lv : Value} {nx op er pl : Int} (h : Pst w b lv nx op er pl) :
  (w.cell? ⟨b,0,none⟩ = some lv ∧ w.cell? ⟨b,1,none⟩ = some (.int .i64 nx) ∧ w.cell? ⟨b,2,none⟩ = some (.int .i64 op) ∧ w.cell? ⟨b,3,none⟩ = some (.int .i64 er) ∧ w.cell? ⟨b,4,none⟩ = some (.int .i64 pl)) ∧
  w.frozen? ⟨b,1,none⟩ = false ∧ w.frozen? ⟨b,2,none⟩ = false ∧ w.frozen? ⟨b,3,none⟩ = false ∧ w.frozen? ⟨b,4,none⟩ = false:=by
 unfold Pst at h
 simp [World.cell?,World.frozen?,h]
theorem Pst.set {w : World} {b : Nat} {lv : Value} {nx op er pl : Int} (h : Pst w b lv nx op er pl) :
  (∀ x,Pst (w.setCell ⟨b,1,none⟩ (.int .i64 x)) b lv x op er pl) ∧ (∀ x,Pst (w.setCell ⟨b,2,none⟩ (.int .i64 x)) b lv nx x er pl) ∧ (∀ x,Pst (w.setCell ⟨b,3,none⟩ (.int .i64 x)) b lv nx op x pl) ∧ (∀ x,Pst (w.setCell ⟨b,4,none⟩ (.int .i64 x)) b lv nx op er x):=by
 unfold Pst at h
 have hlt:=(Array.getElem?_eq_some_iff.1 h).1
 have hg:=(Array.getElem?_eq_some_iff.1 h).2
 refine ⟨fun x => ?_,fun x => ?_,fun x => ?_,fun x => ?_⟩ <;> simp [Pst,World.setCell,Array.getElem?_modify,h]
def TokS (w : World) (b : Nat) (v : Value) (l : List Tok) : Prop:=
 ∃ ad cap,v = .slice ad l.length cap ∧ ∀ i,(hi : i < l.length) → ∃ g,ad = some ⟨g,0,none⟩ ∧ g < w.heap.size ∧ g ≠ b ∧
  w.cell? ⟨g,i * 4,none⟩ = some (.int .i64 l[i].1) ∧ w.cell? ⟨g,i * 4 + 1,none⟩ = some (.string ⟨l[i].2.1.toArray⟩) ∧ w.cell? ⟨g,i * 4 + 2,none⟩ = some (.int .i64 l[i].2.2.1) ∧ w.cell? ⟨g,i * 4 + 3,none⟩ = some (.int .i64 l[i].2.2.2)
theorem TokS.keep {w w' : World} {b : Nat} {v : Value} {l : List Tok} (h : TokS w b v l) (hb : Keep b w w') : TokS w' b v l:=by
 obtain ⟨ad,cap,hv,hc⟩:=h
 refine ⟨ad,cap,hv,fun i hi => ?_⟩
 obtain ⟨g,hg,h1,h2,k0,k1,k2,k3⟩:=hc i hi
 exact ⟨g,hg,Nat.lt_of_lt_of_le h1 hb.size,h2,(hb.cell (p:=⟨g,_,none⟩) h1 h2).trans k0,(hb.cell (p:=⟨g,_,none⟩) h1 h2).trans k1,(hb.cell (p:=⟨g,_,none⟩) h1 h2).trans k2,(hb.cell (p:=⟨g,_,none⟩) h1 h2).trans k3⟩
def tokV (l : List Tok) (i : Nat) : Value:=match l[i]? with
 | none => .agg #[.int .i64 0,.string ⟨#[]⟩,.int .i64 0,.int .i64 0]
 | some t => .agg #[.int .i64 t.1,.string ⟨t.2.1.toArray⟩,.int .i64 t.2.2.1,.int .i64 t.2.2.2]
theorem token_over (l : List Tok) (b : Nat) (lv : Value) (i : Nat) (op er pl : Int) (w : World) (hp : Pst w b lv i op er pl) (ht : TokS w b lv l) (_hn : l.length ≤ 100000) (hlt : ¬ i < l.length) :
  Calls Tryz.prog 242 #[.pointer (some ⟨b,0,none⟩)] w fun e w' => e = .returned (tokV l i) ∧ Below w.heap.size w w':=by
 have he : tokV l i = .agg #[.int .i64 0,.string ⟨#[]⟩,.int .i64 0,.int .i64 0]:=by unfold tokV; rw [List.getElem?_eq_none (by omega)]
 rw [he]; clear he
 obtain ⟨ad,cap,rfl,_⟩:=ht
 obtain ⟨⟨c0,c1,_,_,_⟩,_⟩:=hp.facts
 have hb:=hp.lt
 obtain ⟨n,hN⟩ : ∃ n,n = l.length:=⟨_,rfl⟩
 rw [← hN] at hlt c0
 clear hN hp
 have q1 : decide ((n : Int) ≤ (i : Int)) = true:=by simp; omega
 have q2 : decide (n ≤ i) = true:=by simp; omega
 go_enter Tryz.func242,Tryz.ntmps242
 go_wp2
 go_quiet (fail)
 go_wp2
 refine bodyPost_ret (v:=.agg #[.int .i64 0,.string ⟨#[]⟩,.int .i64 0,.int .i64 0]) (by simp [results,Tryz.results242,go_sem]) rfl ⟨rfl,?_⟩
 exact below_set4 (below_drewN ((Below.refl _ _).alloc (Nat.le_refl _) _) _) _ _ _ _
theorem token_in (l : List Tok) (b : Nat) (lv : Value) (i : Nat) (op er pl : Int) (w : World) (hp : Pst w b lv i op er pl) (ht : TokS w b lv l) (hn : l.length ≤ 100000) (hlt : i < l.length) :
  Calls Tryz.prog 242 #[.pointer (some ⟨b,0,none⟩)] w fun e w' => e = .returned (tokV l i) ∧ Below w.heap.size w w':=by
 have he : tokV l i = .agg #[.int .i64 l[i].1,.string ⟨l[i].2.1.toArray⟩,.int .i64 l[i].2.2.1,.int .i64 l[i].2.2.2]:=by unfold tokV; rw [List.getElem?_eq_getElem hlt]
 rw [he]; clear he
 obtain ⟨ad,cap,rfl,hc⟩:=ht
 obtain ⟨⟨c0,c1,_,_,_⟩,_⟩:=hp.facts
 have hb:=hp.lt
 obtain ⟨g,rfl,hg1,hg2,k0,k1,k2,k3⟩:=hc i hlt
 obtain ⟨⟨tk,tx,tn,tp⟩,htk⟩ : ∃ t,t = l[i]:=⟨_,rfl⟩
 rw [← htk] at k0 k1 k2 k3 ⊢
 simp only [] at k0 k1 k2 k3 ⊢
 obtain ⟨n,hN⟩ : ∃ n,n = l.length:=⟨_,rfl⟩
 rw [← hN] at hn c0
 have hlt' : i < n:=by omega
 clear hN hp hc htk hlt
 have q1 : decide ((n : Int) ≤ (i : Int)) = false:=by simp; omega
 have q2 : decide (n ≤ i) = false:=by simp; omega
 have q3 : decide ((tp : Int) < 0) = false:=by simp
 by_cases h0 : i = 0
 ·subst h0
  simp only [Nat.zero_mul,Nat.zero_add] at k0 k1 k2 k3
  clear q1 q2
  have q1 : decide ((n : Int) ≤ 0) = false:=by simp; omega
  have q2 : decide (n ≤ 0) = false:=by simp; omega
  have q4 : decide (n = 0) = false:=by simp; omega
  go_enter Tryz.func242,Tryz.ntmps242
  go_wp2
  go_quiet (fail)
  go_wp2
  go_region
  go_wp2
  refine bodyPost_ret (v:=.agg #[.int .i64 tk,.string ⟨tx.toArray⟩,.int .i64 tn,.int .i64 tp]) (by simp [results,Tryz.results242,go_sem]) rfl ⟨rfl,?_⟩
  exact below_set4 (below_drewN ((Below.refl _ _).alloc (Nat.le_refl _) _) _) _ _ _ _
 ·go_enter Tryz.func242,Tryz.ntmps242
  go_wp2
  go_quiet (fail)
  go_wp2
  go_region
  go_wp2
  refine bodyPost_ret (v:=.agg #[.int .i64 tk,.string ⟨tx.toArray⟩,.int .i64 tn,.int .i64 tp]) (by simp [results,Tryz.results242,go_sem]) rfl ⟨rfl,?_⟩
  exact below_set4 (below_drewN ((Below.refl _ _).alloc (Nat.le_refl _) _) _) _ _ _ _
theorem token_any (l : List Tok) (b : Nat) (lv : Value) (i : Nat) (op er pl : Int) (w : World) (hp : Pst w b lv i op er pl) (ht : TokS w b lv l) (hn : l.length ≤ 100000) :
  Calls Tryz.prog 242 #[.pointer (some ⟨b,0,none⟩)] w fun e w' => e = .returned (tokV l i) ∧ Below w.heap.size w w':=by
 by_cases h : i < l.length
 ·exact token_in l b lv i op er pl w hp ht hn h
 ·exact token_over l b lv i op er pl w hp ht hn h
def tokO (l : List Tok) (i : Nat) : Tok:=(l[i]?).getD (0,[],0,0)
theorem tokV_eq (l : List Tok) (i : Nat) : tokV l i = .agg #[.int .i64 (tokO l i).1,.string ⟨(tokO l i).2.1.toArray⟩,.int .i64 (tokO l i).2.2.1,.int .i64 (tokO l i).2.2.2]:=by
 unfold tokV tokO
 cases l[i]? with
 | none => rfl
 | some t => rfl
def sgAt (l : List Tok) (i : Nat) (x : List UInt8) : Bool:=decide ((tokO l i).1 = 3) && ((tokO l i).2.1 == x)
def nmAt (l : List Tok) (i : Nat) : Bool:=decide ((tokO l i).1 = 1) && nameB ⟨(tokO l i).2.1.toArray⟩
theorem below_on {B : Nat} {w w1 w2 : World} {o : Obj} (h : Below B w w1) (hB : B ≤ w1.heap.size) (k : Below (w1.alloc o).heap.size (w1.alloc o) w2) : Below B w w2:=
 (h.alloc hB o).trans (k.mono (by simp; omega))
theorem sign_is (l : List Tok) (b : Nat) (lv : Value) (i : Nat) (op er pl : Int) (x : ByteArray) (w : World) (hp : Pst w b lv i op er pl) (ht : TokS w b lv l) (hn : l.length ≤ 100000) (r : Bool) (hr : sgAt l i x.data.toList = r) :
  Calls Tryz.prog 240 #[.pointer (some ⟨b,0,none⟩),.string x] w fun e w' => e = .returned (.bool r) ∧ Below w.heap.size w w':=by
 have HT:=token_any l b lv i op er pl w hp ht hn
 rw [tokV_eq] at HT
 unfold sgAt at hr
 obtain ⟨⟨tk,tx,tn,tp⟩,htk⟩ : ∃ t,t = tokO l i:=⟨_,rfl⟩
 rw [← htk] at HT hr
 simp only [] at HT hr
 clear htk hp ht hn
 by_cases h3 : tk = 3
 ·subst h3
  obtain ⟨y,hy⟩ : ∃ y : ByteArray,y = ⟨tx.toArray⟩:=⟨_,rfl⟩
  have hyx : (y.toList == x.toList) = r:=by rw [← hr,Lib.toList_data,Lib.toList_data,hy]; simp
  rw [← hy] at HT
  clear hy hr
  cases r <;>
  ·go_enter Tryz.func240,Tryz.ntmps240
   go_wp2_with (go_at_call 242; refine HT.mono ?_; rintro e w1 ⟨rfl,hb1⟩)
   go_ret
   exact ⟨rfl,hb1.alloc hb1.size _⟩
 ·have q : ((tk : Int) == 3) = false:=by simp; omega
  have hr' : r = false:=by rw [← hr]; simp [h3]
  subst hr'
  clear hr h3
  go_enter Tryz.func240,Tryz.ntmps240
  go_wp2_with (go_at_call 242; refine HT.mono ?_; rintro e w1 ⟨rfl,hb1⟩)
  go_ret
  exact ⟨rfl,hb1.alloc hb1.size _⟩
theorem name_is (l : List Tok) (b : Nat) (lv : Value) (i : Nat) (op er pl : Int) (w : World) (hp : Pst w b lv i op er pl) (ht : TokS w b lv l) (hn : l.length ≤ 100000) (hs : (tokO l i).2.1.length ≤ 100000) (r : Bool) (hr : nmAt l i = r) :
  Calls Tryz.prog 247 #[.pointer (some ⟨b,0,none⟩)] w fun e w' => e = .returned (.bool r) ∧ Below w.heap.size w w':=by
 have HT:=token_any l b lv i op er pl w hp ht hn
 rw [tokV_eq] at HT
 unfold nmAt at hr
 obtain ⟨⟨tk,tx,tn,tp⟩,htk⟩ : ∃ t,t = tokO l i:=⟨_,rfl⟩
 rw [← htk] at HT hr hs
 simp only [] at HT hr hs
 clear htk hp ht hn
 by_cases h3 : tk = 1
 ·subst h3
  obtain ⟨y,hy⟩ : ∃ y : ByteArray,y = ⟨tx.toArray⟩:=⟨_,rfl⟩
  have hyn : nameB y = r:=by rw [← hr,hy]; simp
  have hys : y.size ≤ maxLen:=by rw [hy,Lib.size_eq]; unfold maxLen; simp; omega
  have HN : ∀ w,Calls Tryz.prog 90 #[.string y] w fun e w' => e = .returned (.bool r) ∧ Below w.heap.size w w':=fun w => hyn ▸ name_any y w hys
  rw [← hy] at HT
  clear hy hr hyn hys hs
  go_enter Tryz.func247,Tryz.ntmps247
  go_wp2_with (first
   | (go_at_call 242; refine HT.mono ?_; rintro e w1 ⟨rfl,hb1⟩))
  refine (HN _).mono ?_
  rintro e w2 ⟨rfl,hb2⟩
  go_wp2
  go_ret
  exact ⟨rfl,below_on hb1 hb1.size hb2⟩
 ·have q : ((tk : Int) == 1) = false:=by simp; omega
  have hr' : r = false:=by rw [← hr]; simp [h3]
  subst hr'
  clear hr h3
  go_enter Tryz.func247,Tryz.ntmps247
  go_wp2_with (go_at_call 242; refine HT.mono ?_; rintro e w1 ⟨rfl,hb1⟩)
  go_ret
  exact ⟨rfl,hb1.alloc hb1.size _⟩
theorem Pst.alloc {w : World} {b : Nat} {lv : Value} {nx op er pl : Int} (h : Pst w b lv nx op er pl) (o : Obj) : Pst (w.alloc o) b lv nx op er pl:=
 h.below ((Below.refl _ _).alloc (Nat.le_refl _) _)
theorem Pst.other {w : World} {b : Nat} {lv : Value} {nx op er pl : Int} (h : Pst w b lv nx op er pl) (g o : Nat) (hg : g ≠ b) (u : Value) : Pst (w.setCell ⟨g,o,none⟩ u) b lv nx op er pl:=by
 unfold Pst at *; rw [Below.heap_setCell _ _ _ _ (by exact fun e => hg e.symm)]; exact h
theorem Pst.drewN {w : World} {b : Nat} {lv : Value} {nx op er pl : Int} (h : Pst w b lv nx op er pl) (n : Nat) : Pst (w.drewN n) b lv nx op er pl:=h
theorem Keep.alloc {b : Nat} {x w : World} (h : Keep b x w) (o : Obj) : Keep b x (w.alloc o):=h.below ((Below.refl _ _).alloc (Nat.le_refl _) _)
theorem Keep.setNew {b : Nat} {x w : World} (h : Keep b x w) {g o : Nat} (hg : x.heap.size ≤ g) (u : Value) : Keep b x (w.setCell ⟨g,o,none⟩ u):=
 ⟨h.os,h.tape,h.output,by have:=h.size; simpa [World.setCell] using this,fun k hk hb => (Below.heap_setCell _ _ _ _ (by simp; omega)).trans (h.block k hk hb)⟩
theorem Keep.drewN {b : Nat} {x w : World} (h : Keep b x w) (n : Nat) : Keep b x (w.drewN n):=h.trans ⟨rfl,rfl,rfl,Nat.le_refl _,fun _ _ _ => rfl⟩
def Blk3 (W : World) (b : Nat) (x0 x1 x2 : Value) : Prop:=W.heap[b]? = some (.cells #[x0,x1,x2] 201 (0,0))
theorem Blk3.new (w : World) (x0 x1 x2 : Value) : Blk3 (w.alloc (.cells #[x0,x1,x2] 201)) w.heap.size x0 x1 x2:=heap_alloc_new w _
theorem Blk3.lt {W : World} {b : Nat} {x0 x1 x2 : Value} (h : Blk3 W b x0 x1 x2) : b < W.heap.size:=(Array.getElem?_eq_some_iff.1 h).1
theorem Blk3.below {W W' : World} {b : Nat} {x0 x1 x2 : Value} (h : Blk3 W b x0 x1 x2) (hb : Below W.heap.size W W') : Blk3 W' b x0 x1 x2:=by
 have:=Blk3.lt h
 unfold Blk3 at *; rw [hb.block b this]; exact h
theorem Blk3.keep {W W' : World} {b g : Nat} {x0 x1 x2 : Value} (h : Blk3 W g x0 x1 x2) (hb : Keep b W W') (hg : g ≠ b) : Blk3 W' g x0 x1 x2:=by
 have:=Blk3.lt h
 unfold Blk3 at *; rw [hb.block g this hg]; exact h
theorem Blk3.facts {W : World} {b : Nat} {x0 x1 x2 : Value} (h : Blk3 W b x0 x1 x2) :
  (W.cell? ⟨b,0,none⟩ = some x0 ∧ W.cell? ⟨b,1,none⟩ = some x1 ∧ W.cell? ⟨b,2,none⟩ = some x2) ∧
  W.frozen? ⟨b,0,none⟩ = false ∧ W.frozen? ⟨b,1,none⟩ = false ∧ W.frozen? ⟨b,2,none⟩ = false:=by
 unfold Blk3 at h
 simp [World.cell?,World.frozen?,h]
def partZ : Value:=.agg #[.slice none 0 0,.int .i64 0,.int .i64 0]
def FailTo (b : Nat) (lv : Value) (nx op k a : Int) (w : World) (e : Ending) (w' : World) : Prop:=e = .returned partZ ∧ Pst w' b lv nx op k a ∧ Keep b w w'
theorem fail_first (b : Nat) (lv : Value) (nx op k a : Int) (w : World) (hp : Pst w b lv nx op 0 0) :
  Calls Tryz.prog 249 #[.pointer (some ⟨b,0,none⟩),.int .i64 k,.int .i64 a] w (FailTo b lv nx op k a w):=by
 have hb:=hp.lt
 obtain ⟨⟨c0,c1,c2,c3,c4⟩,f1,f2,f3,f4⟩:=hp.facts
 have HP : Hid (Pst w b lv nx op 0 0):=hp
 clear hp
 go_enter Tryz.func249,Tryz.ntmps249
 go_wp2
 refine bodyPost_ret (v:=partZ) (by simp [results,Tryz.results249,go_sem,partZ]) rfl ⟨rfl,?_,?_⟩
 ·exact ((HP.out.set.2.2.1 k).set.2.2.2 a).alloc _
 ·exact (((Keep.refl b w).setCell 3 _).setCell 4 _).alloc _
theorem fail_again (b : Nat) (lv : Value) (nx op er pl k a : Int) (w : World) (hp : Pst w b lv nx op er pl) (he : er ≠ 0) :
  Calls Tryz.prog 249 #[.pointer (some ⟨b,0,none⟩),.int .i64 k,.int .i64 a] w (FailTo b lv nx op er pl w):=by
 have hb:=hp.lt
 obtain ⟨⟨c0,c1,c2,c3,c4⟩,f1,f2,f3,f4⟩:=hp.facts
 have HP : Hid (Pst w b lv nx op er pl):=hp
 have q : (er == 0) = false:=by simpa using he
 clear hp he
 go_enter Tryz.func249,Tryz.ntmps249
 go_wp2
 refine bodyPost_ret (v:=partZ) (by simp [results,Tryz.results249,go_sem,partZ]) rfl ⟨rfl,?_,?_⟩
 ·exact HP.out.alloc _
 ·exact (Keep.refl b w).alloc _
def fst0 (er k : Int) : Int:=if er = 0 then k else er
theorem fst0_not (er k : Int) (h : er ≠ 0) : fst0 er k = er:=if_neg h
def snd0 (er k pl : Int) : Int:=if er = 0 then k else pl
theorem fail_any (b : Nat) (lv : Value) (nx op er pl k a : Int) (w : World) (hp : Pst w b lv nx op er pl) (hz : er = 0 → pl = 0) :
  Calls Tryz.prog 249 #[.pointer (some ⟨b,0,none⟩),.int .i64 k,.int .i64 a] w (FailTo b lv nx op (fst0 er k) (snd0 er a pl) w):=by
 by_cases h : er = 0
 ·subst h
  obtain rfl:=hz rfl
  exact fail_first b lv nx op k a w hp
 ·unfold fst0 snd0; rw [if_neg h,if_neg h]
  exact fail_again b lv nx op er pl k a w hp h
def refK (l : List Tok) (i : Nat) : Nat × Nat:=if i < l.length then (5,(tokO l i).2.2.2) else (6,if l.length = 0 then 0 else (tokO l (l.length - 1)).2.2.2 + (tokO l (l.length - 1)).2.1.length)
theorem tokO_in (l : List Tok) (i : Nat) (h : i < l.length) : tokO l i = l[i]:=by unfold tokO; rw [List.getElem?_eq_getElem h]; rfl
theorem refuse_in (l : List Tok) (b : Nat) (lv : Value) (i : Nat) (op er pl : Int) (w : World) (hp : Pst w b lv i op er pl) (hz : er = 0 → pl = 0) (ht : TokS w b lv l) (_hn : l.length ≤ 100000) (hlt : i < l.length) :
  Calls Tryz.prog 246 #[.pointer (some ⟨b,0,none⟩)] w (FailTo b lv i op (fst0 er (refK l i).1) (snd0 er (refK l i).2 pl) w):=by
 have hr : refK l i = (5,l[i].2.2.2):=by unfold refK; rw [if_pos hlt,tokO_in l i hlt]
 rw [hr]; clear hr
 obtain ⟨ad,cap,rfl,hc⟩:=ht
 obtain ⟨⟨c0,c1,_,_,_⟩,_⟩:=hp.facts
 have hb:=hp.lt
 obtain ⟨g,rfl,hg1,hg2,k0,k1,k2,k3⟩:=hc i hlt
 obtain ⟨tp,htp⟩ : ∃ t,t = l[i].2.2.2:=⟨_,rfl⟩
 rw [← htp] at k3 ⊢
 clear k0 k1 k2
 simp only []
 obtain ⟨n,hN⟩ : ∃ n,n = l.length:=⟨_,rfl⟩
 rw [← hN] at c0 hp ⊢
 have hlt' : i < n:=by omega
 have HF : ∀ w',Keep b w w' → Pst w' b (.slice (some ⟨g,0,none⟩) n cap) i op er pl → Calls Tryz.prog 249 #[.pointer (some ⟨b,0,none⟩),.int .i64 5,.int .i64 tp] w' (FailTo b (.slice (some ⟨g,0,none⟩) n cap) i op (fst0 er 5) (snd0 er tp pl) w'):=fun w' _ hp' => fail_any _ _ _ _ _ _ _ _ _ hp' hz
 have HP : Hid (Pst w b (.slice (some ⟨g,0,none⟩) n cap) i op er pl):=hp
 clear hN hc htp hlt hp hz
 have q1 : decide ((i : Int) < (n : Int)) = true:=by simp; omega
 have q2 : decide (i < n) = true:=by simp; omega
 go_enter Tryz.func246,Tryz.ntmps246
 go_wp2
 go_quiet (fail)
 go_wp2
 have hK1 : Keep b w ((w.alloc (.cells #[.slice none 0 0,.int .i64 0,.int .i64 0] 201)).drewN nq):=((Keep.refl b w).alloc _).drewN _
 have hR1 : Blk3 ((w.alloc (.cells #[.slice none 0 0,.int .i64 0,.int .i64 0] 201)).drewN nq) w.heap.size (.slice none 0 0) (.int .i64 0) (.int .i64 0):=heap_alloc_new w _
 have hP1 : Pst ((w.alloc (.cells #[.slice none 0 0,.int .i64 0,.int .i64 0] 201)).drewN nq) b (.slice (some ⟨g,0,none⟩) n cap) i op er pl:=(HP.out.alloc _).drewN _
 generalize ((w.alloc (.cells #[.slice none 0 0,.int .i64 0,.int .i64 0] 201)).drewN nq) = w1 at hK1 hR1 hP1 ⊢
 have hrb : w.heap.size ≠ b:=by omega
 have k3' : w1.cell? ⟨g,i * 4 + 3,none⟩ = some (.int .i64 tp):=(hK1.cell (p:=⟨g,_,none⟩) hg1 hg2).trans k3
 obtain ⟨⟨d0,d1,_,_,_⟩,_⟩:=hP1.facts
 have HP1 : Hid (Pst w1 b (.slice (some ⟨g,0,none⟩) n cap) i op er pl):=hP1
 have HR1 : Hid (Blk3 w1 w.heap.size (.slice none 0 0) (.int .i64 0) (.int .i64 0)):=hR1
 clear hP1 hR1 c0 c1 k3
 go_still_tail 12,(by kernel_rfl)
 change wpList _ _ _ _ _ w1.drew
 have hK2 : Keep b w w1.drew:=hK1.drewN 1
 have HP2 : Hid (Pst w1.drew b (.slice (some ⟨g,0,none⟩) n cap) i op er pl):=HP1.out
 have HR2 : Hid (Blk3 w1.drew w.heap.size (.slice none 0 0) (.int .i64 0) (.int .i64 0)):=HR1.out
 clear hK1 HP1 HR1 k3' d0 d1
 generalize w1.drew = w2 at hK2 HP2 HR2 ⊢
 go_wp2_with fail
 refine (HF _ hK2 HP2.out).mono ?_
 rintro e w3 ⟨rfl,hp3,hk3⟩
 obtain ⟨⟨r0,r1,r2⟩,f0,f1,f2⟩:=(HR2.out.keep hk3 hrb).facts
 have HP3:=Lib.hid hp3
 have hK3:=hK2.trans hk3
 clear hp3 hk3
 unfold partZ
 go_wp2
 refine bodyPost_ret (v:=partZ) (by simp [results,Tryz.results246,go_sem,partZ,r0,r1,r2]) rfl ⟨rfl,?_,?_⟩
 ·exact ((HP3.out.other _ _ hrb _).other _ _ hrb _).other _ _ hrb _
 ·exact ((hK3.setNew (Nat.le_refl _) _).setNew (Nat.le_refl _) _).setNew (Nat.le_refl _) _
theorem refuse_none (l : List Tok) (b : Nat) (lv : Value) (i : Nat) (op er pl : Int) (w : World) (hp : Pst w b lv i op er pl) (hz : er = 0 → pl = 0) (ht : TokS w b lv l) (hl : l.length = 0) :
  Calls Tryz.prog 246 #[.pointer (some ⟨b,0,none⟩)] w (FailTo b lv i op (fst0 er (refK l i).1) (snd0 er (refK l i).2 pl) w):=by
 have hr : refK l i = (6,0):=by unfold refK; rw [if_neg (by omega),if_pos hl]
 rw [hr]; clear hr
 obtain ⟨ad,cap,rfl,hc⟩:=ht
 rw [hl] at hp ⊢
 obtain ⟨⟨c0,c1,_,_,_⟩,_⟩:=hp.facts
 have hb:=hp.lt
 have HF : ∀ w',Keep b w w' → Pst w' b (.slice ad 0 cap) i op er pl → Calls Tryz.prog 249 #[.pointer (some ⟨b,0,none⟩),.int .i64 6,.int .i64 0] w' (FailTo b (.slice ad 0 cap) i op (fst0 er 6) (snd0 er 0 pl) w'):=fun w' _ hp' => fail_any _ _ _ _ _ _ _ _ _ hp' hz
 have HP : Hid (Pst w b (.slice ad 0 cap) i op er pl):=hp
 clear hc hp hz hl
 have q1 : decide ((i : Int) < 0) = false:=by simp
 have hrb : w.heap.size ≠ b:=by omega
 go_enter Tryz.func246,Tryz.ntmps246
 go_wp2
 go_quiet (fail)
 have hK1 : Keep b w ((w.alloc (.cells #[.slice none 0 0,.int .i64 0,.int .i64 0] 201)).drewN nq):=((Keep.refl b w).alloc _).drewN _
 have hR1 : Blk3 ((w.alloc (.cells #[.slice none 0 0,.int .i64 0,.int .i64 0] 201)).drewN nq) w.heap.size (.slice none 0 0) (.int .i64 0) (.int .i64 0):=heap_alloc_new w _
 have hP1 : Pst ((w.alloc (.cells #[.slice none 0 0,.int .i64 0,.int .i64 0] 201)).drewN nq) b (.slice ad 0 cap) i op er pl:=(HP.out.alloc _).drewN _
 generalize ((w.alloc (.cells #[.slice none 0 0,.int .i64 0,.int .i64 0] 201)).drewN nq) = w1 at hK1 hR1 hP1 ⊢
 obtain ⟨⟨d0,d1,_,_,_⟩,_⟩:=hP1.facts
 have HP1:=Lib.hid hP1
 have HR1:=Lib.hid hR1
 clear hP1 hR1 c0 c1
 go_wp2_with fail
 refine (HF _ hK1 HP1.out).mono ?_
 rintro e w3 ⟨rfl,hp3,hk3⟩
 obtain ⟨⟨r0,r1,r2⟩,f0,f1,f2⟩:=(HR1.out.keep hk3 hrb).facts
 have HP3:=Lib.hid hp3
 have hK3:=hK1.trans hk3
 clear hp3 hk3
 unfold partZ
 go_wp2
 refine bodyPost_ret (v:=partZ) (by simp [results,Tryz.results246,go_sem,partZ,r0,r1,r2]) rfl ⟨rfl,?_,?_⟩
 ·exact ((HP3.out.other _ _ hrb _).other _ _ hrb _).other _ _ hrb _
 ·exact ((hK3.setNew (Nat.le_refl _) _).setNew (Nat.le_refl _) _).setNew (Nat.le_refl _) _
theorem refuse_end (l : List Tok) (b : Nat) (lv : Value) (i m : Nat) (op er pl : Int) (w : World) (hp : Pst w b lv i op er pl) (hz : er = 0 → pl = 0) (ht : TokS w b lv l) (hl : l.length = m + 1) (hn : m ≤ 100000) (hlt : m < i)
  (hs : (tokO l m).2.2.2 ≤ 100000 ∧ (tokO l m).2.1.length ≤ 100000) :
  Calls Tryz.prog 246 #[.pointer (some ⟨b,0,none⟩)] w (FailTo b lv i op (fst0 er (refK l i).1) (snd0 er (refK l i).2 pl) w):=by
 have hr : refK l i = (6,(tokO l m).2.2.2 + (tokO l m).2.1.length):=by unfold refK; rw [if_neg (by omega),if_neg (by omega),hl]; rfl
 rw [hr]; clear hr
 rw [tokO_in l m (by omega)] at hs ⊢
 obtain ⟨ad,cap,rfl,hc⟩:=ht
 obtain ⟨g,rfl,hg1,hg2,k0,k1,k2,k3⟩:=hc m (by omega)
 obtain ⟨⟨tk,tx,tn,tp⟩,htk⟩ : ∃ t,t = l[m]'(by omega):=⟨_,rfl⟩
 rw [← htk] at k0 k1 k2 k3 hs ⊢
 simp only [] at k0 k1 k2 k3 hs ⊢
 clear htk hc
 rw [hl] at hp ⊢
 obtain ⟨y,hy⟩ : ∃ y : ByteArray,y = ⟨tx.toArray⟩:=⟨_,rfl⟩
 have hyl : tx.length = y.size:=by rw [hy,Lib.size_eq]
 rw [hyl] at hs ⊢
 rw [← hy] at k1
 clear hyl hy
 obtain ⟨hs1,hs2⟩:=hs
 obtain ⟨⟨c0,c1,_,_,_⟩,_⟩:=hp.facts
 have hb:=hp.lt
 obtain ⟨n,hN⟩ : ∃ n,n = m + 1:=⟨_,rfl⟩
 rw [← hN] at c0 hp ⊢
 have hn1 : n ≤ 100001:=by omega
 have hn2 : 0 < n:=by omega
 have hlt' : n ≤ i:=by omega
 have HF : ∀ w',Keep b w w' → Pst w' b (.slice (some ⟨g,0,none⟩) n cap) i op er pl → Calls Tryz.prog 249 #[.pointer (some ⟨b,0,none⟩),.int .i64 6,.int .i64 ((tp : Int) + (y.size : Int))] w' (FailTo b (.slice (some ⟨g,0,none⟩) n cap) i op (fst0 er 6) (snd0 er ((tp : Int) + (y.size : Int)) pl) w'):=fun w' _ hp' => fail_any _ _ _ _ _ _ _ _ _ hp' hz
 have HP : Hid (Pst w b (.slice (some ⟨g,0,none⟩) n cap) i op er pl):=hp
 have HG : Hid ((((tp + y.size : Nat)) : Int) = (tp : Int) + (y.size : Int)):=by show _ = _; omega
 have q1 : decide ((i : Int) < (n : Int)) = false:=by simp; omega
 have q2 : decide (i < n) = false:=by simp; omega
 have q3 : decide ((0 : Int) < (n : Int)) = true:=by simp; omega
 have q4 : decide (0 < n) = true:=by simp; omega
 have m1 : IntKind.i64.wrap ((n : Int) - 1) = (n : Int) - 1:=IntWalk.i64_in _ (by omega)
 have m2 : (1 : Int) ≤ (n : Int):=by omega
 have m3 : (0 : Int) ≤ (n : Int) - 1:=by omega
 have m4 : ((n : Int) - 1).toNat = m:=by omega
 have m5 : (n : Int) - 1 < (n : Int):=by omega
 have hrb : w.heap.size ≠ b:=by omega
 have hrb2 : w.heap.size + 1 ≠ b:=by omega
 clear hN hp hl hz hlt hn
 go_enter Tryz.func246,Tryz.ntmps246
 go_wp2
 go_quiet (fail)
 have hK1 : Keep b w ((w.alloc (.cells #[.slice none 0 0,.int .i64 0,.int .i64 0] 201)).drewN nq):=((Keep.refl b w).alloc _).drewN _
 have hR1 : Blk3 ((w.alloc (.cells #[.slice none 0 0,.int .i64 0,.int .i64 0] 201)).drewN nq) w.heap.size (.slice none 0 0) (.int .i64 0) (.int .i64 0):=heap_alloc_new w _
 have hP1 : Pst ((w.alloc (.cells #[.slice none 0 0,.int .i64 0,.int .i64 0] 201)).drewN nq) b (.slice (some ⟨g,0,none⟩) n cap) i op er pl:=(HP.out.alloc _).drewN _
 generalize ((w.alloc (.cells #[.slice none 0 0,.int .i64 0,.int .i64 0] 201)).drewN nq) = w1 at hK1 hR1 hP1 ⊢
 obtain ⟨⟨d0,d1,_,_,_⟩,_⟩:=hP1.facts
 have k0' : w1.cell? ⟨g,m * 4,none⟩ = some (.int .i64 tk):=(hK1.cell (p:=⟨g,_,none⟩) hg1 hg2).trans k0
 have k1' : w1.cell? ⟨g,m * 4 + 1,none⟩ = some (.string y):=(hK1.cell (p:=⟨g,_,none⟩) hg1 hg2).trans k1
 have k2' : w1.cell? ⟨g,m * 4 + 2,none⟩ = some (.int .i64 tn):=(hK1.cell (p:=⟨g,_,none⟩) hg1 hg2).trans k2
 have k3' : w1.cell? ⟨g,m * 4 + 3,none⟩ = some (.int .i64 tp):=(hK1.cell (p:=⟨g,_,none⟩) hg1 hg2).trans k3
 have HP1:=Lib.hid hP1
 have HR1:=Lib.hid hR1
 clear hP1 hR1 c0 c1 k0 k1 k2 k3
 go_wp2
 have hb1 : b < w1.heap.size:=HP1.out.lt
 have hg1' : g < w1.heap.size:=Nat.lt_of_lt_of_le hg1 hK1.size
 go_region
 have hK2 : Keep b w ((w1.alloc (.cells #[.int .i64 tk,.string y,.int .i64 tn,.int .i64 tp] 62)).drew):=(hK1.alloc _).drewN 1
 have hR2 : Blk3 ((w1.alloc (.cells #[.int .i64 tk,.string y,.int .i64 tn,.int .i64 tp] 62)).drew) w.heap.size (.slice none 0 0) (.int .i64 0) (.int .i64 0):=HR1.out.below (((Below.refl _ _).alloc (Nat.le_refl _) _).drew)
 have hP2 : Pst ((w1.alloc (.cells #[.int .i64 tk,.string y,.int .i64 tn,.int .i64 tp] 62)).drew) b (.slice (some ⟨g,0,none⟩) n cap) i op er pl:=HP1.out.alloc _
 have hB2 : ((w1.alloc (.cells #[.int .i64 tk,.string y,.int .i64 tn,.int .i64 tp] 62)).drew).heap[w1.heap.size]? = some (.cells #[.int .i64 tk,.string y,.int .i64 tn,.int .i64 tp] 62 (0,0)):=heap_alloc_new w1 _
 generalize ((w1.alloc (.cells #[.int .i64 tk,.string y,.int .i64 tn,.int .i64 tp] 62)).drew) = w2 at hK2 hR2 hP2 hB2 ⊢
 obtain ⟨⟨e0,e1,e2,e3⟩,_⟩:=Blk4.facts (show Blk4 w2 w1.heap.size (.int .i64 tk) (.string y) (.int .i64 tn) (.int .i64 tp) from hB2)
 have HP2:=Lib.hid hP2
 have HR2:=Lib.hid hR2
 clear hP2 hR2 hB2 d0 d1 k0' k1' k2' k3' HP1 HR1 hK1 m1 m4
 go_wp2_with fail
 refine (HF _ hK2 HP2.out).mono ?_
 rintro e w3 ⟨rfl,hp3,hk3⟩
 obtain ⟨⟨r0,r1,r2⟩,f0,f1,f2⟩:=(HR2.out.keep hk3 hrb).facts
 have HP3:=Lib.hid hp3
 have hK3:=hK2.trans hk3
 clear hp3 hk3
 unfold partZ
 go_wp2
 refine bodyPost_ret (v:=partZ) (by simp [results,Tryz.results246,go_sem,partZ,r0,r1,r2]) rfl ⟨rfl,?_,?_⟩
 ·rw [HG.out]; exact ((HP3.out.other _ _ hrb _).other _ _ hrb _).other _ _ hrb _
 ·exact ((hK3.setNew (Nat.le_refl _) _).setNew (Nat.le_refl _) _).setNew (Nat.le_refl _) _
def TokOK (l : List Tok) : Prop:=∀ i,(tokO l i).2.2.2 ≤ 100000 ∧ (tokO l i).2.1.length ≤ 100000 ∧ (tokO l i).2.2.1 ≤ 100000
theorem refuse_any (l : List Tok) (b : Nat) (lv : Value) (i : Nat) (op er pl : Int) (w : World) (hp : Pst w b lv i op er pl) (hz : er = 0 → pl = 0) (ht : TokS w b lv l) (hn : l.length ≤ 100000) (hs : TokOK l) :
  Calls Tryz.prog 246 #[.pointer (some ⟨b,0,none⟩)] w (FailTo b lv i op (fst0 er (refK l i).1) (snd0 er (refK l i).2 pl) w):=by
 by_cases h : i < l.length
 ·exact refuse_in l b lv i op er pl w hp hz ht hn h
 ·rcases hl : l.length with _ | m
  ·exact refuse_none l b lv i op er pl w hp hz ht hl
  ·exact refuse_end l b lv i m op er pl w hp hz ht hl (by omega) (by omega) ⟨(hs m).1,(hs m).2.1⟩
structure PtR where
 ad : Option Addr
 cap : Nat
 s : Int
 d : Int
 xs : List Nd
def PtR.nv (p : PtR) : Value:=.slice p.ad p.xs.length p.cap
def szF : List PtR → Int → Int
 | [],a => a
 | p :: r,a => szF r (a + p.s)
def dpF : List PtR → Int → Int
 | [],a => a
 | p :: r,a => dpF r (max a (p.d + 1))
def xsF (x : Nd) (ps : List PtR) : List Nd:=x :: ps.flatMap PtR.xs
theorem szF_at (l : List PtR) (k : Nat) (h : k < l.length) (a : Int) : szF (l.drop k) a = szF (l.drop (k + 1)) (a + l[k].s):=by
 rw [List.drop_eq_getElem_cons h,szF]
theorem dpF_at (l : List PtR) (k : Nat) (h : k < l.length) (a : Int) : dpF (l.drop k) a = dpF (l.drop (k + 1)) (max a (l[k].d + 1)):=by
 rw [List.drop_eq_getElem_cons h,dpF]
theorem drop_over {α : Type} (l : List α) (k : Nat) (h : ¬ k < l.length) : l.drop k = []:=List.drop_eq_nil_of_le (by omega)
def Blk5 (W : World) (b : Nat) (x : Nd) : Prop:=W.heap[b]? = some (.cells #[.int .i64 x.op,.int .i64 x.n,.string x.nm,.string x.inn,.int .i64 x.pl] 46 (0,0))
theorem Blk5.lt {W : World} {b : Nat} {x : Nd} (h : Blk5 W b x) : b < W.heap.size:=(Array.getElem?_eq_some_iff.1 h).1
theorem Blk5.below {W W' : World} {b : Nat} {x : Nd} (h : Blk5 W b x) (hb : Below W.heap.size W W') : Blk5 W' b x:=by
 have:=Blk5.lt h
 unfold Blk5 at *; rw [hb.block b this]; exact h
theorem Blk5.facts {W : World} {b : Nat} {x : Nd} (h : Blk5 W b x) :
  (W.cell? ⟨b,0,none⟩ = some (.int .i64 x.op) ∧ W.cell? ⟨b,1,none⟩ = some (.int .i64 x.n) ∧ W.cell? ⟨b,2,none⟩ = some (.string x.nm) ∧ W.cell? ⟨b,3,none⟩ = some (.string x.inn) ∧ W.cell? ⟨b,4,none⟩ = some (.int .i64 x.pl)) ∧
  W.frozen? ⟨b,0,none⟩ = false ∧ W.frozen? ⟨b,1,none⟩ = false ∧ W.frozen? ⟨b,2,none⟩ = false ∧ W.frozen? ⟨b,3,none⟩ = false ∧ W.frozen? ⟨b,4,none⟩ = false:=by
 unfold Blk5 at h
 simp [World.cell?,World.frozen?,h]
def PtsAt (w : World) (v : Value) (ps : List PtR) : Prop:=
 ∃ ad cap,v = .slice ad ps.length cap ∧ ∀ i,(hi : i < ps.length) → ∃ g,ad = some ⟨g,0,none⟩ ∧ g < w.heap.size ∧
  w.cell? ⟨g,i * 3,none⟩ = some ps[i].nv ∧ w.cell? ⟨g,i * 3 + 1,none⟩ = some (.int .i64 ps[i].s) ∧ w.cell? ⟨g,i * 3 + 2,none⟩ = some (.int .i64 ps[i].d)
theorem PtsAt.below {w w' : World} {v : Value} {ps : List PtR} (h : PtsAt w v ps) (hb : Below w.heap.size w w') : PtsAt w' v ps:=by
 obtain ⟨ad,cap,hv,hc⟩:=h
 refine ⟨ad,cap,hv,fun i hi => ?_⟩
 obtain ⟨g,hg,h1,k0,k1,k2⟩:=hc i hi
 exact ⟨g,hg,Nat.lt_of_lt_of_le h1 hb.size,(hb.cell (p:=⟨g,_,none⟩) h1).trans k0,(hb.cell (p:=⟨g,_,none⟩) h1).trans k1,(hb.cell (p:=⟨g,_,none⟩) h1).trans k2⟩
def PtOwn (w : World) (B : Nat) (p : PtR) : Prop:=w.ownsRow B 46 5 p.nv p.xs.length (rowN p.xs) ∧ p.xs.length ≤ 200 ∧ 0 ≤ p.s ∧ p.s ≤ 1000000 ∧ 0 ≤ p.d ∧ p.d ≤ 1000000
theorem Blk3.set {w : World} {b : Nat} {x0 x1 x2 : Value} (h : Blk3 w b x0 x1 x2) :
  (∀ u,Blk3 (w.setCell ⟨b,0,none⟩ u) b u x1 x2) ∧ (∀ u,Blk3 (w.setCell ⟨b,1,none⟩ u) b x0 u x2) ∧ (∀ u,Blk3 (w.setCell ⟨b,2,none⟩ u) b x0 x1 u):=by
 unfold Blk3 at h
 have hlt:=(Array.getElem?_eq_some_iff.1 h).1
 have hg:=(Array.getElem?_eq_some_iff.1 h).2
 refine ⟨fun u => ?_,fun u => ?_,fun u => ?_⟩ <;> simp [Blk3,World.setCell,Array.getElem?_modify,h]
theorem Blk3.other {w : World} {b : Nat} {x0 x1 x2 : Value} (h : Blk3 w b x0 x1 x2) (g o : Nat) (hg : b ≠ g) (u : Value) : Blk3 (w.setCell ⟨g,o,none⟩ u) b x0 x1 x2:=by
 unfold Blk3 at *; rw [Below.heap_setCell _ _ _ _ (by exact hg)]; exact h
theorem Blk5.other {w : World} {b : Nat} {x : Nd} (h : Blk5 w b x) (g o : Nat) (hg : b ≠ g) (u : Value) : Blk5 (w.setCell ⟨g,o,none⟩ u) b x:=by
 unfold Blk5 at *; rw [Below.heap_setCell _ _ _ _ (by exact hg)]; exact h
theorem Blk3.alloc {w : World} {b : Nat} {x0 x1 x2 : Value} (h : Blk3 w b x0 x1 x2) (o : Obj) : Blk3 (w.alloc o) b x0 x1 x2:=h.below ((Below.refl _ _).alloc (Nat.le_refl _) _)
theorem Blk5.alloc {w : World} {b : Nat} {x : Nd} (h : Blk5 w b x) (o : Obj) : Blk5 (w.alloc o) b x:=h.below ((Below.refl _ _).alloc (Nat.le_refl _) _)
theorem below_two {B b : Nat} {w wr : World} (h : Below B w wr) (hb : B ≤ b) (hB : B ≤ w.heap.size) (o1 o2 : Nat) (u1 u2 : Value) (o : Obj) : Below B w (((wr.setCell ⟨b,o1,none⟩ u1).setCell ⟨b,o2,none⟩ u2).alloc o):=by
 have h2:=(h.setCell (p:=⟨b,o1,none⟩) hb u1).setCell (p:=⟨b,o2,none⟩) hb u2
 exact h2.alloc (Nat.le_trans hB h2.size) o
theorem info32 : (Tryz.prog.info? 46).map (fun i => (i.zero,i.size,i.bytes)) = some (some (.agg #[.int .i64 0,.int .i64 0,.string ⟨#[]⟩,.string ⟨#[]⟩,.int .i64 0]),5,56):=by kernel_rfl
theorem rowN_length (l : List Nd) : (rowN l).length = l.length * 5:=by
 unfold rowN
 induction l with
 | nil => rfl
 | cons a l ih => simp only [List.flatMap_cons,List.length_append,ih,List.length_cons,Nd.cells,List.length_nil]; omega
theorem rowN_one (l : List Nd) : ∀ u ∈ rowN l,u.oneCell' = true:=by
 intro u h
 unfold rowN at h
 rw [List.mem_flatMap] at h
 obtain ⟨t,_,h⟩:=h
 simp [Nd.cells] at h
 rcases h with rfl | rfl | rfl | rfl | rfl <;> rfl
theorem rowN_append (a b : List Nd) : rowN (a ++ b) = rowN a ++ rowN b:=by simp [rowN]
theorem own_mono {w : World} {B B' e size n : Nat} {v : Value} {xs : List Value} (h : w.ownsRow B e size v n xs) (hB : B' ≤ B) : w.ownsRow B' e size v n xs:=by
 obtain ⟨h1,h2⟩:=h
 refine ⟨h1,?_⟩
 rcases h2 with h2 | ⟨g,cap,cur,hv,hg,hh,r⟩
 ·exact .inl h2
 ·exact .inr ⟨g,cap,cur,hv,Nat.le_trans hB hg,hh,r⟩
theorem own_shape {w : World} {B n e size : Nat} {v : Value} {xs : List Value} (h : w.ownsRow B e size v n xs) : ∃ ad cap,v = .slice ad n cap ∧ ((ad = none ∧ n = 0 ∧ cap = 0) ∨ ∃ g,ad = some ⟨g,0,none⟩ ∧ B ≤ g ∧ g < w.heap.size):=by
 have hl:=h.lt
 rcases h.2 with ⟨rfl,rfl⟩ | ⟨g,cap',cur,rfl,hb,hg,_⟩
 ·exact ⟨none,0,rfl,.inl ⟨rfl,rfl,rfl⟩⟩
 ·exact ⟨_,cap',rfl,.inr ⟨g,rfl,hl g rfl⟩⟩
theorem append_nds {w : World} {ops : Array Oper} {rest : List Oper} {o : Oper} {a : Act} {Q : Exit → Act → World → Prop} (hgd : o.guard = none) (s x : Operand)
  (ho : o.op = .call { callee:=.builtin .append,args:=#[s,x],argTypes:=#[40,40] }) (base B n m : Nat) (v u : Value) (xs : List Value) (l : List Nd) (hs : a.eval s = v) (hx : a.eval x = u)
  (hown : w.ownsRow base 46 5 v n xs) (hu : w.ownsRow B 46 5 u m (rowN l)) (hm : m = l.length) (hn : n + m ≤ 1000000) (hbase : base ≤ w.heap.size)
  (h : ∀ v' w',w'.ownsRow base 46 5 v' (n + m) (xs ++ rowN l) → Below base w w' → wpList Tryz.prog ops Q rest (a.put o.dst v') w') : wpList Tryz.prog ops Q (o :: rest) a w:=by
 obtain ⟨i0,hi,hz0,hz1,hz2⟩:=info_parts info32
 have hc:=@World.ownsRow.cells _ _ _ _ _ _ _ hu
 subst hm
 rcases hu.2 with ⟨rfl,h0⟩ | ⟨g,cap,cur,rfl,_⟩
 ·obtain rfl:=List.eq_nil_of_length_eq_zero h0
  refine wpList_append_own_none hgd s x 40 ho base 46 i0 5 Tryz.underlying40 hi v n xs hs hown hx ?_
  have:=h v w
  rw [show rowN [] = [] from rfl,List.append_nil] at this
  exact this hown (Below.refl _ _)
 ·refine wpList_append_own _ hgd s x 40 ho base 46 i0 (.agg #[.int .i64 0,.int .i64 0,.string ⟨#[]⟩,.string ⟨#[]⟩,.int .i64 0]) 5 56 Tryz.underlying40 hi hz0 hz1 hz2 rfl (by decide) v n xs hs hown ⟨g,0,none⟩ l.length cap (rowN l) hx
   (by rw [rowN_length]) (hc rfl) (rowN_one l) (by unfold maxLen; omega) (by omega) hbase ?_
  intro v' w' h1 h2 _
  exact h v' w' h1 ((Below.refl base w).grown h2 hbase (fun k hk => (hown.lt k hk).1))
theorem own_new (w : World) (x : Nd) : (w.alloc (.cells #[.int .i64 x.op,.int .i64 x.n,.string x.nm,.string x.inn,.int .i64 x.pl] 46)).ownsRow w.heap.size 46 5 (.slice (some ⟨w.heap.size,0,none⟩) 1 1) 1 (rowN [x]):=
 ⟨rfl,.inr ⟨w.heap.size,1,_,rfl,Nat.le_refl _,heap_alloc_new w _,Nat.le_refl _,by unfold maxLen; decide,rfl,rfl⟩⟩
def JoinAns (x : Nd) (ps : List PtR) (B : Nat) (w : World) (e : Ending) (w' : World) : Prop:=
 ∃ nv xs,e = .returned (.agg #[nv,.int .i64 (szF ps 1),.int .i64 (dpF ps 0)]) ∧ w'.ownsRow B 46 5 nv xs.length (rowN xs) ∧ (szF ps 1 ≤ 200 ∧ dpF ps 0 ≤ 30 → xs = xsF x ps) ∧ (¬ (szF ps 1 ≤ 200 ∧ dpF ps 0 ≤ 30) → xs = []) ∧ Below w.heap.size w w'
theorem join_any (x : Nd) (v : Value) (ps : List PtR) (B : Nat) (w : World) (hv : PtsAt w v ps) (hn : ps.length ≤ 2) (ho : ∀ p ∈ ps,PtOwn w B p) (hB : B ≤ w.heap.size) :
  Calls Tryz.prog 238 #[.agg #[.int .i64 x.op,.int .i64 x.n,.string x.nm,.string x.inn,.int .i64 x.pl],v] w (JoinAns x ps B w):=by
 obtain ⟨ad,cap,rfl,hc⟩:=hv
 have HC:=Lib.hid hc
 have HO : Hid (∀ i,(hi : i < ps.length) → 0 ≤ ps[i].s ∧ ps[i].s ≤ 1000000 ∧ 0 ≤ ps[i].d ∧ ps[i].d ≤ 1000000):=fun i hi => (ho _ (List.getElem_mem hi)).2.2
 have HOW:=Lib.hid ho
 clear hc ho
 obtain ⟨n,hN⟩ : ∃ n,n = ps.length:=⟨_,rfl⟩
 rw [← hN] at hn ⊢
 have HN:=Lib.hid hN
 clear hN
 obtain ⟨S,hS⟩ : ∃ S,szF ps 1 = S:=⟨_,rfl⟩
 obtain ⟨D,hD⟩ : ∃ D,dpF ps 0 = D:=⟨_,rfl⟩
 have HS:=Lib.hid hS
 have HD:=Lib.hid hD
 clear hS hD
 obtain ⟨xo,xn,xnm,xin,xp⟩:=x
 simp only []
 go_enter Tryz.func238,Tryz.ntmps238
 go_wp2
 have hn5 : Blk5 (((w.alloc (.cells #[.int .i64 xo,.int .i64 xn,.string xnm,.string xin,.int .i64 xp] 46)).alloc (.cells #[.slice none 0 0,.int .i64 0,.int .i64 0] 201)).alloc (.cells #[.slice none 0 0,.int .i64 1,.int .i64 0] 201)) w.heap.size ⟨xo,xn,xnm,xin,xp⟩:=by
  unfold Blk5
  rw [Below.heap_alloc _ _ _ (by simp; omega),Below.heap_alloc _ _ _ (by simp)]
  exact heap_alloc_new w _
 have hr3 : Blk3 (((w.alloc (.cells #[.int .i64 xo,.int .i64 xn,.string xnm,.string xin,.int .i64 xp] 46)).alloc (.cells #[.slice none 0 0,.int .i64 0,.int .i64 0] 201)).alloc (.cells #[.slice none 0 0,.int .i64 1,.int .i64 0] 201)) (w.heap.size + 1) (.slice none 0 0) (.int .i64 0) (.int .i64 0):=by
  unfold Blk3
  rw [Below.heap_alloc _ _ _ (by simp)]
  have:=heap_alloc_new (w.alloc (.cells #[.int .i64 xo,.int .i64 xn,.string xnm,.string xin,.int .i64 xp] 46)) (.cells #[.slice none 0 0,.int .i64 0,.int .i64 0] 201)
  simpa using this
 have hx3 : Blk3 (((w.alloc (.cells #[.int .i64 xo,.int .i64 xn,.string xnm,.string xin,.int .i64 xp] 46)).alloc (.cells #[.slice none 0 0,.int .i64 0,.int .i64 0] 201)).alloc (.cells #[.slice none 0 0,.int .i64 1,.int .i64 0] 201)) (w.heap.size + 1 + 1) (.slice none 0 0) (.int .i64 1) (.int .i64 0):=by
  have:=heap_alloc_new ((w.alloc (.cells #[.int .i64 xo,.int .i64 xn,.string xnm,.string xin,.int .i64 xp] 46)).alloc (.cells #[.slice none 0 0,.int .i64 0,.int .i64 0] 201)) (.cells #[.slice none 0 0,.int .i64 1,.int .i64 0] 201)
  simpa [Blk3] using this
 have hbw : Below w.heap.size w (((w.alloc (.cells #[.int .i64 xo,.int .i64 xn,.string xnm,.string xin,.int .i64 xp] 46)).alloc (.cells #[.slice none 0 0,.int .i64 0,.int .i64 0] 201)).alloc (.cells #[.slice none 0 0,.int .i64 1,.int .i64 0] 201)):=
  (((Below.refl _ _).alloc (Nat.le_refl _) _).alloc (by simp) _).alloc (by simp; omega) _
 generalize (((w.alloc (.cells #[.int .i64 xo,.int .i64 xn,.string xnm,.string xin,.int .i64 xp] 46)).alloc (.cells #[.slice none 0 0,.int .i64 0,.int .i64 0] 201)).alloc (.cells #[.slice none 0 0,.int .i64 1,.int .i64 0] 201)) = w0 at hn5 hr3 hx3 hbw ⊢
 obtain ⟨bn,hbn⟩ : ∃ b,b = w.heap.size:=⟨_,rfl⟩
 obtain ⟨br,hbr⟩ : ∃ b,b = w.heap.size + 1:=⟨_,rfl⟩
 obtain ⟨bx,hbx⟩ : ∃ b,b = w.heap.size + 1 + 1:=⟨_,rfl⟩
 have hbn0 : w.heap.size ≤ bn:=by omega
 have hbr0 : w.heap.size ≤ br:=by omega
 have hbx0 : w.heap.size ≤ bx:=by omega
 have hd1 : bn ≠ br:=by omega
 have hd2 : bn ≠ bx:=by omega
 have hd3 : br ≠ bx:=by omega
 rw [← hbx] at hx3 ⊢
 rw [← hbr] at hr3 ⊢
 rw [← hbn] at hn5
 have HBN:=Lib.hid hbn
 clear hbr hbx hbn
 have HBW:=Lib.hid hbw
 have HN5:=Lib.hid hn5
 have HR3:=Lib.hid hr3
 have HX3:=Lib.hid hx3
 clear hbw hn5 hr3 hx3
 go_loopg [13] n (fun fuel i' wr => ∃ (k : Nat) (a c : Int),i' = .int .i64 k ∧ k ≤ n ∧ n - k ≤ fuel ∧ 0 ≤ a ∧ a ≤ 1 + 1000000 * k ∧ 0 ≤ c ∧ c ≤ 2000000 ∧ szF (ps.drop k) a = S ∧ dpF (ps.drop k) c = D ∧ Blk3 wr bx (.slice none 0 0) (.int .i64 a) (.int .i64 c) ∧ Blk3 wr br (.slice none 0 0) (.int .i64 0) (.int .i64 0) ∧ Blk5 wr bn ⟨xo,xn,xnm,xin,xp⟩ ∧ Below w.heap.size w wr)
 case atStart => exact ⟨0,1,0,rfl,Nat.zero_le _,Nat.le_refl _,by omega,by omega,by omega,by omega,HS.out,HD.out,HX3.out,HR3.out,HN5.out,HBW.out⟩
 case round =>
  obtain ⟨k,a,c,rfl,hk,hf,ha0,ha1,hc0,hc1,hsz,hdp,hx3,hr3,hn5,hbw⟩:=hrel
  have HX:=Lib.hid hx3
  have HR:=Lib.hid hr3
  have HN5:=Lib.hid hn5
  have HBW:=Lib.hid hbw
  have HSZ:=Lib.hid hsz
  have HDP:=Lib.hid hdp
  obtain ⟨⟨x0,x1,x2⟩,xf0,xf1,xf2⟩:=hx3.facts
  have hxl:=hx3.lt
  clear hx3 hr3 hn5 hbw hsz hdp
  by_cases hlt : k < n
  ·have hk' : k < ps.length:=by have:=HN.out; omega
   obtain ⟨g,rfl,hg,p0,p1,p2⟩:=HC.out k hk'
   obtain ⟨o1,o2,o3,o4⟩:=HO.out k hk'
   have HSA:=Lib.hid (szF_at ps k hk' a)
   have HDA:=Lib.hid (dpF_at ps k hk' c)
   obtain ⟨⟨pad,pcap,pz,pd,px⟩,hpk⟩ : ∃ t,t = ps[k]:=⟨_,rfl⟩
   have HPK:=Lib.hid hpk
   rw [← hpk] at p0 p1 p2 o1 o2 o3 o4
   simp only [PtR.nv] at p0 p1 p2 o1 o2 o3 o4
   clear hpk
   have g0 : wr.cell? ⟨g,k * 3,none⟩ = some (.slice pad px.length pcap):=(HBW.out.cell (p:=⟨g,_,none⟩) hg).trans p0
   have g1 : wr.cell? ⟨g,k * 3 + 1,none⟩ = some (.int .i64 pz):=(HBW.out.cell (p:=⟨g,_,none⟩) hg).trans p1
   have g2 : wr.cell? ⟨g,k * 3 + 2,none⟩ = some (.int .i64 pd):=(HBW.out.cell (p:=⟨g,_,none⟩) hg).trans p2
   clear p0 p1 p2
   have s1 : 0 ≤ a + pz:=by omega
   have s2 : a + pz ≤ 10000000:=by omega
   have s3 : 0 ≤ pd + 1:=by omega
   have s4 : pd + 1 ≤ 10000000:=by omega
   go_wp2
   all_goals
    go_roundg (gk - 1)
    case measure => omega
    case rel =>
     refine ⟨k + 1,a + pz,_,by go_num,by omega,by omega,s1,by omega,?_,?_,?_,?_,((HX.out.set.2.1 _).set.2.2 _).alloc _,((HR.out.other _ _ hd3 _).other _ _ hd3 _).alloc _,((HN5.out.other _ _ hd2 _).other _ _ hd2 _).alloc _,below_two HBW.out hbx0 (Nat.le_refl _) _ _ _ _ _⟩
     ·omega
     ·omega
     ·have e1:=HSZ.out
      rw [HSA.out,← HPK.out] at e1
      exact e1
     ·have e1:=HDP.out
      rw [HDA.out,← HPK.out] at e1
      simp only [] at e1
      rw [← e1] <;> (congr 1; omega)
  ·have hk2 : ¬ k < ps.length:=by have:=HN.out; omega
   have ea : a = S:=by have:=HSZ.out; rw [drop_over ps k hk2] at this; exact this
   have ec : c = D:=by have:=HDP.out; rw [drop_over ps k hk2] at this; exact this
   subst ea ec
   obtain ⟨⟨r0,r1,r2⟩,rf0,rf1,rf2⟩:=HR.out.facts
   by_cases hb : 200 < a
   ·go_wp2
    refine bodyPost_ret (v:=.agg #[.slice none 0 0,.int .i64 a,.int .i64 c]) (by simp [results,Tryz.results238,go_sem,r0,r1,r2]) rfl ⟨.slice none 0 0,[],?_,World.ownsRow_nil _ _ _ _,fun h => by have h1:=HS.out; omega,fun _ => rfl,?_⟩
    ·rw [HS.out,HD.out]
    ·exact ((HBW.out.setCell (p:=⟨br,0,none⟩) hbr0 _).setCell (p:=⟨br,1,none⟩) hbr0 _).setCell (p:=⟨br,2,none⟩) hbr0 _
   ·by_cases hb2 : 30 < c
    ·go_wp2
     refine bodyPost_ret (v:=.agg #[.slice none 0 0,.int .i64 a,.int .i64 c]) (by simp [results,Tryz.results238,go_sem,r0,r1,r2]) rfl ⟨.slice none 0 0,[],?_,World.ownsRow_nil _ _ _ _,fun h => by have h1:=HD.out; omega,fun _ => rfl,?_⟩
     ·rw [HS.out,HD.out]
     ·exact ((HBW.out.setCell (p:=⟨br,0,none⟩) hbr0 _).setCell (p:=⟨br,1,none⟩) hbr0 _).setCell (p:=⟨br,2,none⟩) hbr0 _
    ·have HSM : Hid (szF ps 1 ≤ 200 ∧ dpF ps 0 ≤ 30):=⟨by rw [HS.out]; omega,by rw [HD.out]; omega⟩
     obtain ⟨⟨n0,n1,n2,n3,n4⟩,_⟩:=HN5.out.facts
     simp only [] at n0 n1 n2 n3 n4
     rw [HBN.out] at n0 n1 n2 n3 n4
     have HNEW : Hid ((wr.alloc (.cells #[.int .i64 xo,.int .i64 xn,.string xnm,.string xin,.int .i64 xp] 46)).ownsRow wr.heap.size 46 5 (.slice (some ⟨wr.heap.size,0,none⟩) 1 1) 1 (rowN [⟨xo,xn,xnm,xin,xp⟩])):=own_new wr ⟨xo,xn,xnm,xin,xp⟩
     go_wp2_with (at_builtin; refine append_nds rfl (.tmp 41) (.tmp 43) rfl wr.heap.size wr.heap.size 0 1 _ _ [] [⟨xo,xn,xnm,xin,xp⟩] rfl rfl (World.ownsRow_nil _ _ _ _) HNEW.out rfl (by omega) (by simp) ?_)
     intro v1 w1 hown1 hb1
     replace hown1 : w1.ownsRow wr.heap.size 46 5 v1 1 (rowN [⟨xo,xn,xnm,xin,xp⟩]):=hown1
     have hxlt:=HX.out.lt
     have hrlt:=HR.out.lt
     have hbA : Below wr.heap.size wr w1:=((Below.refl _ _).alloc (Nat.le_refl _) _).trans hb1
     obtain ⟨N0,hN0⟩ : ∃ N,N = wr.heap.size:=⟨_,rfl⟩
     have HB1:=Lib.hid (HBW.out.trans (hbA.mono HBW.out.size))
     have HX1:=Lib.hid (HX.out.below hbA)
     have HR1:=Lib.hid (HR.out.below hbA)
     have hN1 : N0 ≤ w1.heap.size:=by have:=hbA.size; omega
     have hN2 : w.heap.size ≤ N0:=by have:=HBW.out.size; omega
     rw [← hN0] at hown1 hxlt hrlt
     obtain ⟨ad1,cap1,rfl,_⟩:=own_shape hown1
     have HOWN1:=Lib.hid hown1
     obtain ⟨⟨x0,x1,x2⟩,xf0,xf1,xf2⟩:=HX1.out.facts
     clear hown1 hb1 hbA HX HR HBW HN5 n0 n1 n2 n3 n4 r0 r1 r2 rf0 rf1 rf2 HNEW hN0
     go_wp2_with fail
     have HX2:=Lib.hid (HX1.out.set.1 (.slice ad1 1 cap1))
     have HR2:=Lib.hid (HR1.out.other bx 0 hd3 (.slice ad1 1 cap1))
     have HB2:=Lib.hid (HB1.out.setCell (p:=⟨bx,0,none⟩) hbx0 (.slice ad1 1 cap1))
     have HO2 : Hid ((w1.setCell ⟨bx,0,none⟩ (.slice ad1 1 cap1)).ownsRow N0 46 5 (.slice ad1 1 cap1) 1 (rowN [⟨xo,xn,xnm,xin,xp⟩])):=ownsRow_setCell_below HOWN1.out hxlt _
     have hN3 : N0 ≤ (w1.setCell ⟨bx,0,none⟩ (.slice ad1 1 cap1)).heap.size:=by simpa [World.setCell] using hN1
     clear HX1 HR1 HB1 HOWN1 x0 x1 x2 xf0 xf1 xf2 hN1
     generalize w1.setCell ⟨bx,0,none⟩ (.slice ad1 1 cap1) = w2 at HX2 HR2 HB2 HO2 hN3 ⊢
     clear hlt hk2
     go_loopg [48] n (fun fuel i' wr => ∃ (k : Nat) (ad1 : Option Addr) (cap1 : Nat) (xs1 : List Nd),i' = .int .i64 k ∧ k ≤ n ∧ n - k ≤ fuel ∧ xs1.length ≤ 1 + 200 * k ∧ xs1 ++ (ps.drop k).flatMap PtR.xs = xsF ⟨xo,xn,xnm,xin,xp⟩ ps ∧ Blk3 wr bx (.slice ad1 xs1.length cap1) (.int .i64 a) (.int .i64 c) ∧ Blk3 wr br (.slice none 0 0) (.int .i64 0) (.int .i64 0) ∧ wr.ownsRow N0 46 5 (.slice ad1 xs1.length cap1) xs1.length (rowN xs1) ∧ Below w.heap.size w wr ∧ N0 ≤ wr.heap.size)
     case atStart => exact ⟨0,ad1,cap1,[⟨xo,xn,xnm,xin,xp⟩],rfl,Nat.zero_le _,Nat.le_refl _,by simp,rfl,HX2.out,HR2.out,HO2.out,HB2.out,hN3⟩
     case round =>
      obtain ⟨k,ad1,cap1,xs1,rfl,hk,hf,hxl1,hxs,hx3,hr3,ho3,hb3,hn3⟩:=hrel
      have HXS:=Lib.hid hxs
      have HX:=Lib.hid hx3
      have HR:=Lib.hid hr3
      have HO3:=Lib.hid ho3
      have HB3:=Lib.hid hb3
      obtain ⟨⟨x0,x1,x2⟩,xf0,xf1,xf2⟩:=hx3.facts
      obtain ⟨⟨r0,r1,r2⟩,rf0,rf1,rf2⟩:=hr3.facts
      have hxl:=hx3.lt
      clear hx3 hr3 hxs ho3 hb3
      by_cases hlt : k < n
      ·have hk' : k < ps.length:=by have:=HN.out; omega
       obtain ⟨g,rfl,hg,p0,p1,p2⟩:=HC.out k hk'
       obtain ⟨hpo,hpl,hjunk⟩:=HOW.out _ (List.getElem_mem hk')
       clear hjunk
       have HSA:=Lib.hid (List.drop_eq_getElem_cons hk')
       obtain ⟨⟨pad,pcap,pz,pd,px⟩,hpk⟩ : ∃ t,t = ps[k]:=⟨_,rfl⟩
       have HPK:=Lib.hid hpk
       rw [← hpk] at p0 p1 p2 hpo hpl
       simp only [PtR.nv] at p0 p1 p2 hpo hpl
       clear hpk
       have g0 : wr.cell? ⟨g,k * 3,none⟩ = some (.slice pad px.length pcap):=(HB3.out.cell (p:=⟨g,_,none⟩) hg).trans p0
       have g1 : wr.cell? ⟨g,k * 3 + 1,none⟩ = some (.int .i64 pz):=(HB3.out.cell (p:=⟨g,_,none⟩) hg).trans p1
       have g2 : wr.cell? ⟨g,k * 3 + 2,none⟩ = some (.int .i64 pd):=(HB3.out.cell (p:=⟨g,_,none⟩) hg).trans p2
       have HPO:=Lib.hid (own_below hpo HB3.out)
       clear p0 p1 p2 hpo
       go_wp2_with (at_builtin; refine append_nds rfl (.tmp 53) (.tmp 55) rfl N0 B xs1.length px.length _ _ (rowN xs1) px rfl rfl (own_below HO3.out ((Below.refl _ _).alloc (Nat.le_refl _) _)) (own_below HPO.out ((Below.refl _ _).alloc (Nat.le_refl _) _)) rfl (by omega) (by simp; omega) ?_)
       intro v' w' hown' hb'
       have hbA : Below N0 wr w':=((Below.refl _ _).alloc hn3 _).trans hb'
       obtain ⟨ad',cap',rfl,_⟩:=own_shape hown'
       have HX' : Hid (Blk3 w' bx (.slice ad1 xs1.length cap1) (.int .i64 a) (.int .i64 c)):=by
        have h:=HX.out
        unfold Blk3 at h ⊢; rw [hbA.block bx hxlt]; exact h
       have HR' : Hid (Blk3 w' br (.slice none 0 0) (.int .i64 0) (.int .i64 0)):=by
        have h:=HR.out
        unfold Blk3 at h ⊢; rw [hbA.block br hrlt]; exact h
       have HB':=Lib.hid (HB3.out.trans (hbA.mono hN2))
       have hn' : N0 ≤ w'.heap.size:=Nat.le_trans hn3 hbA.size
       have HOWN':=Lib.hid hown'
       clear hown' hb' hbA x0 x1 x2 xf0 xf1 xf2 r0 r1 r2 rf0 rf1 rf2 g0 g1 g2 hxl
       obtain ⟨⟨x0,x1,x2⟩,xf0,xf1,xf2⟩:=HX'.out.facts
       obtain ⟨m',hm'⟩ : ∃ m,m = xs1.length + px.length:=⟨_,rfl⟩
       rw [← hm'] at HOWN' ⊢
       have HM:=Lib.hid hm'
       clear hm'
       go_wp2_with fail
       go_roundg (gk - 1)
       case measure => omega
       case rel =>
        have hlen : (xs1 ++ px).length ≤ 1 + 200 * (k + 1):=by
         rw [List.length_append]
         exact Nat.le_trans (Nat.add_le_add hxl1 hpl) (by omega)
        have hk3 : k + 1 ≤ n:=by omega
        have hf3 : n - (k + 1) ≤ gk - 1:=by rw [Nat.sub_add_eq]; exact Nat.sub_le_sub_right hf 1
        refine ⟨k + 1,ad',cap',xs1 ++ px,by go_num,hk3,hf3,hlen,?_,?_,HR'.out.other bx 0 hd3 _,?_,HB'.out.setCell (p:=⟨bx,0,none⟩) hbx0 _,by simpa [World.setCell] using hn'⟩
        ·have e:=HXS.out
         rw [HSA.out,List.flatMap_cons,← HPK.out] at e
         rw [List.append_assoc]; exact e
        ·rw [List.length_append,← HM.out]; exact HX'.out.set.1 _
        ·rw [List.length_append,← HM.out,rowN_append]; exact ownsRow_setCell_below HOWN'.out hxlt _
      ·have hk2 : ¬ k < ps.length:=by have:=HN.out; omega
       have e:=HXS.out
       rw [drop_over ps k hk2] at e
       simp only [List.flatMap_nil,List.append_nil] at e
       have HE:=Lib.hid e
       clear e
       go_wp2
       refine bodyPost_ret (v:=.agg #[.slice ad1 xs1.length cap1,.int .i64 a,.int .i64 c]) (by simp [results,Tryz.results238,go_sem,r0,r1,r2]) rfl ⟨.slice ad1 xs1.length cap1,xs1,?_,?_,fun _ => HE.out,fun h => absurd HSM.out h,?_⟩
       ·rw [HS.out,HD.out]
       ·exact own_mono (ownsRow_setCell_below (ownsRow_setCell_below (ownsRow_setCell_below HO3.out hrlt _) hrlt _) hrlt _) (by omega)
       ·exact ((HB3.out.setCell (p:=⟨br,0,none⟩) hbr0 _).setCell (p:=⟨br,1,none⟩) hbr0 _).setCell (p:=⟨br,2,none⟩) hbr0 _
def sgT : List (List UInt8):=[[],[],[],[],[],[33],[43],[45],[42],[61,61],[33,61],[60],[60,61],[38,38],[124,124]]
def sgO (op : Nat) : List UInt8:=sgT.getD op []
def sgV (op : Nat) : ByteArray:=⟨(sgO op).toArray⟩
def Sgn (w : World) : Prop:=1 < w.heap.size ∧ ∀ i,i < 15 → w.cell? ⟨1,i,none⟩ = some (.string (sgV i))
theorem Sgn.below {w w' : World} (h : Sgn w) (hb : Below w.heap.size w w') : Sgn w':=
 ⟨Nat.lt_of_lt_of_le h.1 hb.size,fun i hi => (hb.cell (p:=⟨1,i,none⟩) h.1).trans (h.2 i hi)⟩
theorem Sgn.keep {w w' : World} {b : Nat} (h : Sgn w) (hb : Keep b w w') (h0 : 1 < b) : Sgn w':=
 ⟨Nat.lt_of_lt_of_le h.1 hb.size,fun i hi => (hb.cell (p:=⟨1,i,none⟩) h.1 (by show 1 ≠ b; omega)).trans (h.2 i hi)⟩
def which (l : List Tok) (i : Nat) : List Nat → Nat
 | [] => 0
 | o :: r => if sgAt l i (sgO o) then o else which l i r
def Ints (w : World) (v : Value) (os : List Nat) : Prop:=
 ∃ g cap,v = .slice (some ⟨g,0,none⟩) os.length cap ∧ g < w.heap.size ∧ ∀ i,(hi : i < os.length) → w.cell? ⟨g,i,none⟩ = some (.int .i64 os[i])
theorem Ints.below {w w' : World} {v : Value} {os : List Nat} (h : Ints w v os) (hb : Below w.heap.size w w') : Ints w' v os:=by
 obtain ⟨g,cap,hv,hg,hc⟩:=h
 exact ⟨g,cap,hv,Nat.lt_of_lt_of_le hg hb.size,fun i hi => (hb.cell (p:=⟨g,i,none⟩) hg).trans (hc i hi)⟩
theorem which_at (l : List Tok) (i : Nat) (os : List Nat) (k : Nat) (h : k < os.length) : which l i (os.drop k) = if sgAt l i (sgO os[k]) then os[k] else which l i (os.drop (k + 1)):=by
 rw [List.drop_eq_getElem_cons h,which]
theorem operator_any (l : List Tok) (b : Nat) (lv : Value) (i : Nat) (op er pl : Int) (v : Value) (os : List Nat) (w : World) (hp : Pst w b lv i op er pl) (ht : TokS w b lv l) (hn : l.length ≤ 100000) (hs : Sgn w) (hv : Ints w v os) (hos : ∀ o ∈ os,o < 15) (hol : os.length ≤ 4) :
  Calls Tryz.prog 237 #[.pointer (some ⟨b,0,none⟩),v] w fun e w' => e = .returned (.int .i64 (which l i os)) ∧ Below w.heap.size w w':=by
 obtain ⟨R,hR⟩ : ∃ R,which l i os = R:=⟨_,rfl⟩
 rw [hR]
 have HR:=Lib.hid hR
 obtain ⟨g,cap,rfl,hg,hc⟩:=hv
 obtain ⟨n,hN⟩ : ∃ n,n = os.length:=⟨_,rfl⟩
 rw [← hN] at hol ⊢
 have HN:=Lib.hid hN
 have HC:=Lib.hid hc
 have HOS:=Lib.hid hos
 have HP:=Lib.hid hp
 have HT:=Lib.hid ht
 have HS:=Lib.hid hs
 have HL:=Lib.hid hn
 clear hR hc hN hos hp ht hs hn
 go_enter Tryz.func237,Tryz.ntmps237
 go_wp2
 go_loopg [9] n (fun fuel i' wr => ∃ k : Nat,i' = .int .i64 k ∧ k ≤ n ∧ n - k ≤ fuel ∧ which l i (os.drop k) = R ∧ Below w.heap.size w wr)
 case atStart => exact ⟨0,rfl,Nat.zero_le _,Nat.le_refl _,HR.out,Below.refl _ _⟩
 case round =>
  obtain ⟨k,rfl,hk,hf,hr,hb⟩:=hrel
  have HR2:=Lib.hid hr
  have HB:=Lib.hid hb
  clear hr hb
  by_cases hlt : k < n
  ·have hk' : k < os.length:=by have:=HN.out; omega
   have HE:=Lib.hid (which_at l i os k hk')
   have c0:=HC.out k hk'
   have ho : os[k] < 15:=HOS.out _ (List.getElem_mem hk')
   obtain ⟨o,hoo⟩ : ∃ o,o = os[k]:=⟨_,rfl⟩
   have HO:=Lib.hid hoo
   rw [← hoo] at c0 ho
   clear hoo
   have g0 : wr.cell? ⟨g,k,none⟩ = some (.int .i64 o):=(HB.out.cell (p:=⟨g,k,none⟩) hg).trans c0
   have s0 : wr.cell? ⟨1,o,none⟩ = some (.string (sgV o)):=((HS.out).below HB.out).2 o ho
   obtain ⟨x,hx⟩ : ∃ x,x = sgV o:=⟨_,rfl⟩
   have hxl : x.data.toList = sgO o:=by rw [hx,sgV]
   rw [← hx] at s0
   obtain ⟨r,hr⟩ : ∃ r,sgAt l i (sgO o) = r:=⟨_,rfl⟩
   have HSI : ∀ w',w' = wr → Calls Tryz.prog 240 #[.pointer (some ⟨b,0,none⟩),.string x] w' fun e w'' => e = .returned (.bool r) ∧ Below w'.heap.size w' w'':=by
    rintro w' rfl
    exact sign_is l b lv i op er pl x _ (HP.out.below HB.out) (HT.out.keep (Below.keep HB.out)) HL.out r (by rw [hxl]; exact hr)
   have HSI2:=HSI wr rfl
   have HRR:=Lib.hid hr
   clear c0 hx hxl hr HSI
   cases r with
   | true =>
    go_wp2_with (go_at_call 240; refine HSI2.mono ?_; rintro e w2 ⟨rfl,hb2⟩)
    go_ret
    refine ⟨ret_int ?_,HB.out.trans (hb2.mono HB.out.size)⟩
    have:=HR2.out
    rw [HE.out,← HO.out,HRR.out,if_pos rfl] at this
    rw [this]
   | false =>
    go_wp2_with (go_at_call 240; refine HSI2.mono ?_; rintro e w2 ⟨rfl,hb2⟩)
    go_roundg (gk - 1)
    case measure => omega
    case rel =>
     refine ⟨k + 1,by go_num,by omega,by omega,?_,HB.out.trans (hb2.mono HB.out.size)⟩
     have:=HR2.out
     rw [HE.out,← HO.out,HRR.out,if_neg (by simp)] at this
     exact this
  ·have hk2 : ¬ k < os.length:=by have:=HN.out; omega
   have HE:=Lib.hid (drop_over os k hk2)
   go_wp2
   go_ret
   exact ⟨ret_int (by rw [← HR2.out,HE.out]; rfl),HB.out⟩
def TokC (w : World) (v : Value) (l : List Tok) : Prop:=
 ∃ ad cap,v = .slice ad l.length cap ∧ ∀ i,(hi : i < l.length) → ∃ g,ad = some ⟨g,0,none⟩ ∧ g < w.heap.size ∧
  w.cell? ⟨g,i * 4,none⟩ = some (.int .i64 l[i].1) ∧ w.cell? ⟨g,i * 4 + 1,none⟩ = some (.string ⟨l[i].2.1.toArray⟩) ∧ w.cell? ⟨g,i * 4 + 2,none⟩ = some (.int .i64 l[i].2.2.1) ∧ w.cell? ⟨g,i * 4 + 3,none⟩ = some (.int .i64 l[i].2.2.2)
theorem TokC.below {w w' : World} {v : Value} {l : List Tok} (h : TokC w v l) (hb : Below w.heap.size w w') : TokC w' v l:=by
 obtain ⟨ad,cap,hv,hc⟩:=h
 refine ⟨ad,cap,hv,fun i hi => ?_⟩
 obtain ⟨g,hg,h1,k0,k1,k2,k3⟩:=hc i hi
 exact ⟨g,hg,Nat.lt_of_lt_of_le h1 hb.size,(hb.cell (p:=⟨g,_,none⟩) h1).trans k0,(hb.cell (p:=⟨g,_,none⟩) h1).trans k1,(hb.cell (p:=⟨g,_,none⟩) h1).trans k2,(hb.cell (p:=⟨g,_,none⟩) h1).trans k3⟩
theorem TokS.tokC {w : World} {b : Nat} {v : Value} {l : List Tok} (h : TokS w b v l) : TokC w v l:=by
 obtain ⟨ad,cap,hv,hc⟩:=h
 refine ⟨ad,cap,hv,fun i hi => ?_⟩
 obtain ⟨g,hg,h1,_,k0,k1,k2,k3⟩:=hc i hi
 exact ⟨g,hg,h1,k0,k1,k2,k3⟩
theorem refK_in (l : List Tok) (i : Nat) (h : i < l.length) : refK l i = (5,l[i].2.2.2):=by unfold refK; rw [if_pos h,tokO_in l i h]
end Go.Proofs.YtcghccjnadagcaaGreatDoor
