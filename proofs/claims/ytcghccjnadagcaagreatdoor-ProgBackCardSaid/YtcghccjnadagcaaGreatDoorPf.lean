/- Facts. -/
import Derived.Test.YtcghccjnadagcaaGreatDoorPd
import Derived.Deep.RegionLaw
import Derived.Deep.AppendLies
set_option maxRecDepth 100000
set_option maxHeartbeats 32000000
namespace Go.Proofs.YtcghccjnadagcaaGreatDoor
open Go.RowKit
def Cel (w : World) (b T : Nat) (v : Value) : Prop:=w.heap[b]? = some (.cells #[v] T (0,0))
section
variable {w w' : World} {b T r : Nat} {v : Value}
theorem Cel.lt (h : Cel w b T v) : b < w.heap.size:=(Array.getElem?_eq_some_iff.1 h).1
theorem Cel.below (h : Cel w b T v) (hb : Below w.heap.size w w') : Cel w' b T v:=by
 have:=Cel.lt h
 unfold Cel at *; rw [hb.block b this]; exact h
theorem Cel.keep (h : Cel w b T v) (hk : Keep r w w') (hne : b ≠ r) : Cel w' b T v:=by
 have:=Cel.lt h
 unfold Cel at *; rw [hk.block b this hne]; exact h
theorem Cel.cell (h : Cel w b T v) : w.cell? ⟨b,0,none⟩ = some v:=by
 unfold Cel at h
 simp [World.cell?,h]
theorem Cel.fz (h : Cel w b T v) : w.frozen? ⟨b,0,none⟩ = false:=by
 unfold Cel at h
 simp [World.frozen?,h]
theorem Cel.set (h : Cel w b T v) (u : Value) : Cel (w.setCell ⟨b,0,none⟩ u) b T u:=by
 unfold Cel at h
 have hlt:=(Array.getElem?_eq_some_iff.1 h).1
 have hg:=(Array.getElem?_eq_some_iff.1 h).2
 simp [Cel,World.setCell,Array.getElem?_modify,h]
theorem Cel.other (h : Cel w b T v) {g o : Nat} (hg : b ≠ g) (u : Value) : Cel (w.setCell ⟨g,o,none⟩ u) b T v:=by
 unfold Cel at *; rw [Below.heap_setCell _ _ _ _ (by exact hg)]; exact h
theorem Cel.new (w : World) (T : Nat) (v : Value) : Cel (w.alloc (.cells #[v] T)) w.heap.size T v:=heap_alloc_new w _
end
theorem append_oneG {w : World} {ops : Array Oper} {rest : List Oper} {o : Oper} {a : Act} {Q : Exit → Act → World → Prop} (T e S by8 : Nat) (z : Value) (hT : Tryz.prog.underlying T = some (.slice e)) (hi0 : (Tryz.prog.info? e).map (fun i => (i.zero,i.size,i.bytes)) = some (some z,S,by8)) (hzs : z.cells.size = S) (hS : 0 < S) (hby : by8 ≤ 1000)
  (hgd : o.guard = none) (s x : Operand) (ho : o.op = .call { callee:=.builtin .append,args:=#[s,x],argTypes:=#[T,T] }) (base n : Nat) (v : Value) (xs news : List Value) (hs : a.eval s = v) (g : Nat) (hx : a.eval x = .slice (some ⟨g,0,none⟩) 1 1)
  (hown : w.ownsRow base e S v n xs) (hl : news.length = S) (hc : ∀ j,j < S → w.cell? ⟨g,j,none⟩ = news[j]?) (h1 : ∀ u ∈ news,u.oneCell' = true) (hn : n ≤ 1000000) (hbase : base ≤ w.heap.size)
  (h : ∀ v' w',w'.ownsRow base e S v' (n + 1) (xs ++ news) → Below base w w' → w.grownBy w' v.ownBlock → wpList Tryz.prog ops Q rest (a.put o.dst v') w') : wpList Tryz.prog ops Q (o :: rest) a w:=by
 obtain ⟨i0,hi,hz0,hz1,hz2⟩:=info_parts hi0
 have hb : (n + 1) * by8 ≤ 140737488355328:=by
  have : (n + 1) * by8 ≤ 1000001 * 1000:=Nat.mul_le_mul (by omega) hby
  omega
 refine wpList_append_own _ hgd s x T ho base e i0 z S by8 hT hi hz0 hz1 hz2 hzs hS v n xs hs hown ⟨g,0,none⟩ 1 1 news hx (by rw [hl,Nat.one_mul]) ?_ h1 (by unfold maxLen; omega) hb hbase ?_
 ·intro j u hj
  have hj2 : j < S:=by rw [← hl]; exact (List.getElem?_eq_some_iff.1 hj).1
  rw [addr_add,hc j hj2,hj]
 ·intro v' w' q1 q2 _
  exact h v' w' q1 ((Below.refl base w).grown q2 hbase (fun k hk => (hown.lt k hk).1)) q2
theorem keep_grown {r : Nat} {wb w w3 : World} {row : Option Nat} (h : Keep r wb w) (hg : w.grownBy w3 row) (hr : ∀ k,row = some k → wb.heap.size ≤ k) : Keep r wb w3:=
 ⟨hg.os.trans h.os,hg.tape.trans h.tape,hg.output.trans h.output,Nat.le_trans h.size hg.size,fun k hk hne => (hg.block k (Nat.lt_of_lt_of_le hk h.size) (fun e => by have:=hr k e.symm; omega)).trans (h.block k hk hne)⟩
theorem info_str : (Tryz.prog.info? 9).map (fun i => (i.zero,i.size,i.bytes)) = some (some (.string ⟨#[]⟩),1,16):=by kernel_rfl
def rowB (l : List ByteArray) : List Value:=l.map Value.string
section
variable {w0 : World} {l : List Tok} {lv : Value} {r : Nat}
structure Rg (w0 wb : World) (W : World) (r pb nb ib : Nat) (l : List Tok) (lv : Value) (q : Pq) (a : List ByteArray) : Prop where
 sg : Sg w0 W r l lv q
 kp : Keep r wb W
 pv : Cel W pb 98 (.pointer (some ⟨r,0,none⟩))
 nv : ∃ v,Cel W nb 36 v ∧ W.ownsRow wb.heap.size 9 1 v a.length (rowB a) ∧ v.ownBlock ≠ some ib
 iv : StrR W ib ⟨#[44]⟩
 ne : pb ≠ r ∧ nb ≠ r ∧ ib ≠ r ∧ wb.heap.size ≤ pb ∧ wb.heap.size ≤ nb ∧ wb.heap.size ≤ ib ∧ nb ≠ pb ∧ nb ≠ ib ∧ w0.heap.size ≤ wb.heap.size
 len : 1 ≤ a.length ∧ a.length ≤ q.n + 1
variable {q : Pq}
theorem own_noCel {w : World} {B e n T b : Nat} {v u : Value} {xs : List Value} (h : w.ownsRow B e 1 v n xs) (hc : Cel w b T u) (hT : e ≠ T) : v.ownBlock ≠ some b:=by
 intro he
 rcases h.2 with ⟨rfl,_⟩ | ⟨g,cap,cur,rfl,_,hh,_⟩
 ·cases he
 ·injection he with he
  have he2 : g = b:=he
  subst he2
  unfold Cel at hc
  rw [hh] at hc
  simp at hc
  exact hT hc.2
end
structure Vr where
 nm : ByteArray
 n : Int
 pl : Int
structure Th where
 nm : ByteArray
 regs : List ByteArray
 body : List St
 pl : Int
structure Cl where
 kind : Int
 e : List Nd
 pl : Int
structure Pg where
 mod : Int
 locs : List Vr
 ths : List Th
 cls : List Cl
theorem alloc_size (w : World) (o : Obj) : (w.alloc o).heap.size = w.heap.size + 1:=Array.size_push ..
def Bk (w : World) (b T : Nat) (cs : Array Value) : Prop:=w.heap[b]? = some (.cells cs T (0,0))
section
variable {w w' : World} {b T r : Nat} {cs : Array Value}
theorem Bk.lt (h : Bk w b T cs) : b < w.heap.size:=(Array.getElem?_eq_some_iff.1 h).1
theorem Bk.below (h : Bk w b T cs) (hb : Below w.heap.size w w') : Bk w' b T cs:=by
 have:=Bk.lt h
 unfold Bk at *; rw [hb.block b this]; exact h
theorem Bk.keep (h : Bk w b T cs) (hk : Keep r w w') (hne : b ≠ r) : Bk w' b T cs:=by
 have:=Bk.lt h
 unfold Bk at *; rw [hk.block b this hne]; exact h
theorem Bk.cell (h : Bk w b T cs) (j : Nat) : w.cell? ⟨b,j,none⟩ = cs[j]?:=by
 unfold Bk at h
 simp [World.cell?,h]
theorem Bk.fz (h : Bk w b T cs) (j : Nat) : w.frozen? ⟨b,j,none⟩ = false:=by
 unfold Bk at h
 simp [World.frozen?,h]
theorem Bk.set (h : Bk w b T cs) (j : Nat) (u : Value) : Bk (w.setCell ⟨b,j,none⟩ u) b T (cs.setIfInBounds j u):=by
 unfold Bk at h
 have hlt:=(Array.getElem?_eq_some_iff.1 h).1
 have hg:=(Array.getElem?_eq_some_iff.1 h).2
 simp [Bk,World.setCell,Array.getElem?_modify,h]
theorem Bk.new (w : World) (T : Nat) (cs : Array Value) : Bk (w.alloc (.cells cs T)) w.heap.size T cs:=heap_alloc_new w _
end
theorem Bk.set3 {w : World} {b T : Nat} {y0 y1 y2 : Value} (h : Bk w b T #[y0,y1,y2]) (x0 x1 x2 : Value) : Bk (((w.setCell ⟨b,0,none⟩ x0).setCell ⟨b,1,none⟩ x1).setCell ⟨b,2,none⟩ x2) b T #[x0,x1,x2]:=by
 have:=((h.set 0 x0).set 1 x1).set 2 x2
 simpa using this
theorem results_var {fn : Func} {p : Tmp} (h : fn.results = #[.cell p 49]) (tmps : Array Value) (w : World) (b : Nat) (u0 u1 u2 : Value) (hp : tmps.getD p undef = .pointer (some ⟨b,0,none⟩)) (hb : Bk w b 49 #[u0,u1,u2]) :
  (results fn tmps).run Tryz.prog w = .ok (.agg #[u0,u1,u2]) w:=by
 have y0:=hb.cell 0
 have y1:=hb.cell 1
 have y2:=hb.cell 2
 have hp2 : tmps[p]?.getD undef = .pointer (some ⟨b,0,none⟩):=by simpa using hp
 simp only [results,h]
 simp [hp2,go_sem,y0,y1,y2]
def glocP (l : List Tok) (q : Pq) (pl : Int) : Vr × Pq:=
 let q2:=gexP l (gnmP l q).2 [61]
 (⟨(gnmP l q).1,(gnuP l q2).1,pl⟩,gexP l (gnuP l q2).2 [59])
section
variable {w0 : World} {l : List Tok} {lv : Value} {r : Nat} {q : Pq}
theorem glocation_any (x : Tg w0 l lv) (w : World) (h : Sg w0 w r l lv q) (pl : Int) :
  Calls Tryz.prog 69 #[.pointer (some ⟨r,0,none⟩),.int .i64 pl] w (ToG w0 r l lv (glocP l q pl).2 w (.agg #[.string (glocP l q pl).1.nm,.int .i64 (glocP l q pl).1.n,.int .i64 pl])):=by
 have H1:=Lib.hid (fun (w : World) (h : Sg w0 w r l lv q) => gname_any x w h)
 have HH:=Lib.hid h
 have HE:=Lib.hid (fun (q : Pq) (w : World) (h : Sg w0 w r l lv q) (s : ByteArray) (hs : s.data.toList ≠ []) => gexpect_any x w h s hs)
 have HNU:=Lib.hid (fun (q : Pq) (w : World) (h : Sg w0 w r l lv q) => gnumber_any x w h)
 unfold glocP
 simp only []
 obtain ⟨nm,hnm⟩ : ∃ s,s = (gnmP l q).1:=⟨_,rfl⟩
 obtain ⟨q1,hq1⟩ : ∃ q1,q1 = (gnmP l q).2:=⟨_,rfl⟩
 rw [← hnm,← hq1] at H1 ⊢
 obtain ⟨q2,hq2⟩ : ∃ q2,q2 = gexP l q1 [61]:=⟨_,rfl⟩
 rw [← hq2]
 obtain ⟨n3,hn3⟩ : ∃ n3,n3 = (gnuP l q2).1:=⟨_,rfl⟩
 obtain ⟨q3,hq3⟩ : ∃ q3,q3 = (gnuP l q2).2:=⟨_,rfl⟩
 rw [← hn3,← hq3]
 obtain ⟨q4,hq4⟩ : ∃ q4,q4 = gexP l q3 [59]:=⟨_,rfl⟩
 rw [← hq4]
 have HE1 : Hid (∀ w,Sg w0 w r l lv q1 → Calls Tryz.prog 64 #[.pointer (some ⟨r,0,none⟩),.string ⟨#[61]⟩] w (ToG w0 r l lv q2 w (.tuple #[]))):=by rw [hq2]; exact fun w h => gexpect_any x w h ⟨#[61]⟩ (by simp)
 have HN2 : Hid (∀ w,Sg w0 w r l lv q2 → Calls Tryz.prog 65 #[.pointer (some ⟨r,0,none⟩)] w (ToG w0 r l lv q3 w (.int .i64 n3))):=by rw [hq3,hn3]; exact fun w h => gnumber_any x w h
 have HE3 : Hid (∀ w,Sg w0 w r l lv q3 → Calls Tryz.prog 64 #[.pointer (some ⟨r,0,none⟩),.string ⟨#[59]⟩] w (ToG w0 r l lv q4 w (.tuple #[]))):=by rw [hq4]; exact fun w h => gexpect_any x w h ⟨#[59]⟩ (by simp)
 clear hnm hq1 h x HE HNU hq2 hn3 hq3 hq4
 have hrl:=HH.out.prs.lt
 go_enter Tryz.func69,Tryz.ntmps69
 go_wp2_with fail
 refine (H1.out _ (HH.out.alloc _)).mono ?_
 rintro e w1 ⟨rfl,h1,k1⟩
 have hb1:=(Bk.new w 49 #[.string ⟨#[]⟩,.int .i64 0,.int .i64 0]).keep k1 (by omega)
 have kk1 : Keep r w w1:=((Keep.refl r w).alloc _).trans k1
 have HB1:=Lib.hid hb1
 clear hb1
 go_wp2_with fail
 have S1:=Lib.hid (h1.alloc (.cells #[.string nm,.int .i64 0,.int .i64 pl] 49))
 refine (HE1.out _ S1.out).mono ?_
 rintro e w2 ⟨rfl,h2,k2⟩
 have hr1:=h1.prs.lt
 have v2:=(Bk.new w1 49 #[.string nm,.int .i64 0,.int .i64 pl]).keep k2 (by omega)
 have a2:=(HB1.out.below ((Below.refl w1.heap.size w1).alloc (Nat.le_refl _) (.cells #[.string nm,.int .i64 0,.int .i64 pl] 49))).keep k2 (by omega)
 have kk2 : Keep r w w2:=(kk1.alloc _).trans k2
 have hbB : w.heap.size < w1.heap.size:=HB1.out.lt
 have S2:=Lib.hid h2
 have V2:=Lib.hid v2
 have A2:=Lib.hid a2
 clear h1 k1 kk1 k2 h2 v2 a2
 obtain ⟨B,hB⟩ : ∃ B,B = w1.heap.size:=⟨_,rfl⟩
 rw [← hB] at V2 hr1 hbB ⊢
 clear hB HB1 S1
 go_wp2_with fail
 refine (HN2.out _ S2.out).mono ?_
 rintro e w3 ⟨rfl,h3,k3⟩
 have v3:=V2.out.keep k3 (by omega)
 have a3:=A2.out.keep k3 (by omega)
 have kk3:=kk2.trans k3
 have c0:=v3.cell 0
 have c1:=v3.cell 1
 have c2:=v3.cell 2
 have f1:=v3.fz 1
 have lB:=v3.lt
 have S3:=Lib.hid (h3.setNew (g:=B) (by have:=HH.out.bel.size; omega) (by omega) 1 (.int .i64 n3))
 have V3:=Lib.hid (v3.set 1 (.int .i64 n3))
 have A3:=Lib.hid (show Bk (w3.setCell ⟨B,1,none⟩ (.int .i64 n3)) w.heap.size 49 #[.string ⟨#[]⟩,.int .i64 0,.int .i64 0] from by
  have:=a3
  unfold Bk at *
  rw [Below.heap_setCell _ _ _ _ (by show w.heap.size ≠ B; omega)]
  exact this)
 have K3:=Lib.hid (kk3.setNew (g:=B) (o:=1) (by omega) (.int .i64 n3))
 clear h3 k3 kk3 v3 a3 kk2
 go_wp2_with fail
 refine (HE3.out _ S3.out).mono ?_
 rintro e w4 ⟨rfl,h4,k4⟩
 have v4:=V3.out.keep k4 (by omega)
 have a4:=A3.out.keep k4 (by omega)
 have K4:=Lib.hid (K3.out.trans k4)
 have d0:=v4.cell 0
 have d1:=v4.cell 1
 have d2:=v4.cell 2
 have lB4:=v4.lt
 have e0:=a4.cell 0
 have e1:=a4.cell 1
 have e2:=a4.cell 2
 have g0:=a4.fz 0
 have g1:=a4.fz 1
 have g2:=a4.fz 2
 have lA4:=a4.lt
 have S4:=Lib.hid h4
 have A4:=Lib.hid a4
 clear h4 k4 c0 c1 c2 f1 v4 a4
 go_wp2
 refine bodyPost_ret (v:=.agg #[.string nm,.int .i64 n3,.int .i64 pl]) (results_var rfl _ _ _ _ _ _ rfl (A4.out.set3 _ _ _)) rfl ⟨rfl,?_,?_⟩
 ·have hg:=HH.out.bel.size
  exact ((S4.out.setNew hg (by omega) 0 _).setNew hg (by omega) 1 _).setNew hg (by omega) 2 _
 ·exact ((K4.out.setNew (Nat.le_refl _) _).setNew (Nat.le_refl _) _).setNew (Nat.le_refl _) _
noncomputable def gclP (l : List Tok) (q : Pq) (kd pl : Int) : Cl × Pq:=(⟨kd,(gexrP l q).1,pl⟩,gexP l (gexrP l q).2 [59])
theorem results_cl {fn : Func} {p : Tmp} (h : fn.results = #[.cell p 44]) (tmps : Array Value) (w : World) (b : Nat) (u0 u1 u2 : Value) (hp : tmps.getD p undef = .pointer (some ⟨b,0,none⟩)) (hb : Bk w b 44 #[u0,u1,u2]) :
  (results fn tmps).run Tryz.prog w = .ok (.agg #[u0,u1,u2]) w:=by
 have y0:=hb.cell 0
 have y1:=hb.cell 1
 have y2:=hb.cell 2
 have hp2 : tmps[p]?.getD undef = .pointer (some ⟨b,0,none⟩):=by simpa using hp
 simp only [results,h]
 simp [hp2,go_sem,y0,y1,y2]
theorem own_set3 {w : World} {B e size n b : Nat} {v : Value} {xs : List Value} (h : w.ownsRow B e size v n xs) (hb : b < B) (x0 x1 x2 : Value) : (((w.setCell ⟨b,0,none⟩ x0).setCell ⟨b,1,none⟩ x1).setCell ⟨b,2,none⟩ x2).ownsRow B e size v n xs:=
 ownsRow_setCell_below (ownsRow_setCell_below (ownsRow_setCell_below h hb _) hb _) hb _
theorem gclaim_any (x : Tg w0 l lv) (hs : Sgn w0) (w : World) (h : Sg w0 w r l lv q) (kd pl : Int) :
  Calls Tryz.prog 74 #[.pointer (some ⟨r,0,none⟩),.int .i64 kd,.int .i64 pl] w fun e w' => ∃ v,e = .returned (.agg #[.int .i64 kd,v,.int .i64 pl]) ∧ Sg w0 w' r l lv (gclP l q kd pl).2 ∧ Keep r w w' ∧ w'.ownsRow (w.heap.size + 1) 46 5 v (gclP l q kd pl).1.e.length (rowN (gclP l q kd pl).1.e):=by
 have HX:=Lib.hid (fun (w : World) (h : Sg w0 w r l lv q) => gexpression_any x hs w h)
 have HH:=Lib.hid h
 unfold gclP
 simp only []
 obtain ⟨es,hes⟩ : ∃ s,s = (gexrP l q).1:=⟨_,rfl⟩
 obtain ⟨q1,hq1⟩ : ∃ q1,q1 = (gexrP l q).2:=⟨_,rfl⟩
 rw [← hes,← hq1] at HX ⊢
 obtain ⟨q2,hq2⟩ : ∃ q2,q2 = gexP l q1 [59]:=⟨_,rfl⟩
 rw [← hq2]
 have HE1 : Hid (∀ w,Sg w0 w r l lv q1 → Calls Tryz.prog 64 #[.pointer (some ⟨r,0,none⟩),.string ⟨#[59]⟩] w (ToG w0 r l lv q2 w (.tuple #[]))):=by rw [hq2]; exact fun w h => gexpect_any x w h ⟨#[59]⟩ (by simp)
 have hrl:=HH.out.prs.lt
 clear hes hq1 hq2 h x hs
 go_enter Tryz.func74,Tryz.ntmps74
 go_wp2_with fail
 refine (HX.out _ (HH.out.alloc _)).mono ?_
 rintro e w1 ⟨v,rfl,h1,k1,o1⟩
 have hb1:=(Bk.new w 44 #[.int .i64 0,.slice none 0 0,.int .i64 0]).keep k1 (by omega)
 have kk1 : Keep r w w1:=((Keep.refl r w).alloc _).trans k1
 rw [alloc_size] at o1
 have HB1:=Lib.hid hb1
 have O1:=Lib.hid o1
 obtain ⟨ad9,cap9,rfl,_⟩:=own_shape o1
 have hr1:=h1.prs.lt
 clear hb1 o1
 go_wp2_with fail
 have S1:=Lib.hid (h1.alloc (.cells #[.int .i64 kd,.slice ad9 es.length cap9,.int .i64 pl] 44))
 refine (HE1.out _ S1.out).mono ?_
 rintro e w2 ⟨rfl,h2,k2⟩
 have v2:=(Bk.new w1 44 #[.int .i64 kd,.slice ad9 es.length cap9,.int .i64 pl]).keep k2 (by omega)
 have a2:=(HB1.out.below ((Below.refl w1.heap.size w1).alloc (Nat.le_refl _) (.cells #[.int .i64 kd,.slice ad9 es.length cap9,.int .i64 pl] 44))).keep k2 (by omega)
 have K2:=Lib.hid ((kk1.alloc _).trans k2)
 have O2:=Lib.hid (own_keepG (own_below O1.out ((Below.refl w1.heap.size w1).alloc (Nat.le_refl _) (.cells #[.int .i64 kd,.slice ad9 es.length cap9,.int .i64 pl] 44))) S1.out.prs k2 (by decide))
 have hbB : w.heap.size < w1.heap.size:=HB1.out.lt
 have S2:=Lib.hid h2
 have d0:=v2.cell 0
 have d1:=v2.cell 1
 have d2:=v2.cell 2
 have lB:=v2.lt
 have e0:=a2.cell 0
 have e1:=a2.cell 1
 have e2:=a2.cell 2
 have g0:=a2.fz 0
 have g1:=a2.fz 1
 have g2:=a2.fz 2
 have lA:=a2.lt
 have A2:=Lib.hid a2
 clear h1 k1 kk1 k2 h2 v2 a2 S1 HB1 O1
 go_wp2
 refine bodyPost_ret (v:=.agg #[.int .i64 kd,.slice ad9 es.length cap9,.int .i64 pl]) (results_cl rfl _ _ _ _ _ _ rfl (A2.out.set3 _ _ _)) rfl ⟨_,rfl,?_,?_,own_set3 O2.out (by omega) _ _ _⟩
 ·have hg:=HH.out.bel.size
  exact ((S2.out.setNew hg (by omega) 0 _).setNew hg (by omega) 1 _).setNew hg (by omega) 2 _
 ·exact ((K2.out.setNew (Nat.le_refl _) _).setNew (Nat.le_refl _) _).setNew (Nat.le_refl _) _
end
end Go.Proofs.YtcghccjnadagcaaGreatDoor
