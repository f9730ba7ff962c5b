/- Facts. -/
import Derived.Test.YtcghccjnadagcaaGreatDoorPl
set_option maxRecDepth 100000
set_option maxHeartbeats 32000000
namespace Go.Proofs.YtcghccjnadagcaaGreatDoor
open Go.RowKit
def clB (s : List UInt8) : Bool:=decide (0 < kdW s)
theorem gclaims_any (y : ByteArray) (w : World) (h : Wds w) : Calls Tryz.prog 72 #[.string y] w fun e w' => e = .returned (.bool (clB y.data.toList)) ∧ Below w.heap.size w w':=by
 have HK:=Lib.hid (gkind_any y w h)
 unfold clB
 obtain ⟨k,hk⟩ : ∃ k,kdW y.data.toList = k:=⟨_,rfl⟩
 rw [hk] at HK ⊢
 clear hk h
 cases k with
 | zero =>
  go_enter Tryz.func72,Tryz.ntmps72
  go_wp2_with fail
  refine HK.out.mono ?_
  rintro e w2 ⟨rfl,rfl⟩
  go_wp2
  go_ret
  exact ⟨rfl,Below.refl _ _⟩
 | succ k =>
  have q1 : decide ((0 : Int) < ((k + 1 : Nat) : Int)) = true:=decide_eq_true (by omega)
  have q2 : decide (0 < k + 1) = true:=decide_eq_true (by omega)
  go_enter Tryz.func72,Tryz.ntmps72
  go_wp2_with fail
  refine HK.out.mono ?_
  rintro e w2 ⟨rfl,rfl⟩
  go_wp2
  go_ret
  exact ⟨rfl,Below.refl _ _⟩
def Adv (L : Nat) (q q' : Pq) : Prop:=q.n ≤ L → q.n ≤ q'.n ∧ q'.n ≤ L
theorem Adv.trans {L : Nat} {a b c : Pq} (h : Adv L a b) (h2 : Adv L b c) : Adv L a c:=fun ha => by
 have h3:=h ha
 have h4:=h2 h3.2
 omega
theorem adv_fail (l : List Tok) (q : Pq) (k a : Nat) : Adv l.length q (failP l.length q k a):=fun h => by
 unfold failP; split <;> exact ⟨h,Nat.le_refl _⟩
theorem adv_ref (l : List Tok) (q : Pq) : Adv l.length q (refP l q):=adv_fail _ _ _ _
theorem adv_next {L : Nat} {q : Pq} (h : q.n < L) : Adv L q ⟨q.n + 1,q.k,q.a⟩:=fun _ => ⟨Nat.le_succ _,h⟩
theorem adv_ex (l : List Tok) (q : Pq) (s : List UInt8) (hs : s ≠ []) : Adv l.length q (gexP l q s):=by
 unfold gexP; split
 ·rename_i h; exact adv_next (txB_lt h hs)
 ·exact adv_ref l q
theorem adv_nm (l : List Tok) (q : Pq) : Adv l.length q (gnmP l q).2:=by
 unfold gnmP; split
 ·rename_i h
  refine adv_next ?_
  by_cases hlt : q.n < l.length
  ·exact hlt
  ·unfold txt at h
   rw [tokO_over l q.n hlt] at h
   exact absurd h (by decide)
 ·exact adv_ref l q
theorem adv_nu (l : List Tok) (q : Pq) : Adv l.length q (gnuP l q).2:=by
 unfold gnuP; split
 ·rename_i h
  refine adv_next ?_
  by_cases hlt : q.n < l.length
  ·exact hlt
  ·rw [tokO_over l q.n hlt] at h
   exact absurd h (by decide)
 ·exact adv_ref l q
theorem adv_st (l : List Tok) (hok : TokOK l) (q : Pq) : Adv l.length q (gstP l q).2:=by
 intro hq
 have hp : ∀ i,(tokO l i).2.2.2 + (tokO l i).2.1.length ≤ 200000:=fun i => by have:=hok i; omega
 unfold gstP
 cases hR : stmtR l q.n with
 | err k a =>
  have hk:=stmt_ne l hok q.n hq k a hR
  show q.n ≤ (gresP l q 0 k a).n ∧ (gresP l q 0 k a).n ≤ l.length
  unfold gresP
  rw [if_neg hk]
  exact adv_fail _ _ _ _ hq
 | ok xs j =>
  show q.n ≤ (gresP l q j 0 0).n ∧ _
  unfold gresP
  rw [if_pos rfl]
  have h2:=stmt_in l hok q.n hq xs j hR
  obtain ⟨res,hres⟩:=lst_total l hp (l.length + 1) 0 q.n hq (by omega)
  rw [stmtR_of l q.n res hq hres] at hR
  have hf:=lst_fit l hp _ _ _ _ hq hres
  cases res with
  | err k a => cases hR
  | ok ys m =>
   have h3 : (if 200 < ys.length then SRes.err 2 (refK l q.n).2 else .ok ys m) = .ok xs j:=hR
   split at h3
   ·cases h3
   ·cases h3; exact ⟨hf.1,h2⟩
theorem adv_exr (l : List Tok) (hok : TokOK l) (q : Pq) : Adv l.length q (gexrP l q).2:=by
 intro hq
 have hpo:=parse_out' l q.n hq (fun i => by have:=hok i; omega)
 unfold gexrP
 cases hR : parseR l q.n with
 | err k a =>
  rw [hR] at hpo
  have hk : k ≠ 0:=hpo
  show q.n ≤ (gresP l q 0 k a).n ∧ (gresP l q 0 k a).n ≤ l.length
  unfold gresP
  rw [if_neg hk]
  exact adv_fail _ _ _ _ hq
 | ok y j =>
  rw [hR] at hpo
  obtain ⟨_,_,p3,p4,p5⟩:=hpo
  show q.n ≤ (gresP l q j 0 0).n ∧ _
  unfold gresP
  rw [if_pos rfl]
  exact ⟨by show q.n ≤ j; omega,p5⟩
theorem adv_seq {α : Type} (l : List Tok) (bg : List UInt8 → Bool) (h0 : bg [] = false) (stp : Nat → Pq → α → Pq × α) (hs : ∀ i q a,Adv l.length q (stp i q a).1) : ∀ f q a,Adv l.length q (seqP l bg stp f q a).1:=by
 intro f
 induction f with
 | zero => intro q a h; exact ⟨Nat.le_refl _,h⟩
 | succ f ih =>
  intro q a
  unfold seqP
  split
  ·rename_i h
   have hlt : q.n < l.length:=by
    by_cases hlt : q.n < l.length
    ·exact hlt
    ·rw [tokO_over l q.n hlt] at h
     have h1 : bg [] = true:=h
     rw [h0] at h1; cases h1
   exact (adv_next hlt).trans ((hs _ _ _).trans (ih _ _))
  ·exact fun h => ⟨Nat.le_refl _,h⟩
theorem adv_reg (l : List Tok) (q : Pq) : Adv l.length q (gregP l q).2:=by
 unfold gregP; split
 ·rename_i h
  exact (adv_next (txB_lt h (by simp))).trans ((adv_nm l _).trans ((adv_seq l comB rfl _ (fun i q a => adv_nm l q) _ _ _).trans (adv_ex l _ _ (by simp))))
 ·exact fun h => ⟨Nat.le_refl _,h⟩
theorem adv_loc (l : List Tok) (q : Pq) (pl : Int) : Adv l.length q (glocP l q pl).2:=(adv_nm l q).trans ((adv_ex l _ _ (by simp)).trans ((adv_nu l _).trans (adv_ex l _ _ (by simp))))
theorem adv_th (l : List Tok) (hok : TokOK l) (q : Pq) (pl : Int) : Adv l.length q (gthP l q pl).2:=(adv_nm l q).trans ((adv_ex l _ _ (by simp)).trans ((adv_reg l _).trans ((adv_st l hok _).trans (adv_ex l _ _ (by simp)))))
theorem adv_cl (l : List Tok) (hok : TokOK l) (q : Pq) (kd pl : Int) : Adv l.length q (gclP l q kd pl).2:=(adv_exr l hok q).trans (adv_ex l _ _ (by simp))
def locB (s : List UInt8) : Bool:=s == [108,111,99]
def thrB (s : List UInt8) : Bool:=s == [116,104,114,101,97,100]
section
variable {w0 wb : World} {l : List Tok} {lv : Value} {r pb rb xb ib : Nat} {q : Pq}
theorem gseq1_any (x : Tg w0 l lv) (W : World) (g : Pg) (h : Fg w0 wb W r pb rb xb ib ⟨#[108,111,99]⟩ l lv q g) :
  Calls Tryz.prog 66 #[.pointer (some ⟨r,0,none⟩),.func (.func 124) #[] #[.pointer (some ⟨ib,0,none⟩)],.func (.func 68) #[] #[.pointer (some ⟨xb,0,none⟩),.pointer (some ⟨pb,0,none⟩)]] W fun e w' => e = .returned (.tuple #[]) ∧ Fg w0 wb w' r pb rb xb ib ⟨#[108,111,99]⟩ l lv (seqP l locB (gLocS l) (l.length + 1) q g).1 (seqP l locB (gLocS l) (l.length + 1) q g).2:=by
 refine gseq_any x _ _ _ _ (fun _ _ => by kernel_rfl) (fun _ _ => by kernel_rfl) locB rfl (gLocS l) (fun W q g => Fg w0 wb W r pb rb xb ib ⟨#[108,111,99]⟩ l lv q g) (fun W q g => Fg w0 wb W r pb rb xb ib ⟨#[108,111,99]⟩ l lv q g ∧ g.locs.length + g.ths.length + g.cls.length + 1 ≤ q.n)
  (fun _ _ _ h => h.sg) (fun _ _ _ h => h.1.sg) (fun _ _ _ _ h hb => h.below hb) (fun _ _ _ _ h hb => ⟨h.1.below hb,h.2⟩) (fun _ _ _ h hlt => ⟨h.next hlt,by have:=h.len; show _ ≤ _ + 1; omega⟩) ?_ ?_ ?_ _ W q g h (by omega)
 ·intro w q a y h _
  obtain ⟨_,_,_,fr,_⟩:=h.h
  exact gis1_any ⟨#[108,111,99]⟩ y ib w fr.iv (locB y.data.toList) (by rw [Lib.toList_data,Lib.toList_data]; rfl)
 ·intro w q a i h hn hi
  rw [tokV_eq]
  have hge:=adv_loc l q (tokO l i).2.2.2 (by omega)
  exact gprog1_any x w a _ _ _ _ h.1 h.2 hge.1
 ·intro q a i hn hi
  have hge:=adv_loc l q (tokO l i).2.2.2 (by omega)
  show i < (glocP l q (tokO l i).2.2.2).2.n
  omega
theorem gseq2_any (x : Tg w0 l lv) (hs : Sgn w0) (W : World) (g : Pg) (h : Fg w0 wb W r pb rb xb ib ⟨#[116,104,114,101,97,100]⟩ l lv q g) :
  Calls Tryz.prog 66 #[.pointer (some ⟨r,0,none⟩),.func (.func 124) #[] #[.pointer (some ⟨ib,0,none⟩)],.func (.func 70) #[] #[.pointer (some ⟨xb,0,none⟩),.pointer (some ⟨pb,0,none⟩)]] W fun e w' => e = .returned (.tuple #[]) ∧ Fg w0 wb w' r pb rb xb ib ⟨#[116,104,114,101,97,100]⟩ l lv (seqP l thrB (gThS l) (l.length + 1) q g).1 (seqP l thrB (gThS l) (l.length + 1) q g).2:=by
 refine gseq_any x _ _ _ _ (fun _ _ => by kernel_rfl) (fun _ _ => by kernel_rfl) thrB rfl (gThS l) (fun W q g => Fg w0 wb W r pb rb xb ib ⟨#[116,104,114,101,97,100]⟩ l lv q g) (fun W q g => Fg w0 wb W r pb rb xb ib ⟨#[116,104,114,101,97,100]⟩ l lv q g ∧ g.locs.length + g.ths.length + g.cls.length + 1 ≤ q.n)
  (fun _ _ _ h => h.sg) (fun _ _ _ h => h.1.sg) (fun _ _ _ _ h hb => h.below hb) (fun _ _ _ _ h hb => ⟨h.1.below hb,h.2⟩) (fun _ _ _ h hlt => ⟨h.next hlt,by have:=h.len; show _ ≤ _ + 1; omega⟩) ?_ ?_ ?_ _ W q g h (by omega)
 ·intro w q a y h _
  obtain ⟨_,_,_,fr,_⟩:=h.h
  exact gis1_any ⟨#[116,104,114,101,97,100]⟩ y ib w fr.iv (thrB y.data.toList) (by rw [Lib.toList_data,Lib.toList_data]; rfl)
 ·intro w q a i h hn hi
  rw [tokV_eq]
  have hge:=adv_th l x.ok q (tokO l i).2.2.2 (by omega)
  exact gprog2_any x hs w a _ _ _ _ h.1 h.2 hge.1
 ·intro q a i hn hi
  have hge:=adv_th l x.ok q (tokO l i).2.2.2 (by omega)
  show i < (gthP l q (tokO l i).2.2.2).2.n
  omega
theorem gseq3_any {s0 : ByteArray} (x : Tg w0 l lv) (hs : Sgn w0) (hw : Wds w0) (W : World) (g : Pg) (h : Fg w0 wb W r pb rb xb ib s0 l lv q g) :
  Calls Tryz.prog 66 #[.pointer (some ⟨r,0,none⟩),.func (.func 72) #[] #[],.func (.func 73) #[] #[.pointer (some ⟨xb,0,none⟩),.pointer (some ⟨pb,0,none⟩)]] W fun e w' => e = .returned (.tuple #[]) ∧ Fg w0 wb w' r pb rb xb ib s0 l lv (seqP l clB (gClS l) (l.length + 1) q g).1 (seqP l clB (gClS l) (l.length + 1) q g).2:=by
 refine gseq_any x _ _ _ _ (fun _ _ => by kernel_rfl) (fun _ _ => by kernel_rfl) clB rfl (gClS l) (fun W q g => Fg w0 wb W r pb rb xb ib s0 l lv q g) (fun W q g => Fg w0 wb W r pb rb xb ib s0 l lv q g ∧ g.locs.length + g.ths.length + g.cls.length + 1 ≤ q.n)
  (fun _ _ _ h => h.sg) (fun _ _ _ h => h.1.sg) (fun _ _ _ _ h hb => h.below hb) (fun _ _ _ _ h hb => ⟨h.1.below hb,h.2⟩) (fun _ _ _ h hlt => ⟨h.next hlt,by have:=h.len; show _ ≤ _ + 1; omega⟩) ?_ ?_ ?_ _ W q g h (by omega)
 ·intro w q a y h _
  exact gclaims_any y w (hw.below h.sg.bel)
 ·intro w q a i h hn hi
  rw [tokV_eq]
  have hge:=adv_cl l x.ok q (kdW (tokO l i).2.1) (tokO l i).2.2.2 (by omega)
  exact gprog3_any (ty:=⟨(tokO l i).2.1.toArray⟩) x hs w a _ _ _ h.1 h.2 hge.1 (hw.below h.1.sg.bel)
 ·intro q a i hn hi
  have hge:=adv_cl l x.ok q (kdW (tokO l i).2.1) (tokO l i).2.2.2 (by omega)
  show i < (gclP l q (kdW (tokO l i).2.1) (tokO l i).2.2.2).2.n
  omega
end
noncomputable def gprP (l : List Tok) (q : Pq) : Pg × Pq:=
 let m:=gnuP l (gexP l q [109,111,100])
 let A:=seqP l locB (gLocS l) (l.length + 1) (gexP l m.2 [59]) ⟨m.1,[],[],[]⟩
 let B:=seqP l thrB (gThS l) (l.length + 1) A.1 A.2
 let C:=seqP l clB (gClS l) (l.length + 1) B.1 B.2
 (C.2,if C.1.n < l.length then refP l C.1 else C.1)
section
variable {w0 : World} {l : List Tok} {lv : Value} {r : Nat} {q : Pq}
theorem results_pr {fn : Func} {p : Tmp} (h : fn.results = #[.cell p 27]) (tmps : Array Value) (w : World) (b : Nat) (u0 u1 u2 u3 : Value) (hp : tmps.getD p undef = .pointer (some ⟨b,0,none⟩)) (hb : Bk w b 27 #[u0,u1,u2,u3]) :
  (results fn tmps).run Tryz.prog w = .ok (.agg #[u0,u1,u2,u3]) w:=by
 have y0:=hb.cell 0
 have y1:=hb.cell 1
 have y2:=hb.cell 2
 have y3:=hb.cell 3
 have hp2 : tmps[p]?.getD undef = .pointer (some ⟨b,0,none⟩):=by simpa using hp
 simp only [results,h]
 simp [hp2,go_sem,y0,y1,y2,y3]
structure F0 (w0 wb W : World) (r : Nat) (l : List Tok) (lv : Value) (q : Pq) (cs : Array Value) : Prop where
 sg : Sg w0 W r l lv q
 kp : Keep r wb W
 pv : Cel W wb.heap.size 98 (.pointer (some ⟨r,0,none⟩))
 rv : Bk W (wb.heap.size + 1) 27 #[.int .i64 0,.slice none 0 0,.slice none 0 0,.slice none 0 0]
 xv : Bk W (wb.heap.size + 1 + 1) 27 cs
theorem F0.call {wb W W' : World} {q2 : Pq} {cs : Array Value} (h : F0 w0 wb W r l lv q cs) (hr : r < wb.heap.size) (hs : Sg w0 W' r l lv q2) (hk : Keep r W W') : F0 w0 wb W' r l lv q2 cs:=
 ⟨hs,h.kp.trans hk,h.pv.keep hk (by omega),h.rv.keep hk (by omega),h.xv.keep hk (by omega)⟩
theorem F0.below {wb W W' : World} {cs : Array Value} (h : F0 w0 wb W r l lv q cs) (hb : Below W.heap.size W W') : F0 w0 wb W' r l lv q cs:=
 ⟨h.sg.below hb,h.kp.below hb,h.pv.below hb,h.rv.below hb,h.xv.below hb⟩
theorem F0.set {wb W : World} {cs : Array Value} (h : F0 w0 wb W r l lv q cs) (hr : r < wb.heap.size) (h0 : w0.heap.size ≤ wb.heap.size) (k : Nat) (u : Value) : F0 w0 wb (W.setCell ⟨wb.heap.size + 1 + 1,k,none⟩ u) r l lv q (cs.setIfInBounds k u):=
 ⟨h.sg.setNew (by omega) (by omega) k u,h.kp.setNew (by omega) u,h.pv.other (by omega) u,h.rv.other (by omega) k u,h.xv.set k u⟩
theorem F0.new (w : World) (h : Sg w0 w r l lv q) : F0 w0 w (((w.alloc (.cells #[.pointer (some ⟨r,0,none⟩)] 98)).alloc (.cells #[.int .i64 0,.slice none 0 0,.slice none 0 0,.slice none 0 0] 27)).alloc (.cells #[.int .i64 0,.slice none 0 0,.slice none 0 0,.slice none 0 0] 27)) r l lv q #[.int .i64 0,.slice none 0 0,.slice none 0 0,.slice none 0 0]:=by
 have b1:=(Below.refl (w.alloc (.cells #[.pointer (some ⟨r,0,none⟩)] 98)).heap.size (w.alloc (.cells #[.pointer (some ⟨r,0,none⟩)] 98))).alloc (Nat.le_refl _) (.cells #[.int .i64 0,.slice none 0 0,.slice none 0 0,.slice none 0 0] 27)
 obtain ⟨u,hu⟩ : ∃ u,u = (w.alloc (.cells #[.pointer (some ⟨r,0,none⟩)] 98)).alloc (.cells #[.int .i64 0,.slice none 0 0,.slice none 0 0,.slice none 0 0] 27):=⟨_,rfl⟩
 have hus : u.heap.size = w.heap.size + 1 + 1:=by rw [hu,alloc_size,alloc_size]
 have b2:=(Below.refl u.heap.size u).alloc (Nat.le_refl _) (.cells #[.int .i64 0,.slice none 0 0,.slice none 0 0,.slice none 0 0] 27)
 have pv : Cel u w.heap.size 98 (.pointer (some ⟨r,0,none⟩)):=by rw [hu]; exact (Cel.new w _ _).below b1
 have rv : Bk u (w.heap.size + 1) 27 #[.int .i64 0,.slice none 0 0,.slice none 0 0,.slice none 0 0]:=by
  have:=Bk.new (w.alloc (.cells #[.pointer (some ⟨r,0,none⟩)] 98)) 27 #[.int .i64 0,.slice none 0 0,.slice none 0 0,.slice none 0 0]
  rw [alloc_size] at this
  rw [hu]; exact this
 have xv:=Bk.new u 27 #[.int .i64 0,.slice none 0 0,.slice none 0 0,.slice none 0 0]
 rw [hus] at xv
 have s2 : Sg w0 u r l lv q:=by rw [hu]; exact (h.alloc _).alloc _
 have k2 : Keep r w u:=by rw [hu]; exact ((Keep.refl r w).alloc _).alloc _
 rw [← hu]
 exact ⟨s2.alloc _,k2.alloc _,pv.below b2,rv.below b2,xv⟩
theorem F0.fr {wb W W' : World} {ib : Nat} {s : ByteArray} {cs : Array Value} (h : F0 w0 wb W r l lv q cs) (hr : r < wb.heap.size) (h0 : w0.heap.size ≤ wb.heap.size) (hb : Below W.heap.size W W') (hi : StrR W' ib s) (hle : W.heap.size ≤ ib) : Fr w0 wb W' r wb.heap.size (wb.heap.size + 1) (wb.heap.size + 1 + 1) ib s l lv q cs:=by
 have hx:=h.xv.lt
 have hk:=h.kp.size
 obtain ⟨sg,kp,pv,rv,xv⟩:=h.below hb
 exact ⟨sg,kp,pv,rv,xv,hi,by omega⟩
theorem Fr.word {wb W W' : World} {pb rb xb ib ib' : Nat} {s s' : ByteArray} {cs : Array Value} (h : Fr w0 wb W r pb rb xb ib s l lv q cs) (hb : Below W.heap.size W W') (hi : StrR W' ib' s') (hle : W.heap.size ≤ ib') : Fr w0 wb W' r pb rb xb ib' s' l lv q cs:=by
 have hx:=h.xv.lt
 have hr:=h.sg.prs.lt
 have hk:=h.kp.size
 obtain ⟨sg,kp,pv,rv,xv,_,ne⟩:=h.below hb
 exact ⟨sg,kp,pv,rv,xv,hi,by omega⟩
theorem Fg.word {wb W W' : World} {pb rb xb ib ib' : Nat} {s s' : ByteArray} {g : Pg} (h : Fg w0 wb W r pb rb xb ib s l lv q g) (hb : Below W.heap.size W W') (hi : StrR W' ib' s') (hle : W.heap.size ≤ ib') : Fg w0 wb W' r pb rb xb ib' s' l lv q g:=by
 obtain ⟨⟨a,b,c,h1,h2⟩,hl⟩:=h
 exact ⟨⟨a,b,c,h1.word hb hi hle,h2.below hb⟩,hl⟩
theorem gprogram_any (x : Tg w0 l lv) (hs : Sgn w0) (hw : Wds w0) (w : World) (h : Sg w0 w r l lv q) :
  Calls Tryz.prog 21 #[.pointer (some ⟨r,0,none⟩)] w fun e w' => ∃ a b c,e = .returned (.agg #[.int .i64 (gprP l q).1.mod,a,b,c]) ∧ Sg w0 w' r l lv (gprP l q).2 ∧ Keep r w w' ∧ POwn w' w.heap.size a b c (gprP l q).1:=by
 have HX:=Lib.hid x
 have HS:=Lib.hid hs
 have HW:=Lib.hid hw
 have HH:=Lib.hid h
 unfold gprP
 simp only []
 obtain ⟨q1,hq1⟩ : ∃ q1,q1 = gexP l q [109,111,100]:=⟨_,rfl⟩
 rw [← hq1]
 obtain ⟨n2,hn2⟩ : ∃ n,n = (gnuP l q1).1:=⟨_,rfl⟩
 obtain ⟨q2,hq2⟩ : ∃ q,q = (gnuP l q1).2:=⟨_,rfl⟩
 rw [← hn2,← hq2]
 obtain ⟨q3,hq3⟩ : ∃ q,q = gexP l q2 [59]:=⟨_,rfl⟩
 rw [← hq3]
 obtain ⟨A,hA⟩ : ∃ A,A = seqP l locB (gLocS l) (l.length + 1) q3 ⟨n2,[],[],[]⟩:=⟨_,rfl⟩
 rw [← hA]
 obtain ⟨B,hB⟩ : ∃ B,B = seqP l thrB (gThS l) (l.length + 1) A.1 A.2:=⟨_,rfl⟩
 rw [← hB]
 obtain ⟨C,hC⟩ : ∃ C,C = seqP l clB (gClS l) (l.length + 1) B.1 B.2:=⟨_,rfl⟩
 rw [← hC]
 obtain ⟨q9,hq9⟩ : ∃ q9,q9 = if C.1.n < l.length then refP l C.1 else C.1:=⟨_,rfl⟩
 rw [← hq9]
 have HQ9:=Lib.hid hq9
 clear hq9
 have HE1 : Hid (∀ w,Sg w0 w r l lv q → Calls Tryz.prog 64 #[.pointer (some ⟨r,0,none⟩),.string ⟨#[109,111,100]⟩] w (ToG w0 r l lv q1 w (.tuple #[]))):=by rw [hq1]; exact fun w h => gexpect_any x w h ⟨#[109,111,100]⟩ (by simp)
 have HN2 : Hid (∀ w,Sg w0 w r l lv q1 → Calls Tryz.prog 65 #[.pointer (some ⟨r,0,none⟩)] w (ToG w0 r l lv q2 w (.int .i64 n2))):=by rw [hq2,hn2]; exact fun w h => gnumber_any x w h
 have HE3 : Hid (∀ w,Sg w0 w r l lv q2 → Calls Tryz.prog 64 #[.pointer (some ⟨r,0,none⟩),.string ⟨#[59]⟩] w (ToG w0 r l lv q3 w (.tuple #[]))):=by rw [hq3]; exact fun w h => gexpect_any x w h ⟨#[59]⟩ (by simp)
 have HQA:=Lib.hid hA
 have HQB:=Lib.hid hB
 have HQC:=Lib.hid hC
 have HI:=Lib.hid (fun (s : ByteArray) (W : World) => gis_any s W)
 have hrl:=HH.out.prs.lt
 clear hq1 hn2 hq2 hq3 hA hB hC h x hs hw
 go_enter Tryz.func21,Tryz.ntmps21
 go_wp2_with fail
 refine (HE1.out _ (F0.new w HH.out).sg).mono ?_
 rintro e w1 ⟨rfl,h1,k1⟩
 have h0:=HH.out.bel.size
 have f1:=(F0.new w HH.out).call hrl h1 k1
 have pc:=f1.pv.cell
 have pl:=f1.pv.lt
 have F1:=Lib.hid f1
 clear h1 k1 f1
 go_wp2_with fail
 refine (HN2.out _ F1.out.sg).mono ?_
 rintro e w2 ⟨rfl,h2,k2⟩
 have f2:=F1.out.call hrl h2 k2
 clear pc pl
 have pc:=f2.pv.cell
 have pl:=f2.pv.lt
 have xc : w2.cell? ⟨w.heap.size + 1 + 1,0,none⟩ = some (.int .i64 0):=f2.xv.cell 0
 have xf:=f2.xv.fz 0
 have xl:=f2.xv.lt
 have F2:=Lib.hid (f2.set hrl h0 0 (.int .i64 n2))
 have pc' : (w2.setCell ⟨w.heap.size + 1 + 1,0,none⟩ (.int .i64 n2)).cell? ⟨w.heap.size,0,none⟩ = some (.pointer (some ⟨r,0,none⟩)):=F2.out.pv.cell
 clear h2 k2 f2 F1
 go_wp2_with fail
 refine (HE3.out _ F2.out.sg).mono ?_
 rintro e w3 ⟨rfl,h3,k3⟩
 have f3:=F2.out.call hrl h3 k3
 clear pc pl pc' xc xf xl
 have pc:=f3.pv.cell
 have pl:=f3.pv.lt
 have F3:=Lib.hid f3
 have HFW : Hid (∀ w4 ib,Below w3.drew.heap.size w3.drew w4 → StrR w4 ib ⟨#[108,111,99]⟩ → w3.drew.heap.size ≤ ib → Fg w0 w w4 r w.heap.size (w.heap.size + 1) (w.heap.size + 1 + 1) ib ⟨#[108,111,99]⟩ l lv q3 ⟨n2,[],[],[]⟩):=by
  refine Lib.hid fun w4 ib hb hi hle => ?_
  have hb9 : Below w3.heap.size w3 w4:=((Below.refl w3.heap.size w3).drew).trans hb
  exact ⟨⟨_,_,_,F3.out.fr hrl h0 hb9 hi hle,POwn.nil _ _ _⟩,by simp⟩
 have HSQ : Hid (∀ W ib,Fg w0 w W r w.heap.size (w.heap.size + 1) (w.heap.size + 1 + 1) ib ⟨#[108,111,99]⟩ l lv q3 ⟨n2,[],[],[]⟩ → Calls Tryz.prog 66 #[.pointer (some ⟨r,0,none⟩),.func (.func 124) #[] #[.pointer (some ⟨ib,0,none⟩)],.func (.func 68) #[] #[.pointer (some ⟨w.heap.size + 1 + 1,0,none⟩),.pointer (some ⟨w.heap.size,0,none⟩)]] W fun e w' => e = .returned (.tuple #[]) ∧ Fg w0 w w' r w.heap.size (w.heap.size + 1) (w.heap.size + 1 + 1) ib ⟨#[108,111,99]⟩ l lv A.1 A.2):=by
  rw [HQA.out]
  exact Lib.hid fun W ib hg => gseq1_any HX.out W _ hg
 have hpc : ∀ w4,Below w3.drew.heap.size w3.drew w4 → w4.cell? ⟨w.heap.size,0,none⟩ = some (.pointer (some ⟨r,0,none⟩)) ∧ w.heap.size < w4.heap.size:=fun w4 hb => by
  have f:=F3.out.below (((Below.refl w3.heap.size w3).drew).trans hb)
  exact ⟨f.pv.cell,f.pv.lt⟩
 have HPC:=Lib.hid hpc
 clear h3 k3 f3 hpc
 go_upto_region 5 with fail
 go_cut [11,12,13,14] (fun s11 s12 s13 s14 wx => ∃ ib,Fg w0 w wx r w.heap.size (w.heap.size + 1) (w.heap.size + 1 + 1) ib ⟨#[108,111,99]⟩ l lv A.1 A.2)
 case first =>
  go_region_law (first
   | (go_simp; go_at_call 67; refine (HI.out _ _).mono ?_; rintro e w4 ⟨ib,rfl,i4,hle,hb4⟩; obtain ⟨pc4,pl4⟩:=HPC.out w4 hb4)
   | (go_simp; go_at_call 66; refine (HSQ.out _ _ (HFW.out _ _ hb4 i4 hle)).mono ?_; rintro e w5 ⟨rfl,g5⟩))
  all_goals
   go_wp2_with fail
   go_meet
   exact ⟨_,g5⟩
 case rest =>
  obtain ⟨ib,g5⟩:=hcut
  have G5:=Lib.hid g5
  have hfr : ∃ a b c,Fr w0 w wc r w.heap.size (w.heap.size + 1) (w.heap.size + 1 + 1) ib ⟨#[108,111,99]⟩ l lv A.1 #[.int .i64 A.2.mod,a,b,c]:=by obtain ⟨a,b,c,h,_⟩:=g5.h; exact ⟨a,b,c,h⟩
  obtain ⟨a5,b5,c5,fr5⟩:=hfr
  have pc:=fr5.pv.cell
  have pl:=fr5.pv.lt
  have FR5:=Lib.hid fr5
  have HFW2 : Hid (∀ w4 ib',Below wc.drew.heap.size wc.drew w4 → StrR w4 ib' ⟨#[116,104,114,101,97,100]⟩ → wc.drew.heap.size ≤ ib' → Fg w0 w w4 r w.heap.size (w.heap.size + 1) (w.heap.size + 1 + 1) ib' ⟨#[116,104,114,101,97,100]⟩ l lv A.1 A.2):=by
   refine Lib.hid fun w4 ib' hb hi hle => ?_
   exact G5.out.word (((Below.refl wc.heap.size wc).drew).trans hb) hi hle
  have HSQ2 : Hid (∀ W ib,Fg w0 w W r w.heap.size (w.heap.size + 1) (w.heap.size + 1 + 1) ib ⟨#[116,104,114,101,97,100]⟩ l lv A.1 A.2 → Calls Tryz.prog 66 #[.pointer (some ⟨r,0,none⟩),.func (.func 124) #[] #[.pointer (some ⟨ib,0,none⟩)],.func (.func 70) #[] #[.pointer (some ⟨w.heap.size + 1 + 1,0,none⟩),.pointer (some ⟨w.heap.size,0,none⟩)]] W fun e w' => e = .returned (.tuple #[]) ∧ Fg w0 w w' r w.heap.size (w.heap.size + 1) (w.heap.size + 1 + 1) ib ⟨#[116,104,114,101,97,100]⟩ l lv B.1 B.2):=by
   rw [HQB.out]
   exact Lib.hid fun W ib hg => gseq2_any HX.out HS.out W _ hg
  have hpc2 : ∀ w4,Below wc.drew.heap.size wc.drew w4 → w4.cell? ⟨w.heap.size,0,none⟩ = some (.pointer (some ⟨r,0,none⟩)) ∧ w.heap.size < w4.heap.size:=fun w4 hb => by
   have f:=FR5.out.below (((Below.refl wc.heap.size wc).drew).trans hb)
   exact ⟨f.pv.cell,f.pv.lt⟩
  have HPC2:=Lib.hid hpc2
  clear g5 fr5 hpc2 HPC HSQ HFW F3
  go_upto_region 6 with fail
  go_cut [15,16,17,18] (fun s15 s16 s17 s18 wx => ∃ ib,Fg w0 w wx r w.heap.size (w.heap.size + 1) (w.heap.size + 1 + 1) ib ⟨#[116,104,114,101,97,100]⟩ l lv B.1 B.2)
  case first =>
   go_region_law (first
    | (go_simp; go_at_call 67; refine (HI.out _ _).mono ?_; rintro e w4 ⟨ib2,rfl,i4,hle,hb4⟩; obtain ⟨pc4,pl4⟩:=HPC2.out w4 hb4)
    | (go_simp; go_at_call 66; refine (HSQ2.out _ _ (HFW2.out _ _ hb4 i4 hle)).mono ?_; rintro e w5 ⟨rfl,g5⟩))
   all_goals
    go_wp2_with fail
    go_meet
    exact ⟨_,g5⟩
  case rest =>
   obtain ⟨ib2,g6⟩:=hcut
   have hfr : ∃ a b c,Fr w0 w wc r w.heap.size (w.heap.size + 1) (w.heap.size + 1 + 1) ib2 ⟨#[116,104,114,101,97,100]⟩ l lv B.1 #[.int .i64 B.2.mod,a,b,c]:=by obtain ⟨a,b,c,h,_⟩:=g6.h; exact ⟨a,b,c,h⟩
   obtain ⟨a6,b6,c6,fr6⟩:=hfr
   clear pc pl
   have pc:=fr6.pv.cell
   have pl:=fr6.pv.lt
   have HSQ3:=gseq3_any HX.out HS.out HW.out wc _ g6
   rw [← HQC.out] at HSQ3
   have HSQ3':=Lib.hid HSQ3
   clear HSQ3 g6 fr6 HSQ2 HFW2 HPC2 G5 FR5
   go_wp2_with fail
   refine HSQ3'.out.mono ?_
   rintro e w6 ⟨rfl,g7⟩
   obtain ⟨⟨a,b,c,f7,p7⟩,_⟩:=g7
   obtain ⟨a1,n1,c1,rfl⟩ : ∃ x n y,a = .slice x n y:=by obtain ⟨x,y,h,_⟩:=own_shape p7.l; exact ⟨x,_,y,h⟩
   obtain ⟨a2,n2',c2,rfl⟩ : ∃ x n y,b = .slice x n y:=by obtain ⟨x,y,h⟩:=p7.t.shape; exact ⟨x,_,y,h⟩
   obtain ⟨a3,n3,c3,rfl⟩ : ∃ x n y,c = .slice x n y:=by obtain ⟨x,y,h⟩:=p7.c.shape; exact ⟨x,_,y,h⟩
   obtain ⟨ad,cap,hlv,_⟩:=HX.out.ht
   subst hlv
   have HRF:=Lib.hid (fun W' (h' : Sg w0 W' r l _ C.1) => grefuse_any HX.out W' h')
   have hn:=HX.out.hn
   have hq:=f7.sg.ok.1
   obtain ⟨⟨c0,c1',_,_⟩,_⟩:=f7.sg.prs.facts
   have hr7:=f7.sg.prs.lt
   clear pc pl
   have pc:=f7.pv.cell
   have pl:=f7.pv.lt
   have F7:=Lib.hid f7
   have P7:=Lib.hid p7
   obtain ⟨L,hL⟩ : ∃ L,L = l.length:=⟨_,rfl⟩
   obtain ⟨m,hm⟩ : ∃ m,m = C.1.n:=⟨_,rfl⟩
   rw [← hL] at c0 hq hn
   rw [← hm] at c1' hq
   have HLL:=Lib.hid hL
   have HMM:=Lib.hid hm
   clear f7 p7 hL hm
   by_cases hlt : m < L
   ·have hif : C.1.n < l.length:=by rw [← HLL.out,← HMM.out]; exact hlt
    have HIF:=Lib.hid ((HQ9.out).trans (if_pos hif))
    have q1 : decide ((m : Int) < (L : Int)) = true:=by simp; omega
    have q2 : decide (m < L) = true:=by simp; omega
    clear hif
    go_wp2
    go_quiet (fail)
    have f8:=F7.out.below (below_end (B:=w6.heap.size) (w:=w6) nq)
    have p8:=P7.out.below (below_end (B:=w6.heap.size) (w:=w6) nq)
    have pc8:=f8.pv.cell
    have pl8:=f8.pv.lt
    clear pc pl c0 c1' hr7 F7 P7
    generalize w6.drewN nq = w7 at *
    go_wp2_with fail
    refine (HRF.out _ f8.sg).mono ?_
    rintro e w8 ⟨rfl,h8,k8⟩
    have f9:=f8.call h8 k8
    have p9:=p8.keepG f8.sg.prs k8
    have x0 : w8.cell? ⟨w.heap.size + 1 + 1,0,none⟩ = some (.int .i64 C.2.mod):=f9.xv.cell 0
    have x1 : w8.cell? ⟨w.heap.size + 1 + 1,1,none⟩ = some (.slice a1 n1 c1):=f9.xv.cell 1
    have x2 : w8.cell? ⟨w.heap.size + 1 + 1,2,none⟩ = some (.slice a2 n2' c2):=f9.xv.cell 2
    have x3 : w8.cell? ⟨w.heap.size + 1 + 1,3,none⟩ = some (.slice a3 n3 c3):=f9.xv.cell 3
    have xl:=f9.xv.lt
    have e0 : w8.cell? ⟨w.heap.size + 1,0,none⟩ = some (.int .i64 0):=f9.rv.cell 0
    have e1 : w8.cell? ⟨w.heap.size + 1,1,none⟩ = some (.slice none 0 0):=f9.rv.cell 1
    have e2 : w8.cell? ⟨w.heap.size + 1,2,none⟩ = some (.slice none 0 0):=f9.rv.cell 2
    have e3 : w8.cell? ⟨w.heap.size + 1,3,none⟩ = some (.slice none 0 0):=f9.rv.cell 3
    have g0:=f9.rv.fz 0
    have g1:=f9.rv.fz 1
    have g2:=f9.rv.fz 2
    have g3:=f9.rv.fz 3
    have rl:=f9.rv.lt
    have pc9:=f9.pv.cell
    have pl9:=f9.pv.lt
    have F9:=Lib.hid f9
    have P9:=Lib.hid p9
    clear h8 k8 f8 p8 f9 p9 pc8 pl8
    go_wp2
    refine bodyPost_ret (v:=.agg #[.int .i64 C.2.mod,.slice a1 n1 c1,.slice a2 n2' c2,.slice a3 n3 c3]) (results_pr rfl _ _ _ _ _ _ _ rfl (F9.out.rv.set4 _ _ _ _)) rfl ⟨_,_,_,rfl,?_,?_,?_⟩
    ·rw [HIF.out]
     exact (((F9.out.sg.setNew (by omega) (by omega) 0 _).setNew (by omega) (by omega) 1 _).setNew (by omega) (by omega) 2 _).setNew (by omega) (by omega) 3 _
    ·exact (((F9.out.kp.setNew (by omega) _).setNew (by omega) _).setNew (by omega) _).setNew (by omega) _
    ·have j0:=F9.out.rv
     have j1:=j0.set 0 (.int .i64 C.2.mod)
     have j2:=j1.set 1 (.slice a1 n1 c1)
     have j3:=j2.set 2 (.slice a2 n2' c2)
     exact (((P9.out.setBk j0).setBk j1).setBk j2).setBk j3
   ·have hif : ¬ C.1.n < l.length:=by rw [← HLL.out,← HMM.out]; exact hlt
    have HIF:=Lib.hid ((HQ9.out).trans (if_neg hif))
    have q1 : decide ((m : Int) < (L : Int)) = false:=by simp; omega
    have q2 : decide (m < L) = false:=by simp; omega
    clear hif
    go_wp2
    go_quiet (fail)
    have f9:=F7.out.below (below_end (B:=w6.heap.size) (w:=w6) nq)
    have p9:=P7.out.below (below_end (B:=w6.heap.size) (w:=w6) nq)
    have x0 : (w6.drewN nq).cell? ⟨w.heap.size + 1 + 1,0,none⟩ = some (.int .i64 C.2.mod):=f9.xv.cell 0
    have x1 : (w6.drewN nq).cell? ⟨w.heap.size + 1 + 1,1,none⟩ = some (.slice a1 n1 c1):=f9.xv.cell 1
    have x2 : (w6.drewN nq).cell? ⟨w.heap.size + 1 + 1,2,none⟩ = some (.slice a2 n2' c2):=f9.xv.cell 2
    have x3 : (w6.drewN nq).cell? ⟨w.heap.size + 1 + 1,3,none⟩ = some (.slice a3 n3 c3):=f9.xv.cell 3
    have xl:=f9.xv.lt
    have e0 : (w6.drewN nq).cell? ⟨w.heap.size + 1,0,none⟩ = some (.int .i64 0):=f9.rv.cell 0
    have e1 : (w6.drewN nq).cell? ⟨w.heap.size + 1,1,none⟩ = some (.slice none 0 0):=f9.rv.cell 1
    have e2 : (w6.drewN nq).cell? ⟨w.heap.size + 1,2,none⟩ = some (.slice none 0 0):=f9.rv.cell 2
    have e3 : (w6.drewN nq).cell? ⟨w.heap.size + 1,3,none⟩ = some (.slice none 0 0):=f9.rv.cell 3
    have g0:=f9.rv.fz 0
    have g1:=f9.rv.fz 1
    have g2:=f9.rv.fz 2
    have g3:=f9.rv.fz 3
    have rl:=f9.rv.lt
    have pc9:=f9.pv.cell
    have pl9:=f9.pv.lt
    have F9:=Lib.hid f9
    have P9:=Lib.hid p9
    clear f9 p9 pc pl c0 c1' hr7
    go_wp2
    refine bodyPost_ret (v:=.agg #[.int .i64 C.2.mod,.slice a1 n1 c1,.slice a2 n2' c2,.slice a3 n3 c3]) (results_pr rfl _ _ _ _ _ _ _ rfl (F9.out.rv.set4 _ _ _ _)) rfl ⟨_,_,_,rfl,?_,?_,?_⟩
    ·rw [HIF.out]
     exact (((F9.out.sg.setNew (by omega) (by omega) 0 _).setNew (by omega) (by omega) 1 _).setNew (by omega) (by omega) 2 _).setNew (by omega) (by omega) 3 _
    ·exact (((F9.out.kp.setNew (by omega) _).setNew (by omega) _).setNew (by omega) _).setNew (by omega) _
    ·have j0:=F9.out.rv
     have j1:=j0.set 0 (.int .i64 C.2.mod)
     have j2:=j1.set 1 (.slice a1 n1 c1)
     have j3:=j2.set 2 (.slice a2 n2' c2)
     exact (((P9.out.setBk j0).setBk j1).setBk j2).setBk j3
end
end Go.Proofs.YtcghccjnadagcaaGreatDoor
