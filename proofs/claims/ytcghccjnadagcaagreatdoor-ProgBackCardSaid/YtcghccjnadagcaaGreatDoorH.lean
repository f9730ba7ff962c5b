/- Facts. -/
import Derived.Test.YtcghccjnadagcaaGreatDoorA
import Derived.Deep.QuietTactic
import Derived.BigQuiet
import Derived.IntWalk
set_option maxRecDepth 100000
set_option maxHeartbeats 32000000
namespace Go.Proofs.YtcghccjnadagcaaGreatDoor
open Go.RowKit
theorem spanN_noNl_pos (c : UInt8) (r : List UInt8) (h : (c.toNat : Int) = 35) : 0 < spanN noNl (c :: r):=by
 have : noNl (c.toNat : Int) = true:=by rw [h]; decide
 simp [spanN,this]
theorem sc_fuel : ∀ (f g : Nat) (l : List UInt8) (p : Nat) (acc : List Tok),l.length ≤ f → l.length ≤ g → sc f l p acc = sc g l p acc:=by
 intro f
 induction f with
 | zero =>
  intro g l p acc h _
  obtain rfl : l = []:=List.eq_nil_of_length_eq_zero (by omega)
  rw [sc_nil,sc_nil]
 | succ f ih =>
  intro g l p acc hf hg
  cases l with
  | nil => rw [sc_nil,sc_nil]
  | cons c r =>
   obtain ⟨g,rfl⟩ : ∃ k,g = k + 1:=⟨g - 1,by simp only [List.length_cons] at hg; omega⟩
   simp only [List.length_cons] at hf hg
   unfold sc
   by_cases hb : blank (c.toNat : Int) = true
   ·rw [if_pos hb,if_pos hb]; exact ih _ _ _ _ (by omega) (by omega)
   ·rw [if_neg hb,if_neg hb]
    by_cases hc : (c.toNat : Int) = 35
    ·rw [if_pos hc,if_pos hc]
     have:=spanN_noNl_pos c r hc
     exact ih _ _ _ _ (by rw [List.length_drop,List.length_cons]; omega) (by rw [List.length_drop,List.length_cons]; omega)
    ·rw [if_neg hc,if_neg hc]
     by_cases ht : (tk (c :: r)).1 ≠ 0
     ·rw [if_pos ht,if_pos ht]
     ·rw [if_neg ht,if_neg ht]
      have:=tk_len (c :: r) (by simpa using ht)
      exact ih _ _ _ _ (by rw [List.length_drop,List.length_cons]; omega) (by rw [List.length_drop,List.length_cons]; omega)
theorem below_set4 {w w' : World} {b : Nat} (h : Below b w w') (x0 x1 x2 x3 : Value) : Below b w ((((w'.setCell ⟨b,0,none⟩ x0).setCell ⟨b,1,none⟩ x1).setCell ⟨b,2,none⟩ x2).setCell ⟨b,3,none⟩ x3):=
 (((h.setCell (p:=⟨b,0,none⟩) (Nat.le_refl _) _).setCell (p:=⟨b,1,none⟩) (Nat.le_refl _) _).setCell (p:=⟨b,2,none⟩) (Nat.le_refl _) _).setCell (p:=⟨b,3,none⟩) (Nat.le_refl _) _
structure Nd where
 op : Int
 n : Int
 nm : ByteArray
 inn : ByteArray
 pl : Int
def Nd.cells (x : Nd) : List Value:=[.int .i64 x.op,.int .i64 x.n,.string x.nm,.string x.inn,.int .i64 x.pl]
def rowN (l : List Nd) : List Value:=l.flatMap Nd.cells
def NdAt (w : World) (b o : Nat) (x : Nd) : Prop:=
 w.cell? ⟨b,o,none⟩ = some (.int .i64 x.op) ∧ w.cell? ⟨b,o + 1,none⟩ = some (.int .i64 x.n) ∧ w.cell? ⟨b,o + 2,none⟩ = some (.string x.nm) ∧ w.cell? ⟨b,o + 3,none⟩ = some (.string x.inn) ∧ w.cell? ⟨b,o + 4,none⟩ = some (.int .i64 x.pl)
def Nds (w : World) (v : Value) (l : List Nd) : Prop:=
 (l = [] ∧ ∃ ad cap,v = .slice ad 0 cap) ∨
 ∃ b off cap,v = .slice (some ⟨b,off,none⟩) l.length cap ∧ b < w.heap.size ∧ ∀ i,(h : i < l.length) → NdAt w b (off + i * 5) l[i]
theorem NdAt.below {w w' : World} {B b o : Nat} {x : Nd} (h : NdAt w b o x) (hb : Below B w w') (hlt : b < B) : NdAt w' b o x:=by
 obtain ⟨k0,k1,k2,k3,k4⟩:=h
 exact ⟨(hb.cell (p:=⟨b,_,none⟩) hlt).trans k0,(hb.cell (p:=⟨b,_,none⟩) hlt).trans k1,(hb.cell (p:=⟨b,_,none⟩) hlt).trans k2,(hb.cell (p:=⟨b,_,none⟩) hlt).trans k3,(hb.cell (p:=⟨b,_,none⟩) hlt).trans k4⟩
theorem Nds.below {w w' : World} {v : Value} {l : List Nd} (h : Nds w v l) (hb : Below w.heap.size w w') : Nds w' v l:=by
 rcases h with h | ⟨b,off,cap,hv,hlt,hc⟩
 ·exact .inl h
 ·exact .inr ⟨b,off,cap,hv,Nat.lt_of_lt_of_le hlt hb.size,fun i hi => (hc i hi).below hb hlt⟩
theorem Nds.cases {w : World} {v : Value} {l : List Nd} (h : Nds w v l) : ∃ ad cap,v = .slice ad l.length cap ∧ ∀ i,(hi : i < l.length) → ∃ b off,ad = some ⟨b,off,none⟩ ∧ b < w.heap.size ∧ NdAt w b (off + i * 5) l[i]:=by
 rcases h with ⟨rfl,ad,cap,rfl⟩ | ⟨b,off,cap,hv,hlt,hc⟩
 ·exact ⟨ad,cap,rfl,fun i hi => absurd hi (Nat.not_lt_zero _)⟩
 ·exact ⟨_,cap,hv,fun i hi => ⟨b,off,rfl,hlt,hc i hi⟩⟩
def ar (op : Int) : Int:=if 1 ≤ op ∧ op ≤ 4 then 0 else if op = 5 then 1 else if 6 ≤ op ∧ op ≤ 14 then 2 else -1
theorem ar_cases (op : Int) : ar op = -1 ∨ ar op = 0 ∨ ar op = 1 ∨ ar op = 2:=by
 unfold ar; repeat' split
 all_goals omega
theorem operands_any (op : Int) (w : World) :
  Calls Tryz.prog 183 #[.int .i64 op] w fun e w' => e = .returned (.int .i64 (ar op)) ∧ w = w':=by
 go_enter Tryz.func183,Tryz.ntmps183
 go_wp2
 all_goals
  go_ret
  exact ⟨ret_int (by simp_all [ar]; try omega),rfl⟩
def numB (n : Int) : Bool:=decide (0 ≤ n ∧ n ≤ 9999)
theorem number_any (n : Int) (w : World) :
  Calls Tryz.prog 184 #[.int .i64 n] w fun e w' => e = .returned (.bool (numB n)) ∧ w = w':=by
 go_enter Tryz.func184,Tryz.ntmps184
 go_wp2
 all_goals
  go_ret
  exact ⟨ret_bool (by rw [Bool.eq_iff_iff]; simp [numB]; try omega),rfl⟩
def endF : List Nd → Int → Nat → Option Nat
 | [],_,_ => none
 | x :: r,m,k => if ar x.op < 0 then none else if m + (ar x.op - 1) = 0 then some (k + 1) else endF r (m + (ar x.op - 1)) (k + 1)
def endI (o : Option Nat) : Int:=match o with | none => -1 | some j => j
def endL (l : List Nd) (i : Int) : Int:=if i < 0 then -1 else endI (endF (l.drop i.toNat) 1 i.toNat)
theorem endF_at (l : List Nd) (k : Nat) (h : k < l.length) (m : Int) : endF (l.drop k) m k = if ar l[k].op < 0 then none else if m + (ar l[k].op - 1) = 0 then some (k + 1) else endF (l.drop (k + 1)) (m + (ar l[k].op - 1)) (k + 1):=by
 rw [List.drop_eq_getElem_cons h,endF]
theorem endF_over (l : List Nd) (k : Nat) (h : ¬ k < l.length) (m : Int) : endF (l.drop k) m k = none:=by
 rw [List.drop_eq_nil_of_le (by omega),endF]
theorem endL_neg (l : List Nd) (i : Int) (h : i < 0) : endL l i = -1:=by unfold endL; rw [if_pos h]
theorem endL_nat (l : List Nd) (k : Nat) : endL l (k : Int) = endI (endF (l.drop k) 1 k):=by
 unfold endL; rw [if_neg (by omega)]; rfl
theorem end_nat (l : List Nd) (v : Value) (i : Nat) (w : World) (hv : Nds w v l) (hn : l.length ≤ 100000) :
  Calls Tryz.prog 141 #[v,.int .i64 i] w fun e w' => e = .returned (.int .i64 (endL l i)) ∧ w = w':=by
 rw [endL_nat]
 obtain ⟨ad,cap,rfl,hc⟩:=hv.cases
 obtain ⟨n,hN⟩ : ∃ n,n = l.length:=⟨_,rfl⟩
 rw [← hN] at hn ⊢
 have HC:=Lib.hid hc
 have HN:=Lib.hid hN
 clear hc hN hv
 obtain ⟨R,hR⟩ : ∃ R,endF (l.drop i) 1 i = R:=⟨_,rfl⟩
 rw [hR]
 have HR:=Lib.hid hR; clear hR
 go_enter Tryz.func141,Tryz.ntmps141
 go_wp2
 go_loopg [1,5] (n - i) (fun fuel i' m' wr => ∃ (k : Nat) (m : Int),i' = .int .i64 k ∧ m' = .int .i64 m ∧ n - k ≤ fuel ∧ 0 < m ∧ m ≤ 1 + k ∧ endF (l.drop k) m k = R ∧ w = wr)
 case atStart => exact ⟨i,1,rfl,rfl,Nat.le_refl _,by omega,by omega,HR.out,rfl⟩
 case round =>
  obtain ⟨k,m,rfl,rfl,hf,hm0,hm1,hr,rfl⟩:=hrel
  have HR2:=Lib.hid hr; clear hr
  by_cases hlt : k < n
  ·have hk' : k < l.length:=by have:=HN.out; omega
   have HE:=Lib.hid (endF_at l k hk' m)
   obtain ⟨b,off,rfl,_,c0,_⟩:=HC.out k hk'
   obtain ⟨o,ho⟩ : ∃ o,o = l[k].op:=⟨_,rfl⟩
   have HO:=Lib.hid ho
   rw [← ho] at c0
   clear ho
   obtain ⟨a,ha⟩ : ∃ a,a = ar o:=⟨_,rfl⟩
   have hab : -1 ≤ a ∧ a ≤ 2:=by have:=ar_cases o; omega
   obtain ⟨hab1,hab2⟩:=hab
   have HA : ∀ w,Calls Tryz.prog 183 #[.int .i64 o] w fun e w' => e = .returned (.int .i64 a) ∧ w = w':=fun w => ha ▸ operands_any o w
   have HAA:=Lib.hid ha
   clear ha
   have HL:=Lib.hid hlt
   have hm2 : m ≤ 1000000000000000:=by omega
   have hm3 : -1 ≤ m + (a - 1):=by omega
   have hm4 : m + (a - 1) ≤ 1000000000000000:=by omega
   by_cases h1 : a < 0
   ·go_wp2_with (go_at_call 183; refine (HA _).mono ?_; rintro e w2 ⟨rfl,rfl⟩)
    go_ret
    refine ⟨ret_int ?_,rfl⟩
    have:=HR2.out
    rw [HE.out,← HO.out,← HAA.out,if_pos h1] at this
    subst this; rfl
   ·by_cases h2 : m + (a - 1) = 0
    ·have q2 : ((m + (a - 1)) == 0) = true:=by simpa using h2
     have H2:=Lib.hid h2; clear h2
     go_wp2_with (go_at_call 183; refine (HA _).mono ?_; rintro e w2 ⟨rfl,rfl⟩)
     go_ret
     refine ⟨ret_int ?_,rfl⟩
     have:=HR2.out
     rw [HE.out,← HO.out,← HAA.out,if_neg (by omega),if_pos H2.out] at this
     subst this; simp [endI]
    ·have q2 : ((m + (a - 1)) == 0) = false:=by simpa using h2
     have H2:=Lib.hid h2; clear h2
     go_wp2_with (go_at_call 183; refine (HA _).mono ?_; rintro e w2 ⟨rfl,rfl⟩)
     go_roundg (gk - 1)
     case measure => have:=HL.out; omega
     case rel =>
      have h2:=H2.out
      refine ⟨k + 1,m + (a - 1),by go_num,rfl,by omega,by omega,by omega,?_,rfl⟩
      have:=HR2.out
      rw [HE.out,← HO.out,← HAA.out,if_neg (by omega),if_neg h2] at this
      exact this
  ·have HE:=Lib.hid (endF_over l k (by have:=HN.out; omega) m)
   go_wp2
   go_ret
   exact ⟨ret_int (by rw [← HR2.out,HE.out]; rfl),rfl⟩
theorem end_neg (v : Value) (i : Int) (w : World) (h : i < 0) :
  Calls Tryz.prog 141 #[v,.int .i64 i] w fun e w' => e = .returned (.int .i64 (-1)) ∧ w = w':=by
 go_enter Tryz.func141,Tryz.ntmps141
 go_wp2
 go_ret
 exact ⟨rfl,rfl⟩
theorem end_any (l : List Nd) (v : Value) (i : Int) (w : World) (hv : Nds w v l) (hn : l.length ≤ 100000) :
  Calls Tryz.prog 141 #[v,.int .i64 i] w fun e w' => e = .returned (.int .i64 (endL l i)) ∧ w = w':=by
 by_cases h : i < 0
 ·rw [endL_neg l i h]; exact end_neg v i w h
 ·obtain ⟨k,rfl⟩ : ∃ k : Nat,i = k:=⟨i.toNat,by omega⟩
  exact end_nat l v k w hv hn
def lightN (x : Nd) : Bool:=decide (x.nm.size ≤ 100 ∧ x.inn.size ≤ 100)
def lightB (l : List Nd) : Bool:=decide (l.length ≤ 250) && l.all lightN
theorem all_at (p : Nd → Bool) (l : List Nd) (k : Nat) (h : k < l.length) : (l.drop k).all p = (p l[k] && (l.drop (k + 1)).all p):=by
 rw [List.drop_eq_getElem_cons h,List.all_cons]
theorem all_over (p : Nd → Bool) (l : List Nd) (k : Nat) (h : ¬ k < l.length) : (l.drop k).all p = true:=by
 rw [List.drop_eq_nil_of_le (by omega)]; rfl
theorem light_big (l : List Nd) (v : Value) (w : World) (hv : Nds w v l) (hn : l.length ≤ maxLen) (h : 250 < l.length) :
  Calls Tryz.prog 34 #[v] w fun e w' => e = .returned (.bool (lightB l)) ∧ w = w':=by
 have hb : lightB l = false:=by simp [lightB]; omega
 rw [hb]
 obtain ⟨ad,cap,rfl,_⟩:=hv.cases
 unfold maxLen at hn
 clear hv hb
 go_enter Tryz.func34,Tryz.ntmps34
 go_wp2
 go_ret
 exact ⟨rfl,rfl⟩
theorem light_small (l : List Nd) (v : Value) (w : World) (hv : Nds w v l) (h : l.length ≤ 250) :
  Calls Tryz.prog 34 #[v] w fun e w' => e = .returned (.bool (lightB l)) ∧ w = w':=by
 have hb : lightB l = (l.drop 0).all lightN:=by simp [lightB,h]
 rw [hb]
 obtain ⟨R,hR⟩ : ∃ R,(l.drop 0).all lightN = R:=⟨_,rfl⟩
 rw [hR]
 have HR:=Lib.hid hR
 clear hR
 obtain ⟨ad,cap,rfl,hc⟩:=hv.cases
 obtain ⟨n,hN⟩ : ∃ n,n = l.length:=⟨_,rfl⟩
 rw [← hN] at h ⊢
 have HC:=Lib.hid hc
 have HN:=Lib.hid hN
 clear hc hN hv hb
 go_enter Tryz.func34,Tryz.ntmps34
 go_wp2
 go_loopg [3] n (fun fuel i' wr => ∃ k : Nat,i' = .int .i64 k ∧ k ≤ n ∧ n - k ≤ fuel ∧ R = (l.drop k).all lightN ∧ w = wr)
 case atStart => exact ⟨0,rfl,Nat.zero_le _,Nat.le_refl _,HR.out.symm,rfl⟩
 case round =>
  obtain ⟨k,rfl,hk,hf,ha,rfl⟩:=hrel
  have HA:=Lib.hid ha; clear ha
  by_cases hlt : k < n
  ·have hk' : k < l.length:=by have:=HN.out; omega
   have HE:=Lib.hid (all_at lightN l k hk')
   obtain ⟨b,off,rfl,_,_,_,c2,c3,_⟩:=HC.out k hk'
   obtain ⟨x,hx⟩ : ∃ x,x = l[k]:=⟨_,rfl⟩
   have HX:=Lib.hid hx
   rw [← hx] at c2 c3
   clear hx
   obtain ⟨xo,xn,xnm,xin,xp⟩:=x
   simp only [] at c2 c3
   by_cases h1 : 100 < xnm.size
   ·go_wp2
    go_ret
    exact ⟨ret_bool (by rw [HA.out,HE.out,← HX.out]; simp [lightN]; omega),rfl⟩
   ·by_cases h2 : 100 < xin.size
    ·go_wp2
     go_ret
     exact ⟨ret_bool (by rw [HA.out,HE.out,← HX.out]; simp [lightN]; omega),rfl⟩
    ·go_wp2
     go_roundg (gk - 1)
     case measure => omega
     case rel => exact ⟨k + 1,by go_num,by omega,by omega,by rw [HA.out,HE.out,← HX.out]; simp [lightN]; omega,rfl⟩
  ·have HE:=Lib.hid (all_over lightN l k (by have:=HN.out; omega))
   go_wp2
   go_ret
   exact ⟨ret_bool (by rw [HA.out,HE.out]),rfl⟩
theorem light_any (l : List Nd) (v : Value) (w : World) (hv : Nds w v l) (hn : l.length ≤ maxLen) (b : Bool) (hb : lightB l = b) :
  Calls Tryz.prog 34 #[v] w fun e w' => e = .returned (.bool b) ∧ w = w':=by
 subst hb
 by_cases h : 250 < l.length
 ·exact light_big l v w hv hn h
 ·exact light_small l v w hv (by omega)
def alikeN (p : Bool) (a b : Nd) : Prop:=a.op = b.op ∧ a.n = b.n ∧ a.nm = b.nm ∧ a.inn = b.inn ∧ (p = true → a.pl = b.pl)
theorem drewN_plus (w : World) (a b : Nat) : w.drewN (a + b) = (w.drewN a).drewN b:=by
 simp [World.drewN,Nat.add_assoc]
theorem below_end {B : Nat} {w : World} (d : Nat) : Below B w (w.drewN d):=below_drewN (Below.refl _ _) d
end Go.Proofs.YtcghccjnadagcaaGreatDoor
