/- Facts. -/
import Derived.Test.YtcghccjnadagcaaGreatDoorNh
import Derived.Test.YtcghccjnadagcaaGreatDoorKa
import Derived.Test.YtcghccjnadagcaaGreatDoorShelf
import Derived.Lib.QuietBelow
import Derived.Deep.QuietTactic
import Derived.BigQuiet
import Derived.BigRegion
import Derived.Test.YtcghccjnadagcaaGreatDoorRa
import Derived.Deep.DeepCutAuto
set_option maxRecDepth 100000
set_option maxHeartbeats 32000000
namespace Go.Proofs.YtcghccjnadagcaaGreatDoor
open Go.RowKit
def powName : String := "internal/strconv.uint64pow10"
def Tabs (w : World) : Prop:=Sgn w ∧ ∀ w',Below w.heap.size w w' → Lib.TabIs Tryz.prog w' powName .u64 Lib.pow10Tab
theorem Tabs.below {w w' : World} (h : Tabs w) (hb : Below w.heap.size w w') : Tabs w':=⟨h.1.below hb,fun w2 h2 => h.2 w2 (hb.trans (h2.mono hb.size))⟩
theorem grow_below (w : World) (k : Nat) (os : Array Obj) : Below w.heap.size w (Sort.grow (w.drewN k) os):=by
 refine ⟨rfl,rfl,rfl,?_,fun i hi => ?_⟩
 ·show w.heap.size ≤ (w.heap ++ os).size
  simp
 ·show (w.heap ++ os)[i]? = w.heap[i]?
  rw [Array.getElem?_append_left hi]
def dg (n : Int) : List UInt8:=Lib.decDigits n.toNat
theorem itoa_any (n : Int) (w : World) (h0 : 0 ≤ n) (h1 : n ≤ 9999) (ht : Tabs w) :
  Calls Tryz.prog 54 #[.int .i64 n] w fun e w' => e = .returned (.string ⟨(dg n).toArray⟩) ∧ Below w.heap.size w w':=by
 refine (Tryz.strconv_Itoa n (by omega) (by omega) w (ht.2 w (Below.refl _ _))).mono ?_
 rintro e w' ⟨rfl,k,os,rfl⟩
 refine ⟨?_,grow_below w k os⟩
 unfold Lib.itoa dg
 rw [if_neg (by omega)]
def wrapB : Ex → List UInt8 → List UInt8
 | .bin _ _ _,s => [40] ++ s ++ [41]
 | _,s => s
def showE : Ex → List UInt8
 | .leaf x => if x.op = 1 then dg x.n else if x.op = 4 then x.inn.data.toList ++ [46] ++ x.nm.data.toList else x.nm.data.toList
 | .un _ a => [33] ++ wrapB a (showE a)
 | .bin x a b => wrapB a (showE a) ++ [32] ++ sgO x.op.toNat ++ [32] ++ wrapB b (showE b)
def NdsC (w : World) (v : Value) (l : List Nd) : Prop:=
 ∃ ad cap,v = .slice ad l.length cap ∧ l.length ≤ cap ∧ cap ≤ 9223372036854775807 ∧ ∀ i,(hi : i < l.length) → ∃ b off,ad = some ⟨b,off,none⟩ ∧ b < w.heap.size ∧ NdAt w b (off + i * 5) l[i]
theorem NdsC.nds {w : World} {v : Value} {l : List Nd} (h : NdsC w v l) : Nds w v l:=by
 obtain ⟨ad,cap,rfl,_,_,hc⟩:=h
 by_cases h0 : l.length = 0
 ·have:=List.eq_nil_of_length_eq_zero h0
  subst this
  exact .inl ⟨rfl,ad,cap,rfl⟩
 ·obtain ⟨b,off,rfl,hb,_⟩:=hc 0 (by omega)
  refine .inr ⟨b,off,cap,rfl,hb,fun i hi => ?_⟩
  obtain ⟨b',off',he,_,h⟩:=hc i hi
  cases he
  exact h
theorem NdsC.below {w w' : World} {v : Value} {l : List Nd} (h : NdsC w v l) (hb : Below w.heap.size w w') : NdsC w' v l:=by
 obtain ⟨ad,cap,hv,h1,h2,hc⟩:=h
 refine ⟨ad,cap,hv,h1,h2,fun i hi => ?_⟩
 obtain ⟨b,off,he,hl,h⟩:=hc i hi
 exact ⟨b,off,he,Nat.lt_of_lt_of_le hl hb.size,h.below hb hl⟩
theorem NdsC.drop {w : World} {b off cap : Nat} {l : List Nd} (h : NdsC w (.slice (some ⟨b,off,none⟩) l.length cap) l) (k : Nat) (hk : k < l.length) : NdsC w (.slice (some ⟨b,off + k * 5,none⟩) (l.length - k) (cap - k)) (l.drop k):=by
 obtain ⟨ad,cap',hv,h1,h2,hc⟩:=h
 cases hv
 refine ⟨_,_,by rw [List.length_drop],by rw [List.length_drop]; omega,by omega,fun i hi => ?_⟩
 rw [List.length_drop] at hi
 obtain ⟨b',off',he,hl,h⟩:=hc (k + i) (by omega)
 cases he
 refine ⟨b,off + k * 5,rfl,hl,?_⟩
 rw [List.getElem_drop,show off + k * 5 + i * 5 = off + (k + i) * 5 by omega]
 exact h
theorem NdsC.none {w : World} (ad : Option Addr) (cap : Nat) (hc : cap ≤ 9223372036854775807) : NdsC w (.slice ad 0 cap) []:=⟨ad,cap,rfl,Nat.zero_le _,hc,fun _ hi => absurd hi (Nat.not_lt_zero _)⟩
theorem NdsC.take {w : World} {ad : Option Addr} {cap : Nat} {l : List Nd} (h : NdsC w (.slice ad l.length cap) l) (k : Nat) (hk : k ≤ l.length) : NdsC w (.slice ad k cap) (l.take k):=by
 obtain ⟨ad',cap',hv,h1,h2,hc⟩:=h
 cases hv
 refine ⟨ad,cap,by rw [List.length_take,Nat.min_eq_left hk],by rw [List.length_take]; omega,h2,fun i hi => ?_⟩
 rw [List.length_take] at hi
 obtain ⟨b',off',he,hl,h⟩:=hc i (by omega)
 refine ⟨b',off',he,hl,?_⟩
 rw [List.getElem_take]
 exact h
theorem nameB_size (s : ByteArray) (h : nameB s = true) : s.size ≤ 16:=by
 unfold nameB at h
 simp at h
 omega
theorem ba_eq {a : ByteArray} {l : List UInt8} (h : a.data.toList = l) : a = ⟨l.toArray⟩:=by subst h; rfl
theorem ret_str {a b : ByteArray} (h : a = b) : Ending.returned (.string a) = .returned (.string b):=by rw [h]
def TextIs (s : List UInt8) (w : World) (e : Ending) (w' : World) : Prop:=e = .returned (.string ⟨s.toArray⟩) ∧ Below w.heap.size w w'
theorem text_leaf (x : Nd) (v : Value) (w : World) (hv : NdsC w v [x]) (hx : ar x.op = 0) (hok : okN x = true) (ht : Tabs w) :
  Calls Tryz.prog 111 #[v] w (TextIs (showE (.leaf x)) w):=by
 obtain ⟨ad,cap,rfl,h1,h2,hc⟩:=hv
 obtain ⟨b,off,rfl,hb,x0,x1,x2,x3,x4⟩:=hc 0 (by simp)
 obtain ⟨xo,xn,xm,xi,xp⟩:=x
 simp only [List.getElem_cons_zero,Nat.zero_mul,Nat.add_zero] at x0 x1 x2 x3 x4
 simp only [List.length_cons,List.length_nil,Nat.zero_add] at h1 ⊢
 clear hc
 have HT:=Lib.hid ht
 have HOK:=Lib.hid hok
 clear ht hok
 have hcase : xo = 1 ∨ xo = 2 ∨ xo = 3 ∨ xo = 4:=by
  have h : ar xo = 0:=hx
  unfold ar at h
  split at h
  ·omega
  ·split at h
   ·omega
   ·split at h <;> omega
 clear hx
 have hs : ∀ y : ByteArray,(⟨y.data.toList.toArray⟩ : ByteArray) = y:=fun y => rfl
 clear hs
 by_cases hc1 : cap = 1
 ·subst hc1
  rcases hcase with rfl | rfl | rfl | rfl
  ·obtain ⟨n0,n9⟩ : 0 ≤ xn ∧ xn ≤ 9999:=by
    have h:=HOK.out
    simp [okN,numB] at h
    exact h.2.1
   have HIT : ∀ w',Below w.heap.size w w' → Calls Tryz.prog 54 #[.int .i64 xn] w' fun e w'' => e = .returned (.string ⟨(dg xn).toArray⟩) ∧ Below w'.heap.size w' w'':=fun w' h => itoa_any xn w' n0 n9 (HT.out.below h)
   have HI2:=Lib.hid HIT
   clear HIT
   go_enter Tryz.func111,Tryz.ntmps111
   go_wp2_with fail
   go_region
   have hb1 : Below w.heap.size w ((w.alloc (.cells #[.int .i64 1,.int .i64 xn,.string xm,.string xi,.int .i64 xp] 46)).drew):=((Below.refl _ _).alloc (Nat.le_refl _) _).drew
   go_wp2_with fail
   refine (HI2.out _ hb1).mono ?_
   rintro e w2 ⟨rfl,hb2⟩
   go_wp2
   go_ret
   exact ⟨rfl,hb1.trans (hb2.mono hb1.size)⟩
  ·go_enter Tryz.func111,Tryz.ntmps111
   go_wp2_with fail
   go_region
   go_wp2
   go_ret
   exact ⟨rfl,((Below.refl _ _).alloc (Nat.le_refl _) _).drew⟩
  ·go_enter Tryz.func111,Tryz.ntmps111
   go_wp2_with fail
   go_region
   go_wp2
   go_ret
   exact ⟨rfl,((Below.refl _ _).alloc (Nat.le_refl _) _).drew⟩
  ·obtain ⟨s1,s2⟩ : xm.size ≤ 16 ∧ xi.size ≤ 16:=by
    have h:=HOK.out
    simp [okN] at h
    exact ⟨nameB_size xm h.2.2.1,nameB_size xi h.2.2.2⟩
   go_enter Tryz.func111,Tryz.ntmps111
   go_wp2_with fail
   go_region
   go_wp2
   go_ret
   exact ⟨ret_str (ba_eq (by simp [showE])),((Below.refl _ _).alloc (Nat.le_refl _) _).drew⟩
 ·rcases hcase with rfl | rfl | rfl | rfl
  ·obtain ⟨n0,n9⟩ : 0 ≤ xn ∧ xn ≤ 9999:=by
    have h:=HOK.out
    simp [okN,numB] at h
    exact h.2.1
   have HIT : ∀ w',Below w.heap.size w w' → Calls Tryz.prog 54 #[.int .i64 xn] w' fun e w'' => e = .returned (.string ⟨(dg xn).toArray⟩) ∧ Below w'.heap.size w' w'':=fun w' h => itoa_any xn w' n0 n9 (HT.out.below h)
   have HI2:=Lib.hid HIT
   clear HIT
   go_enter Tryz.func111,Tryz.ntmps111
   go_wp2_with fail
   go_region
   have hb1 : Below w.heap.size w ((w.alloc (.cells #[.int .i64 1,.int .i64 xn,.string xm,.string xi,.int .i64 xp] 46)).drew):=((Below.refl _ _).alloc (Nat.le_refl _) _).drew
   go_wp2_with fail
   refine (HI2.out _ hb1).mono ?_
   rintro e w2 ⟨rfl,hb2⟩
   go_wp2
   go_ret
   exact ⟨rfl,hb1.trans (hb2.mono hb1.size)⟩
  ·go_enter Tryz.func111,Tryz.ntmps111
   go_wp2_with fail
   go_region
   go_wp2
   go_ret
   exact ⟨rfl,((Below.refl _ _).alloc (Nat.le_refl _) _).drew⟩
  ·go_enter Tryz.func111,Tryz.ntmps111
   go_wp2_with fail
   go_region
   go_wp2
   go_ret
   exact ⟨rfl,((Below.refl _ _).alloc (Nat.le_refl _) _).drew⟩
  ·obtain ⟨s1,s2⟩ : xm.size ≤ 16 ∧ xi.size ≤ 16:=by
    have h:=HOK.out
    simp [okN] at h
    exact ⟨nameB_size xm h.2.2.1,nameB_size xi h.2.2.2⟩
   go_enter Tryz.func111,Tryz.ntmps111
   go_wp2_with fail
   go_region
   go_wp2
   go_ret
   exact ⟨ret_str (ba_eq (by simp [showE])),((Below.refl _ _).alloc (Nat.le_refl _) _).drew⟩
theorem plc_in (l : List Tok) (i : Nat) (h : i < l.length) : plc l i = l[i].2.2.2:=by unfold plc; rw [tokO_in l i h]
theorem own_set {w : World} {B n r o t : Nat} {v u : Value} {xs : List Value} {c : Array Value} {fz : Nat × Nat} (h : w.ownsRow B 46 5 v n xs) (hr : w.heap[r]? = some (.cells c t fz)) (ht : t ≠ 46) : (w.setCell ⟨r,o,none⟩ u).ownsRow B 46 5 v n xs:=by
 obtain ⟨h1,h2⟩:=h
 refine ⟨h1,?_⟩
 rcases h2 with h2 | ⟨g,cap,cur,hv,hg,hh,hr2⟩
 ·exact .inl h2
 ·refine .inr ⟨g,cap,cur,hv,hg,?_,hr2⟩
  rw [Below.heap_setCell _ _ _ _ (fun e => ?_)]
  ·exact hh
  ·have e' : g = r:=e
   rw [e',hr] at hh
   cases hh
   exact ht rfl
theorem PtIn.set3 {w : World} {B c r o : Nat} {p : PtR} {x0 x1 x2 u : Value} (h : PtIn w B p c) (hr : Blk3 w r x0 x1 x2) : PtIn (w.setCell ⟨r,o,none⟩ u) B p c:=⟨own_set h.1 hr (by decide),h.2⟩
theorem PtIn.setP {w : World} {B c b o : Nat} {p : PtR} {lv u : Value} {nx op er pl : Int} (h : PtIn w B p c) (hr : Pst w b lv nx op er pl) : PtIn (w.setCell ⟨b,o,none⟩ u) B p c:=⟨own_set h.1 hr (by decide),h.2⟩
theorem PtIn.below {w w' : World} {B c : Nat} {p : PtR} (h : PtIn w B p c) (hb : Below w.heap.size w w') : PtIn w' B p c:=⟨own_below h.1 hb,h.2⟩
theorem PtIn.keep {w w' : World} {B c b : Nat} {p : PtR} (h : PtIn w B p c) (hb : Keep b w w') (hB : b < B) : PtIn w' B p c:=⟨own_keep h.1 hb hB,h.2⟩
theorem PtIn.alloc {w : World} {B c : Nat} {p : PtR} (h : PtIn w B p c) (o : Obj) : PtIn (w.alloc o) B p c:=h.below ((Below.refl _ _).alloc (Nat.le_refl _) _)
theorem PtIn.more {w : World} {B c c' : Nat} {p : PtR} (h : PtIn w B p c) (hc : c ≤ c') : PtIn w B p c':=by
 obtain ⟨h1,h2,h3,h4,h5,h6⟩:=h
 exact ⟨h1,h2,h3,by omega,h5,h6⟩
def fill3 (w : World) (r : Nat) (u0 u1 u2 : Value) : World:=((w.setCell ⟨r,0,none⟩ u0).setCell ⟨r,1,none⟩ u1).setCell ⟨r,2,none⟩ u2
theorem fin_part {w W : World} {b r B c : Nat} {lv x0 x1 x2 : Value} {nx op er pl : Int} {p : PtR} (hP : Pst W b lv nx op er pl) (hR : Blk3 W r x0 x1 x2) (hrb : r ≠ b) (hI : PtIn W B p c) (hK : Keep b w W) (hr : w.heap.size ≤ r) (u0 u1 u2 : Value) :
  Pst (fill3 W r u0 u1 u2) b lv nx op er pl ∧ PtIn (fill3 W r u0 u1 u2) B p c ∧ Keep b w (fill3 W r u0 u1 u2) ∧ Blk3 (fill3 W r u0 u1 u2) r u0 u1 u2:=by
 have h1:=hR.set.1 u0
 have h2:=h1.set.2.1 u1
 exact ⟨((hP.other _ _ hrb _).other _ _ hrb _).other _ _ hrb _,((hI.set3 hR).set3 h1).set3 h2,((hK.setNew hr _).setNew hr _).setNew hr _,h2.set.2.2 u2⟩
theorem results_part {fn : Func} {p : Tmp} (h : fn.results = #[.cell p 201]) (tmps : Array Value) (w : World) (r : Nat) (u0 u1 u2 : Value) (hp : tmps.getD p undef = .pointer (some ⟨r,0,none⟩)) (hb : Blk3 w r u0 u1 u2) :
  (results fn tmps).run Tryz.prog w = .ok (.agg #[u0,u1,u2]) w:=by
 obtain ⟨⟨y0,y1,y2⟩,_⟩:=hb.facts
 have hp2 : tmps[p]?.getD undef = .pointer (some ⟨r,0,none⟩):=by simpa using hp
 simp only [results,h]
 simp [hp2,go_sem,y0,y1,y2]
theorem pt_zero (w : World) (B c : Nat) : PtIn w B ⟨none,0,0,0,[]⟩ c:=⟨World.ownsRow_nil _ _ _ _,by simp,by simp,by simp,by simp,by simp⟩
theorem nested_go73 (l : List Tok) (b : Nat) (lv : Value) (i d : Nat) (r : Res) (w : World) (hp : Pst w b lv i d 0 0) (ht : TokS w b lv l) (hs : Sgn w) (h0 : 1 < b) (hd : d < 30) (hn : l.length ≤ 100000) (hlt : i < l.length)
  (hF : ∀ W,Pst W b lv ((i + 1 : Nat) : Int) ((d + 1 : Nat) : Int) 0 0 → TokS W b lv l → Sgn W → Calls Tryz.prog 244 #[.pointer (some ⟨b,0,none⟩)] W (PPost l lv b (d + 1) (i + 1) r W)) :
  Calls Tryz.prog 245 #[.pointer (some ⟨b,0,none⟩),.func (.func 244) #[] #[]] w (PPost l lv b d (i + 1) r w):=by
 have hb:=hp.lt
 obtain ⟨⟨c0,c1,c2,c3,c4⟩,f1,f2,f3,f4⟩:=hp.facts
 have HP:=Lib.hid hp
 have hrb : w.heap.size ≠ b:=by omega
 have HF : Hid (∀ W,Pst W b lv ((i : Int) + 1) ((d : Int) + 1) 0 0 → TokS W b lv l → Sgn W → Calls Tryz.prog 244 #[.pointer (some ⟨b,0,none⟩)] W (PPost l lv b (d + 1) (i + 1) r W)):=fun W h => hF W (by rw [Int.natCast_add,Int.natCast_add]; exact h)
 have HT:=Lib.hid ht
 have HS:=Lib.hid hs
 have q1 : ((d : Int) == 30) = false:=by simp; omega
 clear hp hF ht hs
 go_enter Tryz.func245,Tryz.ntmps245
 go_wp2_with fail
 have hK1 : Keep b w (((w.setCell ⟨b,1,none⟩ (.int .i64 ((i : Int) + 1))).setCell ⟨b,2,none⟩ (.int .i64 ((d : Int) + 1))).alloc (.cells #[.slice none 0 0,.int .i64 0,.int .i64 0] 201)):=(((Keep.refl b w).setCell 1 _).setCell 2 _).alloc _
 have hP1 : Pst (((w.setCell ⟨b,1,none⟩ (.int .i64 ((i : Int) + 1))).setCell ⟨b,2,none⟩ (.int .i64 ((d : Int) + 1))).alloc (.cells #[.slice none 0 0,.int .i64 0,.int .i64 0] 201)) b lv ((i : Int) + 1) ((d : Int) + 1) 0 0:=((HP.out.set.1 _).set.2.1 _).alloc _
 have hR1 : Blk3 (((w.setCell ⟨b,1,none⟩ (.int .i64 ((i : Int) + 1))).setCell ⟨b,2,none⟩ (.int .i64 ((d : Int) + 1))).alloc (.cells #[.slice none 0 0,.int .i64 0,.int .i64 0] 201)) w.heap.size (.slice none 0 0) (.int .i64 0) (.int .i64 0):=by
  have h:=heap_alloc_new ((w.setCell ⟨b,1,none⟩ (.int .i64 ((i : Int) + 1))).setCell ⟨b,2,none⟩ (.int .i64 ((d : Int) + 1))) (.cells #[.slice none 0 0,.int .i64 0,.int .i64 0] 201)
  simpa [Blk3,World.setCell] using h
 have HT1:=Lib.hid (HT.out.keep hK1)
 have HS1:=Lib.hid (HS.out.keep hK1 h0)
 generalize (((w.setCell ⟨b,1,none⟩ (.int .i64 ((i : Int) + 1))).setCell ⟨b,2,none⟩ (.int .i64 ((d : Int) + 1))).alloc (.cells #[.slice none 0 0,.int .i64 0,.int .i64 0] 201)) = w1 at hK1 hP1 hR1 HT1 HS1 ⊢
 have HP1:=Lib.hid hP1
 have HR1:=Lib.hid hR1
 have HK1:=Lib.hid hK1
 clear hP1 hR1 hK1 c0 c1 c2 c3 c4 f1 f2 f3 f4 HT HS
 go_wp2_with fail
 refine (HF.out _ HP1.out HT1.out HS1.out).mono ?_
 rintro e w2 ⟨⟨pad,pcap,ps,pd,pxs⟩,j,er,pl,rfl,hp2,hin,hij,hjl,hk2,hres,hz⟩
 have HIN:=Lib.hid hin
 have HRES:=Lib.hid hres
 have HK2:=Lib.hid (HK1.out.trans hk2)
 have HR2:=Lib.hid (HR1.out.keep hk2 hrb)
 have HP2:=Lib.hid hp2
 have HZ:=Lib.hid hz
 have hw2 : w.heap.size ≤ w2.heap.size:=HK2.out.size
 have hrw : w.heap.size < w2.heap.size:=HR2.out.lt
 have hb2 : b < w2.heap.size:=HP2.out.lt
 obtain ⟨⟨c0,c1,c2,c3,c4⟩,f1,f2,f3,f4⟩:=hp2.facts
 obtain ⟨⟨r0,r1,r2⟩,rf0,rf1,rf2⟩:=HR2.out.facts
 clear hin hres hk2 hp2 hz HK1 HR1 HP1 HF HT1 HS1
 simp only [PtR.nv]
 have e1 : ((d : Int) + 1) - 1 = d:=by omega
 obtain ⟨m,hm⟩ : ∃ m,m = pxs.length:=⟨_,rfl⟩
 rw [← hm]
 have HM:=Lib.hid hm
 clear hm
 go_wp2_with fail
 obtain ⟨z1,z2,z3,z4⟩:=fin_part (HP2.out.set.2.1 d) (HR2.out.other b 2 hrb _) hrb (HIN.out.setP HP2.out) (HK2.out.setCell 2 _) (Nat.le_refl _) (.slice pad m pcap) (.int .i64 ps) (.int .i64 pd)
 refine bodyPost_ret (v:=.agg #[.slice pad m pcap,.int .i64 ps,.int .i64 pd]) (results_part Tryz.results245 _ _ w.heap.size _ _ _ rfl (z4.alloc _)) rfl ?_
 refine ⟨⟨pad,pcap,ps,pd,pxs⟩,j,er,pl,?_,z1.alloc _,z2.alloc _,hij,hjl,z3.alloc _,HRES.out,HZ.out⟩
 rw [HM.out]; rfl
theorem nested_go31 (l : List Tok) (b : Nat) (lv : Value) (i d : Nat) (r : Res) (w : World) (hp : Pst w b lv i d 0 0) (ht : TokS w b lv l) (hs : Sgn w) (h0 : 1 < b) (hd : d < 30) (hn : l.length ≤ 100000) (hlt : i < l.length)
  (hF : ∀ W,Pst W b lv ((i + 1 : Nat) : Int) ((d + 1 : Nat) : Int) 0 0 → TokS W b lv l → Sgn W → Calls Tryz.prog 196 #[.pointer (some ⟨b,0,none⟩)] W (PPost l lv b (d + 1) (i + 1) r W)) :
  Calls Tryz.prog 245 #[.pointer (some ⟨b,0,none⟩),.func (.func 196) #[] #[]] w (PPost l lv b d (i + 1) r w):=by
 have hb:=hp.lt
 obtain ⟨⟨c0,c1,c2,c3,c4⟩,f1,f2,f3,f4⟩:=hp.facts
 have HP:=Lib.hid hp
 have hrb : w.heap.size ≠ b:=by omega
 have HF : Hid (∀ W,Pst W b lv ((i : Int) + 1) ((d : Int) + 1) 0 0 → TokS W b lv l → Sgn W → Calls Tryz.prog 196 #[.pointer (some ⟨b,0,none⟩)] W (PPost l lv b (d + 1) (i + 1) r W)):=fun W h => hF W (by rw [Int.natCast_add,Int.natCast_add]; exact h)
 have HT:=Lib.hid ht
 have HS:=Lib.hid hs
 have q1 : ((d : Int) == 30) = false:=by simp; omega
 clear hp hF ht hs
 go_enter Tryz.func245,Tryz.ntmps245
 go_wp2_with fail
 have hK1 : Keep b w (((w.setCell ⟨b,1,none⟩ (.int .i64 ((i : Int) + 1))).setCell ⟨b,2,none⟩ (.int .i64 ((d : Int) + 1))).alloc (.cells #[.slice none 0 0,.int .i64 0,.int .i64 0] 201)):=(((Keep.refl b w).setCell 1 _).setCell 2 _).alloc _
 have hP1 : Pst (((w.setCell ⟨b,1,none⟩ (.int .i64 ((i : Int) + 1))).setCell ⟨b,2,none⟩ (.int .i64 ((d : Int) + 1))).alloc (.cells #[.slice none 0 0,.int .i64 0,.int .i64 0] 201)) b lv ((i : Int) + 1) ((d : Int) + 1) 0 0:=((HP.out.set.1 _).set.2.1 _).alloc _
 have hR1 : Blk3 (((w.setCell ⟨b,1,none⟩ (.int .i64 ((i : Int) + 1))).setCell ⟨b,2,none⟩ (.int .i64 ((d : Int) + 1))).alloc (.cells #[.slice none 0 0,.int .i64 0,.int .i64 0] 201)) w.heap.size (.slice none 0 0) (.int .i64 0) (.int .i64 0):=by
  have h:=heap_alloc_new ((w.setCell ⟨b,1,none⟩ (.int .i64 ((i : Int) + 1))).setCell ⟨b,2,none⟩ (.int .i64 ((d : Int) + 1))) (.cells #[.slice none 0 0,.int .i64 0,.int .i64 0] 201)
  simpa [Blk3,World.setCell] using h
 have HT1:=Lib.hid (HT.out.keep hK1)
 have HS1:=Lib.hid (HS.out.keep hK1 h0)
 generalize (((w.setCell ⟨b,1,none⟩ (.int .i64 ((i : Int) + 1))).setCell ⟨b,2,none⟩ (.int .i64 ((d : Int) + 1))).alloc (.cells #[.slice none 0 0,.int .i64 0,.int .i64 0] 201)) = w1 at hK1 hP1 hR1 HT1 HS1 ⊢
 have HP1:=Lib.hid hP1
 have HR1:=Lib.hid hR1
 have HK1:=Lib.hid hK1
 clear hP1 hR1 hK1 c0 c1 c2 c3 c4 f1 f2 f3 f4 HT HS
 go_wp2_with fail
 refine (HF.out _ HP1.out HT1.out HS1.out).mono ?_
 rintro e w2 ⟨⟨pad,pcap,ps,pd,pxs⟩,j,er,pl,rfl,hp2,hin,hij,hjl,hk2,hres,hz⟩
 have HIN:=Lib.hid hin
 have HRES:=Lib.hid hres
 have HK2:=Lib.hid (HK1.out.trans hk2)
 have HR2:=Lib.hid (HR1.out.keep hk2 hrb)
 have HP2:=Lib.hid hp2
 have HZ:=Lib.hid hz
 have hw2 : w.heap.size ≤ w2.heap.size:=HK2.out.size
 have hrw : w.heap.size < w2.heap.size:=HR2.out.lt
 have hb2 : b < w2.heap.size:=HP2.out.lt
 obtain ⟨⟨c0,c1,c2,c3,c4⟩,f1,f2,f3,f4⟩:=hp2.facts
 obtain ⟨⟨r0,r1,r2⟩,rf0,rf1,rf2⟩:=HR2.out.facts
 clear hin hres hk2 hp2 hz HK1 HR1 HP1 HF HT1 HS1
 simp only [PtR.nv]
 have e1 : ((d : Int) + 1) - 1 = d:=by omega
 obtain ⟨m,hm⟩ : ∃ m,m = pxs.length:=⟨_,rfl⟩
 rw [← hm]
 have HM:=Lib.hid hm
 clear hm
 go_wp2_with fail
 obtain ⟨z1,z2,z3,z4⟩:=fin_part (HP2.out.set.2.1 d) (HR2.out.other b 2 hrb _) hrb (HIN.out.setP HP2.out) (HK2.out.setCell 2 _) (Nat.le_refl _) (.slice pad m pcap) (.int .i64 ps) (.int .i64 pd)
 refine bodyPost_ret (v:=.agg #[.slice pad m pcap,.int .i64 ps,.int .i64 pd]) (results_part Tryz.results245 _ _ w.heap.size _ _ _ rfl (z4.alloc _)) rfl ?_
 refine ⟨⟨pad,pcap,ps,pd,pxs⟩,j,er,pl,?_,z1.alloc _,z2.alloc _,hij,hjl,z3.alloc _,HRES.out,HZ.out⟩
 rw [HM.out]; rfl
theorem ResOK_leaf (x : Nd) (p : PtR) (j : Nat) (h1 : p.s = 1) (h2 : p.d = 0) (h3 : p.s ≤ 200 ∧ p.d ≤ 30 → p.xs = x :: []) : ResOK (.ok (.leaf x) j) p j 0 0:=
 ⟨rfl,rfl,rfl,by rw [h1]; rfl,by rw [h2]; rfl,h3⟩
theorem tokv_parts (l : List Tok) (i : Nat) : tokV l i = .agg #[.int .i64 (tokO l i).1,.string (txt l i),.int .i64 (tokO l i).2.2.1,.int .i64 (plc l i)]:=tokV_eq l i
structure PCtx (l : List Tok) (b : Nat) (lv : Value) (w : World) : Prop where
 ht : TokS w b lv l
 hs : Sgn w
 h0 : 1 < b
 hn : l.length ≤ 100000
 ok : TokOK l
theorem PCtx.keep {l : List Tok} {b : Nat} {lv : Value} {w w' : World} (h : PCtx l b lv w) (hk : Keep b w w') : PCtx l b lv w':=⟨h.ht.keep hk,h.hs.keep hk h.h0,h.h0,h.hn,h.ok⟩
theorem PCtx.token {l : List Tok} {b : Nat} {lv : Value} {w : World} (h : PCtx l b lv w) {i : Nat} {op er pl : Int} (hp : Pst w b lv i op er pl) :
  Calls Tryz.prog 242 #[.pointer (some ⟨b,0,none⟩)] w fun e w' => e = .returned (.agg #[.int .i64 (tokO l i).1,.string (txt l i),.int .i64 (tokO l i).2.2.1,.int .i64 (plc l i)]) ∧ Below w.heap.size w w':=by
 rw [← tokv_parts]; exact token_any l b lv i op er pl w hp h.ht h.hn
theorem PCtx.sign {l : List Tok} {b : Nat} {lv : Value} {w : World} (h : PCtx l b lv w) {i : Nat} {op er pl : Int} (hp : Pst w b lv i op er pl) (x : ByteArray) (r : Bool) (hr : sgAt l i x.data.toList = r) :
  Calls Tryz.prog 240 #[.pointer (some ⟨b,0,none⟩),.string x] w fun e w' => e = .returned (.bool r) ∧ Below w.heap.size w w':=sign_is l b lv i op er pl x w hp h.ht h.hn r hr
theorem PCtx.name {l : List Tok} {b : Nat} {lv : Value} {w : World} (h : PCtx l b lv w) {i : Nat} {op er pl : Int} (hp : Pst w b lv i op er pl) (r : Bool) (hr : nmAt l i = r) :
  Calls Tryz.prog 247 #[.pointer (some ⟨b,0,none⟩)] w fun e w' => e = .returned (.bool r) ∧ Below w.heap.size w w':=name_is l b lv i op er pl w hp h.ht h.hn (h.ok i).2.1 r hr
theorem PCtx.refuse {l : List Tok} {b : Nat} {lv : Value} {w : World} (h : PCtx l b lv w) {i : Nat} {op er pl : Int} (hp : Pst w b lv i op er pl) (hz : er = 0 → pl = 0) :
  Calls Tryz.prog 246 #[.pointer (some ⟨b,0,none⟩)] w (FailTo b lv i op (fst0 er (refK l i).1) (snd0 er (refK l i).2 pl) w):=refuse_any l b lv i op er pl w hp hz h.ht h.hn h.ok
theorem size_set (w : World) (a : Addr) (u : Value) : (w.setCell a u).heap.size = w.heap.size:=by simp [World.setCell]
theorem blk_new_set (w : World) (a : Addr) (u : Value) (o : Obj) : ((w.setCell a u).alloc o).heap[w.heap.size]? = some o:=by
 have h:=heap_alloc_new (w.setCell a u) o
 rwa [size_set] at h
theorem Blk5.set5 {w : World} {r : Nat} {x : Nd} (h : Blk5 w r x) (a0 a1 : Int) (a2 a3 : ByteArray) (a4 : Int) :
  Blk5 (((((w.setCell ⟨r,0,none⟩ (.int .i64 a0)).setCell ⟨r,1,none⟩ (.int .i64 a1)).setCell ⟨r,2,none⟩ (.string a2)).setCell ⟨r,3,none⟩ (.string a3)).setCell ⟨r,4,none⟩ (.int .i64 a4)) r ⟨a0,a1,a2,a3,a4⟩:=by
 unfold Blk5 at h
 have hlt:=(Array.getElem?_eq_some_iff.1 h).1
 simp [Blk5,World.setCell,Array.getElem?_modify,h]
theorem fin5 {w W : World} {b r rr : Nat} {lv x0 x1 x2 : Value} {nx op er pl : Int} {x : Nd} (h : Blk5 W r x) (hrb : r ≠ b) (hr : rr ≠ r) (hK : Keep b w W) (hP : Pst W b lv nx op er pl) (hR : Blk3 W rr x0 x1 x2) (hwr : w.heap.size ≤ r) (a0 a1 : Int) (a2 a3 : ByteArray) (a4 : Int) :
  ∃ gB : Nat,Value.pointer (some ⟨r,0,none⟩) = .pointer (some ⟨gB,0,none⟩) ∧ Blk5 (((((W.setCell ⟨r,0,none⟩ (.int .i64 a0)).setCell ⟨r,1,none⟩ (.int .i64 a1)).setCell ⟨r,2,none⟩ (.string a2)).setCell ⟨r,3,none⟩ (.string a3)).setCell ⟨r,4,none⟩ (.int .i64 a4)) gB ⟨a0,a1,a2,a3,a4⟩ ∧ gB ≠ b ∧
   Keep b w (((((W.setCell ⟨r,0,none⟩ (.int .i64 a0)).setCell ⟨r,1,none⟩ (.int .i64 a1)).setCell ⟨r,2,none⟩ (.string a2)).setCell ⟨r,3,none⟩ (.string a3)).setCell ⟨r,4,none⟩ (.int .i64 a4)) ∧
   Pst (((((W.setCell ⟨r,0,none⟩ (.int .i64 a0)).setCell ⟨r,1,none⟩ (.int .i64 a1)).setCell ⟨r,2,none⟩ (.string a2)).setCell ⟨r,3,none⟩ (.string a3)).setCell ⟨r,4,none⟩ (.int .i64 a4)) b lv nx op er pl ∧
   Blk3 (((((W.setCell ⟨r,0,none⟩ (.int .i64 a0)).setCell ⟨r,1,none⟩ (.int .i64 a1)).setCell ⟨r,2,none⟩ (.string a2)).setCell ⟨r,3,none⟩ (.string a3)).setCell ⟨r,4,none⟩ (.int .i64 a4)) rr x0 x1 x2:=
 ⟨r,rfl,h.set5 a0 a1 a2 a3 a4,hrb,((((hK.setNew hwr _).setNew hwr _).setNew hwr _).setNew hwr _).setNew hwr _,
  ((((hP.other _ _ hrb _).other _ _ hrb _).other _ _ hrb _).other _ _ hrb _).other _ _ hrb _,((((hR.other _ _ hr _).other _ _ hr _).other _ _ hr _).other _ _ hr _).other _ _ hr _⟩
theorem refK_pos (l : List Tok) (i : Nat) : (refK l i).1 ≠ 0:=by unfold refK; split <;> simp
theorem named_reg (l : List Tok) (b : Nat) (lv : Value) (i d : Nat) (w : World) (hp : Pst w b lv i d 0 0) (hx : PCtx l b lv w) (hlt : i < l.length) (hdot : sgAt l (i + 1) [46] = false) :
  Calls Tryz.prog 248 #[.pointer (some ⟨b,0,none⟩)] w (PPost l lv b d i (namedR l i) w):=by
 have hr : namedR l i = .ok (.leaf ⟨2,0,txt l i,⟨#[]⟩,plc l i⟩) (i + 1):=by unfold namedR; rw [hdot]; rfl
 rw [hr]; clear hr
 have hb:=hp.lt
 have hn:=hx.hn
 have HP:=Lib.hid hp
 have HX:=Lib.hid hx
 have hrb : w.heap.size ≠ b:=by omega
 have HDOT:=Lib.hid hdot
 obtain ⟨⟨c0,c1,c2,c3,c4⟩,f1,f2,f3,f4⟩:=hp.facts
 clear hp hx hdot
 go_enter Tryz.func248,Tryz.ntmps248
 go_wp2_with fail
 have hK1 : Keep b w (w.alloc (.cells #[.slice none 0 0,.int .i64 0,.int .i64 0] 201)):=(Keep.refl b w).alloc _
 have hP1 : Pst (w.alloc (.cells #[.slice none 0 0,.int .i64 0,.int .i64 0] 201)) b lv i d 0 0:=HP.out.alloc _
 have hR1 : Blk3 (w.alloc (.cells #[.slice none 0 0,.int .i64 0,.int .i64 0] 201)) w.heap.size (.slice none 0 0) (.int .i64 0) (.int .i64 0):=heap_alloc_new w _
 generalize (w.alloc (.cells #[.slice none 0 0,.int .i64 0,.int .i64 0] 201)) = w1 at hK1 hP1 hR1 ⊢
 refine ((HX.out.keep hK1).token hP1).mono ?_
 rintro e w2 ⟨rfl,hb2⟩
 have HK2:=Lib.hid (hK1.below hb2)
 have HP2:=Lib.hid (hP1.below hb2)
 have HR2:=Lib.hid (hR1.below hb2)
 obtain ⟨tk,htk⟩ : ∃ t,t = (tokO l i).1:=⟨_,rfl⟩
 obtain ⟨tn,htn⟩ : ∃ t,t = (tokO l i).2.2.1:=⟨_,rfl⟩
 obtain ⟨tx,htx⟩ : ∃ t,t = txt l i:=⟨_,rfl⟩
 obtain ⟨tp,htp⟩ : ∃ t,t = plc l i:=⟨_,rfl⟩
 rw [← htk,← htn,← htx,← htp]
 have hb2' : b < w2.heap.size:=HP2.out.lt
 have HTX:=Lib.hid htx
 have HTP:=Lib.hid htp
 clear hK1 hP1 hR1 hb2 c0 c1 c2 c3 c4 f1 f2 f3 f4 htk htn htx htp
 obtain ⟨⟨c0,c1,c2,c3,c4⟩,f1,f2,f3,f4⟩:=HP2.out.facts
 go_wp2_with fail
 have HK3:=Lib.hid ((HK2.out.setCell 1 (.int .i64 ((i : Int) + 1))).alloc (.cells #[.int .i64 tk,.string tx,.int .i64 tn,.int .i64 tp] 62))
 have HP3 : Hid (Pst ((w2.setCell ⟨b,1,none⟩ (.int .i64 ((i : Int) + 1))).alloc (.cells #[.int .i64 tk,.string tx,.int .i64 tn,.int .i64 tp] 62)) b lv ((i + 1 : Nat) : Int) d 0 0):=((HP2.out.set.1 ((i + 1 : Nat) : Int)).alloc _)
 have HR3:=Lib.hid ((HR2.out.other b 1 hrb (.int .i64 ((i : Int) + 1))).alloc (.cells #[.int .i64 tk,.string tx,.int .i64 tn,.int .i64 tp] 62))
 have HT3 : Hid (Blk4 ((w2.setCell ⟨b,1,none⟩ (.int .i64 ((i : Int) + 1))).alloc (.cells #[.int .i64 tk,.string tx,.int .i64 tn,.int .i64 tp] 62)) w2.heap.size (.int .i64 tk) (.string tx) (.int .i64 tn) (.int .i64 tp)):=blk_new_set w2 _ _ _
 have hgr : w.heap.size < w2.heap.size:=HR2.out.lt
 clear HP2 HR2 HK2 c0 c1 c2 c3 c4 f1 f2 f3 f4
 generalize ((w2.setCell ⟨b,1,none⟩ (.int .i64 ((i : Int) + 1))).alloc (.cells #[.int .i64 tk,.string tx,.int .i64 tn,.int .i64 tp] 62)) = w3 at HK3 HP3 HR3 HT3 ⊢
 obtain ⟨g,hg⟩ : ∃ g,g = w2.heap.size:=⟨_,rfl⟩
 rw [← hg] at hb2' HT3 hgr ⊢
 clear hg
 have hgb : g ≠ b:=by omega
 refine ((HX.out.keep HK3.out).sign HP3.out _ false HDOT.out).mono ?_
 rintro e w4 ⟨rfl,hb4⟩
 have HK4:=Lib.hid (HK3.out.below hb4)
 have HP4:=Lib.hid (HP3.out.below hb4)
 have HR4:=Lib.hid (HR3.out.below hb4)
 obtain ⟨⟨c0,c1,c2,c3⟩,_⟩:=(HT3.out.below hb4 HT3.out.lt).facts
 clear HK3 HP3 HR3 HT3 hb4
 have HJ:=Lib.hid (join0 ⟨2,0,tx,⟨#[]⟩,tp⟩ (b + 1) w4 HP4.out.lt)
 go_wp2_with fail
 refine HJ.out.mono ?_
 rintro e w5 ⟨⟨pad,pcap,ps,pd,pxs⟩,rfl,ho5,hl1,hl2,hs5,hd5,hx5,hb5⟩
 have HIN : Hid (PtIn w5 (b + 1) ⟨pad,pcap,ps,pd,pxs⟩ (i + 1 - i)):=⟨ho5,hl1,hl2,by simp only [] at hs5 ⊢; omega,by simp only [] at hd5 ⊢; omega,by simp only [] at hd5 hs5 ⊢; omega⟩
 have HRES : Hid (ResOK (.ok (.leaf ⟨2,0,tx,⟨#[]⟩,tp⟩) (i + 1)) ⟨pad,pcap,ps,pd,pxs⟩ (i + 1) 0 0):=ResOK_leaf _ _ _ hs5 hd5 hx5
 have HK5:=Lib.hid (HK4.out.below hb5)
 have HP5:=Lib.hid (HP4.out.below hb5)
 have HR5:=Lib.hid (HR4.out.below hb5)
 obtain ⟨⟨r0,r1,r2⟩,rf0,rf1,rf2⟩:=HR5.out.facts
 clear ho5 hl1 hl2 hs5 hd5 hx5 hb5 HK4 HP4 HR4 HJ c0 c1 c2 c3
 simp only [PtR.nv]
 obtain ⟨m,hm⟩ : ∃ m,m = pxs.length:=⟨_,rfl⟩
 rw [← hm]
 have HM:=Lib.hid hm
 clear hm
 go_wp2_with fail
 obtain ⟨z1,z2,z3,z4⟩:=fin_part HP5.out HR5.out hrb HIN.out HK5.out (Nat.le_refl _) (.slice pad m pcap) (.int .i64 ps) (.int .i64 pd)
 refine bodyPost_ret (v:=.agg #[.slice pad m pcap,.int .i64 ps,.int .i64 pd]) (results_part Tryz.results248 _ _ w.heap.size _ _ _ rfl z4) rfl ?_
 rw [HTX.out,HTP.out] at HRES
 exact ⟨⟨pad,pcap,ps,pd,pxs⟩,i + 1,0,0,by rw [HM.out]; rfl,z1,z2.more (Nat.le_add_right _ _),by omega,by omega,z3,HRES.out,fun _ => rfl⟩
theorem named_bad (l : List Tok) (b : Nat) (lv : Value) (i d : Nat) (w : World) (hp : Pst w b lv i d 0 0) (hx : PCtx l b lv w) (hlt : i + 2 ≤ l.length) (hdot : sgAt l (i + 1) [46] = true) (hnm : nmAt l (i + 2) = false) :
  Calls Tryz.prog 248 #[.pointer (some ⟨b,0,none⟩)] w (PPost l lv b d i (namedR l i) w):=by
 have hr : namedR l i = refR l (i + 2):=by unfold namedR; rw [hdot,hnm]; rfl
 rw [hr]; clear hr
 have hb:=hp.lt
 have hn:=hx.hn
 have HP:=Lib.hid hp
 have HX:=Lib.hid hx
 have hrb : w.heap.size ≠ b:=by omega
 have HDOT:=Lib.hid hdot
 have HNM:=Lib.hid hnm
 obtain ⟨⟨c0,c1,c2,c3,c4⟩,f1,f2,f3,f4⟩:=hp.facts
 clear hp hx hdot hnm
 go_enter Tryz.func248,Tryz.ntmps248
 go_wp2_with fail
 have hK1 : Keep b w (w.alloc (.cells #[.slice none 0 0,.int .i64 0,.int .i64 0] 201)):=(Keep.refl b w).alloc _
 have hP1 : Pst (w.alloc (.cells #[.slice none 0 0,.int .i64 0,.int .i64 0] 201)) b lv i d 0 0:=HP.out.alloc _
 have hR1 : Blk3 (w.alloc (.cells #[.slice none 0 0,.int .i64 0,.int .i64 0] 201)) w.heap.size (.slice none 0 0) (.int .i64 0) (.int .i64 0):=heap_alloc_new w _
 generalize (w.alloc (.cells #[.slice none 0 0,.int .i64 0,.int .i64 0] 201)) = w1 at hK1 hP1 hR1 ⊢
 refine ((HX.out.keep hK1).token hP1).mono ?_
 rintro e w2 ⟨rfl,hb2⟩
 have HK2:=Lib.hid (hK1.below hb2)
 have HP2:=Lib.hid (hP1.below hb2)
 have HR2:=Lib.hid (hR1.below hb2)
 obtain ⟨tk,htk⟩ : ∃ t,t = (tokO l i).1:=⟨_,rfl⟩
 obtain ⟨tn,htn⟩ : ∃ t,t = (tokO l i).2.2.1:=⟨_,rfl⟩
 obtain ⟨tx,htx⟩ : ∃ t,t = txt l i:=⟨_,rfl⟩
 obtain ⟨tp,htp⟩ : ∃ t,t = plc l i:=⟨_,rfl⟩
 rw [← htk,← htn,← htx,← htp]
 have hb2' : b < w2.heap.size:=HP2.out.lt
 have HTX:=Lib.hid htx
 have HTP:=Lib.hid htp
 clear hK1 hP1 hR1 hb2 c0 c1 c2 c3 c4 f1 f2 f3 f4 htk htn htx htp
 obtain ⟨⟨c0,c1,c2,c3,c4⟩,f1,f2,f3,f4⟩:=HP2.out.facts
 go_wp2_with fail
 have HK3:=Lib.hid ((HK2.out.setCell 1 (.int .i64 ((i : Int) + 1))).alloc (.cells #[.int .i64 tk,.string tx,.int .i64 tn,.int .i64 tp] 62))
 have HP3 : Hid (Pst ((w2.setCell ⟨b,1,none⟩ (.int .i64 ((i : Int) + 1))).alloc (.cells #[.int .i64 tk,.string tx,.int .i64 tn,.int .i64 tp] 62)) b lv ((i + 1 : Nat) : Int) d 0 0):=((HP2.out.set.1 ((i + 1 : Nat) : Int)).alloc _)
 have HR3:=Lib.hid ((HR2.out.other b 1 hrb (.int .i64 ((i : Int) + 1))).alloc (.cells #[.int .i64 tk,.string tx,.int .i64 tn,.int .i64 tp] 62))
 have HT3 : Hid (Blk4 ((w2.setCell ⟨b,1,none⟩ (.int .i64 ((i : Int) + 1))).alloc (.cells #[.int .i64 tk,.string tx,.int .i64 tn,.int .i64 tp] 62)) w2.heap.size (.int .i64 tk) (.string tx) (.int .i64 tn) (.int .i64 tp)):=blk_new_set w2 _ _ _
 have hgr : w.heap.size < w2.heap.size:=HR2.out.lt
 clear HP2 HR2 HK2 c0 c1 c2 c3 c4 f1 f2 f3 f4
 generalize ((w2.setCell ⟨b,1,none⟩ (.int .i64 ((i : Int) + 1))).alloc (.cells #[.int .i64 tk,.string tx,.int .i64 tn,.int .i64 tp] 62)) = w3 at HK3 HP3 HR3 HT3 ⊢
 obtain ⟨g,hg⟩ : ∃ g,g = w2.heap.size:=⟨_,rfl⟩
 rw [← hg] at hb2' HT3 hgr ⊢
 clear hg
 have hgb : g ≠ b:=by omega
 refine ((HX.out.keep HK3.out).sign HP3.out _ true HDOT.out).mono ?_
 rintro e w4 ⟨rfl,hb4⟩
 have HK4:=Lib.hid (HK3.out.below hb4)
 have HP4:=Lib.hid (HP3.out.below hb4)
 have HR4:=Lib.hid (HR3.out.below hb4)
 have HT4:=Lib.hid (HT3.out.below hb4 HT3.out.lt)
 have hb4' : b < w4.heap.size:=HP4.out.lt
 obtain ⟨⟨c0,c1,c2,c3,c4⟩,f1,f2,f3,f4⟩:=HP4.out.facts
 clear HK3 HP3 HR3 HT3 hb4
 have e1 : (((i + 1 : Nat) : Int)) = (i : Int) + 1:=Int.natCast_add _ _
 rw [e1] at c1
 clear e1
 go_wp2_with fail
 have e2 : (i : Int) + 1 + 1 = ((i + 2 : Nat) : Int):=by omega
 rw [e2]
 clear e2
 have HK5:=Lib.hid (HK4.out.setCell 1 (.int .i64 ((i + 2 : Nat) : Int)))
 have HP5:=Lib.hid (HP4.out.set.1 ((i + 2 : Nat) : Int))
 have HR5:=Lib.hid (HR4.out.other b 1 hrb (.int .i64 ((i + 2 : Nat) : Int)))
 have HT5 : Hid (Blk4 (w4.setCell ⟨b,1,none⟩ (.int .i64 ((i + 2 : Nat) : Int))) g (.int .i64 tk) (.string tx) (.int .i64 tn) (.int .i64 tp)):=by
  show _ = _
  rw [Below.heap_setCell _ _ _ _ (by exact hgb)]; exact HT4.out
 clear HK4 HP4 HR4 HT4 c0 c1 c2 c3 c4 f1 f2 f3 f4 hb4'
 generalize w4.setCell ⟨b,1,none⟩ (.int .i64 ((i + 2 : Nat) : Int)) = w5 at HK5 HP5 HR5 HT5 ⊢
 refine ((HX.out.keep HK5.out).name HP5.out false HNM.out).mono ?_
 rintro e w6 ⟨rfl,hb6⟩
 have HK6:=Lib.hid (HK5.out.below hb6)
 have HP6:=Lib.hid (HP5.out.below hb6)
 have HR6:=Lib.hid (HR5.out.below hb6)
 have HT6:=Lib.hid (HT5.out.below hb6 HT5.out.lt)
 clear HK5 HP5 HR5 HT5 hb6
 go_wp2_with fail
 refine ((HX.out.keep HK6.out).refuse HP6.out (fun _ => rfl)).mono ?_
 rintro e w7 ⟨rfl,hp7,hk7⟩
 have HK7:=Lib.hid (HK6.out.trans hk7)
 have HP7 : Hid (Pst w7 b lv ((i + 2 : Nat) : Int) d (refK l (i + 2)).1 (refK l (i + 2)).2):=hp7
 have HR7:=Lib.hid (HR6.out.keep hk7 hrb)
 obtain ⟨⟨r0,r1,r2⟩,rf0,rf1,rf2⟩:=HR7.out.facts
 clear hp7 hk7 HK6 HP6 HR6 HT6
 unfold partZ
 go_wp2_with fail
 obtain ⟨z1,z2,z3,z4⟩:=fin_part HP7.out HR7.out hrb (pt_zero w7 (b + 1) (i + 2 - i)) HK7.out (Nat.le_refl _) (.slice none 0 0) (.int .i64 0) (.int .i64 0)
 refine bodyPost_ret (v:=.agg #[.slice none 0 0,.int .i64 0,.int .i64 0]) (results_part Tryz.results248 _ _ w.heap.size _ _ _ rfl z4) rfl ?_
 exact ⟨⟨none,0,0,0,[]⟩,i + 2,_,_,rfl,z1,z2.more (Nat.le_add_right _ _),by omega,hlt,z3,⟨rfl,rfl,refK_pos _ _⟩,fun h => absurd (by exact_mod_cast h) (refK_pos l (i + 2))⟩
end Go.Proofs.YtcghccjnadagcaaGreatDoor
