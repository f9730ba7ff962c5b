/- Facts. -/
import Derived.Test.YtcghccjnadagcaaGreatDoorPj
import Derived.Test.YtcghccjnadagcaaGreatDoorZn
import Derived.Test.YtcghccjnadagcaaGreatDoorL
set_option maxRecDepth 100000
set_option maxHeartbeats 32000000
namespace Go.Proofs.YtcghccjnadagcaaGreatDoor
open Go.RowKit
def SlD {α : Type} (S : Nat) (R : World → Nat → Nat → α → Prop) (w : World) (v : Value) (xs : List α) : Prop:=
 ∃ ad cap,v = .slice ad xs.length cap ∧ (xs.length ≤ cap ∧ (ad = none → cap = 0)) ∧ cap ≤ 9223372036854775807 ∧ ∀ i,(hi : i < xs.length) → ∃ b off,ad = some ⟨b,off,none⟩ ∧ b < w.heap.size ∧ R w b (off + i * S) xs[i]
theorem SlD.mono {α : Type} {S : Nat} {R : World → Nat → Nat → α → Prop} {w w' : World} {v : Value} {xs : List α} (h : SlD S R w v xs) (hb : w.heap.size ≤ w'.heap.size) (hR : ∀ b off x,b < w.heap.size → R w b off x → R w' b off x) : SlD S R w' v xs:=by
 obtain ⟨ad,cap,hv,h1,h2,hc⟩:=h
 refine ⟨ad,cap,hv,h1,h2,fun i hi => ?_⟩
 obtain ⟨b,off,ha,hl,g1⟩:=hc i hi
 exact ⟨b,off,ha,Nat.lt_of_lt_of_le hl hb,hR _ _ _ hl g1⟩
theorem SlD.shape {α : Type} {S : Nat} {R : World → Nat → Nat → α → Prop} {w : World} {v : Value} {xs : List α} (h : SlD S R w v xs) : ∃ ad cap,v = .slice ad xs.length cap:=by
 obtain ⟨ad,cap,hv,_⟩:=h; exact ⟨ad,cap,hv⟩
theorem SlD.nil {α : Type} {S : Nat} {R : World → Nat → Nat → α → Prop} {w : World} : SlD S R w (.slice none 0 0) []:=⟨none,0,rfl,⟨Nat.le_refl _,fun _ => rfl⟩,by omega,fun i hi => absurd hi (Nat.not_lt_zero _)⟩
def StrAt (w : World) (b off : Nat) (x : ByteArray) : Prop:=w.cell? ⟨b,off,none⟩ = some (.string x)
def VrAt (w : World) (b off : Nat) (x : Vr) : Prop:=w.cell? ⟨b,off,none⟩ = some (.string x.nm) ∧ w.cell? ⟨b,off + 1,none⟩ = some (.int .i64 x.n) ∧ w.cell? ⟨b,off + 2,none⟩ = some (.int .i64 x.pl)
abbrev StrsD:=SlD 1 StrAt
abbrev VrsD:=SlD 3 VrAt
def ThAt (w : World) (b off : Nat) (t : TI) : Prop:=(w.cell? ⟨b,off,none⟩ = some (.string t.1.nm) ∧ w.cell? ⟨b,off + 1,none⟩ = some t.2.1 ∧ w.cell? ⟨b,off + 2,none⟩ = some t.2.2 ∧ w.cell? ⟨b,off + 3,none⟩ = some (.int .i64 t.1.pl)) ∧
 StrsD w t.2.1 t.1.regs ∧ ∃ ss : List SI,ss.map (·.1) = t.1.body ∧ StsD w t.2.2 ss
def ClAt (w : World) (b off : Nat) (t : CI) : Prop:=(w.cell? ⟨b,off,none⟩ = some (.int .i64 t.1.kind) ∧ w.cell? ⟨b,off + 1,none⟩ = some t.2 ∧ w.cell? ⟨b,off + 2,none⟩ = some (.int .i64 t.1.pl)) ∧ NdsC w t.2 t.1.e
abbrev ThsD:=SlD 4 ThAt
abbrev ClsD:=SlD 3 ClAt
section
variable {w w' : World} {v : Value}
theorem StrsD.below {xs : List ByteArray} (h : StrsD w v xs) (hb : Below w.heap.size w w') : StrsD w' v xs:=h.mono hb.size fun _ _ _ hl h => (hb.cell (p:=⟨_,_,none⟩) hl).trans h
theorem VrsD.below {xs : List Vr} (h : VrsD w v xs) (hb : Below w.heap.size w w') : VrsD w' v xs:=h.mono hb.size fun _ _ _ hl h => ⟨(hb.cell (p:=⟨_,_,none⟩) hl).trans h.1,(hb.cell (p:=⟨_,_,none⟩) hl).trans h.2.1,(hb.cell (p:=⟨_,_,none⟩) hl).trans h.2.2⟩
theorem ThAt.below {b off : Nat} {t : TI} (h : ThAt w b off t) (hb : Below w.heap.size w w') (hl : b < w.heap.size) : ThAt w' b off t:=by
 obtain ⟨⟨h0,h1,h2,h3⟩,h4,ss,h5,h6⟩:=h
 exact ⟨⟨(hb.cell (p:=⟨b,_,none⟩) hl).trans h0,(hb.cell (p:=⟨b,_,none⟩) hl).trans h1,(hb.cell (p:=⟨b,_,none⟩) hl).trans h2,(hb.cell (p:=⟨b,_,none⟩) hl).trans h3⟩,StrsD.below h4 hb,ss,h5,h6.below hb⟩
theorem ClAt.below {b off : Nat} {t : CI} (h : ClAt w b off t) (hb : Below w.heap.size w w') (hl : b < w.heap.size) : ClAt w' b off t:=by
 obtain ⟨⟨h0,h1,h2⟩,h4⟩:=h
 exact ⟨⟨(hb.cell (p:=⟨b,_,none⟩) hl).trans h0,(hb.cell (p:=⟨b,_,none⟩) hl).trans h1,(hb.cell (p:=⟨b,_,none⟩) hl).trans h2⟩,h4.below hb⟩
theorem ThsD.below {xs : List TI} (h : ThsD w v xs) (hb : Below w.heap.size w w') : ThsD w' v xs:=h.mono hb.size fun _ _ _ hl h => h.below hb hl
theorem ClsD.below {xs : List CI} (h : ClsD w v xs) (hb : Below w.heap.size w w') : ClsD w' v xs:=h.mono hb.size fun _ _ _ hl h => h.below hb hl
end
theorem flat_at {α : Type} (f : α → List Value) (S : Nat) (hS : ∀ x,(f x).length = S) (l : List α) : ∀ i,(h : i < l.length) → ∀ k,(hk : k < S) → (l.flatMap f)[i * S + k]? = some ((f l[i])[k]'(by rw [hS]; exact hk)):=by
 induction l with
 | nil => intro i h; exact absurd h (Nat.not_lt_zero _)
 | cons a l ih =>
  intro i h k hk
  cases i with
  | zero =>
   rw [List.flatMap_cons,Nat.zero_mul,Nat.zero_add,List.getElem?_append_left (by rw [hS]; exact hk),List.getElem?_eq_getElem (by rw [hS]; exact hk)]
   rfl
  | succ i =>
   rw [List.flatMap_cons,List.getElem?_append_right (by rw [hS,Nat.succ_mul]; omega),hS,show (i + 1) * S + k - S = i * S + k by rw [Nat.succ_mul]; omega]
   exact ih i (by simpa using h) k hk
theorem slD_of_row {α : Type} (f : α → List Value) (S : Nat) (hS : ∀ x,(f x).length = S) {R : World → Nat → Nat → α → Prop} {w : World} {B e : Nat} {v : Value} {xs : List α} (h : w.ownsRow B e S v xs.length (xs.flatMap f))
  (hR : ∀ b off i,(hi : i < xs.length) → (∀ k,(hk : k < S) → w.cell? ⟨b,off + k,none⟩ = some ((f xs[i])[k]'(by rw [hS]; exact hk))) → R w b off xs[i]) : SlD S R w v xs:=by
 have hc:=@World.ownsRow.cells _ _ _ _ _ _ _ h
 have hl:=h.lt
 rcases h.2 with ⟨rfl,hn⟩ | ⟨g,cap,cur,rfl,_,hh,hle,hcm,_⟩
 ·obtain rfl:=List.eq_nil_of_length_eq_zero hn
  exact SlD.nil
 ·refine ⟨_,cap,rfl,⟨hle,fun h => by cases h⟩,by unfold maxLen at hcm; omega,fun i hi => ?_⟩
  refine ⟨g,0,rfl,(hl g rfl).2,hR _ _ i hi fun k hk => ?_⟩
  have r:=hc (g:=g) rfl _ _ (flat_at f S hS xs i hi k hk)
  rw [addr_add] at r
  rw [Nat.zero_add]
  exact r
theorem strsD_of_own {w : World} {B : Nat} {v : Value} {xs : List ByteArray} (h : w.ownsRow B 9 1 v xs.length (rowB xs)) : StrsD w v xs:=by
 have e : rowB xs = xs.flatMap fun x => [Value.string x]:=by unfold rowB; exact (List.map_eq_flatMap ..)
 rw [e] at h
 exact slD_of_row (fun x => [Value.string x]) 1 (fun _ => rfl) h fun b off i hi hk => hk 0 (by decide)
theorem vrsD_of_own {w : World} {B : Nat} {v : Value} {xs : List Vr} (h : VOwn w B v xs) : VrsD w v xs:=
 slD_of_row cellsV 3 (fun _ => rfl) h fun b off i hi hk => ⟨hk 0 (by decide),hk 1 (by decide),hk 2 (by decide)⟩
theorem thsD_of_own {w : World} {B : Nat} {v : Value} {xs : List Th} (h : TOwn w B v xs) : ∃ ts : List TI,ts.map (·.1) = xs ∧ ThsD w v ts:=by
 obtain ⟨ts,h1,h2,h3⟩:=h
 refine ⟨ts,h1,slD_of_row cellsT 4 (fun _ => rfl) h2 fun b off i hi hk => ?_⟩
 have hm:=h3 ts[i] (List.getElem_mem hi)
 exact ⟨⟨hk 0 (by decide),hk 1 (by decide),hk 2 (by decide),hk 3 (by decide)⟩,strsD_of_own hm.1,stsD_of_own hm.2⟩
theorem clsD_of_own {w : World} {B : Nat} {v : Value} {xs : List Cl} (h : COwn w B v xs) : ∃ ts : List CI,ts.map (·.1) = xs ∧ ClsD w v ts:=by
 obtain ⟨ts,h1,h2,h3⟩:=h
 refine ⟨ts,h1,slD_of_row cellsC 3 (fun _ => rfl) h2 fun b off i hi hk => ?_⟩
 exact ⟨⟨hk 0 (by decide),hk 1 (by decide),hk 2 (by decide)⟩,ndsC_of_own (h3 ts[i] (List.getElem_mem hi))⟩
def PgD (w : World) (a b c : Value) (g : Pg) : Prop:=VrsD w a g.locs ∧ (∃ ts,ts.map (·.1) = g.ths ∧ ThsD w b ts) ∧ ∃ cs,cs.map (·.1) = g.cls ∧ ClsD w c cs
theorem PgD.below {w w' : World} {a b c : Value} {g : Pg} (h : PgD w a b c g) (hb : Below w.heap.size w w') : PgD w' a b c g:=by
 obtain ⟨h1,⟨ts,h2,h3⟩,cs,h4,h5⟩:=h
 exact ⟨VrsD.below h1 hb,⟨ts,h2,ThsD.below h3 hb⟩,cs,h4,ClsD.below h5 hb⟩
theorem pgD_of_own {w : World} {B : Nat} {a b c : Value} {g : Pg} (h : POwn w B a b c g) : PgD w a b c g:=⟨vrsD_of_own h.l,thsD_of_own h.t,clsD_of_own h.c⟩
theorem pvidx_any (xs : List Vr) (v : Value) (w : World) (hv : VrsD w v xs) (hn : xs.length ≤ 100000) (FL : Vr → Bool)
  (hF : ∀ w' i,(hi : i < xs.length) → Below w.heap.size w w' → Calls Tryz.prog 43 #[.agg (cellsV xs[i]).toArray] w' fun e w'' => e = .returned (.bool (FL xs[i])) ∧ Below w'.heap.size w' w'') :
  Calls Tryz.prog 89 #[v,.func (.func 43) #[] #[]] w (IdxAns (!(xs.all fun x => !FL x)) w):=by
 obtain ⟨B,hB⟩ : ∃ B,((xs.drop 0).all fun x => !FL x) = B:=⟨_,rfl⟩
 rw [show (xs.all fun x => !FL x) = B from hB]
 have HB0:=Lib.hid hB
 obtain ⟨ad,cap,rfl,hcap1,hcap2,hc⟩:=hv
 have HC:=Lib.hid hc
 have HF:=Lib.hid hF
 obtain ⟨n,hN⟩ : ∃ n,n = xs.length:=⟨_,rfl⟩
 rw [← hN] at hn ⊢
 have HN:=Lib.hid hN
 clear hN hB hc hF hcap1 hcap2
 go_enter Tryz.func89,Tryz.ntmps89
 go_wp2_with fail
 go_loopg [8] n (fun fuel i' wr => ∃ k : Nat,i' = .int .i64 k ∧ k ≤ n ∧ n - k ≤ fuel ∧ ((xs.drop k).all fun x => !FL x) = B ∧ Below w.heap.size w wr)
 case atStart => exact ⟨0,rfl,Nat.zero_le _,Nat.le_refl _,HB0.out,Below.refl _ _⟩
 case round =>
  obtain ⟨k,rfl,hk,hf,ha,hb⟩:=hrel
  have HA:=Lib.hid ha
  have HB:=Lib.hid hb
  have hww:=hb.size
  clear ha hb
  by_cases hlt : k < n
  ·have hk' : k < xs.length:=by have:=HN.out; omega
   have HD:=Lib.hid (List.drop_eq_getElem_cons hk')
   obtain ⟨b,off,rfl,hbl,x0,x1,x2⟩:=HC.out k hk'
   have HFL:=Lib.hid (HF.out wr k hk' HB.out)
   obtain ⟨q,hq⟩ : ∃ q,FL xs[k] = q:=⟨_,rfl⟩
   rw [hq] at HFL
   have HQ:=Lib.hid hq
   obtain ⟨⟨xn,xv,xp⟩,hx⟩ : ∃ x,x = xs[k]:=⟨_,rfl⟩
   rw [← hx] at x0 x1 x2 HFL
   simp only [cellsV,List.toArray] at x0 x1 x2 HFL
   have c0 : wr.cell? ⟨b,off + k * 3,none⟩ = some (.string xn):=(HB.out.cell (p:=⟨b,_,none⟩) hbl).trans x0
   have c1 : wr.cell? ⟨b,off + k * 3 + 1,none⟩ = some (.int .i64 xv):=(HB.out.cell (p:=⟨b,_,none⟩) hbl).trans x1
   have c2 : wr.cell? ⟨b,off + k * 3 + 2,none⟩ = some (.int .i64 xp):=(HB.out.cell (p:=⟨b,_,none⟩) hbl).trans x2
   clear x0 x1 x2 hx hq
   go_wp2_with fail
   refine HFL.out.mono ?_
   rintro e w2 ⟨rfl,hb2⟩
   have HB2:=Lib.hid (HB.out.trans (hb2.mono hww))
   clear hb2 c0 c1 c2
   cases q with
   | false =>
    go_wp2
    go_roundg (gk - 1)
    case measure => omega
    case rel =>
     refine ⟨k + 1,by go_num,by omega,by omega,?_,HB2.out⟩
     have h2:=HA.out
     rw [HD.out,List.all_cons,HQ.out] at h2
     simpa using h2
   | true =>
    go_wp2
    go_ret
    refine ⟨k,rfl,?_,HB2.out⟩
    have h2:=HA.out
    rw [HD.out,List.all_cons,HQ.out] at h2
    rw [← h2]; simp
  ·have HE:=Lib.hid (drop_over xs k (by have:=HN.out; omega))
   go_wp2
   go_ret
   refine ⟨-1,rfl,?_,HB.out⟩
   have:=HA.out
   rw [HE.out] at this
   rw [← this]; rfl
theorem pvcont_any (xs : List Vr) (v : Value) (w : World) (hv : VrsD w v xs) (hn : xs.length ≤ 100000) (FL : Vr → Bool)
  (hF : ∀ w' i,(hi : i < xs.length) → Below w.heap.size w w' → Calls Tryz.prog 43 #[.agg (cellsV xs[i]).toArray] w' fun e w'' => e = .returned (.bool (FL xs[i])) ∧ Below w'.heap.size w' w'') (b : Bool) (hb : (xs.all fun x => !FL x) = b) :
  Calls Tryz.prog 42 #[v,.func (.func 43) #[] #[]] w fun e w' => e = .returned (.bool (!b)) ∧ Below w.heap.size w w':=by
 have H:=pvidx_any xs v w hv hn FL hF
 rw [hb] at H
 clear hv hn hb hF
 go_enter Tryz.func42,Tryz.ntmps42
 go_wp2_with fail
 refine H.mono ?_
 rintro e w2 ⟨z,rfl,hz,hb2⟩
 have HZ:=Lib.hid hz
 clear hz
 go_wp2
 go_ret
 exact ⟨ret_bool HZ.out,hb2⟩
theorem ptidx_any (xs : List TI) (v : Value) (w : World) (hv : ThsD w v xs) (hn : xs.length ≤ 100000) (FL : TI → Bool)
  (hF : ∀ w' i,(hi : i < xs.length) → Below w.heap.size w w' → Calls Tryz.prog 45 #[.agg (cellsT xs[i]).toArray] w' fun e w'' => e = .returned (.bool (FL xs[i])) ∧ Below w'.heap.size w' w'') :
  Calls Tryz.prog 91 #[v,.func (.func 45) #[] #[]] w (IdxAns (!(xs.all fun x => !FL x)) w):=by
 obtain ⟨B,hB⟩ : ∃ B,((xs.drop 0).all fun x => !FL x) = B:=⟨_,rfl⟩
 rw [show (xs.all fun x => !FL x) = B from hB]
 have HB0:=Lib.hid hB
 obtain ⟨ad,cap,rfl,hcap1,hcap2,hc⟩:=hv
 have HC:=Lib.hid hc
 have HF:=Lib.hid hF
 obtain ⟨n,hN⟩ : ∃ n,n = xs.length:=⟨_,rfl⟩
 rw [← hN] at hn ⊢
 have HN:=Lib.hid hN
 clear hN hB hc hF hcap1 hcap2
 go_enter Tryz.func91,Tryz.ntmps91
 go_wp2_with fail
 go_loopg [8] n (fun fuel i' wr => ∃ k : Nat,i' = .int .i64 k ∧ k ≤ n ∧ n - k ≤ fuel ∧ ((xs.drop k).all fun x => !FL x) = B ∧ Below w.heap.size w wr)
 case atStart => exact ⟨0,rfl,Nat.zero_le _,Nat.le_refl _,HB0.out,Below.refl _ _⟩
 case round =>
  obtain ⟨k,rfl,hk,hf,ha,hb⟩:=hrel
  have HA:=Lib.hid ha
  have HB:=Lib.hid hb
  have hww:=hb.size
  clear ha hb
  by_cases hlt : k < n
  ·have hk' : k < xs.length:=by have:=HN.out; omega
   have HD:=Lib.hid (List.drop_eq_getElem_cons hk')
   obtain ⟨b,off,rfl,hbl,⟨x0,x1,x2,x3⟩,hR,ss,hs1,hS⟩:=HC.out k hk'
   have HFL:=Lib.hid (HF.out wr k hk' HB.out)
   obtain ⟨q,hq⟩ : ∃ q,FL xs[k] = q:=⟨_,rfl⟩
   rw [hq] at HFL
   have HQ:=Lib.hid hq
   obtain ⟨⟨⟨xn,xr,xb,xp⟩,v1,v2⟩,hx⟩ : ∃ x,x = xs[k]:=⟨_,rfl⟩
   rw [← hx] at x0 x1 x2 x3 HFL hR hs1 hS
   simp only [cellsT] at x0 x1 x2 x3 HFL hR hs1 hS
   obtain ⟨a1,n1,p1,rfl⟩ : ∃ a n c,v1 = .slice a n c:=by obtain ⟨a,c,h⟩:=hR.shape; exact ⟨a,_,c,h⟩
   obtain ⟨a2,n2,p2,rfl⟩ : ∃ a n c,v2 = .slice a n c:=by obtain ⟨a,c,h,_⟩:=hS; exact ⟨a,_,c,h⟩
   clear hR hs1 hS
   have c0 : wr.cell? ⟨b,off + k * 4,none⟩ = some (.string xn):=(HB.out.cell (p:=⟨b,_,none⟩) hbl).trans x0
   have c1 : wr.cell? ⟨b,off + k * 4 + 1,none⟩ = some (.slice a1 n1 p1):=(HB.out.cell (p:=⟨b,_,none⟩) hbl).trans x1
   have c2 : wr.cell? ⟨b,off + k * 4 + 2,none⟩ = some (.slice a2 n2 p2):=(HB.out.cell (p:=⟨b,_,none⟩) hbl).trans x2
   have c3 : wr.cell? ⟨b,off + k * 4 + 3,none⟩ = some (.int .i64 xp):=(HB.out.cell (p:=⟨b,_,none⟩) hbl).trans x3
   clear x0 x1 x2 x3 hx hq
   go_wp2_with fail
   refine HFL.out.mono ?_
   rintro e w2 ⟨rfl,hb2⟩
   have HB2:=Lib.hid (HB.out.trans (hb2.mono hww))
   clear hb2 c0 c1 c2 c3
   cases q with
   | false =>
    go_wp2
    go_roundg (gk - 1)
    case measure => omega
    case rel =>
     refine ⟨k + 1,by go_num,by omega,by omega,?_,HB2.out⟩
     have h2:=HA.out
     rw [HD.out,List.all_cons,HQ.out] at h2
     simpa using h2
   | true =>
    go_wp2
    go_ret
    refine ⟨k,rfl,?_,HB2.out⟩
    have h2:=HA.out
    rw [HD.out,List.all_cons,HQ.out] at h2
    rw [← h2]; simp
  ·have HE:=Lib.hid (drop_over xs k (by have:=HN.out; omega))
   go_wp2
   go_ret
   refine ⟨-1,rfl,?_,HB.out⟩
   have:=HA.out
   rw [HE.out] at this
   rw [← this]; rfl
theorem ptcont_any (xs : List TI) (v : Value) (w : World) (hv : ThsD w v xs) (hn : xs.length ≤ 100000) (FL : TI → Bool)
  (hF : ∀ w' i,(hi : i < xs.length) → Below w.heap.size w w' → Calls Tryz.prog 45 #[.agg (cellsT xs[i]).toArray] w' fun e w'' => e = .returned (.bool (FL xs[i])) ∧ Below w'.heap.size w' w'') (b : Bool) (hb : (xs.all fun x => !FL x) = b) :
  Calls Tryz.prog 44 #[v,.func (.func 45) #[] #[]] w fun e w' => e = .returned (.bool (!b)) ∧ Below w.heap.size w w':=by
 have H:=ptidx_any xs v w hv hn FL hF
 rw [hb] at H
 clear hv hn hb hF
 go_enter Tryz.func44,Tryz.ntmps44
 go_wp2_with fail
 refine H.mono ?_
 rintro e w2 ⟨z,rfl,hz,hb2⟩
 have HZ:=Lib.hid hz
 clear hz
 go_wp2
 go_ret
 exact ⟨ret_bool HZ.out,hb2⟩
theorem pcidx_any (xs : List CI) (v : Value) (w : World) (hv : ClsD w v xs) (hn : xs.length ≤ 100000) (FL : CI → Bool)
  (hF : ∀ w' i,(hi : i < xs.length) → Below w.heap.size w w' → Calls Tryz.prog 47 #[.agg (cellsC xs[i]).toArray] w' fun e w'' => e = .returned (.bool (FL xs[i])) ∧ Below w'.heap.size w' w'') :
  Calls Tryz.prog 95 #[v,.func (.func 47) #[] #[]] w (IdxAns (!(xs.all fun x => !FL x)) w):=by
 obtain ⟨B,hB⟩ : ∃ B,((xs.drop 0).all fun x => !FL x) = B:=⟨_,rfl⟩
 rw [show (xs.all fun x => !FL x) = B from hB]
 have HB0:=Lib.hid hB
 obtain ⟨ad,cap,rfl,hcap1,hcap2,hc⟩:=hv
 have HC:=Lib.hid hc
 have HF:=Lib.hid hF
 obtain ⟨n,hN⟩ : ∃ n,n = xs.length:=⟨_,rfl⟩
 rw [← hN] at hn ⊢
 have HN:=Lib.hid hN
 clear hN hB hc hF hcap1 hcap2
 go_enter Tryz.func95,Tryz.ntmps95
 go_wp2_with fail
 go_loopg [8] n (fun fuel i' wr => ∃ k : Nat,i' = .int .i64 k ∧ k ≤ n ∧ n - k ≤ fuel ∧ ((xs.drop k).all fun x => !FL x) = B ∧ Below w.heap.size w wr)
 case atStart => exact ⟨0,rfl,Nat.zero_le _,Nat.le_refl _,HB0.out,Below.refl _ _⟩
 case round =>
  obtain ⟨k,rfl,hk,hf,ha,hb⟩:=hrel
  have HA:=Lib.hid ha
  have HB:=Lib.hid hb
  have hww:=hb.size
  clear ha hb
  by_cases hlt : k < n
  ·have hk' : k < xs.length:=by have:=HN.out; omega
   have HD:=Lib.hid (List.drop_eq_getElem_cons hk')
   obtain ⟨b,off,rfl,hbl,⟨x0,x1,x2⟩,hE⟩:=HC.out k hk'
   have HFL:=Lib.hid (HF.out wr k hk' HB.out)
   obtain ⟨q,hq⟩ : ∃ q,FL xs[k] = q:=⟨_,rfl⟩
   rw [hq] at HFL
   have HQ:=Lib.hid hq
   obtain ⟨⟨⟨xk,xe,xp⟩,v1⟩,hx⟩ : ∃ x,x = xs[k]:=⟨_,rfl⟩
   rw [← hx] at x0 x1 x2 HFL hE
   simp only [cellsC] at x0 x1 x2 HFL hE
   obtain ⟨a1,n1,p1,rfl⟩ : ∃ a n c,v1 = .slice a n c:=by obtain ⟨a,c,h,_⟩:=hE; exact ⟨a,_,c,h⟩
   clear hE
   have c0 : wr.cell? ⟨b,off + k * 3,none⟩ = some (.int .i64 xk):=(HB.out.cell (p:=⟨b,_,none⟩) hbl).trans x0
   have c1 : wr.cell? ⟨b,off + k * 3 + 1,none⟩ = some (.slice a1 n1 p1):=(HB.out.cell (p:=⟨b,_,none⟩) hbl).trans x1
   have c2 : wr.cell? ⟨b,off + k * 3 + 2,none⟩ = some (.int .i64 xp):=(HB.out.cell (p:=⟨b,_,none⟩) hbl).trans x2
   clear x0 x1 x2 hx hq
   go_wp2_with fail
   refine HFL.out.mono ?_
   rintro e w2 ⟨rfl,hb2⟩
   have HB2:=Lib.hid (HB.out.trans (hb2.mono hww))
   clear hb2 c0 c1 c2
   cases q with
   | false =>
    go_wp2
    go_roundg (gk - 1)
    case measure => omega
    case rel =>
     refine ⟨k + 1,by go_num,by omega,by omega,?_,HB2.out⟩
     have h2:=HA.out
     rw [HD.out,List.all_cons,HQ.out] at h2
     simpa using h2
   | true =>
    go_wp2
    go_ret
    refine ⟨k,rfl,?_,HB2.out⟩
    have h2:=HA.out
    rw [HD.out,List.all_cons,HQ.out] at h2
    rw [← h2]; simp
  ·have HE:=Lib.hid (drop_over xs k (by have:=HN.out; omega))
   go_wp2
   go_ret
   refine ⟨-1,rfl,?_,HB.out⟩
   have:=HA.out
   rw [HE.out] at this
   rw [← this]; rfl
theorem pccont_any (xs : List CI) (v : Value) (w : World) (hv : ClsD w v xs) (hn : xs.length ≤ 100000) (FL : CI → Bool)
  (hF : ∀ w' i,(hi : i < xs.length) → Below w.heap.size w w' → Calls Tryz.prog 47 #[.agg (cellsC xs[i]).toArray] w' fun e w'' => e = .returned (.bool (FL xs[i])) ∧ Below w'.heap.size w' w'') (b : Bool) (hb : (xs.all fun x => !FL x) = b) :
  Calls Tryz.prog 46 #[v,.func (.func 47) #[] #[]] w fun e w' => e = .returned (.bool (!b)) ∧ Below w.heap.size w w':=by
 have H:=pcidx_any xs v w hv hn FL hF
 rw [hb] at H
 clear hv hn hb hF
 go_enter Tryz.func46,Tryz.ntmps46
 go_wp2_with fail
 refine H.mono ?_
 rintro e w2 ⟨z,rfl,hz,hb2⟩
 have HZ:=Lib.hid hz
 clear hz
 go_wp2
 go_ret
 exact ⟨ret_bool HZ.out,hb2⟩
theorem psidx_any (xs : List ByteArray) (v : Value) (w : World) (hv : StrsD w v xs) (hn : xs.length ≤ 100000) (FL : ByteArray → Bool)
  (hF : ∀ w' i,(hi : i < xs.length) → Below w.heap.size w w' → Calls Tryz.prog 92 #[.string xs[i]] w' fun e w'' => e = .returned (.bool (FL xs[i])) ∧ Below w'.heap.size w' w'') :
  Calls Tryz.prog 136 #[v,.func (.func 92) #[] #[]] w (IdxAns (!(xs.all fun x => !FL x)) w):=by
 obtain ⟨B,hB⟩ : ∃ B,((xs.drop 0).all fun x => !FL x) = B:=⟨_,rfl⟩
 rw [show (xs.all fun x => !FL x) = B from hB]
 have HB0:=Lib.hid hB
 obtain ⟨ad,cap,rfl,hcap1,hcap2,hc⟩:=hv
 have HC:=Lib.hid hc
 have HF:=Lib.hid hF
 obtain ⟨n,hN⟩ : ∃ n,n = xs.length:=⟨_,rfl⟩
 rw [← hN] at hn ⊢
 have HN:=Lib.hid hN
 clear hN hB hc hF hcap1 hcap2
 go_enter Tryz.func136,Tryz.ntmps136
 go_wp2_with fail
 go_loopg [8] n (fun fuel i' wr => ∃ k : Nat,i' = .int .i64 k ∧ k ≤ n ∧ n - k ≤ fuel ∧ ((xs.drop k).all fun x => !FL x) = B ∧ Below w.heap.size w wr)
 case atStart => exact ⟨0,rfl,Nat.zero_le _,Nat.le_refl _,HB0.out,Below.refl _ _⟩
 case round =>
  obtain ⟨k,rfl,hk,hf,ha,hb⟩:=hrel
  have HA:=Lib.hid ha
  have HB:=Lib.hid hb
  have hww:=hb.size
  clear ha hb
  by_cases hlt : k < n
  ·have hk' : k < xs.length:=by have:=HN.out; omega
   have HD:=Lib.hid (List.drop_eq_getElem_cons hk')
   obtain ⟨b,off,rfl,hbl,x0⟩:=HC.out k hk'
   have HFL:=Lib.hid (HF.out wr k hk' HB.out)
   obtain ⟨q,hq⟩ : ∃ q,FL xs[k] = q:=⟨_,rfl⟩
   rw [hq] at HFL
   have HQ:=Lib.hid hq
   obtain ⟨xn,hx⟩ : ∃ x,x = xs[k]:=⟨_,rfl⟩
   rw [← hx] at x0 HFL
   simp only [StrAt,Nat.mul_one] at x0 HFL
   have c0 : wr.cell? ⟨b,off + k,none⟩ = some (.string xn):=(HB.out.cell (p:=⟨b,_,none⟩) hbl).trans x0
   clear x0 hx hq
   go_wp2_with fail
   refine HFL.out.mono ?_
   rintro e w2 ⟨rfl,hb2⟩
   have HB2:=Lib.hid (HB.out.trans (hb2.mono hww))
   clear hb2 c0
   cases q with
   | false =>
    go_wp2
    go_roundg (gk - 1)
    case measure => omega
    case rel =>
     refine ⟨k + 1,by go_num,by omega,by omega,?_,HB2.out⟩
     have h2:=HA.out
     rw [HD.out,List.all_cons,HQ.out] at h2
     simpa using h2
   | true =>
    go_wp2
    go_ret
    refine ⟨k,rfl,?_,HB2.out⟩
    have h2:=HA.out
    rw [HD.out,List.all_cons,HQ.out] at h2
    rw [← h2]; simp
  ·have HE:=Lib.hid (drop_over xs k (by have:=HN.out; omega))
   go_wp2
   go_ret
   refine ⟨-1,rfl,?_,HB.out⟩
   have:=HA.out
   rw [HE.out] at this
   rw [← this]; rfl
theorem pscont_any (xs : List ByteArray) (v : Value) (w : World) (hv : StrsD w v xs) (hn : xs.length ≤ 100000) (FL : ByteArray → Bool)
  (hF : ∀ w' i,(hi : i < xs.length) → Below w.heap.size w w' → Calls Tryz.prog 92 #[.string xs[i]] w' fun e w'' => e = .returned (.bool (FL xs[i])) ∧ Below w'.heap.size w' w'') (b : Bool) (hb : (xs.all fun x => !FL x) = b) :
  Calls Tryz.prog 93 #[v,.func (.func 92) #[] #[]] w fun e w' => e = .returned (.bool (!b)) ∧ Below w.heap.size w w':=by
 have H:=psidx_any xs v w hv hn FL hF
 rw [hb] at H
 clear hv hn hb hF
 go_enter Tryz.func93,Tryz.ntmps93
 go_wp2_with fail
 refine H.mono ?_
 rintro e w2 ⟨z,rfl,hz,hb2⟩
 have HZ:=Lib.hid hz
 clear hz
 go_wp2
 go_ret
 exact ⟨ret_bool HZ.out,hb2⟩
theorem pnidx_any (xs : List Nd) (v : Value) (w : World) (hv : NdsC w v xs) (hn : xs.length ≤ 100000) (FL : Nd → Bool)
  (hF : ∀ w' i,(hi : i < xs.length) → Below w.heap.size w w' → Calls Tryz.prog 96 #[.agg xs[i].cells.toArray] w' fun e w'' => e = .returned (.bool (FL xs[i])) ∧ Below w'.heap.size w' w'') :
  Calls Tryz.prog 144 #[v,.func (.func 96) #[] #[]] w (IdxAns (!(xs.all fun x => !FL x)) w):=by
 obtain ⟨B,hB⟩ : ∃ B,((xs.drop 0).all fun x => !FL x) = B:=⟨_,rfl⟩
 rw [show (xs.all fun x => !FL x) = B from hB]
 have HB0:=Lib.hid hB
 obtain ⟨ad,cap,rfl,hcap1,hcap2,hc⟩:=hv
 have HC:=Lib.hid hc
 have HF:=Lib.hid hF
 obtain ⟨n,hN⟩ : ∃ n,n = xs.length:=⟨_,rfl⟩
 rw [← hN] at hn ⊢
 have HN:=Lib.hid hN
 clear hN hB hc hF hcap1 hcap2
 go_enter Tryz.func144,Tryz.ntmps144
 go_wp2_with fail
 go_loopg [8] n (fun fuel i' wr => ∃ k : Nat,i' = .int .i64 k ∧ k ≤ n ∧ n - k ≤ fuel ∧ ((xs.drop k).all fun x => !FL x) = B ∧ Below w.heap.size w wr)
 case atStart => exact ⟨0,rfl,Nat.zero_le _,Nat.le_refl _,HB0.out,Below.refl _ _⟩
 case round =>
  obtain ⟨k,rfl,hk,hf,ha,hb⟩:=hrel
  have HA:=Lib.hid ha
  have HB:=Lib.hid hb
  have hww:=hb.size
  clear ha hb
  by_cases hlt : k < n
  ·have hk' : k < xs.length:=by have:=HN.out; omega
   have HD:=Lib.hid (List.drop_eq_getElem_cons hk')
   obtain ⟨b,off,rfl,hbl,x0,x1,x2,x3,x4⟩:=HC.out k hk'
   have HFL:=Lib.hid (HF.out wr k hk' HB.out)
   obtain ⟨q,hq⟩ : ∃ q,FL xs[k] = q:=⟨_,rfl⟩
   rw [hq] at HFL
   have HQ:=Lib.hid hq
   obtain ⟨⟨xo,xn,xm,xi,xp⟩,hx⟩ : ∃ x,x = xs[k]:=⟨_,rfl⟩
   rw [← hx] at x0 x1 x2 x3 x4 HFL
   simp only [Nd.cells] at x0 x1 x2 x3 x4 HFL
   have c0 : wr.cell? ⟨b,off + k * 5,none⟩ = some (.int .i64 xo):=(HB.out.cell (p:=⟨b,_,none⟩) hbl).trans x0
   have c1 : wr.cell? ⟨b,off + k * 5 + 1,none⟩ = some (.int .i64 xn):=(HB.out.cell (p:=⟨b,_,none⟩) hbl).trans x1
   have c2 : wr.cell? ⟨b,off + k * 5 + 2,none⟩ = some (.string xm):=(HB.out.cell (p:=⟨b,_,none⟩) hbl).trans x2
   have c3 : wr.cell? ⟨b,off + k * 5 + 3,none⟩ = some (.string xi):=(HB.out.cell (p:=⟨b,_,none⟩) hbl).trans x3
   have c4 : wr.cell? ⟨b,off + k * 5 + 4,none⟩ = some (.int .i64 xp):=(HB.out.cell (p:=⟨b,_,none⟩) hbl).trans x4
   clear x0 x1 x2 x3 x4 hx hq
   go_wp2_with fail
   refine HFL.out.mono ?_
   rintro e w2 ⟨rfl,hb2⟩
   have HB2:=Lib.hid (HB.out.trans (hb2.mono hww))
   clear hb2 c0 c1 c2 c3 c4
   cases q with
   | false =>
    go_wp2
    go_roundg (gk - 1)
    case measure => omega
    case rel =>
     refine ⟨k + 1,by go_num,by omega,by omega,?_,HB2.out⟩
     have h2:=HA.out
     rw [HD.out,List.all_cons,HQ.out] at h2
     simpa using h2
   | true =>
    go_wp2
    go_ret
    refine ⟨k,rfl,?_,HB2.out⟩
    have h2:=HA.out
    rw [HD.out,List.all_cons,HQ.out] at h2
    rw [← h2]; simp
  ·have HE:=Lib.hid (drop_over xs k (by have:=HN.out; omega))
   go_wp2
   go_ret
   refine ⟨-1,rfl,?_,HB.out⟩
   have:=HA.out
   rw [HE.out] at this
   rw [← this]; rfl
theorem pncont_any (xs : List Nd) (v : Value) (w : World) (hv : NdsC w v xs) (hn : xs.length ≤ 100000) (FL : Nd → Bool)
  (hF : ∀ w' i,(hi : i < xs.length) → Below w.heap.size w w' → Calls Tryz.prog 96 #[.agg xs[i].cells.toArray] w' fun e w'' => e = .returned (.bool (FL xs[i])) ∧ Below w'.heap.size w' w'') (b : Bool) (hb : (xs.all fun x => !FL x) = b) :
  Calls Tryz.prog 98 #[v,.func (.func 96) #[] #[]] w fun e w' => e = .returned (.bool (!b)) ∧ Below w.heap.size w w':=by
 have H:=pnidx_any xs v w hv hn FL hF
 rw [hb] at H
 clear hv hn hb hF
 go_enter Tryz.func98,Tryz.ntmps98
 go_wp2_with fail
 refine H.mono ?_
 rintro e w2 ⟨z,rfl,hz,hb2⟩
 have HZ:=Lib.hid hz
 clear hz
 go_wp2
 go_ret
 exact ⟨ret_bool HZ.out,hb2⟩
theorem numB_and (n : Int) : numB n = (decide (0 ≤ n) && decide (n ≤ 9999)):=by unfold numB; rw [Bool.decide_and]
def flV (x : Vr) : Bool:=!nameB x.nm || (!numB x.n || decide (x.pl < 0))
noncomputable def flT (x : Th) : Bool:=!nameB x.nm || (!(x.regs.all fun s => !(!nameB s)) || (!rightSB x.body || decide (x.pl < 0)))
def ownless (x : Nd) : Bool:=decide (x.op = 2)
def kindB (k : Int) : Bool:=decide (1 ≤ k) && decide (k ≤ 3)
noncomputable def flC (x : Cl) : Bool:=!kindB x.kind || (!rightB x.e || (!(x.e.all fun n => !ownless n) || decide (x.pl < 0)))
noncomputable def rightPB (g : Pg) : Bool:=numB g.mod && ((g.locs.all fun x => !flV x) && ((g.ths.all fun x => !flT x) && (g.cls.all fun x => !flC x)))
def TmOK (x : Th) : Prop:=x.nm.size ≤ 100000 ∧ x.regs.length ≤ 100000 ∧ (∀ s ∈ x.regs,s.size ≤ 100000) ∧ x.body.length ≤ 100000 ∧ SmOK x.body
def CmOK (x : Cl) : Prop:=x.e.length ≤ 100000 ∧ NmOK x.e
structure PmOK (g : Pg) : Prop where
 l : g.locs.length ≤ 100000 ∧ ∀ x ∈ g.locs,x.nm.size ≤ 100000
 t : g.ths.length ≤ 100000 ∧ ∀ x ∈ g.ths,TmOK x
 c : g.cls.length ≤ 100000 ∧ ∀ x ∈ g.cls,CmOK x
theorem pnumber_any (n : Int) (w : World) : Calls Tryz.prog 41 #[.int .i64 n] w fun e w' => e = .returned (.bool (numB n)) ∧ Below w.heap.size w w':=by
 rw [numB_and]
 by_cases h1 : 0 ≤ n
 ·have d1 : decide (0 ≤ n) = true:=decide_eq_true h1
  rw [d1]
  by_cases h2 : n ≤ 9999
  ·have d2 : decide (n ≤ 9999) = true:=decide_eq_true h2
   rw [d2]
   go_enter Tryz.func41,Tryz.ntmps41
   go_wp2
   go_ret
   exact ⟨rfl,Below.refl _ _⟩
  ·have d2 : decide (n ≤ 9999) = false:=decide_eq_false h2
   rw [d2]
   go_enter Tryz.func41,Tryz.ntmps41
   go_wp2
   go_ret
   exact ⟨rfl,Below.refl _ _⟩
 ·have d1 : decide (0 ≤ n) = false:=decide_eq_false h1
  rw [d1]
  go_enter Tryz.func41,Tryz.ntmps41
  go_wp2
  go_ret
  exact ⟨rfl,Below.refl _ _⟩
theorem pstrange_any (s : ByteArray) (w : World) (hs : s.size ≤ 100000) : Calls Tryz.prog 92 #[.string s] w fun e w' => e = .returned (.bool (!nameB s)) ∧ Below w.heap.size w w':=by
 have HN:=Lib.hid (name_any s w (by unfold maxLen; omega))
 obtain ⟨b,hb⟩ : ∃ b,nameB s = b:=⟨_,rfl⟩
 rw [hb] at HN ⊢
 clear hb hs
 cases b <;>
 ·go_enter Tryz.func92,Tryz.ntmps92
  go_wp2_with fail
  refine HN.out.mono ?_
  rintro e w2 ⟨rfl,hb2⟩
  go_wp2
  go_ret
  exact ⟨rfl,hb2⟩
theorem pownless_any (x : Nd) (w : World) : Calls Tryz.prog 96 #[.agg x.cells.toArray] w fun e w' => e = .returned (.bool (ownless x)) ∧ Below w.heap.size w w':=by
 obtain ⟨xo,xn,xm,xi,xp⟩:=x
 have hc : (Nd.cells ⟨xo,xn,xm,xi,xp⟩).toArray = #[.int .i64 xo,.int .i64 xn,.string xm,.string xi,.int .i64 xp]:=rfl
 rw [hc]
 unfold ownless
 simp only []
 by_cases h3 : xo = 2
 ·subst h3
  go_enter Tryz.func96,Tryz.ntmps96
  go_wp2
  go_ret
  exact ⟨rfl,(Below.refl _ _).alloc (Nat.le_refl _) _⟩
 ·rw [decide_eq_false h3]
  have q3 : (xo == 2) = false:=by simp; omega
  clear h3
  go_enter Tryz.func96,Tryz.ntmps96
  go_wp2
  go_ret
  exact ⟨rfl,(Below.refl _ _).alloc (Nat.le_refl _) _⟩
theorem pflV_any (x : Vr) (w : World) (hs : x.nm.size ≤ 100000) : Calls Tryz.prog 43 #[.agg (cellsV x).toArray] w fun e w' => e = .returned (.bool (flV x)) ∧ Below w.heap.size w w':=by
 obtain ⟨nm,n,p⟩:=x
 have hc : (cellsV ⟨nm,n,p⟩).toArray = #[.string nm,.int .i64 n,.int .i64 p]:=rfl
 rw [hc]
 unfold flV
 simp only [] at hs ⊢
 have HN:=Lib.hid (fun W => name_any nm W (by unfold maxLen; omega))
 have HU:=Lib.hid (fun W => pnumber_any n W)
 obtain ⟨b1,hb1⟩ : ∃ b,nameB nm = b:=⟨_,rfl⟩
 obtain ⟨b2,hb2⟩ : ∃ b,numB n = b:=⟨_,rfl⟩
 obtain ⟨b3,hb3⟩ : ∃ b,decide (p < 0) = b:=⟨_,rfl⟩
 rw [hb1] at HN ⊢
 rw [hb2] at HU ⊢
 rw [hb3]
 have HB:=Lib.hid (Bk.new w 49 #[.string nm,.int .i64 n,.int .i64 p])
 clear hb1 hb2 hs hc
 go_enter Tryz.func43,Tryz.ntmps43
 go_wp2_with fail
 refine (HN.out _).mono ?_
 rintro e w2 ⟨rfl,k2⟩
 cases b1 with
 | false =>
  go_wp2
  go_ret
  exact ⟨rfl,below_a k2⟩
 | true =>
  have B2:=HB.out.below k2
  have c1:=B2.cell 1
  have l2:=B2.lt
  go_wp2_with fail
  refine (HU.out _).mono ?_
  rintro e w3 ⟨rfl,k3⟩
  cases b2 with
  | false =>
   go_wp2
   go_ret
   exact ⟨rfl,below_t (below_a k2) k3 (Nat.le_refl _)⟩
  | true =>
   have B3:=B2.below k3
   have c2:=B3.cell 2
   have l3:=B3.lt
   cases b3 <;>
   ·go_wp2
    go_ret
    exact ⟨rfl,below_t (below_a k2) k3 (Nat.le_refl _)⟩
theorem pflT_any (t : TI) (w : World) (hR : StrsD w t.2.1 t.1.regs) (ss : List SI) (hss : ss.map (·.1) = t.1.body) (hS : StsD w t.2.2 ss) (hz : TmOK t.1) (hf : Flds w) : Calls Tryz.prog 45 #[.agg (cellsT t).toArray] w fun e w' => e = .returned (.bool (flT t.1)) ∧ Below w.heap.size w w':=by
 obtain ⟨⟨nm,rs,bd,p⟩,v1,v2⟩:=t
 have hc : (cellsT ⟨⟨nm,rs,bd,p⟩,v1,v2⟩).toArray = #[.string nm,v1,v2,.int .i64 p]:=rfl
 rw [hc]
 unfold flT
 obtain ⟨z1,z2,z3,z4,z5⟩:=hz
 simp only [] at hR hss hS z1 z2 z3 z4 z5 ⊢
 subst hss
 have hl : ss.length ≤ 100000:=by simpa using z4
 have HN:=Lib.hid (fun W => pstrange_any nm W z1)
 have HC:=Lib.hid (fun (W : World) (h : Below w.heap.size w W) => pscont_any rs v1 W (StrsD.below hR h) z2 (fun s => !nameB s) (fun W' i hi _ => pstrange_any rs[i] W' (z3 _ (List.getElem_mem hi))) _ rfl)
 have HRT:=Lib.hid (fun (W : World) (h : Below w.heap.size w W) => sright_any ss v2 W (hS.below h) hl z5 (hf.below h))
 obtain ⟨b1,hb1⟩ : ∃ b,nameB nm = b:=⟨_,rfl⟩
 obtain ⟨b2,hb2⟩ : ∃ b,(rs.all fun s => !(!nameB s)) = b:=⟨_,rfl⟩
 obtain ⟨b3,hb3⟩ : ∃ b,rightSB (ss.map (·.1)) = b:=⟨_,rfl⟩
 obtain ⟨b4,hb4⟩ : ∃ b,decide (p < 0) = b:=⟨_,rfl⟩
 rw [hb1] at HN ⊢
 rw [hb2] at HC ⊢
 rw [hb3] at HRT ⊢
 rw [hb4]
 obtain ⟨a1,p1,rfl⟩:=hR.shape
 obtain ⟨a2,p2,rfl⟩ : ∃ ad cap,v2 = .slice ad ss.length cap:=by obtain ⟨ad,cap,h,_⟩:=hS; exact ⟨ad,cap,h⟩
 obtain ⟨m1,hm1⟩ : ∃ m,m = rs.length:=⟨_,rfl⟩
 obtain ⟨m2,hm2⟩ : ∃ m,m = ss.length:=⟨_,rfl⟩
 rw [← hm1] at HC ⊢
 rw [← hm2] at HRT ⊢
 have HB:=Lib.hid (Bk.new w 39 #[.string nm,.slice a1 m1 p1,.slice a2 m2 p2,.int .i64 p])
 clear hb1 hb2 hb3 hc hR hS hf z1 z2 z3 z4 z5 hl hm1 hm2
 go_enter Tryz.func45,Tryz.ntmps45
 go_wp2_with fail
 refine (HN.out _).mono ?_
 rintro e w2 ⟨rfl,k2⟩
 cases b1 with
 | false =>
  go_wp2
  go_ret
  exact ⟨rfl,below_a k2⟩
 | true =>
  have B2:=HB.out.below k2
  have K2:=Lib.hid (below_a k2)
  have c1:=B2.cell 1
  have l2:=B2.lt
  clear k2
  go_wp2_with fail
  refine (HC.out _ K2.out).mono ?_
  rintro e w3 ⟨rfl,k3⟩
  have K3:=Lib.hid (below_t K2.out k3 (Nat.le_refl _))
  cases b2 with
  | false =>
   go_wp2
   go_ret
   exact ⟨rfl,K3.out⟩
  | true =>
   have B3:=B2.below k3
   have c2:=B3.cell 2
   have l3:=B3.lt
   clear k3 c1
   go_wp2_with fail
   refine (HRT.out _ K3.out).mono ?_
   rintro e w4 ⟨rfl,k4⟩
   have K4:=Lib.hid (below_t K3.out k4 (Nat.le_refl _))
   cases b3 with
   | false =>
    go_wp2
    go_ret
    exact ⟨rfl,K4.out⟩
   | true =>
    have B4:=B3.below k4
    have c3:=B4.cell 3
    have l4:=B4.lt
    clear k4 c2
    cases b4 <;>
    ·go_wp2
     go_ret
     exact ⟨rfl,K4.out⟩
theorem pflC_any (t : CI) (w : World) (hE : NdsC w t.2 t.1.e) (hz : CmOK t.1) : Calls Tryz.prog 47 #[.agg (cellsC t).toArray] w fun e w' => e = .returned (.bool (flC t.1)) ∧ Below w.heap.size w w':=by
 obtain ⟨⟨k,es,p⟩,v1⟩:=t
 have hc : (cellsC ⟨⟨k,es,p⟩,v1⟩).toArray = #[.int .i64 k,v1,.int .i64 p]:=rfl
 rw [hc]
 unfold flC kindB
 obtain ⟨z1,z2⟩:=hz
 simp only [] at hE z1 z2 ⊢
 have HC:=Lib.hid (fun (W : World) (h : Below w.heap.size w W) => pncont_any es v1 W (hE.below h) z1 ownless (fun W' i hi _ => pownless_any es[i] W') _ rfl)
 have HRT:=Lib.hid (fun (W : World) (h : Below w.heap.size w W) => right_any es v1 W (hE.below h).nds z1 z2 _ rfl)
 obtain ⟨b1,hb1⟩ : ∃ b,decide (1 ≤ k) = b:=⟨_,rfl⟩
 obtain ⟨b2,hb2⟩ : ∃ b,decide (k ≤ 3) = b:=⟨_,rfl⟩
 obtain ⟨b3,hb3⟩ : ∃ b,rightB es = b:=⟨_,rfl⟩
 obtain ⟨b4,hb4⟩ : ∃ b,(es.all fun n => !ownless n) = b:=⟨_,rfl⟩
 obtain ⟨b5,hb5⟩ : ∃ b,decide (p < 0) = b:=⟨_,rfl⟩
 rw [hb1,hb2,hb5]
 rw [hb3] at HRT ⊢
 rw [hb4] at HC ⊢
 obtain ⟨a1,p1,rfl⟩ : ∃ ad cap,v1 = .slice ad es.length cap:=by obtain ⟨ad,cap,h,_⟩:=hE; exact ⟨ad,cap,h⟩
 obtain ⟨m1,hm1⟩ : ∃ m,m = es.length:=⟨_,rfl⟩
 rw [← hm1] at HC HRT ⊢
 have HB:=Lib.hid (Bk.new w 44 #[.int .i64 k,.slice a1 m1 p1,.int .i64 p])
 clear hb3 hb4 hc hE z1 z2 hm1
 cases b1 with
 | false =>
  go_enter Tryz.func47,Tryz.ntmps47
  go_wp2
  go_ret
  exact ⟨rfl,(Below.refl _ _).alloc (Nat.le_refl _) _⟩
 | true =>
  cases b2 with
  | false =>
   go_enter Tryz.func47,Tryz.ntmps47
   go_wp2
   go_ret
   exact ⟨rfl,(Below.refl _ _).alloc (Nat.le_refl _) _⟩
  | true =>
   go_enter Tryz.func47,Tryz.ntmps47
   go_wp2_with fail
   refine (HRT.out _ ((Below.refl _ _).alloc (Nat.le_refl _) _)).mono ?_
   rintro e w2 ⟨rfl,k2⟩
   have K2:=Lib.hid (below_a k2)
   cases b3 with
   | false =>
    go_wp2
    go_ret
    exact ⟨rfl,K2.out⟩
   | true =>
    have B2:=HB.out.below k2
    have c1:=B2.cell 1
    have l2:=B2.lt
    clear k2
    go_wp2_with fail
    refine (HC.out _ K2.out).mono ?_
    rintro e w3 ⟨rfl,k3⟩
    have K3:=Lib.hid (below_t K2.out k3 (Nat.le_refl _))
    cases b4 with
    | false =>
     go_wp2
     go_ret
     exact ⟨rfl,K3.out⟩
    | true =>
     have B3:=B2.below k3
     have c2:=B3.cell 2
     have l3:=B3.lt
     clear k3 c1
     cases b5 <;>
     ·go_wp2
      go_ret
      exact ⟨rfl,K3.out⟩
theorem all_ths {α β : Type} (ts : List (α × β)) (f : α → Bool) : (ts.all fun t => !f t.1) = ((ts.map (·.1)).all fun x => !f x):=by rw [List.all_map]; rfl
theorem pright_any (g : Pg) (x y z : Value) (w : World) (hd : PgD w x y z g) (hz : PmOK g) (hf : Flds w) : Calls Tryz.prog 14 #[.agg #[.int .i64 g.mod,x,y,z]] w fun e w' => e = .returned (.bool (rightPB g)) ∧ Below w.heap.size w w':=by
 obtain ⟨m,ls,hs,cs⟩:=g
 obtain ⟨dl,⟨ts,rfl,dt⟩,us,rfl,dc⟩:=hd
 obtain ⟨⟨l1,l2⟩,⟨t1,t2⟩,c1,c2⟩:=hz
 unfold rightPB
 simp only [] at dl dt dc l1 l2 t1 t2 c1 c2 ⊢
 rw [← all_ths,← all_ths]
 have tl : ts.length ≤ 100000:=by simpa using t1
 have cl : us.length ≤ 100000:=by simpa using c1
 have HU:=Lib.hid (fun W => pnumber_any m W)
 have HL:=Lib.hid (fun (W : World) (h : Below w.heap.size w W) => pvcont_any ls x W (VrsD.below dl h) l1 flV (fun W' i hi _ => pflV_any ls[i] W' (l2 _ (List.getElem_mem hi))) _ rfl)
 have HT:=Lib.hid (fun (W : World) (h : Below w.heap.size w W) => ptcont_any ts y W (ThsD.below dt h) tl (fun t => flT t.1) (fun W' i hi hb => by
  obtain ⟨ad,cap,_,_,_,hc⟩:=ThsD.below dt h
  obtain ⟨b,off,_,hl,_,hR,ss,e1,hS⟩:=hc i hi
  exact pflT_any ts[i] W' (StrsD.below hR hb) ss e1 (hS.below hb) (t2 _ (List.mem_map_of_mem (List.getElem_mem hi))) ((hf.below h).below hb)) _ rfl)
 have HC:=Lib.hid (fun (W : World) (h : Below w.heap.size w W) => pccont_any us z W (ClsD.below dc h) cl (fun t => flC t.1) (fun W' i hi hb => by
  obtain ⟨ad,cap,_,_,_,hc⟩:=ClsD.below dc h
  obtain ⟨b,off,_,hl,_,hE⟩:=hc i hi
  exact pflC_any us[i] W' (hE.below hb) (c2 _ (List.mem_map_of_mem (List.getElem_mem hi)))) _ rfl)
 obtain ⟨b1,hb1⟩ : ∃ b,numB m = b:=⟨_,rfl⟩
 obtain ⟨b2,hb2⟩ : ∃ b,(ls.all fun x => !flV x) = b:=⟨_,rfl⟩
 obtain ⟨b3,hb3⟩ : ∃ b,(ts.all fun t => !flT t.1) = b:=⟨_,rfl⟩
 obtain ⟨b4,hb4⟩ : ∃ b,(us.all fun t => !flC t.1) = b:=⟨_,rfl⟩
 rw [hb1] at HU ⊢
 rw [hb2] at HL ⊢
 rw [hb3] at HT ⊢
 rw [hb4] at HC ⊢
 obtain ⟨a1,p1,rfl⟩:=dl.shape
 obtain ⟨a2,p2,rfl⟩:=dt.shape
 obtain ⟨a3,p3,rfl⟩:=dc.shape
 obtain ⟨m1,hm1⟩ : ∃ m,m = ls.length:=⟨_,rfl⟩
 obtain ⟨m2,hm2⟩ : ∃ m,m = ts.length:=⟨_,rfl⟩
 obtain ⟨m3,hm3⟩ : ∃ m,m = us.length:=⟨_,rfl⟩
 rw [← hm1] at HL ⊢
 rw [← hm2] at HT ⊢
 rw [← hm3] at HC ⊢
 have HB:=Lib.hid (Bk.new w 27 #[.int .i64 m,.slice a1 m1 p1,.slice a2 m2 p2,.slice a3 m3 p3])
 clear hb1 hb2 hb3 hb4 dl dt dc hf l1 l2 t1 t2 c1 c2 tl cl hm1 hm2 hm3
 go_enter Tryz.func14,Tryz.ntmps14
 go_wp2_with fail
 refine (HU.out _).mono ?_
 rintro e w2 ⟨rfl,k2⟩
 have K2:=Lib.hid (below_a k2)
 cases b1 with
 | false =>
  go_wp2
  go_ret
  exact ⟨rfl,K2.out⟩
 | true =>
  have B2:=HB.out.below k2
  have c1:=B2.cell 1
  have l2:=B2.lt
  clear k2
  go_wp2_with fail
  refine (HL.out _ K2.out).mono ?_
  rintro e w3 ⟨rfl,k3⟩
  have K3:=Lib.hid (below_t K2.out k3 (Nat.le_refl _))
  cases b2 with
  | false =>
   go_wp2
   go_ret
   exact ⟨rfl,K3.out⟩
  | true =>
   have B3:=B2.below k3
   have c2:=B3.cell 2
   have l3:=B3.lt
   clear k3 c1
   go_wp2_with fail
   refine (HT.out _ K3.out).mono ?_
   rintro e w4 ⟨rfl,k4⟩
   have K4:=Lib.hid (below_t K3.out k4 (Nat.le_refl _))
   cases b3 with
   | false =>
    go_wp2
    go_ret
    exact ⟨rfl,K4.out⟩
   | true =>
    have B4:=B3.below k4
    have c3:=B4.cell 3
    have l4:=B4.lt
    clear k4 c2
    go_wp2_with fail
    refine (HC.out _ K4.out).mono ?_
    rintro e w5 ⟨rfl,k5⟩
    have K5:=Lib.hid (below_t K4.out k5 (Nat.le_refl _))
    cases b4 <;>
    ·go_wp2
     go_ret
     exact ⟨rfl,K5.out⟩
end Go.Proofs.YtcghccjnadagcaaGreatDoor
