/- Facts. -/
import Derived.Test.YtcghccjnadagcaaGreatDoorNl
import Derived.Test.YtcghccjnadagcaaGreatDoorKa
import Derived.Test.YtcghccjnadagcaaGreatDoorRa
import Derived.Test.YtcghccjnadagcaaGreatDoorA
set_option maxRecDepth 100000
set_option maxHeartbeats 32000000
namespace Go.Proofs.YtcghccjnadagcaaGreatDoor
open Go.RowKit
def FitR (L S i : Nat) : Res → Prop
 | .ok e j => i ≤ j ∧ j ≤ L ∧ e.size ≤ S + (j - i)
 | .err k _ => k ≠ 0
theorem refR_fit (l : List Tok) (L S i j : Nat) : FitR L S i (refR l j):=by
 unfold refR refK
 by_cases h : j < l.length
 ·rw [if_pos h]; show 5 ≠ 0; decide
 ·rw [if_neg h]; show 6 ≠ 0; decide
theorem run_fit {l : List Tok} : ∀ (f : Nat) (c : Cmd) (d i : Nat) (r : Res) (S : Nat),i ≤ l.length → (∀ n,c = .lv n → S = 0) → (∀ n e,c = .more n e → e.size ≤ S) → run l f c d i = some r →
  FitR l.length S i r ∧ (∀ n e j,c = .lv n → r = .ok e j → i < j):=by
 intro f
 induction f with
 | zero => intro c d i r S _ _ _ hr; cases hr
 | succ f ih =>
  intro c d i r S hi hS0 hc hr
  cases c with
  | lv n =>
   obtain rfl:=hS0 n rfl
   by_cases h5 : n = 5
   ·subst h5
    rw [run_op] at hr
    by_cases h33 : sgAt l i [33] = true
    ·have hlt:=sgAt_lt h33
     rw [if_pos h33] at hr
     by_cases hd : d = 30
     ·rw [if_pos hd] at hr; cases hr
      exact ⟨by show 7 ≠ 0; decide,fun n e j _ h => by cases h⟩
     ·rw [if_neg hd] at hr
      cases h1 : run l f (.lv 5) (d + 1) (i + 1) with
      | none => rw [h1] at hr; cases hr
      | some r1 =>
       rw [h1] at hr
       obtain ⟨hg,hg2⟩:=ih (.lv 5) _ _ _ 0 (by omega) (fun n h => rfl) (fun n e hh => by cases hh) h1
       cases r1 with
       | err k a => cases hr; exact ⟨hg,fun n e j _ h => by cases h⟩
       | ok e j =>
        cases hr
        obtain ⟨g1,g2,g3⟩:=hg
        refine ⟨⟨by omega,g2,?_⟩,fun n e j _ h => by cases h; omega⟩
        show e.size + 1 ≤ _
        have:=hg2 5 e j rfl rfl
        omega
    ·rw [if_neg h33] at hr
     by_cases h40 : sgAt l i [40] = true
     ·have hlt:=sgAt_lt h40
      rw [if_pos h40] at hr
      by_cases hd : d = 30
      ·rw [if_pos hd] at hr; cases hr
       exact ⟨by show 7 ≠ 0; decide,fun n e j _ h => by cases h⟩
      ·rw [if_neg hd] at hr
       cases h1 : run l f (.lv 0) (d + 1) (i + 1) with
       | none => rw [h1] at hr; cases hr
       | some r1 =>
        rw [h1] at hr
        obtain ⟨hg,hg2⟩:=ih (.lv 0) _ _ _ 0 (by omega) (fun n h => rfl) (fun n e hh => by cases hh) h1
        cases r1 with
        | err k a => cases hr; exact ⟨hg,fun n e j _ h => by cases h⟩
        | ok e j =>
         by_cases h41 : sgAt l j [41] = true
         ·simp only [if_pos h41] at hr
          cases hr
          obtain ⟨g1,g2,g3⟩:=hg
          have hj:=sgAt_lt h41
          exact ⟨⟨by omega,by omega,by omega⟩,fun n e j _ h => by cases h; omega⟩
         ·simp only [if_neg h41] at hr
          cases hr
          exact ⟨refR_fit _ _ _ _ _,fun n e j _ h => by cases h⟩
     ·rw [if_neg h40] at hr
      by_cases hn : nmAt l i = true
      ·have hlt:=nmAt_lt hn
       rw [if_pos hn] at hr
       cases hr
       unfold namedR
       by_cases h46 : sgAt l (i + 1) [46] = true
       ·rw [if_pos h46]
        by_cases h2 : nmAt l (i + 2) = true
        ·have hlt2:=nmAt_lt h2
         rw [if_pos h2]
         exact ⟨⟨by omega,by omega,by show 1 ≤ _; omega⟩,fun n e j _ h => by cases h; omega⟩
        ·rw [if_neg h2]
         exact ⟨refR_fit _ _ _ _ _,fun n e j _ h => by cases h⟩
       ·rw [if_neg h46]
        exact ⟨⟨by omega,by omega,by show 1 ≤ _; omega⟩,fun n e j _ h => by cases h; omega⟩
      ·rw [if_neg hn] at hr
       by_cases hu : nuAt l i = true
       ·have hlt:=nuAt_lt hu
        rw [if_pos hu] at hr
        cases hr
        exact ⟨⟨by omega,by omega,by show 1 ≤ _; omega⟩,fun n e j _ h => by cases h; omega⟩
       ·rw [if_neg hu] at hr
        cases hr
        exact ⟨refR_fit _ _ _ _ _,fun n e j _ h => by cases h⟩
   ·rw [run_lv _ _ _ _ _ h5] at hr
    cases h1 : run l f (.lv (n + 1)) d i with
    | none => rw [h1] at hr; cases hr
    | some r1 =>
     rw [h1] at hr
     obtain ⟨hg,hg2⟩:=ih (.lv (n + 1)) _ _ _ 0 hi (fun n h => rfl) (fun n e hh => by cases hh) h1
     cases r1 with
     | err k a => cases hr; exact ⟨hg,fun n e j _ h => by cases h⟩
     | ok e j =>
      obtain ⟨g1,g2,g3⟩:=hg
      have hj:=hg2 _ e j rfl rfl
      obtain ⟨k1,_⟩:=ih _ _ _ _ (j - i) g2 (fun n h => by cases h) (fun n e hh => by cases hh; omega) hr
      cases r with
      | err k a => exact ⟨k1,fun n e j _ h => by cases h⟩
      | ok e2 j2 =>
       obtain ⟨k2,k3,k4⟩:=k1
       exact ⟨⟨by omega,k3,by omega⟩,fun n e j _ h => by cases h; omega⟩
  | more n e =>
   have he:=hc n e rfl
   rw [run_mo] at hr
   by_cases hw : which l i (opsOf n) = 0
   ·rw [if_pos hw] at hr
    cases hr
    exact ⟨⟨Nat.le_refl _,hi,by omega⟩,fun n e j h => by cases h⟩
   ·rw [if_neg hw] at hr
    have hlt:=which_lt hw
    cases h1 : run l f (.lv (n + 1)) d (i + 1) with
    | none => rw [h1] at hr; cases hr
    | some r1 =>
     rw [h1] at hr
     obtain ⟨hg,hg2⟩:=ih (.lv (n + 1)) _ _ _ 0 (by omega) (fun n h => rfl) (fun n e hh => by cases hh) h1
     cases r1 with
     | err k a => cases hr; exact ⟨hg,fun n e j h => by cases h⟩
     | ok y j =>
      obtain ⟨g1,g2,g3⟩:=hg
      have hj:=hg2 _ y j rfl rfl
      have hs : (Ex.bin (opN (which l i (opsOf n)) (plc l i)) e y).size ≤ S + (j - i):=by show e.size + y.size + 1 ≤ _; omega
      by_cases h2 : n = 2
      ·simp only [if_pos h2] at hr
       cases hr
       exact ⟨⟨by omega,g2,hs⟩,fun n e j h => by cases h⟩
      ·simp only [if_neg h2] at hr
       obtain ⟨k1,_⟩:=ih _ _ _ _ (S + (j - i)) g2 (fun n h => by cases h) (fun n e hh => by cases hh; exact hs) hr
       cases r with
       | err k a => exact ⟨k1,fun n e j h => by cases h⟩
       | ok e2 j2 =>
        obtain ⟨k2,k3,k4⟩:=k1
        exact ⟨⟨by omega,k3,by omega⟩,fun n e j h => by cases h⟩
structure RCtx (l : List Tok) (v : Value) (w : World) : Prop where
 ht : TokC w v l
 hn : l.length ≤ 100000
 hok : TokOK l
 hnum : ∀ i,(tokO l i).2.2.1 ≤ 9999
theorem RCtx.below {l : List Tok} {v : Value} {w w' : World} (h : RCtx l v w) (hb : Below w.heap.size w w') : RCtx l v w':=⟨h.ht.below hb,h.hn,h.hok,h.hnum⟩
def BlkG (W : World) (b : Nat) (x0 x1 x2 x3 : Value) : Prop:=W.heap[b]? = some (.cells #[x0,x1,x2,x3] 147 (0,0))
theorem BlkG.new (w : World) (x0 x1 x2 x3 : Value) : BlkG (w.alloc (.cells #[x0,x1,x2,x3] 147)) w.heap.size x0 x1 x2 x3:=heap_alloc_new w _
theorem BlkG.lt {W : World} {b : Nat} {x0 x1 x2 x3 : Value} (h : BlkG W b x0 x1 x2 x3) : b < W.heap.size:=(Array.getElem?_eq_some_iff.1 h).1
theorem BlkG.below {W W' : World} {b B : Nat} {x0 x1 x2 x3 : Value} (h : BlkG W b x0 x1 x2 x3) (hb : Below B W W') (hlt : b < B) : BlkG W' b x0 x1 x2 x3:=by
 unfold BlkG at *; rw [hb.block b hlt]; exact h
theorem BlkG.under {W W' : World} {b : Nat} {x0 x1 x2 x3 : Value} (h : BlkG W b x0 x1 x2 x3) (hb : Below W.heap.size W W') : BlkG W' b x0 x1 x2 x3:=h.below hb h.lt
theorem BlkG.facts {W : World} {b : Nat} {x0 x1 x2 x3 : Value} (h : BlkG W b x0 x1 x2 x3) :
  (W.cell? ⟨b,0,none⟩ = some x0 ∧ W.cell? ⟨b,1,none⟩ = some x1 ∧ W.cell? ⟨b,2,none⟩ = some x2 ∧ W.cell? ⟨b,3,none⟩ = some x3) ∧
  W.frozen? ⟨b,0,none⟩ = false ∧ W.frozen? ⟨b,1,none⟩ = false ∧ W.frozen? ⟨b,2,none⟩ = false ∧ W.frozen? ⟨b,3,none⟩ = false:=by
 unfold BlkG at h
 simp [World.cell?,World.frozen?,h]
theorem BlkG.set {w : World} {b : Nat} {x0 x1 x2 x3 : Value} (h : BlkG w b x0 x1 x2 x3) :
  (∀ u,BlkG (w.setCell ⟨b,0,none⟩ u) b u x1 x2 x3) ∧ (∀ u,BlkG (w.setCell ⟨b,1,none⟩ u) b x0 u x2 x3) ∧ (∀ u,BlkG (w.setCell ⟨b,2,none⟩ u) b x0 x1 u x3) ∧ (∀ u,BlkG (w.setCell ⟨b,3,none⟩ u) b x0 x1 x2 u):=by
 unfold BlkG at h
 have hlt:=(Array.getElem?_eq_some_iff.1 h).1
 have hg:=(Array.getElem?_eq_some_iff.1 h).2
 refine ⟨fun u => ?_,fun u => ?_,fun u => ?_,fun u => ?_⟩ <;> simp [BlkG,World.setCell,Array.getElem?_modify,h]
theorem BlkG.set4 {w : World} {b : Nat} {x0 x1 x2 x3 : Value} (h : BlkG w b x0 x1 x2 x3) (u0 u1 u2 u3 : Value) :
  BlkG ((((w.setCell ⟨b,0,none⟩ u0).setCell ⟨b,1,none⟩ u1).setCell ⟨b,2,none⟩ u2).setCell ⟨b,3,none⟩ u3) b u0 u1 u2 u3:=
 ((((h.set.1 u0).set.2.1 u1).set.2.2.1 u2).set.2.2.2 u3)
theorem BlkG.other {w : World} {b : Nat} {x0 x1 x2 x3 : Value} (h : BlkG w b x0 x1 x2 x3) (g o : Nat) (hg : b ≠ g) (u : Value) : BlkG (w.setCell ⟨g,o,none⟩ u) b x0 x1 x2 x3:=by
 unfold BlkG at *; rw [Below.heap_setCell _ _ _ _ (by exact hg)]; exact h
theorem below_set4' {B b : Nat} {w w' : World} (h : Below B w w') (hb : B ≤ b) (x0 x1 x2 x3 : Value) : Below B w ((((w'.setCell ⟨b,0,none⟩ x0).setCell ⟨b,1,none⟩ x1).setCell ⟨b,2,none⟩ x2).setCell ⟨b,3,none⟩ x3):=
 (((h.setCell (p:=⟨b,0,none⟩) hb _).setCell (p:=⟨b,1,none⟩) hb _).setCell (p:=⟨b,2,none⟩) hb _).setCell (p:=⟨b,3,none⟩) hb _
theorem below_al2 (w : World) (o1 o2 : Obj) : Below w.heap.size w ((w.alloc o1).alloc o2):=((Below.refl _ _).alloc (Nat.le_refl _) _).alloc (by simp) _
theorem tok_cells {l : List Tok} {w : World} {g i : Nat} (hlt : i < l.length) (k0 : w.cell? ⟨g,i * 4,none⟩ = some (.int .i64 l[i].1)) (k1 : w.cell? ⟨g,i * 4 + 1,none⟩ = some (.string ⟨l[i].2.1.toArray⟩)) (k2 : w.cell? ⟨g,i * 4 + 2,none⟩ = some (.int .i64 l[i].2.2.1)) (k3 : w.cell? ⟨g,i * 4 + 3,none⟩ = some (.int .i64 l[i].2.2.2)) :
  w.cell? ⟨g,i * 4,none⟩ = some (.int .i64 (tokO l i).1) ∧ w.cell? ⟨g,i * 4 + 1,none⟩ = some (.string (txt l i)) ∧ w.cell? ⟨g,i * 4 + 2,none⟩ = some (.int .i64 (tokO l i).2.2.1) ∧ w.cell? ⟨g,i * 4 + 3,none⟩ = some (.int .i64 (plc l i)):=by
 unfold txt plc
 rw [tokO_in l i hlt]
 exact ⟨k0,k1,k2,k3⟩
theorem TokC.at2 {w : World} {l : List Tok} {g m cap j : Nat} (h : TokC w (.slice (some ⟨g,0,none⟩) m cap) l) (_hm : m = m) (hj : j < l.length) :
  w.cell? ⟨g,j * 4,none⟩ = some (.int .i64 (tokO l j).1) ∧ w.cell? ⟨g,j * 4 + 1,none⟩ = some (.string (txt l j)) ∧ w.cell? ⟨g,j * 4 + 2,none⟩ = some (.int .i64 (tokO l j).2.2.1) ∧ w.cell? ⟨g,j * 4 + 3,none⟩ = some (.int .i64 (plc l j)):=by
 obtain ⟨ad,cap',hv,hc⟩:=h
 obtain ⟨g',hg,_,k0,k1,k2,k3⟩:=hc j hj
 cases hv
 cases hg
 exact tok_cells hj k0 k1 k2 k3
end Go.Proofs.YtcghccjnadagcaaGreatDoor
