/- Facts. -/
import Derived.Test.YtcghccjnadagcaaGreatDoorVg
set_option maxRecDepth 100000
set_option maxHeartbeats 32000000
namespace Go.Proofs.YtcghccjnadagcaaGreatDoor
open Go.RowKit
theorem fld_cons (l : List Tok) (c : UInt8) (cs : List UInt8) (i : Nat) (x : St) : fld l (c :: cs) i x =
  if c = 114 then (if nmAt l i then fld l cs (i + 1) { x with reg:=txt l i } else .err (refK l i).1 (refK l i).2)
  else if c = 108 then (if nmAt l i then fld l cs (i + 1) { x with loc:=txt l i } else .err (refK l i).1 (refK l i).2)
  else if c = 101 then (match plainR l i with
   | .err k a => .err k a
   | .ok y j => fld l cs j { x with e:=y.flat })
  else if c = 102 then (match plainR l i with
   | .err k a => .err k a
   | .ok y j => fld l cs j { x with f:=y.flat })
  else if c = 113 then (if sgAt l i [33,61] then fld l cs (i + 1) { x with ne:=true } else if sgAt l i [61,61] then fld l cs (i + 1) { x with ne:=false } else .err (refK l i).1 (refK l i).2)
  else if sgAt l i [c] then fld l cs (i + 1) x else .err (refK l i).1 (refK l i).2:=rfl
def FlS (N : Nat) (w wr : World) (x : St) (ve vf : Value) : Prop:=
 BlkS wr N x ve vf ∧ BlkS wr (N + 1) (st0 0 0) (.slice none 0 0) (.slice none 0 0) ∧ wr.ownsRow (N + 2) 46 5 ve x.e.length (rowN x.e) ∧ wr.ownsRow (N + 2) 46 5 vf x.f.length (rowN x.f) ∧ Below N w wr ∧ N + 2 ≤ wr.heap.size
theorem FlS.under {N : Nat} {w wr w2 : World} {x : St} {ve vf : Value} (h : FlS N w wr x ve vf) (hb : Below wr.heap.size wr w2) (hN : N ≤ wr.heap.size) : FlS N w w2 x ve vf:=
 ⟨h.1.under hb,h.2.1.under hb,own_below h.2.2.1 hb,own_below h.2.2.2.1 hb,h.2.2.2.2.1.trans (hb.mono hN),Nat.le_trans h.2.2.2.2.2 hb.size⟩
theorem FlS.set3 {w wr : World} {x : St} {ve vf u : Value} {l : List Nd} (h : FlS w.heap.size w wr x ve vf) (hu : wr.ownsRow (w.heap.size + 2) 46 5 u l.length (rowN l)) : FlS w.heap.size w (wr.setCell ⟨w.heap.size,3,none⟩ u) { x with e:=l } u vf:=
 ⟨h.1.set.2.2.1 u l,h.2.1.other _ _ (by omega) _,ownsRow_setCell_below hu (by show w.heap.size < _; omega) _,ownsRow_setCell_below h.2.2.2.1 (by show w.heap.size < _; omega) _,h.2.2.2.2.1.setCell (p:=⟨w.heap.size,3,none⟩) (Nat.le_refl _) _,by have:=h.2.2.2.2.2; simpa [World.setCell] using this⟩
theorem FlS.set4 {w wr : World} {x : St} {ve vf u : Value} {l : List Nd} (h : FlS w.heap.size w wr x ve vf) (hu : wr.ownsRow (w.heap.size + 2) 46 5 u l.length (rowN l)) : FlS w.heap.size w (wr.setCell ⟨w.heap.size,4,none⟩ u) { x with f:=l } ve u:=
 ⟨h.1.set.2.2.2.1 u l,h.2.1.other _ _ (by omega) _,ownsRow_setCell_below h.2.2.1 (by show w.heap.size < _; omega) _,ownsRow_setCell_below hu (by show w.heap.size < _; omega) _,h.2.2.2.2.1.setCell (p:=⟨w.heap.size,4,none⟩) (Nat.le_refl _) _,by have:=h.2.2.2.2.2; simpa [World.setCell] using this⟩
theorem FlS.set5 {w wr : World} {x : St} {ve vf : Value} (h : FlS w.heap.size w wr x ve vf) (u : Bool) : FlS w.heap.size w (wr.setCell ⟨w.heap.size,5,none⟩ (.bool u)) { x with ne:=u } ve vf:=
 ⟨h.1.set.2.2.2.2 u,h.2.1.other _ _ (by omega) _,ownsRow_setCell_below h.2.2.1 (by show w.heap.size < _; omega) _,ownsRow_setCell_below h.2.2.2.1 (by show w.heap.size < _; omega) _,h.2.2.2.2.1.setCell (p:=⟨w.heap.size,5,none⟩) (Nat.le_refl _) _,by have:=h.2.2.2.2.2; simpa [World.setCell] using this⟩
theorem SIn.grown {w w' : World} {ts : List SI} {B n : Nat} {v : Value} {xs : List Value} (h : SIn w ts) (hv : w.ownsRow B 42 9 v n xs) (hg : w.grownBy w' v.ownBlock) : SIn w' ts:=
 fun t ht => ⟨(h t ht).1.kept hg (own_apart (h t ht).1 hv),(h t ht).2.kept hg (own_apart (h t ht).2 hv)⟩
structure LS (w wx : World) (acc : List St) (va : Value) (b : Nat) (x : St) (ve vf : Value) : Prop where
 acc : SOwn wx w.heap.size va acc
 blk : BlkS wx b x ve vf
 e : wx.ownsRow 0 46 5 ve x.e.length (rowN x.e)
 f : wx.ownsRow 0 46 5 vf x.f.length (rowN x.f)
 below : Below w.heap.size w wx
 lt : ∀ g,va.ownBlock = some g → g < b
 le : w.heap.size ≤ b
theorem LS.under {w wx wy : World} {acc : List St} {va : Value} {b : Nat} {x : St} {ve vf : Value} (h : LS w wx acc va b x ve vf) (hb : Below wx.heap.size wx wy) : LS w wy acc va b x ve vf:=
 ⟨h.acc.below hb,h.blk.under hb,own_below h.e hb,own_below h.f hb,h.below.trans (hb.mono h.below.size),h.lt,h.le⟩
theorem sown_shape {w : World} {B : Nat} {v : Value} {xs : List St} (h : SOwn w B v xs) : ∃ ad cap,v = .slice ad xs.length cap:=by
 obtain ⟨ts,h1,h2,_⟩:=h
 obtain ⟨ad,cap,h3,_⟩:=own_shape h2
 exact ⟨ad,cap,by rw [h3,← h1,List.length_map]⟩
end Go.Proofs.YtcghccjnadagcaaGreatDoor
