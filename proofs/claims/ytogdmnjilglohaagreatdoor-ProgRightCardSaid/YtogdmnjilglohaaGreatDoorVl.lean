/- What the reference's list does. -/
import Derived.Test.YtogdmnjilglohaaGreatDoorVg
import Derived.Test.YtogdmnjilglohaaGreatDoorVh
set_option maxRecDepth 100000
set_option maxHeartbeats 32000000
namespace Go.Proofs.YtogdmnjilglohaaGreatDoor
open Go.RowKit
theorem SIn.grown {w w' : World} {ts : List SI} {B n : Nat} {v : Value} {xs : List Value} (h : SIn w ts) (hv : w.ownsRow B 42 9 v n xs) (hg : w.grownBy w' v.ownBlock) : SIn w' ts :=
 fun t ht => ⟨(h t ht).1.kept hg (own_apart (h t ht).1 hv), (h t ht).2.kept hg (own_apart (h t ht).2 hv)⟩
structure LS (w wx : World) (acc : List St) (va : Value) (b : Nat) (x : St) (ve vf : Value) : Prop where
 acc : SOwn wx w.heap.size va acc
 blk : BlkS wx b x ve vf
 e : wx.ownsRow 0 46 5 ve x.e.length (rowN x.e)
 f : wx.ownsRow 0 46 5 vf x.f.length (rowN x.f)
 below : Below w.heap.size w wx
 lt : ∀ g, va.ownBlock = some g → g < b
 le : w.heap.size ≤ b
theorem LS.under {w wx wy : World} {acc : List St} {va : Value} {b : Nat} {x : St} {ve vf : Value} (h : LS w wx acc va b x ve vf) (hb : Below wx.heap.size wx wy) : LS w wy acc va b x ve vf :=
 ⟨h.acc.below hb, h.blk.under hb, own_below h.e hb, own_below h.f hb, h.below.trans (hb.mono h.below.size), h.lt, h.le⟩
theorem sown_shape {w : World} {B : Nat} {v : Value} {xs : List St} (h : SOwn w B v xs) : ∃ ad cap, v = .slice ad xs.length cap := by
 obtain ⟨ts, h1, h2, _⟩ := h
 obtain ⟨ad, cap, h3, _⟩ := own_shape h2
 exact ⟨ad, cap, by rw [h3, ← h1, List.length_map]⟩
end Go.Proofs.YtogdmnjilglohaaGreatDoor
