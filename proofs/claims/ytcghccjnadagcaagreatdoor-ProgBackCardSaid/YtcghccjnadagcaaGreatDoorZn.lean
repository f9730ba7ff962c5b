/- Facts. -/
import Derived.Test.YtcghccjnadagcaaGreatDoorL
import Derived.Test.YtcghccjnadagcaaGreatDoorYu
set_option maxRecDepth 100000
set_option maxHeartbeats 32000000
namespace Go.Proofs.YtcghccjnadagcaaGreatDoor
open Go.RowKit
theorem rowS_at (l : List SI) : ∀ i,(h : i < l.length) → ∀ k,(hk : k < 9) → (rowS l)[i * 9 + k]? = some ((cellsI l[i])[k]'(by simpa [cellsI] using hk)):=by
 induction l with
 | nil => intro i h; exact absurd h (Nat.not_lt_zero _)
 | cons a l ih =>
  intro i h k hk
  have hr : rowS (a :: l) = cellsI a ++ rowS l:=by simp [rowS]
  have hl : (cellsI a).length = 9:=rfl
  cases i with
  | zero =>
   rw [hr,List.getElem?_append_left (by rw [hl]; omega),Nat.zero_mul,Nat.zero_add,List.getElem?_eq_getElem (by rw [hl]; omega)]
   rfl
  | succ i =>
   have:=ih i (by simpa using h) k hk
   rw [hr,List.getElem?_append_right (by rw [hl]; omega),hl,show (i + 1) * 9 + k - 9 = i * 9 + k by omega,this]
   rfl
theorem stsD_of_row {w : World} {B : Nat} {v : Value} {ts : List SI} (h : w.ownsRow B 42 9 v ts.length (rowS ts)) (hi : SIn w ts) : StsD w v ts:=by
 have hl:=h.lt
 have hc:=@World.ownsRow.cells _ _ _ _ _ _ _ h
 rcases h.2 with ⟨rfl,h0⟩ | ⟨g,cap,cur,rfl,_,hg,h1,h2,_⟩
 ·have:=List.eq_nil_of_length_eq_zero h0
  subst this
  exact ⟨none,0,rfl,Nat.zero_le _,by omega,fun i hi => absurd hi (Nat.not_lt_zero _)⟩
 ·refine ⟨_,cap,rfl,h1,by unfold maxLen at h2; omega,fun i hi' => ?_⟩
  have hk : ∀ k,(hk : k < 9) → w.cell? ⟨g,0 + i * 9 + k,none⟩ = some ((cellsI ts[i])[k]'(by simpa [cellsI] using hk)):=by
   intro k hk
   have r:=hc (g:=g) rfl _ _ (rowS_at ts i hi' k hk)
   rw [addr_add] at r
   rw [Nat.zero_add]
   exact r
  have hm:=hi ts[i] (List.getElem_mem hi')
  exact ⟨g,0,rfl,(hl g rfl).2,⟨hk 0 (by decide),hk 1 (by decide),hk 2 (by decide),hk 3 (by decide),hk 4 (by decide),hk 5 (by decide),hk 6 (by decide),hk 7 (by decide),hk 8 (by decide)⟩,ndsC_of_own hm.1,ndsC_of_own hm.2⟩
theorem stsD_of_own {w : World} {B : Nat} {v : Value} {xs : List St} (h : SOwn w B v xs) : ∃ ts : List SI,ts.map (·.1) = xs ∧ StsD w v ts:=by
 obtain ⟨ts,h1,h2,h3⟩:=h
 exact ⟨ts,h1,stsD_of_row h2 h3⟩
theorem stsC_of_D {w : World} {v : Value} {ts : List SI} (h : StsD w v ts) : StsC w v ts:=by
 obtain ⟨ad,cap,rfl,_,_,hc⟩:=h
 refine ⟨ad,cap,rfl,fun i hi => ?_⟩
 obtain ⟨b,off,ha,hl,⟨h0,h1,h2,h3,h4,h5,h6,h7,h8⟩,g1,g2⟩:=hc i hi
 refine ⟨b,off,ha,hl,?_,g1,g2⟩
 intro k hk
 match k,hk with
 | 0,_ => exact h0
 | 1,_ => exact h1
 | 2,_ => exact h2
 | 3,_ => exact h3
 | 4,_ => exact h4
 | 5,_ => exact h5
 | 6,_ => exact h6
 | 7,_ => exact h7
 | 8,_ => exact h8
theorem tokC_of_own {w : World} {B : Nat} {v : Value} {l : List Tok} (h : w.ownsRow B 62 4 v l.length (rowOf l)) : TokC w v l:=
 (toks_of_own h w.heap.size fun g hg => by have:=(h.lt g hg).2; omega).tokC
theorem scan_num (l : List UInt8) : ∀ i,(tokO (scanL l).1 i).2.2.1 ≤ 9999:=by
 intro i
 have hg:=scanL_good l
 obtain ⟨ts,hts⟩ : ∃ ts,ts = (scanL l).1:=⟨_,rfl⟩
 rw [← hts] at hg ⊢
 by_cases hi : i < ts.length
 ·have e : tokO ts i = ts[i]:=by simp [tokO,hi]
  rw [e]
  have h2:=hg _ (List.getElem_mem hi)
  unfold Good at h2
  have h3:=tk_num _ _ _ _ h2
  omega
 ·have e : tokO ts i = (0,[],0,0):=by simp [tokO,hi]
  rw [e]
  simp
end Go.Proofs.YtcghccjnadagcaaGreatDoor
