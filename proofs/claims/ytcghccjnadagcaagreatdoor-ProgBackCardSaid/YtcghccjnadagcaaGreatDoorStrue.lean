/- Facts. -/
import Derived.Test.YtcghccjnadagcaaGreatDoorH
set_option maxRecDepth 100000
set_option maxHeartbeats 32000000
namespace Go.Proofs.YtcghccjnadagcaaGreatDoor
open Go.RowKit
theorem same_trueQ (l1 l2 : List Nd) (v1 v2 : Value) (w : World) (h1 : Nds w v1 l1) (h2 : Nds w v2 l2) (hn : l1.length ≤ 100000) (hl : l2.length = l1.length)
  (he : ∀ i,(hi : i < l1.length) → alikeN true l1[i] (l2[i]'(by omega))) :
  Calls Tryz.prog 32 #[v1,v2,.bool true] w fun e w' => e = .returned (.bool true) ∧ ∃ d,w' = w.drewN d:=by
 obtain ⟨ad,cap,rfl,hc⟩:=h1.cases
 obtain ⟨ad2,cap2,rfl,hc2⟩:=h2.cases
 rw [hl]
 have HC2 : Hid (∀ i,(hi : i < l1.length) → ∃ b off,ad2 = some ⟨b,off,none⟩ ∧ b < w.heap.size ∧ NdAt w b (off + i * 5) (l2[i]'(by omega))):=fun i hi => hc2 i (by omega)
 obtain ⟨n,hN⟩ : ∃ n,n = l1.length:=⟨_,rfl⟩
 rw [← hN] at hn ⊢
 have HC:=Lib.hid hc
 have HN:=Lib.hid hN
 have HE:=Lib.hid he
 clear hc hc2 hN h1 h2 he
 go_enter Tryz.func32,Tryz.ntmps32
 go_wp2
 go_loopg [7] n (fun fuel i wr => ∃ k d : Nat,k ≤ n ∧ i = .int .i64 k ∧ n - k ≤ fuel ∧ w.drewN d = wr)
 case atStart => exact ⟨0,0,Nat.zero_le _,rfl,Nat.le_refl _,rfl⟩
 case round =>
  obtain ⟨k,d,hk,rfl,hfu,rfl⟩:=hrel
  by_cases hlt : k < n
  ·have hk' : k < l1.length:=by have:=HN.out; omega
   obtain ⟨b,off,rfl,_,x0,x1,x2,x3,x4⟩:=HC.out k hk'
   obtain ⟨b',off',rfl,_,y0,y1,y2,y3,y4⟩:=HC2.out k hk'
   have e:=HE.out k hk'
   obtain ⟨⟨a0,a1,a2,a3,a4⟩,ha⟩ : ∃ t,t = l1[k]:=⟨_,rfl⟩
   obtain ⟨⟨c0,c1,c2,c3,c4⟩,hc⟩ : ∃ t,t = l2[k]'(by omega):=⟨_,rfl⟩
   rw [← ha] at x0 x1 x2 x3 x4 e
   rw [← hc] at y0 y1 y2 y3 y4 e
   clear ha hc
   obtain ⟨e0,e1,e2,e3,e4⟩:=e
   simp only [] at x0 x1 x2 x3 x4 y0 y1 y2 y3 y4 e0 e1 e2 e3 e4
   subst e0 e1 e2 e3
   have e5:=e4 trivial
   subst e5
   clear e4
   by_cases hk0 : k = 0
   ·subst hk0
    simp only [Nat.zero_mul,Nat.add_zero] at x0 x1 x2 x3 x4 y0 y1 y2 y3 y4
    go_wp2
    go_quiet (fail)
    go_wp2
    go_roundg (gk - 1)
    case measure => omega
    case rel => exact ⟨1,d + nq,by omega,by go_num,by omega,by rw [drewN_plus]⟩
   ·go_wp2
    go_quiet (fail)
    go_wp2
    go_roundg (gk - 1)
    case measure => omega
    case rel => exact ⟨k + 1,d + nq,by omega,by go_num,by omega,by rw [drewN_plus]⟩
  ·go_wp2
   go_ret
   exact ⟨rfl,d,rfl⟩
theorem same_true (l1 l2 : List Nd) (v1 v2 : Value) (w : World) (h1 : Nds w v1 l1) (h2 : Nds w v2 l2) (hn : l1.length ≤ 100000) (hl : l2.length = l1.length)
  (he : ∀ i,(hi : i < l1.length) → alikeN true l1[i] (l2[i]'(by omega))) :
  Calls Tryz.prog 32 #[v1,v2,.bool true] w fun e w' => e = .returned (.bool true) ∧ Below w.heap.size w w':=
 (same_trueQ l1 l2 v1 v2 w h1 h2 hn hl he).mono fun _ _ ⟨h,d,hd⟩ => ⟨h,hd ▸ below_end d⟩
theorem same_falseQ (l1 l2 : List Nd) (v1 v2 : Value) (w : World) (h1 : Nds w v1 l1) (h2 : Nds w v2 l2) (hn : l1.length ≤ 100000) (hl : l2.length = l1.length)
  (he : ∀ i,(hi : i < l1.length) → alikeN false l1[i] (l2[i]'(by omega))) :
  Calls Tryz.prog 32 #[v1,v2,.bool false] w fun e w' => e = .returned (.bool true) ∧ ∃ d,w' = w.drewN d:=by
 obtain ⟨ad,cap,rfl,hc⟩:=h1.cases
 obtain ⟨ad2,cap2,rfl,hc2⟩:=h2.cases
 rw [hl]
 have HC2 : Hid (∀ i,(hi : i < l1.length) → ∃ b off,ad2 = some ⟨b,off,none⟩ ∧ b < w.heap.size ∧ NdAt w b (off + i * 5) (l2[i]'(by omega))):=fun i hi => hc2 i (by omega)
 obtain ⟨n,hN⟩ : ∃ n,n = l1.length:=⟨_,rfl⟩
 rw [← hN] at hn ⊢
 have HC:=Lib.hid hc
 have HN:=Lib.hid hN
 have HE:=Lib.hid he
 clear hc hc2 hN h1 h2 he
 go_enter Tryz.func32,Tryz.ntmps32
 go_wp2
 go_loopg [7] n (fun fuel i wr => ∃ k d : Nat,k ≤ n ∧ i = .int .i64 k ∧ n - k ≤ fuel ∧ w.drewN d = wr)
 case atStart => exact ⟨0,0,Nat.zero_le _,rfl,Nat.le_refl _,rfl⟩
 case round =>
  obtain ⟨k,d,hk,rfl,hfu,rfl⟩:=hrel
  by_cases hlt : k < n
  ·have hk' : k < l1.length:=by have:=HN.out; omega
   obtain ⟨b,off,rfl,_,x0,x1,x2,x3,x4⟩:=HC.out k hk'
   obtain ⟨b',off',rfl,_,y0,y1,y2,y3,y4⟩:=HC2.out k hk'
   have e:=HE.out k hk'
   obtain ⟨⟨a0,a1,a2,a3,a4⟩,ha⟩ : ∃ t,t = l1[k]:=⟨_,rfl⟩
   obtain ⟨⟨c0,c1,c2,c3,c4⟩,hc⟩ : ∃ t,t = l2[k]'(by omega):=⟨_,rfl⟩
   rw [← ha] at x0 x1 x2 x3 x4 e
   rw [← hc] at y0 y1 y2 y3 y4 e
   clear ha hc
   obtain ⟨e0,e1,e2,e3,e4⟩:=e
   simp only [] at x0 x1 x2 x3 x4 y0 y1 y2 y3 y4 e0 e1 e2 e3 e4
   subst e0 e1 e2 e3
   clear e4
   by_cases hk0 : k = 0
   ·subst hk0
    simp only [Nat.zero_mul,Nat.add_zero] at x0 x1 x2 x3 x4 y0 y1 y2 y3 y4
    go_wp2
    refine wp_region_quiet_lit (by kernel_rfl) (by kernel_rfl) ?_
    simp only [List.append_eq,List.cons_append,List.nil_append]
    repeat (go_big_quiet_step (fail))
    refine wpQuiet_nil ?_
    intro _ hw'
    obtain ⟨nq,hw''⟩:=hw'
    subst hw''
    go_wp2
    go_roundg (gk - 1)
    case measure => omega
    case rel => exact ⟨1,d + nq,by omega,by go_num,by omega,by rw [drewN_plus]⟩
   ·go_wp2
    refine wp_region_quiet_lit (by kernel_rfl) (by kernel_rfl) ?_
    simp only [List.append_eq,List.cons_append,List.nil_append]
    repeat (go_big_quiet_step (fail))
    refine wpQuiet_nil ?_
    intro _ hw'
    obtain ⟨nq,hw''⟩:=hw'
    subst hw''
    go_wp2
    go_roundg (gk - 1)
    case measure => omega
    case rel => exact ⟨k + 1,d + nq,by omega,by go_num,by omega,by rw [drewN_plus]⟩
  ·go_wp2
   go_ret
   exact ⟨rfl,d,rfl⟩
theorem same_false (l1 l2 : List Nd) (v1 v2 : Value) (w : World) (h1 : Nds w v1 l1) (h2 : Nds w v2 l2) (hn : l1.length ≤ 100000) (hl : l2.length = l1.length)
  (he : ∀ i,(hi : i < l1.length) → alikeN false l1[i] (l2[i]'(by omega))) :
  Calls Tryz.prog 32 #[v1,v2,.bool false] w fun e w' => e = .returned (.bool true) ∧ Below w.heap.size w w':=
 (same_falseQ l1 l2 v1 v2 w h1 h2 hn hl he).mono fun _ _ ⟨h,d,hd⟩ => ⟨h,hd ▸ below_end d⟩
end Go.Proofs.YtcghccjnadagcaaGreatDoor
