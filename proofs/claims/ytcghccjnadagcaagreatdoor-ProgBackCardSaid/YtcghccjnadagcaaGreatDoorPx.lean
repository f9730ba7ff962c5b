/- Facts. -/
import Derived.Test.YtcghccjnadagcaaGreatDoorPn
import Derived.Test.YtcghccjnadagcaaGreatDoorShB
import Derived.Test.YtcghccjnadagcaaGreatDoorL
set_option maxRecDepth 100000
set_option maxHeartbeats 32000000
namespace Go.Proofs.YtcghccjnadagcaaGreatDoor
open Go.Shelf
theorem lays165G : Go.Proofs.Lays.n165 Tryz.prog Tryz.lays105_ren:={
 mixed:=Tryz.lays105.mixed
 f165:=Tryz.lays105.f165
 f240:=Tryz.lays105.f240
 f241:=Tryz.lays105.f241
 f276:=Tryz.lays105.f276
 f277:=Tryz.lays105.f277
 t0:=Tryz.lays105.t0
 a0:=Tryz.lays105.a0
 z0:=Tryz.lays105.z0
 v0:=Tryz.lays105.v0
 t3:=Tryz.lays105.t3
 a3:=Tryz.lays105.a3
 z3:=Tryz.lays105.z3
 v3:=Tryz.lays105.v3
 t4:=Tryz.lays105.t4
 a4:=Tryz.lays105.a4
 z4:=Tryz.lays105.z4
 v4:=Tryz.lays105.v4
 t9:=Tryz.lays105.t9
 a9:=Tryz.lays105.a9
 z9:=Tryz.lays105.z9
 v9:=Tryz.lays105.v9
 t20:=Tryz.lays105.t20
 a20:=Tryz.lays105.a20
 z20:=Tryz.lays105.z20
 v20:=Tryz.lays105.v20
 t37:=Tryz.lays105.t37
 a37:=Tryz.lays105.a37
 z37:=Tryz.lays105.z37
 v37:=Tryz.lays105.v37
 t70:=Tryz.lays105.t70
 a70:=Tryz.lays105.a70
 z70:=Tryz.lays105.z70
 v70:=Tryz.lays105.v70
 t72:=Tryz.lays105.t72
 a72:=Tryz.lays105.a72
 z72:=Tryz.lays105.z72
 v72:=Tryz.lays105.v72
 t164:=Tryz.lays105.t164
 a164:=Tryz.lays105.a164
 z164:=Tryz.lays105.z164
 v164:=Tryz.lays105.v164 }
open Go.RowKit in
theorem grow_any (B b n : Nat) (w : World) (hB : B ≤ b) (hbk : w.heap[b]? = some (.cells #[.pointer none,.slice none 0 0] 86 (0,0))) (hBw : B ≤ w.heap.size) (hn : n ≤ 281474976710656) :
  Calls Tryz.prog 109 #[.pointer (some ⟨b,0,none⟩),.int .i64 n] w fun e w' => e = .returned (.tuple #[]) ∧ (Lib.BuilderAt 86 5 B b (.pointer (some ⟨b,0,none⟩)) [] w' ∧ Below B w w'):=
 Any.Builder_Grow_fresh lays165G Tryz.Builder_Extra_105 B b n w hB hbk hBw hn
open Go.RowKit
theorem u_strs : Tryz.prog.underlying 36 = some (.slice 9):=by kernel_rfl
theorem sl_str (b off n cap : Nat) (h : 1 ≤ n) (hc : cap ≠ 1) (w : World) : (Instr.slice 36 (.slice (some ⟨b,off,none⟩) n cap) (some (.int .i64 1)) none none).run Tryz.prog w = .ok (.slice (some ⟨b,off + 1,none⟩) (n - 1) (cap - 1)) w:=by
 have hk : (0 : Int) ≤ (1 : Int) ∧ (1 : Int) ≤ (n : Int):=⟨by omega,by omega⟩
 have e : (⟨b,off,none⟩ : Addr).add 1 = ⟨b,off + 1,none⟩:=by unfold Addr.add; split <;> simp_all
 simp [Instr.slice,run_underlying u_strs,Instr.sliceBounds,Instr.sliceBound,asIntOf,Result.andThen,hk,hc,e]
theorem take_snocJ {α : Type} (l : List α) (k : Nat) (h : k < l.length) : l.take (k + 1) = l.take k ++ [l[k]]:=by rw [List.take_add_one,List.getElem?_eq_getElem h]; rfl
def jtl (xs : List ByteArray) : List UInt8:=xs.flatMap fun y => 44 :: 32 :: y.data.toList
def joinC : List ByteArray → List UInt8
 | [] => []
 | x :: xs => x.data.toList ++ jtl xs
theorem jtl_le (xs : List ByteArray) (hs : ∀ s ∈ xs,s.size ≤ 100000) : (jtl xs).length ≤ xs.length * 100002:=by
 induction xs with
 | nil => simp [jtl]
 | cons a xs ih =>
  have h1:=ih fun s hs' => hs s (List.mem_cons_of_mem _ hs')
  have h2:=hs a (List.mem_cons_self ..)
  rw [Lib.size_eq] at h2
  unfold jtl at *
  simp only [List.flatMap_cons,List.length_append,List.length_cons,Nat.succ_mul]
  omega
theorem jtl_snoc (xs : List ByteArray) (y : ByteArray) : jtl (xs ++ [y]) = jtl xs ++ [44,32] ++ y.data.toList:=by simp [jtl]
theorem join_one (x : ByteArray) (v : Value) (sep : ByteArray) (w : World) (hv : StrsD w v [x]) :
  Calls Tryz.prog 55 #[v,.string sep] w fun e w' => e = .returned (.string x) ∧ w = w':=by
 obtain ⟨ad,cap,rfl,_,_,hc⟩:=hv
 obtain ⟨b,off,rfl,hb,h0⟩:=hc 0 (by simp)
 have h1 : w.cell? ⟨b,off,none⟩ = some (.string x):=by have : w.cell? ⟨b,off + 0 * 1,none⟩ = some (.string x):=h0; simpa using this
 clear hc h0
 simp only [List.length_cons,List.length_nil,Nat.zero_add]
 go_enter Tryz.func55,Tryz.ntmps55
 go_wp2
 go_ret
 exact ⟨rfl,rfl⟩
theorem join_many (xs : List ByteArray) (v : Value) (w : World) (hv : StrsD w v xs) (hn : xs.length ≤ 100000) (h2 : 2 ≤ xs.length) (hs : ∀ s ∈ xs,s.size ≤ 100000) :
  Calls Tryz.prog 55 #[v,.string ⟨#[44,32]⟩] w fun e w' => e = .returned (.string ⟨(joinC xs).toArray⟩) ∧ Below w.heap.size w w':=by
 have HV:=Lib.hid hv
 obtain ⟨ad,cap,rfl,hcap1,hcap2,hc⟩:=hv
 have HC:=Lib.hid hc
 obtain ⟨b,off,rfl,hb0,h0⟩:=hc 0 (by omega)
 have HS:=Lib.hid hs
 obtain ⟨n,hN⟩ : ∃ n,n = xs.length:=⟨_,rfl⟩
 have HN:=Lib.hid hN
 rw [← hN] at hn h2 hcap1 ⊢
 have m1 : IntKind.i64.wrap ((n : Int) - 1) = (n : Int) - 1:=IntWalk.i64_in _ (by omega)
 have q0 : ((n : Int) == 0) = false:=by simp; omega
 have q1 : ((n : Int) == 1) = false:=by simp; omega
 have q2 : ((n : Int) - 1 == 0) = false:=by simp; omega
 have hcn:=hcap1.1
 have hq : 3 ≤ 9223372036854775807 / ((n : Int) - 1):=Int.le_ediv_of_mul_le (by omega) (by omega)
 have q3 : decide (9223372036854775807 / ((n : Int) - 1) ≤ 2) = false:=decide_eq_false (by omega)
 have m2 : IntKind.i64.wrap (2 * ((n : Int) - 1)) = 2 * ((n : Int) - 1):=IntWalk.i64_in _ (by omega)
 have m3 : IntKind.i64.wrap (0 + 2 * ((n : Int) - 1)) = 2 * ((n : Int) - 1):=by rw [Int.zero_add]; exact m2
 clear hc hN hs hcap1 h0
 go_enter Tryz.func55,Tryz.ntmps55
 go_wp2_with fail
 go_loopg [5,41] n (fun fuel n' i' wr => ∃ (k N : Nat),i' = .int .i64 k ∧ n' = .int .i64 N ∧ k ≤ n ∧ n - k ≤ fuel ∧ N ≤ 200000 + k * 100000 ∧ w = wr)
 case atStart => exact ⟨0,2 * (n - 1),rfl,by go_num,Nat.zero_le _,Nat.le_refl _,by omega,rfl⟩
 case round =>
  obtain ⟨k,N,rfl,rfl,hk,hf,hN,rfl⟩:=hrel
  by_cases hlt : k < n
  ·obtain ⟨b',off',hab,hb1,hat⟩:=HC.out k (by have:=HN.out; omega)
   have hsz:=HS.out xs[k] (List.getElem_mem (by have:=HN.out; omega))
   obtain ⟨y,hy⟩ : ∃ y,y = xs[k]'(by have:=HN.out; omega):=⟨_,rfl⟩
   rw [← hy] at hat hsz
   cases hab
   have hat2 : w.cell? ⟨b,off + k,none⟩ = some (.string y):=by have : w.cell? ⟨b,off + k * 1,none⟩ = some (.string y):=hat; simpa using this
   have n1 : IntKind.i64.wrap (9223372036854775807 - (N : Int)) = 9223372036854775807 - (N : Int):=IntWalk.i64_in _ (by omega)
   have p1 : decide (9223372036854775807 - (N : Int) < (y.size : Int)) = false:=decide_eq_false (by omega)
   have n2 : IntKind.i64.wrap ((N : Int) + (y.size : Int)) = (N : Int) + (y.size : Int):=IntWalk.i64_in _ (by omega)
   clear hy hat
   go_wp2
   go_roundg (gk - 1)
   case measure => omega
   case rel => exact ⟨k + 1,N + y.size,by go_num,by go_num,by omega,by omega,by omega,rfl⟩
  ·obtain rfl : k = n:=by omega
   have HI0:=grow_any w.heap.size w.heap.size N (w.alloc (.cells #[.pointer none,.slice none 0 0] 86)) (Nat.le_refl _) (heap_alloc_new w _) (by rw [alloc_size]; omega) (by omega)
   have HGR:=Lib.hid HI0
   clear HI0
   go_wp2_with fail
   refine HGR.out.mono ?_
   rintro e w1 ⟨rfl,i1,b1⟩
   have hb1 : Below w.heap.size w w1:=((Below.refl _ _).alloc (Nat.le_refl _) _).trans b1
   have I1 : Lib.IsBuilder 86 5 w.heap.size w.heap.size (Lib.byteCells []) w1:=.inr i1
   obtain ⟨x0,xs',hxs⟩ : ∃ x0 xs',xs = x0 :: xs':=by
    cases hx : xs with
    | nil => have:=HN.out; rw [hx] at this; simp at this; omega
    | cons a l => exact ⟨a,l,rfl⟩
   subst hxs
   have hlen' : xs'.length + 1 = k:=by have:=HN.out; simpa using this.symm
   obtain ⟨b',off',hab,hbl,hat⟩:=HC.out 0 (by simp)
   cases hab
   have hat2 : w.cell? ⟨b,off,none⟩ = some (.string x0):=by have : w.cell? ⟨b,off + 0 * 1,none⟩ = some (.string x0):=hat; simpa using this
   have hz0:=HS.out x0 (List.mem_cons_self ..)
   have hat1 : w1.cell? ⟨b,off,none⟩ = some (.string x0):=(hb1.cell (p:=⟨b,_,none⟩) hbl).trans hat2
   have HW:=Lib.hid (wstr hb1 I1 x0 (by simp; omega))
   have hbw1 : b < w1.heap.size:=Nat.lt_of_lt_of_le hbl hb1.size
   have SL : ∀ w : World,(Instr.slice 36 (.slice (some ⟨b,off,none⟩) k cap) (some (.int .i64 1)) none none).run Tryz.prog w = .ok (.slice (some ⟨b,off + 1,none⟩) (k - 1) (cap - 1)) w:=fun w => sl_str b off k cap (by omega) (by omega) w
   clear hat hat2 i1 b1 I1 HGR
   go_wp2_with fail
   refine HW.out.mono ?_
   rintro e w2 ⟨rfl,i2,b2,o2⟩
   have HI2:=Lib.hid i2
   have HB2:=Lib.hid b2
   obtain ⟨k1,hk1⟩ : ∃ k1,k1 = k - 1:=⟨_,rfl⟩
   rw [← hk1] at SL
   clear i2 b2 o2 HW hat1 hb1 hbw1
   go_wp2_with fail
   go_loopg [65] k1 (fun fuel i' wr => ∃ (j : Nat),i' = .int .i64 j ∧ j ≤ k1 ∧ k1 - j ≤ fuel ∧ Lib.IsBuilder 86 5 w.heap.size w.heap.size (Lib.byteCells (x0.data.toList ++ jtl (xs'.take j))) wr ∧ Below w.heap.size w wr)
   case atStart => exact ⟨0,rfl,Nat.zero_le _,Nat.le_refl _,(show x0.data.toList ++ jtl (xs'.take 0) = [] ++ x0.data.toList by simp [jtl]) ▸ HI2.out,HB2.out⟩
   case round =>
    obtain ⟨j,rfl,hj,hfj,ib,bb⟩:=hrel
    by_cases hjl : j < k1
    ·have hjx : j < xs'.length:=by omega
     obtain ⟨b',off',hab,hbl2,hat⟩:=HC.out (j + 1) (by simp; omega)
     cases hab
     obtain ⟨y,hy⟩ : ∃ y,y = xs'[j]:=⟨_,rfl⟩
     have hyz:=HS.out y (by rw [hy]; exact List.mem_cons_of_mem _ (List.getElem_mem hjx))
     have hat2 : w.cell? ⟨b,off + 1 + j,none⟩ = some (.string y):=by
      have h : w.cell? ⟨b,off + (j + 1) * 1,none⟩ = some (.string xs'[j]):=hat
      rw [Nat.mul_one,show off + (j + 1) = off + 1 + j by omega,← hy] at h
      exact h
     have hc3 : wr.cell? ⟨b,off + 1 + j,none⟩ = some (.string y):=(bb.cell (p:=⟨b,_,none⟩) hbl).trans hat2
     have hbw3 : b < wr.heap.size:=Nat.lt_of_lt_of_le hbl bb.size
     have hL : (x0.data.toList ++ jtl (xs'.take j)).length ≤ 100000 + 100000 * 100002:=by
      have h1:=jtl_le (xs'.take j) fun s hs => HS.out s (List.mem_cons_of_mem _ (List.mem_of_mem_take hs))
      have h2 : (xs'.take j).length ≤ 100000:=by rw [List.length_take]; omega
      have h3 : (xs'.take j).length * 100002 ≤ 100000 * 100002:=Nat.mul_le_mul_right _ h2
      rw [List.length_append,← Lib.size_eq]
      omega
     have HW1:=Lib.hid (wstr bb ib ⟨#[44,32]⟩ (by have e : (⟨#[44,32]⟩ : ByteArray).size = 2:=rfl; omega))
     have HL:=Lib.hid hL
     have HY:=Lib.hid hy
     clear hat hat2 hy hL ib bb
     go_wp2_with fail
     refine HW1.out.mono ?_
     rintro e w3 ⟨rfl,i3,b3,o3⟩
     have HW2:=Lib.hid (wstr b3 i3 y (by have h9:=HL.out; have h10 : ((x0.data.toList ++ jtl (xs'.take j)) ++ (⟨#[44,32]⟩ : ByteArray).data.toList).length = (x0.data.toList ++ jtl (xs'.take j)).length + 2:=(by rw [List.length_append]; rfl); rw [h10]; omega))
     clear i3 b3 o3 HW1
     go_wp2_with fail
     refine HW2.out.mono ?_
     rintro e w4 ⟨rfl,i4,b4,o4⟩
     have HI4:=Lib.hid i4
     have HB4:=Lib.hid b4
     clear i4 b4 o4 HW2
     go_wp2
     go_roundg (gk - 1)
     case measure => omega
     case rel =>
      refine ⟨j + 1,by go_num,by omega,by omega,?_,HB4.out⟩
      have h:=HI4.out
      rw [take_snocJ xs' j hjx,← HY.out,jtl_snoc]
      simpa [List.append_assoc] using h
    ·have hjk : j = k1:=by omega
     have HSTR:=Lib.hid (Tryz.Builder_String_any w.heap.size w.heap.size (x0.data.toList ++ jtl xs') wr (by have h:=ib; rw [List.take_of_length_le (by omega)] at h; exact h) bb.size)
     have HBB:=Lib.hid bb
     subst hjk
     clear ib bb
     go_wp2_with fail
     refine HSTR.out.mono ?_
     rintro e w5 ⟨rfl,b5⟩
     go_wp2
     go_ret
     exact ⟨rfl,HBB.out.trans b5⟩
end Go.Proofs.YtcghccjnadagcaaGreatDoor
