/- Facts. -/
import Derived.Test.YtcghccjnadagcaaGreatDoorShelf
import Derived.Lib.Slices
import Derived.Lib.Walk
import Derived.Lib.Builder
import Derived.Lib.AppendStr
import Derived.WalkKit
import Derived.Laws.Externs
import Derived.Lib.OthersKept
import Derived.Test.YtcghccjnadagcaaGreatDoorZg
import Derived.Test.YtcghccjnadagcaaGreatDoorShB
set_option maxRecDepth 100000
set_option maxHeartbeats 32000000
namespace Go.Proofs.YtcghccjnadagcaaGreatDoor
open Go.RowKit
theorem info46 : (Tryz.prog.info? 86).map (·.size) = some 2:=by kernel_rfl
theorem lies46 : liesAt Tryz.prog Tryz.prog.depth 86 (2 / Tryz.prog.cellsOf 86) 0 86 1 = true:=by kernel_rfl
theorem info5 : (Tryz.prog.info? 5).map (fun i => (i.zero,i.size,i.bytes)) = some (some (.int .u8 0),1,1):=by kernel_rfl
theorem check_used (b : Nat) (w : World) (h0 : w.cell? ⟨b,0,none⟩ = some (.pointer (some ⟨b,0,none⟩))) :
  Calls Tryz.prog 107 #[.pointer (some ⟨b,0,none⟩)] w fun e w' => e = .returned (.tuple #[]) ∧ w' = w:=by
 obtain ⟨j,hj,_⟩:=Option.map_eq_some_iff.1 info46
 go_enter Tryz.func107,Tryz.ntmps107
 go_wp2
 rw [Lib.run_neq_ptr_same w _ Tryz.underlying83 hj]
 go_wp2
 go_end0
 exact ⟨rfl,rfl⟩
theorem check_fresh (b : Nat) (w : World) (h0 : w.cell? ⟨b,0,none⟩ = some (.pointer none)) (hsh : w.shape? b = some (86,2)) (hfz : w.frozen? ⟨b,0,none⟩ = false) :
  Calls Tryz.prog 107 #[.pointer (some ⟨b,0,none⟩)] w fun e w' => e = .returned (.tuple #[]) ∧ w' = w.setCell ⟨b,0,none⟩ (.pointer (some ⟨b,0,none⟩)):=by
 obtain ⟨j,hj,hjs⟩:=Option.map_eq_some_iff.1 info46
 go_enter Tryz.func107,Tryz.ntmps107
 go_wp2
 rw [Lib.run_to_unsafe w ⟨b,0,none⟩ Tryz.underlying83 Tryz.underlying160 hj (by rw [hjs]; decide) hsh (Nat.zero_lt_succ 1)]
 simp only [Result.andThen]
 rw [Oper.upon_value]
 go_wp2
 rw [run_callFunc_extern Tryz.func153 (by kernel_rfl) (by kernel_rfl) (by kernel_rfl) (e:=Extern.AbiNoEscape.same) (by kernel_rfl)]
 rw [Lib.run_noEscape]
 simp only [Result.andThen]
 rw [Oper.upon_value]
 go_wp2
 rw [Lib.run_from_unsafe w ⟨b,0,none⟩ Tryz.underlying160 Tryz.underlying83 hj hsh lies46]
 simp only [Result.andThen]
 rw [Oper.upon_value]
 go_wp2
 go_end0
 exact ⟨rfl,rfl⟩
theorem check_any (B b : Nat) (bs : List Value) (w : World) (h : Lib.IsBuilder 86 5 B b bs w) :
  Calls Tryz.prog 107 #[.pointer (some ⟨b,0,none⟩)] w fun e w' => e = .returned (.tuple #[]) ∧ (Lib.BuilderAt 86 5 B b (.pointer (some ⟨b,0,none⟩)) bs w' ∧ Below B w w' ∧ Lib.OthersKept 5 (some b) w w'):=by
 rcases h with h | h
 ·refine (check_fresh b w h.cell0 h.shape h.frozen0).mono ?_
  rintro e w' ⟨rfl,rfl⟩
  exact ⟨rfl,h.used _,(Below.refl B w).setCell (p:=⟨b,0,none⟩) h.1 _,(Lib.OthersKept.refl 5 (some b) w).setCell ⟨b,0,none⟩ rfl _⟩
 ·refine (check_used b w h.cell0).mono ?_
  rintro e w' ⟨rfl,rfl⟩
  exact ⟨rfl,h,Below.refl B _,Lib.OthersKept.refl 5 _ _⟩
theorem ownsRow_kind {w : World} {B : Nat} {e : TypeId} {v : Value} {n : Nat} {xs : List Value} (h : w.ownsRow B e 1 v n xs) : ∀ g,v.ownBlock = some g → ∃ c fz,w.heap[g]? = some (.cells c e fz):=by
 intro g hg
 rcases h.2 with ⟨rfl,_⟩ | ⟨g',cap,cur,rfl,_,hgg,_⟩
 ·simp [Value.ownBlock] at hg
 ·simp [Value.ownBlock] at hg
  subst hg
  exact ⟨cur,_,hgg⟩
theorem builder_lt {B b : Nat} {bs : List Value} {w : World} (h : Lib.IsBuilder 86 5 B b bs w) : b < w.heap.size:=by
 rcases h with h | h <;> exact h.lt
theorem blk_lt {w : World} {b : Nat} {o : Obj} (h : w.heap[b]? = some o) : b < w.heap.size:=(Array.getElem?_eq_some_iff.1 h).1
theorem writeString_any (B b : Nat) (bs : List Value) (s : ByteArray) (w : World) (h : Lib.IsBuilder 86 5 B b bs w) (hlen : bs.length + s.size ≤ 140737488355328) (hBw : B ≤ w.heap.size) :
  Calls Tryz.prog 53 #[.pointer (some ⟨b,0,none⟩),.string s] w fun e w' => e = .returned (.tuple #[.int .i64 s.size,.nilIface]) ∧ (Lib.IsBuilder 86 5 B b (bs ++ Lib.strCells s) w' ∧ Below B w w' ∧ Lib.OthersKept 5 (some b) w w'):=by
 obtain ⟨i0,hi,hz0,hz1,hz2⟩:=info_parts info5
 go_enter Tryz.func53,Tryz.ntmps53
 go_wp2_with (go_at_call 107; refine (check_any B b bs _ h).mono ?_)
 rintro e w1 ⟨rfl,h1,hb1,ho1⟩
 obtain ⟨hB,v,hbk,hown,hne⟩:=h1
 have c0 : w1.cell? ⟨b,0,none⟩ = some (.pointer (some ⟨b,0,none⟩)):=by rw [Lib.cell_of_heap hbk]; rfl
 have c1 : w1.cell? ⟨b,1,none⟩ = some v:=by rw [Lib.cell_of_heap hbk]; rfl
 go_wp2_with (at_builtin; refine Lib.wpList_append_own_string _ rfl _ _ 84 9 rfl B 5 i0 Tryz.underlying84 Tryz.underlying9 hi hz0 hz1 hz2 _ _ _ rfl hown s rfl ?c3 ?c4 ?c5 ?_)
 case c3 => unfold maxLen; omega
 case c4 => omega
 case c5 => have:=hb1.size; omega
 intro v' w2 hown' hgrow _
 have hlt : b < w1.heap.size:=blk_lt hbk
 have hb2 : w2.heap[b]? = some (.cells #[.pointer (some ⟨b,0,none⟩),v] 86 (0,0)):=by
  rw [hgrow.block b hlt (fun e => hne e.symm)]
  exact hbk
 have d1 : w2.cell? ⟨b,1,none⟩ = some v:=by rw [Lib.cell_of_heap hb2]; rfl
 have f1 : w2.frozen? ⟨b,1,none⟩ = false:=Lib.frozen_of_heap hb2 1
 obtain ⟨ao,n',cap,rfl⟩ : ∃ ao n' cap,v' = .slice ao n' cap:=by
  rcases hown'.2 with ⟨hv,_⟩ | ⟨g,cap,cur,hv,_⟩
  ·exact ⟨_,_,_,hv⟩
  ·exact ⟨_,_,_,hv⟩
 go_wp2
 go_ret2
 refine ⟨rfl,?_,?_,?_⟩
 ·exact Or.inr (Lib.BuilderAt.put (T:=86) (e:=5) hB hb2 (bs':=bs ++ Lib.strCells s) (by simpa [Lib.strCells_length] using hown') (by decide))
 ·exact (hb1.grown hgrow (by have:=hb1.size; omega) (fun k hk => (hown.lt k hk).1)).setCell (p:=⟨b,1,none⟩) hB _
 ·exact (ho1.grown hgrow (fun g hg => ownsRow_kind hown g hg)).setCell ⟨b,1,none⟩ rfl _
theorem cut_any0 (w0 : World) (t : SI) (bs os rs : List SI) (v : Value) (w : World) (h00 : StsD w0 v (t :: (bs ++ (os ++ rs)))) (h : StsD w v (t :: (bs ++ (os ++ rs)))) (hb : t.1.body = (bs.length : Nat)) (ho : t.1.els = (os.length : Nat)) :
  Calls Tryz.prog 157 #[v] w fun e w' => ∃ v1 v2 v3,e = .returned (.tuple #[v1,v2,v3]) ∧ StsD w0 v1 bs ∧ StsD w0 v2 os ∧ StsD w0 v3 rs ∧ Below w.heap.size w w':=by
 have HH:=Lib.hid h00
 clear h00
 obtain ⟨b,off,cap,rfl,hcap,hmax,hl,⟨h0,h1,h2,h3,h4,h5,h6,h7,h8⟩,hE,hF⟩:=h.head
 clear h
 obtain ⟨A1,hA1⟩ : ∃ A,A = (if cap = 1 then some (⟨b,off,none⟩ : Addr) else (some (⟨b,off,none⟩ : Addr)).map (·.add (1 * 9))):=⟨_,rfl⟩
 have hR:=HH.out.from 1 (by simp)
 rw [← hA1] at hR
 simp only [List.drop_succ_cons,List.drop_zero] at hR
 obtain ⟨n,hN⟩ : ∃ n,n = (bs ++ (os ++ rs)).length:=⟨_,rfl⟩
 have hnl : n = bs.length + (os.length + rs.length):=by rw [hN]; simp
 rw [← hN] at hcap hR
 rw [show n + 1 - 1 = n by omega] at hR
 obtain ⟨c1,hc1⟩ : ∃ c,c = cap - 1:=⟨_,rfl⟩
 rw [← hc1] at hR
 have hS1 : ∀ w,(Instr.slice 37 (.slice (some ⟨b,off,none⟩) (n + 1) cap) (some (.int .i64 1)) none none).run Tryz.prog w = .ok (.slice A1 n c1) w:=fun w => by
  have:=sl_from (some ⟨b,off,none⟩) (n + 1) cap 1 (by omega) w
  rw [← hA1,← hc1,show n + 1 - 1 = n by omega] at this
  exact this
 obtain ⟨nb,hnb⟩ : ∃ nb,nb = bs.length:=⟨_,rfl⟩
 obtain ⟨no,hno⟩ : ∃ no,no = os.length:=⟨_,rfl⟩
 obtain ⟨A2,hA2⟩ : ∃ A,A = (if c1 = nb then A1 else A1.map (·.add (nb * 9))):=⟨_,rfl⟩
 obtain ⟨c2,hc2⟩ : ∃ c,c = c1 - nb:=⟨_,rfl⟩
 obtain ⟨n2,hn2⟩ : ∃ c,c = n - nb:=⟨_,rfl⟩
 obtain ⟨A3,hA3⟩ : ∃ A,A = (if c2 = no then A2 else A2.map (·.add (no * 9))):=⟨_,rfl⟩
 obtain ⟨c3,hc3⟩ : ∃ c,c = c2 - no:=⟨_,rfl⟩
 obtain ⟨n3,hn3⟩ : ∃ c,c = n2 - no:=⟨_,rfl⟩
 have hS2 : ∀ w,(Instr.slice 37 (.slice A1 n c1) none (some (.int .i64 nb)) none).run Tryz.prog w = .ok (.slice A1 nb c1) w:=sl_to A1 n c1 nb (by omega)
 have hS3 : ∀ w,(Instr.slice 37 (.slice A1 n c1) (some (.int .i64 nb)) none none).run Tryz.prog w = .ok (.slice A2 n2 c2) w:=by rw [hA2,hn2,hc2]; exact sl_from A1 n c1 nb (by omega)
 have hS4 : ∀ w,(Instr.slice 37 (.slice A2 n2 c2) none (some (.int .i64 no)) none).run Tryz.prog w = .ok (.slice A2 no c2) w:=sl_to A2 n2 c2 no (by omega)
 have hS5 : ∀ w,(Instr.slice 37 (.slice A2 n2 c2) (some (.int .i64 no)) none none).run Tryz.prog w = .ok (.slice A3 n3 c3) w:=by rw [hA3,hn3,hc3]; exact sl_from A2 n2 c2 no (by omega)
 have D1 : Hid (StsD w0 (.slice A1 nb c1) bs):=by
  have:=hR.upto bs.length (by simp)
  rw [List.take_left,← hnb] at this
  exact this
 have hR2 : StsD w0 (.slice A2 n2 c2) (os ++ rs):=by
  have:=hR.from bs.length (by simp)
  rw [List.drop_left,← hnb,← hA2,← hn2,← hc2] at this
  exact this
 have D2 : Hid (StsD w0 (.slice A2 no c2) os):=by
  have:=hR2.upto os.length (by simp)
  rw [List.take_left,← hno] at this
  exact this
 have D3 : Hid (StsD w0 (.slice A3 n3 c3) rs):=by
  have:=hR2.from os.length (by simp)
  rw [List.drop_left,← hno,← hA3,← hn3,← hc3] at this
  exact this
 obtain ⟨a1,p1,e1,_⟩:=hE
 obtain ⟨a2,p2,e2,_⟩:=hF
 rw [e1] at h3
 rw [e2] at h4
 rw [hb,← hnb] at h6
 rw [ho,← hno] at h7
 obtain ⟨⟨tk,tr,tl,te,tf,tn,tb,tq,tp⟩,v1,v2⟩:=t
 simp only [] at h0 h1 h2 h3 h4 h5 h6 h7 h8
 rw [← hN]
 clear HH hA1 hR hN hnl hcap hmax hc1 hA2 hc2 hn2 hA3 hc3 hn3 hR2 e1 e2 hb ho hnb hno
 go_enter Tryz.func157,Tryz.ntmps157
 go_wp2
 go_region
 have hB : BlkS (w.alloc (.cells #[.int .i64 tk,.string tr,.string tl,.slice a1 te.length p1,.slice a2 tf.length p2,.bool tn,.int .i64 nb,.int .i64 no,.int .i64 tp] 42)).drew w.heap.size ⟨tk,tr,tl,te,tf,tn,nb,no,tp⟩ (.slice a1 te.length p1) (.slice a2 tf.length p2):=heap_alloc_new w _
 have HBW : Hid (Below w.heap.size w (w.alloc (.cells #[.int .i64 tk,.string tr,.string tl,.slice a1 te.length p1,.slice a2 tf.length p2,.bool tn,.int .i64 nb,.int .i64 no,.int .i64 tp] 42)).drew):=((Below.refl _ _).alloc (Nat.le_refl _) _).drew
 clear h0 h1 h2 h3 h4 h5 h6 h7 h8
 generalize (w.alloc (.cells #[.int .i64 tk,.string tr,.string tl,.slice a1 te.length p1,.slice a2 tf.length p2,.bool tn,.int .i64 nb,.int .i64 no,.int .i64 tp] 42)).drew = w1 at hB HBW ⊢
 have hlt:=hB.lt
 obtain ⟨⟨b0,b1,b2,b3,b4,b5,b6,b7,b8⟩,_⟩:=hB.facts
 simp only [] at b6 b7
 clear hB b0 b1 b2 b3 b4 b5 b8
 go_wp2
 go_quiet (fail)
 go_wp2
 go_quiet (fail)
 go_wp2
 refine bodyPost_ret (v:=.tuple #[.slice A1 nb c1,.slice A2 no c2,.slice A3 n3 c3]) (by simp [results,Tryz.results157,go_sem]) rfl ⟨_,_,_,rfl,D1.out,D2.out,D3.out,?_⟩
 exact below_drewN (below_drewN HBW.out _) _
theorem sline_any (x : St) (ve vf : Value) (w : World) (hok : okSt x) (he : NdsC w ve x.e) (hf : NdsC w vf x.f) (hn1 : x.e.length ≤ 100000) (hn2 : x.f.length ≤ 100000) (hz1 : NmOK x.e) (hz2 : NmOK x.f) (ht : Tabs w) :
  Calls Tryz.prog 158 #[.agg (x.cells ve vf)] w (TextIs (lineB x) w):=by
 have hs : ∀ s : ByteArray,∀ b : Bool,(if b = true then nameB s = true else s.size = 0) → s.size ≤ 100:=by
  intro s b h
  cases b with
  | false => have : s.size = 0:=h; omega
  | true =>
   have h1 : nameB s = true:=h
   unfold nameB at h1
   simp only [Bool.and_eq_true,decide_eq_true_eq] at h1
   omega
 have hr:=hs _ _ hok.reg
 have hl:=hs _ _ hok.loc
 obtain ⟨k1,k13,_⟩:=hok
 obtain ⟨k,r,l,e,f,n,b,o,p⟩:=x
 simp only [] at he hf hn1 hn2 hz1 hz2 hr hl k1 k13
 rcases kind_cases k1 k13 with rfl | rfl | rfl | rfl | rfl | rfl | rfl | rfl | rfl | rfl | rfl | rfl | rfl
 ·exact line1 r l e f n b o p ve vf w he hf hn1 hn2 hz1 hz2 hr hl ht
 ·exact line2 r l e f n b o p ve vf w he hf hn1 hn2 hz1 hz2 hr hl ht
 ·exact line3 r l e f n b o p ve vf w he hf hn1 hn2 hz1 hz2 hr hl ht
 ·exact line4 r l e f n b o p ve vf w he hf hn1 hn2 hz1 hz2 hr hl ht
 ·exact line5 r l e f n b o p ve vf w he hf hn1 hn2 hz1 hz2 hr hl ht
 ·exact line6 r l e f n b o p ve vf w he hf hn1 hn2 hz1 hz2 hr hl ht
 ·exact line7 r l e f n b o p ve vf w he hf hn1 hn2 hz1 hz2 hr hl ht
 ·exact line8 r l e f n b o p ve vf w he hf hn1 hn2 hz1 hz2 hr hl ht
 ·exact line9 r l e f n b o p ve vf w he hf hn1 hn2 hz1 hz2 hr hl ht
 ·exact line10 r l e f n b o p ve vf w he hf hn1 hn2 hz1 hz2 hr hl ht
 ·exact line11 r l e f n b o p ve vf w he hf hn1 hn2 hz1 hz2 hr hl ht
 ·exact line12 r l e f n b o p ve vf w he hf hn1 hn2 hz1 hz2 hr hl ht
 ·exact line13 r l e f n b o p ve vf w he hf hn1 hn2 hz1 hz2 hr hl ht
theorem field_len (x : St) (hr : x.reg.size ≤ 100) (hl : x.loc.size ≤ 100) : ∀ cs : List UInt8,(fieldB x cs).length ≤ cs.length * 8001:=by
 intro cs
 have t1:=textOf_len (l:=x.e)
 have t2:=textOf_len (l:=x.f)
 rw [Lib.size_eq] at hr hl
 induction cs with
 | nil => simp [fieldB]
 | cons c cs ih =>
  rw [fieldB,List.length_append,List.length_cons]
  have : (if c = 114 then 32 :: x.reg.data.toList else if c = 108 then 32 :: x.loc.data.toList else if c = 101 then 32 :: textOf x.e else if c = 102 then 32 :: textOf x.f
   else if c = 113 then (if x.ne = true then [32,33,61] else [32,61,61]) else if c = 61 then [32,61] else [c]).length ≤ 8001:=by
   repeat' split
   all_goals simp only [List.length_cons,List.length_nil]; omega
  omega
theorem line_len {x : St} (h : okSt x) : (lineB x).length ≤ 65000:=by
 have hs : ∀ s : ByteArray,∀ b : Bool,(if b = true then nameB s = true else s.size = 0) → s.size ≤ 100:=by
  intro s b h
  cases b with
  | false => have : s.size = 0:=h; omega
  | true =>
   have h1 : nameB s = true:=h
   unfold nameB at h1
   simp only [Bool.and_eq_true,decide_eq_true_eq] at h1
   omega
 have hf:=field_len x (hs _ _ h.reg) (hs _ _ h.loc) (formL x.kind.toNat)
 unfold lineB
 rw [List.length_append,List.length_append]
 have h8 : (formL x.kind.toNat).length ≤ 8:=by
  have h1:=h.k1
  have h2:=h.k13
  generalize x.kind = k at *
  rcases kind_cases h1 h2 with rfl | rfl | rfl | rfl | rfl | rfl | rfl | rfl | rfl | rfl | rfl | rfl | rfl <;> decide
 have hk : (kwds.getD x.kind.toNat []).length ≤ 8:=by
  have h1:=h.k1
  have h2:=h.k13
  generalize x.kind = k at *
  rcases kind_cases h1 h2 with rfl | rfl | rfl | rfl | rfl | rfl | rfl | rfl | rfl | rfl | rfl | rfl | rfl <;> decide
 have hn : (if nestK x.kind = true then [(32 : UInt8),123] else []).length ≤ 2:=by split <;> simp
 omega
theorem text_len (t : Tr) : ∀ d,(∀ x ∈ t.flat,okSt x) → d + t.flat.length ≤ 1000 → (t.text d).length ≤ t.flat.length * 80000:=by
 induction t with
 | nil => intro d _ _; simp [Tr.text]
 | node s b o r hb ho hr =>
  intro d h hd
  have h0:=h _ (by rw [Tr.flat]; exact List.mem_cons_self ..)
  have e1:=bareS s (b.flat.length : Nat) (o.flat.length : Nat)
  have hl:=line_len h0
  rw [e1.1] at hl
  have kb:=hb (d + 1) (fun x hx => h x (by rw [Tr.flat]; simp [hx]))
  have ko:=ho (d + 1) (fun x hx => h x (by rw [Tr.flat]; simp [hx]))
  have kr:=hr d (fun x hx => h x (by rw [Tr.flat]; simp [hx]))
  rw [Tr.flat] at hd ⊢
  simp only [List.length_cons,List.length_append] at hd ⊢
  have kb:=kb (by omega)
  have ko:=ko (by omega)
  have kr:=kr (by omega)
  rw [Tr.text]
  have hi : (ind d).length = 2 * d:=by simp [ind]
  have he : elseB.length = 8:=rfl
  split
  ·split <;> simp only [List.length_append,List.length_cons,List.length_nil,hi,he] <;> omega
  ·simp only [List.length_append,List.length_cons,List.length_nil,hi]; omega
theorem repeat_ind (d : Nat) : Lib.repeatL [32,32] d = ind d:=by
 unfold ind
 rw [Nat.mul_comm]
 exact Lib.repeatL_replicate 32 2 d
theorem srepeat_any (d : Nat) (w : World) (hd : d ≤ 10000) : Calls Tryz.prog 156 #[.string ⟨#[32,32]⟩,.int .i64 d] w fun e w' => e = .returned (.string ⟨(ind d).toArray⟩) ∧ Below w.heap.size w w':=by
 have h:=Tryz.strings_Repeat ⟨#[32,32]⟩ d w (by omega) (by show 2 * d ≤ _; omega)
 rw [show (⟨#[32,32]⟩ : ByteArray).data.toList = [32,32] from rfl,repeat_ind] at h
 exact h
theorem bcells (a : List UInt8) (s : ByteArray) : Lib.byteCells a ++ Lib.strCells s = Lib.byteCells (a ++ s.data.toList):=by
 simp [Lib.byteCells,Lib.strCells]
def WrC (w0 : World) (b : Nat) (n : Nat) : Prop:=∀ (t : Tr) (ts : List SI) (v : Value) (d : Nat) (s : List UInt8) (W : World),ts.length ≤ n → ts.map (·.1) = t.flat → (∀ x ∈ t.flat,okSt x) → d + t.flat.length ≤ 1000 → s.length + t.flat.length * 80000 ≤ 1000000000 → StsD w0 v ts → Below w0.heap.size w0 W → Lib.IsBuilder 86 5 w0.heap.size b (Lib.byteCells s) W →
 Calls Tryz.prog 110 #[.pointer (some ⟨b,0,none⟩),v,.int .i64 d] W fun e w' => e = .returned (.tuple #[]) ∧ Lib.IsBuilder 86 5 w0.heap.size b (Lib.byteCells (s ++ t.text d)) w' ∧ Below w0.heap.size w0 w'
theorem wstr {w0 W : World} {b : Nat} {s : List UInt8} (hb : Below w0.heap.size w0 W) (h : Lib.IsBuilder 86 5 w0.heap.size b (Lib.byteCells s) W) (x : ByteArray) (hl : s.length + x.size ≤ 100000000000) :
  Calls Tryz.prog 53 #[.pointer (some ⟨b,0,none⟩),.string x] W fun e w' => e = .returned (.tuple #[.int .i64 x.size,.nilIface]) ∧ Lib.IsBuilder 86 5 w0.heap.size b (Lib.byteCells (s ++ x.data.toList)) w' ∧ Below w0.heap.size w0 w' ∧ Lib.OthersKept 5 (some b) W w':=by
 have hlen : (Lib.byteCells s).length = s.length:=by simp [Lib.byteCells]
 refine (writeString_any w0.heap.size b (Lib.byteCells s) x W h (by rw [hlen]; omega) hb.size).mono ?_
 rintro e w' ⟨h1,h2,h3,h4⟩
 rw [bcells] at h2
 exact ⟨h1,h2,hb.trans h3,h4⟩
theorem isb_below {w0 W W' : World} {b : Nat} {bs : List Value} (h : Lib.IsBuilder 86 5 w0.heap.size b bs W) (hb : Below W.heap.size W W') : Lib.IsBuilder 86 5 w0.heap.size b bs W':=by
 rcases h with h | h
 ·obtain ⟨hB,v,hbk,hown,hne⟩:=h
  exact .inl ⟨hB,v,by rw [hb.block b (Array.getElem?_eq_some_iff.1 hbk).1]; exact hbk,own_below hown hb,hne⟩
 ·obtain ⟨hB,v,hbk,hown,hne⟩:=h
  exact .inr ⟨hB,v,by rw [hb.block b (Array.getElem?_eq_some_iff.1 hbk).1]; exact hbk,own_below hown hb,hne⟩
theorem sz3 (y z : ByteArray) : (y ++ z ++ ⟨#[10]⟩).size = y.size + z.size + 1:=by rw [ByteArray.size_append,ByteArray.size_append]; rfl
theorem dt3 (y z : ByteArray) : (y ++ z ++ ⟨#[10]⟩).data.toList = y.data.toList ++ z.data.toList ++ [10]:=by simp
theorem sz2 (y : ByteArray) (p q : UInt8) : (y ++ ⟨#[p,q]⟩).size = y.size + 2:=by rw [ByteArray.size_append]; rfl
theorem dt2 (y : ByteArray) : (y ++ ⟨#[125,10]⟩).data.toList = y.data.toList ++ [125] ++ [10]:=by simp
theorem sz9 (y : ByteArray) : (y ++ ⟨#[125,32,101,108,115,101,32,123,10]⟩).size = y.size + 9:=by rw [ByteArray.size_append]; rfl
theorem dt9 (y : ByteArray) : (y ++ ⟨#[125,32,101,108,115,101,32,123,10]⟩).data.toList = y.data.toList ++ elseB ++ [10]:=by simp [elseB]
theorem write_any (w0 : World) (b : Nat) (ht : Tabs w0) (hz : ∀ xs : List St,(∀ x ∈ xs,okSt x) → SmOK xs) : ∀ n,WrC w0 b n:=by
 intro n
 induction n using Nat.strongRecOn with
 | _ n ih =>
  intro t ts v d s W hn htf hok hd hlen hv hbl hib
  have HIH : Hid (∀ m,m < n → WrC w0 b m):=ih
  have HT:=Lib.hid ht
  have HZ:=Lib.hid hz
  have HV:=Lib.hid hv
  have HBL:=Lib.hid hbl
  have HIB:=Lib.hid hib
  have HOK:=Lib.hid hok
  have HTF:=Lib.hid htf
  have HLEN:=Lib.hid hlen
  have hd1 : d ≤ 1000:=by omega
  have HD:=Lib.hid hd
  have HN:=Lib.hid hn
  obtain ⟨ad0,cap0,rfl⟩:=hv.shape
  obtain ⟨y,hy⟩ : ∃ y : ByteArray,y = ⟨(ind d).toArray⟩:=⟨_,rfl⟩
  have hyl : y.data.toList = ind d:=by rw [hy]
  have hys : y.size ≤ 2000:=by rw [Lib.size_eq,hyl]; simp [ind]; omega
  have HRP:=Lib.hid (srepeat_any d W (by omega))
  rw [← hy] at HRP
  have HYL:=Lib.hid hyl
  obtain ⟨n0,hn0⟩ : ∃ n0,n0 = ts.length:=⟨_,rfl⟩
  rw [← hn0] at HV ⊢
  have HN0:=Lib.hid hn0
  clear ih ht hz hv hbl hib hok htf hlen hd hn hy hyl hn0
  go_enter Tryz.func110,Tryz.ntmps110
  go_wp2_with fail
  refine HRP.out.mono ?_
  rintro e W1 ⟨rfl,hb1⟩
  have HB1:=Lib.hid (HBL.out.trans (hb1.mono HBL.out.size))
  have HI1:=Lib.hid (isb_below HIB.out hb1)
  clear hb1 HIB HBL HRP
  go_wp2_with fail
  go_loopg [1] n0 (fun fuel v' wr => ∃ (rs : List SI) (t' : Tr) (s' : List UInt8),StsD w0 v' rs ∧ rs.map (·.1) = t'.flat ∧ (∀ x ∈ t'.flat,okSt x) ∧ rs.length ≤ fuel ∧ rs.length ≤ ts.length ∧ s' ++ t'.text d = s ++ t.text d ∧ s'.length + t'.flat.length * 80000 ≤ 1000000000 ∧ Below w0.heap.size w0 wr ∧ Lib.IsBuilder 86 5 w0.heap.size b (Lib.byteCells s') wr)
  case atStart => exact ⟨ts,t,s,HV.out,HTF.out,HOK.out,by rw [HN0.out]; exact Nat.le_refl _,Nat.le_refl _,rfl,HLEN.out,HB1.out,HI1.out⟩
  case round =>
   obtain ⟨rs,t',s',hs,htf,hok,hf,hrl,htx,hsl,hbl,hib⟩:=hrel
   have HTX:=Lib.hid htx
   have HBL:=Lib.hid hbl
   have HIB:=Lib.hid hib
   have HRL:=Lib.hid hrl
   have HS:=Lib.hid hs
   clear htx hbl hib hrl hs HB1 HI1
   cases t' with
   | nil =>
    have hrs : rs = []:=by cases rs with
     | nil => rfl
     | cons a c => cases htf
    subst hrs
    obtain ⟨ad,cap,rfl⟩:=HS.out.shape
    clear htf hok hf hsl
    go_wp2
    refine bodyPost_end (v:=.tuple #[]) (by simp [results,Tryz.results110,go_sem]) rfl ⟨rfl,?_,HBL.out⟩
    rw [← HTX.out,Tr.text,List.append_nil]
    exact HIB.out
   | node x bt ot rt =>
    obtain ⟨t0,r0,hrs⟩ : ∃ t0 r0,rs = t0 :: r0:=by cases rs with
     | nil => cases htf
     | cons a c => exact ⟨a,c,rfl⟩
    subst hrs
    have hcplen : ts.length = t.flat.length:=by rw [← HTF.out,List.length_map]
    have hlfl : (t0 :: r0).length = (Tr.node x bt ot rt).flat.length:=by rw [← htf,List.length_map]
    rw [Tr.flat,List.map_cons] at htf
    injection htf with e1 e2
    have hok0 : okSt t0.1:=by rw [e1]; exact hok _ (by rw [Tr.flat]; exact List.mem_cons_self ..)
    have hln : lineB t0.1 = lineB x:=by rw [e1]; exact (bareS x _ _).1
    have hk : t0.1.kind = x.kind:=by rw [e1]
    have g1 : t0.1.body = (bt.flat.length : Nat):=by rw [e1]
    have g2 : t0.1.els = (ot.flat.length : Nat):=by rw [e1]
    rw [List.append_assoc] at e2
    obtain ⟨bs,br,hr,j1,j2⟩:=List.map_eq_append_iff.1 e2
    obtain ⟨os,rr,hr2,j3,j4⟩:=List.map_eq_append_iff.1 j2
    subst hr hr2
    have lb : bs.length = bt.flat.length:=by rw [← j1,List.length_map]
    have lo : os.length = ot.flat.length:=by rw [← j3,List.length_map]
    rw [← lb] at g1
    rw [← lo] at g2
    have hokb : ∀ z ∈ bt.flat,okSt z:=fun z hz => hok z (by rw [Tr.flat]; simp [hz])
    have hoko : ∀ z ∈ ot.flat,okSt z:=fun z hz => hok z (by rw [Tr.flat]; simp [hz])
    have hokr : ∀ z ∈ rt.flat,okSt z:=fun z hz => hok z (by rw [Tr.flat]; simp [hz])
    have HOKB:=Lib.hid hokb
    have HOKO:=Lib.hid hoko
    have HOKR:=Lib.hid hokr
    have hmany : bs.length < n ∧ os.length < n ∧ rr.length ≤ gk - 1 ∧ 0 < gk ∧ rr.length ≤ ts.length ∧ d + 1 + bt.flat.length ≤ 1000 ∧ d + 1 + ot.flat.length ≤ 1000 ∧ s'.length + (1 + bt.flat.length + ot.flat.length + rt.flat.length) * 80000 ≤ 1000000000:=by
     have h1:=HRL.out
     have h2:=HN.out
     have h3:=HD.out
     rw [Tr.flat] at hlfl hsl
     simp only [List.length_cons,List.length_append] at h1 hf hlfl hsl
     omega
    have HMANY:=Lib.hid hmany
    have HJ1:=Lib.hid j1
    have HJ3:=Lib.hid j3
    have HJ4:=Lib.hid j4
    have HG1:=Lib.hid g1
    have HG2:=Lib.hid g2
    have hvw:=HS.out.below HBL.out
    have HVW:=Lib.hid hvw
    obtain ⟨b0,off,cap,hv0,_,_,hbl0,⟨h0,h1,h2,h3,h4,h5,h6,h7,h8⟩,hE,hF⟩:=hvw.head
    subst hv0
    have hsm:=HZ.out [t0.1] (fun z hz => by rw [List.mem_singleton.1 hz]; exact hok0) t0.1 (List.mem_singleton.2 rfl)
    have HLN:=Lib.hid (fun (W : World) (hW : Below wr.heap.size wr W) => sline_any t0.1 t0.2.1 t0.2.2 W hok0 (hE.below hW) (hF.below hW) hsm.2.2.1 hsm.2.2.2.1 hsm.2.2.2.2.1 hsm.2.2.2.2.2 ((HT.out.below HBL.out).below hW))
    rw [hln] at HLN
    have hll:=line_len hok0
    rw [hln] at hll
    obtain ⟨z,hz⟩ : ∃ z : ByteArray,z = ⟨(lineB x).toArray⟩:=⟨_,rfl⟩
    have hzl : z.data.toList = lineB x:=by rw [hz]
    have hzs : z.size ≤ 65000:=by rw [Lib.size_eq,hzl]; exact hll
    unfold TextIs at HLN
    rw [← hz] at HLN
    have HZL:=Lib.hid hzl
    obtain ⟨a1,p1,e4,_⟩:=id hE
    obtain ⟨a2,p2,e5,_⟩:=id hF
    rw [e4] at h3 HLN
    rw [e5] at h4 HLN
    obtain ⟨m,hm⟩ : ∃ m,m = (bs ++ (os ++ rr)).length:=⟨_,rfl⟩
    rw [← hm] at HS HVW ⊢
    obtain ⟨kk,hkk⟩ : ∃ kk,kk = x.kind:=⟨_,rfl⟩
    rw [hk,← hkk] at h0
    have HKK:=Lib.hid hkk
    obtain ⟨⟨tk,tr,tl,te,tf,tn,tb,tq,tp⟩,v1,v2⟩:=t0
    simp only [] at hk g1 g2
    subst hk
    simp only [St.cells] at h0 h1 h2 h3 h4 h5 h6 h7 h8 HLN
    rw [← hkk] at HLN
    have q1 : decide ((0 : Int) < ((m + 1 : Nat) : Int)) = true:=by simp
    clear hokb hoko hokr hmany j1 j2 j3 j4 e1 e2 hm hE hF hsm hok0 hok hln hll hz hzl e4 e5 lb lo hf hsl hvw hlfl hcplen hkk g1 g2
    go_wp2_with fail
    have hB : BlkS (wr.alloc (.cells #[.int .i64 kk,.string tr,.string tl,.slice a1 te.length p1,.slice a2 tf.length p2,.bool tn,.int .i64 tb,.int .i64 tq,.int .i64 tp] 42)) wr.heap.size ⟨kk,tr,tl,te,tf,tn,tb,tq,tp⟩ (.slice a1 te.length p1) (.slice a2 tf.length p2):=heap_alloc_new wr _
    have HQ : Hid (Below wr.heap.size wr (wr.alloc (.cells #[.int .i64 kk,.string tr,.string tl,.slice a1 te.length p1,.slice a2 tf.length p2,.bool tn,.int .i64 tb,.int .i64 tq,.int .i64 tp] 42))):=(Below.refl _ _).alloc (Nat.le_refl _) _
    clear h0 h1 h2 h3 h4 h5 h6 h7 h8
    obtain ⟨sb,hsb⟩ : ∃ sb,sb = wr.heap.size:=⟨_,rfl⟩
    have HSBE:=Lib.hid hsb
    rw [← hsb] at hB ⊢
    clear hsb
    generalize (wr.alloc (.cells #[.int .i64 kk,.string tr,.string tl,.slice a1 te.length p1,.slice a2 tf.length p2,.bool tn,.int .i64 tb,.int .i64 tq,.int .i64 tp] 42)) = w1 at hB HQ ⊢
    have HSB:=Lib.hid hB
    have HB1:=Lib.hid (HBL.out.trans (HQ.out.mono HBL.out.size))
    have HI1:=Lib.hid (isb_below HIB.out HQ.out)
    clear hB
    refine (cut_any0 w0 _ bs os rr _ _ HS.out (HVW.out.below HQ.out) HG1.out HG2.out).mono ?_
    rintro e w2 ⟨u1,u2,u3,rfl,d1,d2,d3,hb2⟩
    have D1:=Lib.hid d1
    have D2:=Lib.hid d2
    have D3:=Lib.hid d3
    obtain ⟨c1,k1,rfl⟩:=d1.shape
    obtain ⟨c2,k2,rfl⟩:=d2.shape
    obtain ⟨c3,k3,rfl⟩:=d3.shape
    have HSB2:=Lib.hid (HSB.out.under hb2)
    have HQ2:=Lib.hid (HQ.out.trans (hb2.mono HQ.out.size))
    have HB2:=Lib.hid (HB1.out.trans (hb2.mono HB1.out.size))
    have HI2:=Lib.hid (isb_below HI1.out hb2)
    obtain ⟨⟨x0,x1,x2,x3,x4,x5,x6,x7,x8⟩,_⟩:=HSB2.out.facts
    simp only [] at x0 x1 x2 x3 x4 x5 x6 x7 x8
    clear d1 d2 d3 hb2 HSB HQ HB1 HI1
    go_wp2_with fail
    refine (HLN.out _ HQ2.out).mono ?_
    rintro e w3 ⟨rfl,hb3⟩
    have HSB3:=Lib.hid (HSB2.out.under hb3)
    have HB3:=Lib.hid (HB2.out.trans (hb3.mono HB2.out.size))
    have HI3:=Lib.hid (isb_below HI2.out hb3)
    clear hb3 x0 x1 x2 x3 x4 x5 x6 x7 x8 HSB2 HQ2 HB2 HI2
    have hmn:=HMANY.out
    go_wp2_with fail
    refine (wstr HB3.out HI3.out _ ?len1).mono ?_
    case len1 => rw [sz3]; omega
    rintro e w4 ⟨rfl,hi4,hb4,ho4⟩
    have hsn : sb ≠ b:=by
     rintro rfl
     have h1:=HSB3.out
     unfold BlkS at h1
     rcases HI3.out with h | h
     ·obtain ⟨_,v,hbk,_⟩:=h
      rw [hbk] at h1; cases h1
     ·obtain ⟨_,v,hbk,_⟩:=h
      rw [hbk] at h1; cases h1
    have hS4 : BlkS w4 sb ⟨kk,tr,tl,te,tf,tn,tb,tq,tp⟩ (.slice a1 te.length p1) (.slice a2 tf.length p2):=by
     unfold BlkS
     exact ho4 sb _ HSB3.out (by intro e; cases e; exact hsn rfl) (by intro c fz e; cases e)
    obtain ⟨⟨x0,_⟩,_⟩:=hS4.facts
    simp only [] at x0
    rw [dt3,HYL.out,HZL.out] at hi4
    have HI4:=Lib.hid hi4
    have HB4:=Lib.hid hb4
    clear hi4 hb4 ho4 hsn hS4 HSB3 HB3 HI3
    go_wp2_with fail
    refine (nests_int kk _).mono ?_
    rintro e w5 ⟨rfl,rfl⟩
    obtain ⟨nk,hnk⟩ : ∃ nk,nestK kk = nk:=⟨_,rfl⟩
    have HNK:=Lib.hid hnk
    rw [hnk]
    clear hnk
    cases nk with
    | false =>
     go_wp2
     go_roundg (gk - 1)
     case measure => omega
     case rel =>
      refine ⟨rr,rt,s' ++ (ind d ++ lineB x ++ [10]),D3.out,HJ4.out,HOKR.out,hmn.2.2.1,hmn.2.2.2.2.1,?_,?_,HB4.out,HI4.out⟩
      ·rw [← HTX.out,Tr.text,← HKK.out,HNK.out,if_neg (by simp)]
       simp
      ·have h9:=hmn.2.2.2.2.2.2.2
       simp only [List.length_append,List.length_cons,List.length_nil,ind,List.length_replicate]
       rw [Lib.size_eq,HZL.out] at hzs
       omega
    | true =>
     have hsl : (s' ++ (ind d ++ lineB x ++ [10])).length + bt.flat.length * 80000 ≤ 1000000000:=by
      have h9:=hmn.2.2.2.2.2.2.2
      simp only [List.length_append,List.length_cons,List.length_nil,ind,List.length_replicate]
      rw [Lib.size_eq,HZL.out] at hzs
      omega
     have HW:=Lib.hid (HIH.out bs.length hmn.1 bt bs _ (d + 1) _ w4 (Nat.le_refl _) HJ1.out HOKB.out hmn.2.2.2.2.2.1 hsl D1.out HB4.out HI4.out)
     clear hsl
     have HW' : Hid (Calls Tryz.prog 110 #[.pointer (some ⟨b,0,none⟩),.slice c1 bs.length k1,.int .i64 ((d : Int) + 1)] w4 fun e w' => e = .returned (.tuple #[]) ∧ Lib.IsBuilder 86 5 w0.heap.size b (Lib.byteCells (s' ++ (ind d ++ lineB x ++ [10]) ++ bt.text (d + 1))) w' ∧ Below w0.heap.size w0 w'):=HW.out
     clear HW
     have htl:=text_len bt (d + 1) HOKB.out hmn.2.2.2.2.2.1
     have HTL:=Lib.hid htl
     clear htl
     go_wp2_with fail
     refine HW'.out.mono ?_
     rintro e w6 ⟨rfl,hi6,hb6⟩
     have HI6:=Lib.hid hi6
     have HB6:=Lib.hid hb6
     clear hi6 hb6 HW' HI4 HB4
     by_cases ho0 : os.length = 0
     ·have q2 : decide ((0 : Int) < (os.length : Int)) = false:=decide_eq_false (by omega)
      have HO0:=Lib.hid ho0
      obtain ⟨no,hno⟩ : ∃ no,no = os.length:=⟨_,rfl⟩
      have HNO:=Lib.hid hno
      rw [← hno] at q2 D2 ⊢
      have hno0 : no = 0:=by omega
      clear hno ho0
      go_wp2_with fail
      refine (wstr HB6.out HI6.out _ ?len2).mono ?_
      case len2 =>
       rw [sz2 y 125 10]
       have h9:=hmn.2.2.2.2.2.2.2
       have h8:=HTL.out
       simp only [List.length_append,List.length_cons,List.length_nil,ind,List.length_replicate]
       rw [Lib.size_eq,HZL.out] at hzs
       omega
      rintro e w7 ⟨rfl,hi7,hb7,_⟩
      rw [dt2,HYL.out] at hi7
      have HI7:=Lib.hid hi7
      have HB7:=Lib.hid hb7
      clear hi7 hb7
      go_wp2
      go_roundg (gk - 1)
      case measure => omega
      case rel =>
       have hof : ot.flat.length = 0:=by rw [← HJ3.out,List.length_map]; exact HO0.out
       refine ⟨rr,rt,s' ++ (ind d ++ lineB x ++ [10]) ++ bt.text (d + 1) ++ (ind d ++ [125] ++ [10]),D3.out,HJ4.out,HOKR.out,hmn.2.2.1,hmn.2.2.2.2.1,?_,?_,HB7.out,HI7.out⟩
       ·rw [← HTX.out,Tr.text,← HKK.out,HNK.out,if_pos rfl,if_pos hof]
        simp
       ·have h9:=hmn.2.2.2.2.2.2.2
        have h8:=HTL.out
        simp only [List.length_append,List.length_cons,List.length_nil,ind,List.length_replicate]
        rw [Lib.size_eq,HZL.out] at hzs
        omega
     ·have q2 : decide ((0 : Int) < (os.length : Int)) = true:=decide_eq_true (by omega)
      have HO0:=Lib.hid ho0
      obtain ⟨no,hno⟩ : ∃ no,no = os.length:=⟨_,rfl⟩
      have HNO:=Lib.hid hno
      rw [← hno] at q2 D2 ⊢
      have hno1 : 0 < no:=by omega
      have q3 : decide (0 < no) = true:=decide_eq_true hno1
      clear hno ho0
      go_wp2_with fail
      refine (wstr HB6.out HI6.out _ ?len2).mono ?_
      case len2 =>
       rw [sz9 y]
       have h9:=hmn.2.2.2.2.2.2.2
       have h8:=HTL.out
       simp only [List.length_append,List.length_cons,List.length_nil,ind,List.length_replicate]
       rw [Lib.size_eq,HZL.out] at hzs
       omega
      rintro e w7 ⟨rfl,hi7,hb7,_⟩
      rw [dt9,HYL.out] at hi7
      have HI7:=Lib.hid hi7
      have HB7:=Lib.hid hb7
      clear hi7 hb7 HI6 HB6
      have hsl : (s' ++ (ind d ++ lineB x ++ [10]) ++ bt.text (d + 1) ++ (ind d ++ elseB ++ [10])).length + ot.flat.length * 80000 ≤ 1000000000:=by
       have h9:=hmn.2.2.2.2.2.2.2
       have h8:=HTL.out
       simp only [List.length_append,List.length_cons,List.length_nil,ind,List.length_replicate,elseB]
       rw [Lib.size_eq,HZL.out] at hzs
       omega
      have HW : Hid (Calls Tryz.prog 110 #[.pointer (some ⟨b,0,none⟩),.slice c2 no k2,.int .i64 ((d : Int) + 1)] w7 fun e w' => e = .returned (.tuple #[]) ∧ Lib.IsBuilder 86 5 w0.heap.size b (Lib.byteCells (s' ++ (ind d ++ lineB x ++ [10]) ++ bt.text (d + 1) ++ (ind d ++ elseB ++ [10]) ++ ot.text (d + 1))) w' ∧ Below w0.heap.size w0 w'):=
       HIH.out os.length hmn.2.1 ot os _ (d + 1) _ w7 (Nat.le_refl _) HJ3.out HOKO.out hmn.2.2.2.2.2.2.1 hsl D2.out HB7.out HI7.out
      have htl2:=text_len ot (d + 1) HOKO.out hmn.2.2.2.2.2.2.1
      have HTL2:=Lib.hid htl2
      clear hsl htl2
      go_wp2_with fail
      refine HW.out.mono ?_
      rintro e w8 ⟨rfl,hi8,hb8⟩
      have HI8:=Lib.hid hi8
      have HB8:=Lib.hid hb8
      clear hi8 hb8 HW HI7 HB7
      go_wp2_with fail
      refine (wstr HB8.out HI8.out _ ?len2).mono ?_
      case len2 =>
       rw [sz2 y 125 10]
       have h9:=hmn.2.2.2.2.2.2.2
       have h8:=HTL.out
       have h7:=HTL2.out
       simp only [List.length_append,List.length_cons,List.length_nil,ind,List.length_replicate,elseB]
       rw [Lib.size_eq,HZL.out] at hzs
       omega
      rintro e w9 ⟨rfl,hi9,hb9,_⟩
      rw [dt2,HYL.out] at hi9
      have HI9:=Lib.hid hi9
      have HB9:=Lib.hid hb9
      clear hi9 hb9
      go_wp2
      go_roundg (gk - 1)
      case measure => omega
      case rel =>
       have hof : ¬ ot.flat.length = 0:=by rw [← HJ3.out,List.length_map]; exact HO0.out
       refine ⟨rr,rt,s' ++ (ind d ++ lineB x ++ [10]) ++ bt.text (d + 1) ++ (ind d ++ elseB ++ [10]) ++ ot.text (d + 1) ++ (ind d ++ [125] ++ [10]),D3.out,HJ4.out,HOKR.out,hmn.2.2.1,hmn.2.2.2.2.1,?_,?_,HB9.out,HI9.out⟩
       ·rw [← HTX.out,Tr.text,← HKK.out,HNK.out,if_pos rfl,if_neg hof]
        simp
       ·have h9:=hmn.2.2.2.2.2.2.2
        have h8:=HTL.out
        have h7:=HTL2.out
        simp only [List.length_append,List.length_cons,List.length_nil,ind,List.length_replicate,elseB]
        rw [Lib.size_eq,HZL.out] at hzs
        omega
theorem nameW_iff (s : ByteArray) (b : Bool) : nameW s b = true ↔ (if b = true then nameB s = true else s.size = 0):=by
 cases b <;> simp [nameW]
theorem valW_iff (l : List Nd) (b : Bool) : valW l b = true ↔ (if b = true then rightP l ∧ regsO l = true else l = []):=by
 cases b
 ·simp [valW]
 ·simp only [valW,if_pos,Bool.and_eq_true]
  constructor
  ·rintro ⟨h1,h2⟩
   refine ⟨?_,h2⟩
   by_cases h : rightP l
   ·exact h
   ·rw [right_no l h] at h1; cases h1
  ·rintro ⟨h1,h2⟩
   exact ⟨right_yes l h1,h2⟩
theorem flaw_ok (x : St) : flawB x = false ↔ okSt x:=by
 unfold flawB
 by_cases hk : x.kind < 1 ∨ 13 < x.kind ∨ x.pl < 0
 ·rw [if_pos hk]
  constructor
  ·intro h; cases h
  ·intro h
   have h1:=h.k1
   have h2:=h.k13
   have h3:=h.pl
   omega
 ·rw [if_neg hk]
  have hkk : ((x.kind.toNat : Nat) : Int) = x.kind:=by omega
  have e0 : ∀ k,hasB k 0 = hasR k:=fun _ => rfl
  have e1 : ∀ k,hasB k 1 = hasL k:=fun _ => rfl
  have e2 : ∀ k,hasB k 2 = hasE k:=fun _ => rfl
  have e3 : ∀ k,hasB k 3 = hasF k:=fun _ => rfl
  have e4 : ∀ k,hasB k 4 = decide (k = 9):=fun _ => rfl
  have e5 : ∀ k,hasB k 5 = nestK k:=fun _ => rfl
  have e6 : ∀ k,hasB k 6 = decide (k = 10):=fun _ => rfl
  rw [e0,e1,e2,e3,e4,e5,e6,hkk]
  simp only [Bool.or_eq_false_iff,Bool.not_eq_false',Bool.and_eq_true,nameW_iff,valW_iff]
  have k9 : (x.kind.toNat = 9) ↔ x.kind = 9:=by omega
  have k10 : (x.kind.toNat = 10) ↔ x.kind = 10:=by omega
  have hb1 : ((x.ne && !decide (x.kind.toNat = 9)) = false) ↔ (x.ne = true → x.kind = 9):=by
   rw [← k9]
   cases x.ne <;> simp
  have hb2 : ((decide (x.body ≠ 0) && !nestK x.kind) = false) ↔ (x.body ≠ 0 → nestK x.kind = true):=by
   cases nestK x.kind <;> simp
  have hb3 : ((decide (x.els ≠ 0) && !decide (x.kind.toNat = 10)) = false) ↔ (x.els ≠ 0 → x.kind = 10):=by
   rw [← k10]
   by_cases h : x.kind.toNat = 10 <;> simp [h]
  rw [hb1,hb2,hb3]
  constructor
  ·rintro ⟨⟨a1,a2,a3,a4⟩,a5,a6,a7⟩
   exact ⟨by omega,by omega,by omega,a1,a2,a3,a4,a5,a6,a7⟩
  ·intro h
   exact ⟨⟨h.reg,h.loc,h.e,h.f⟩,h.ne,h.body,h.els⟩
theorem nmOK_of {l : List Nd} (h : rightP l) : NmOK l:=by
 obtain ⟨e,_,_,_,ha,_⟩:=h
 intro i hi
 have h1:=List.all_eq_true.1 ha l[i] (List.getElem_mem hi)
 have hs : ∀ s : ByteArray,nameB s = true ∨ s.size = 0 → s.size ≤ 100000:=by
  rintro s (h | h)
  ·unfold nameB at h
   simp only [Bool.and_eq_true,decide_eq_true_eq] at h
   omega
  ·omega
 obtain ⟨x,hx⟩ : ∃ x,x = l[i]:=⟨_,rfl⟩
 rw [← hx] at h1 ⊢
 unfold okN at h1
 rw [Bool.and_eq_true] at h1
 have h2:=h1.2
 split at h2
 ·simp only [Bool.and_eq_true,decide_eq_true_eq] at h2
  exact ⟨hs _ (.inr h2.2.1),hs _ (.inr h2.2.2)⟩
 ·split at h2
  ·simp only [Bool.and_eq_true,decide_eq_true_eq] at h2
   exact ⟨hs _ (.inl h2.2.1),hs _ (.inr h2.2.2)⟩
  ·split at h2
   ·simp only [Bool.and_eq_true,decide_eq_true_eq] at h2
    exact ⟨hs _ (.inl h2.2.1),hs _ (.inl h2.2.2)⟩
   ·simp only [Bool.and_eq_true,decide_eq_true_eq] at h2
    exact ⟨hs _ (.inr h2.2.1),hs _ (.inr h2.2.2)⟩
theorem smOK_of (xs : List St) (h : ∀ x ∈ xs,okSt x) : SmOK xs:=by
 intro x hx
 have h0:=h x hx
 have hs : ∀ s : ByteArray,∀ b : Bool,(if b = true then nameB s = true else s.size = 0) → s.size ≤ 100000:=by
  intro s b h
  cases b with
  | false => have : s.size = 0:=h; omega
  | true =>
   have h1 : nameB s = true:=h
   unfold nameB at h1
   simp only [Bool.and_eq_true,decide_eq_true_eq] at h1
   omega
 have hv : ∀ l : List Nd,∀ b : Bool,(if b = true then rightP l ∧ regsO l = true else l = []) → l.length ≤ 100000 ∧ NmOK l:=by
  intro l b h
  cases b with
  | false => have h1 : l = []:=h; subst h1; exact ⟨Nat.zero_le _,fun i hi => absurd hi (Nat.not_lt_zero _)⟩
  | true =>
   have h1 : rightP l ∧ regsO l = true:=h
   refine ⟨?_,nmOK_of h1.1⟩
   obtain ⟨⟨_,_,_,h2,_⟩,_⟩:=h1
   omega
 exact ⟨hs _ _ h0.reg,hs _ _ h0.loc,(hv _ _ h0.e).1,(hv _ _ h0.f).1,(hv _ _ h0.e).2,(hv _ _ h0.f).2⟩
theorem rightSB_iff (xs : List St) : rightSB xs = true ↔ rightS xs:=by
 have hg : goodB xs = true ↔ ∀ x ∈ xs,okSt x:=by
  unfold goodB
  rw [List.all_eq_true]
  constructor
  ·intro h x hx
   have:=h x hx
   exact (flaw_ok x).1 (by simpa using this)
  ·intro h x hx
   rw [(flaw_ok x).2 (h x hx)]; rfl
 constructor
 ·intro h
  by_cases hh : xs.length ≤ 200 ∧ Cpl xs ∧ goodB xs = true ∧ ∃ t : Tr,t.flat = xs ∧ t.hgt ≤ 30
  ·obtain ⟨h1,_,h3,t,h4,h5⟩:=hh
   exact ⟨h1,t,h4,hg.1 h3,h5⟩
  ·rw [rightSB_no hh] at h; cases h
 ·rintro ⟨h1,t,h2,h3,h4⟩
  exact rightSB_yes ⟨h1,⟨t,h2⟩,hg.2 h3,t,h2,h4⟩
noncomputable def textS (l : List St) (d : Nat) : List UInt8:=open Classical in if h : rightS l then h.2.choose.text d else []
theorem Tr.flat_inj : ∀ (t t' : Tr),t.flat = t'.flat → (∀ d,t.text d = t'.text d) ∧ t.tok = t'.tok:=by
 intro t
 induction t with
 | nil =>
  intro t' h
  cases t' with
  | nil => exact ⟨fun _ => rfl,rfl⟩
  | node s b o r => cases h
 | node s b o r ib io ir =>
  intro t' h
  cases t' with
  | nil => cases h
  | node s' b' o' r' =>
   simp only [Tr.flat] at h
   injection h with h1 h2
   have hb : b.flat.length = b'.flat.length:=by
    have:=congrArg St.body h1
    simp only [] at this
    omega
   have ho : o.flat.length = o'.flat.length:=by
    have:=congrArg St.els h1
    simp only [] at this
    omega
   rw [List.append_assoc,List.append_assoc] at h2
   obtain ⟨e1,e2⟩:=List.append_inj h2 hb
   obtain ⟨e3,e4⟩:=List.append_inj e2 ho
   have q1:=ib b' e1
   have q2:=io o' e3
   have q3:=ir r' e4
   have z1:=bareS s (b.flat.length : Nat) (o.flat.length : Nat)
   have z2:=bareS s' (b'.flat.length : Nat) (o'.flat.length : Nat)
   have hk : s.kind = s'.kind:=by have h9:=congrArg St.kind h1; exact h9
   have hL : lineB s = lineB s':=by rw [← z1.1,h1,z2.1]
   have hT : lineT s = lineT s':=by rw [← z1.2,h1,z2.2]
   have hof : o.flat.length = 0 ↔ o'.flat.length = 0:=by omega
   constructor
   ·intro d
    rw [Tr.text,Tr.text,hL,hk,q1.1,q2.1,q3.1,ho]
   ·rw [Tr.tok,Tr.tok,hT,hk,q1.2,q2.2,q3.2,ho]
theorem textS_tree {l : List St} (h : rightS l) (t : Tr) (ht : t.flat = l) (d : Nat) : textS l d = t.text d:=by
 unfold textS
 rw [dif_pos h]
 exact (Tr.flat_inj _ _ (h.2.choose_spec.1.trans ht.symm)).1 d
theorem textS_no {l : List St} (h : ¬ rightS l) (d : Nat) : textS l d = []:=by unfold textS; rw [dif_neg h]
theorem show_any (ts : List SI) (v : Value) (d : Nat) (w : World) (hd : d ≤ 100) (hv : StsD w v ts) (hn : ts.length ≤ 100000) (hz : SmOK (ts.map (·.1))) (hf : Flds w) (ht : Tabs w) :
  Calls Tryz.prog 56 #[v,.int .i64 d] w (TextIs (textS (ts.map (·.1)) d) w):=by
 have HR:=Lib.hid (sright_any ts v w hv hn hz hf)
 by_cases hr : rightS (ts.map (·.1))
 ·rw [(rightSB_iff _).2 hr] at HR
  obtain ⟨h200,t,htf,hok,hh⟩:=id hr
  rw [textS_tree hr t htf]
  have hlen : t.flat.length ≤ 200:=by rw [htf]; exact h200
  have hok' : ∀ x ∈ t.flat,okSt x:=by rw [htf]; exact hok
  have HTL:=Lib.hid (text_len t d hok' (by omega))
  have HW:=Lib.hid (fun (w0 : World) (b : Nat) (W : World) (h0 : Tabs w0) (hs : StsD w0 v ts) => write_any w0 b h0 smOK_of ts.length t ts v d [] W (Nat.le_refl _) htf.symm hok' (by omega) (by simp only [List.length_nil]; omega) hs)
  obtain ⟨ad,cap,rfl⟩:=hv.shape
  have HV:=Lib.hid hv
  have HT:=Lib.hid ht
  have q1 : decide ((d : Int) < 0) = false:=decide_eq_false (by omega)
  have q2 : decide ((100 : Int) < (d : Int)) = false:=decide_eq_false (by omega)
  have q3 : decide (100 < d) = false:=decide_eq_false (by omega)
  obtain ⟨y,hy⟩ : ∃ y : ByteArray,y = ⟨(t.text d).toArray⟩:=⟨_,rfl⟩
  have HY:=Lib.hid hy
  obtain ⟨n,hN⟩ : ∃ n,n = ts.length:=⟨_,rfl⟩
  rw [← hN] at HR HW HV ⊢
  clear hN hr h200 htf hok hh hlen hok' hv ht hf hz hn hy
  unfold TextIs
  rw [← HY.out]
  go_enter Tryz.func56,Tryz.ntmps56
  go_wp2_with fail
  refine HR.out.mono ?_
  rintro e w1 ⟨rfl,hb1⟩
  have HB1:=Lib.hid hb1
  have HB:=Lib.hid (Lib.fresh_isBuilder 86 5 w1)
  have HB2:=Lib.hid ((Below.refl w1.heap.size w1).alloc (Nat.le_refl _) (.cells #[.pointer none,.slice none 0 0] 86))
  clear hb1 HR
  have HC : Hid (Calls Tryz.prog 110 #[.pointer (some ⟨w1.heap.size,0,none⟩),.slice ad n cap,.int .i64 d] (w1.alloc (.cells #[.pointer none,.slice none 0 0] 86)) fun e w' => e = .returned (.tuple #[]) ∧ Lib.IsBuilder 86 5 w1.heap.size w1.heap.size (Lib.byteCells ([] ++ t.text d)) w' ∧ Below w1.heap.size w1 w'):=HW.out w1 w1.heap.size _ (HT.out.below HB1.out) (HV.out.below HB1.out) HB2.out HB.out
  clear HW HB HB2
  go_wp2_with fail
  refine HC.out.mono ?_
  rintro e w2 ⟨rfl,hi,hb2⟩
  rw [List.nil_append] at hi
  have HS:=Lib.hid (Tryz.Builder_String_any w1.heap.size w1.heap.size (t.text d) w2 hi hb2.size)
  rw [← HY.out] at HS
  have HB2:=Lib.hid hb2
  clear hi hb2 HC
  go_wp2_with fail
  refine HS.out.mono ?_
  rintro e w3 ⟨rfl,hb3⟩
  go_wp2
  go_ret
  exact ⟨rfl,HB1.out.trans ((HB2.out.trans hb3).mono HB1.out.size)⟩
 ·have hr' : rightSB (ts.map (·.1)) = false:=by
   cases h : rightSB (ts.map (·.1)) with
   | false => rfl
   | true => exact absurd ((rightSB_iff _).1 h) hr
  rw [hr'] at HR
  rw [textS_no hr]
  obtain ⟨ad,cap,rfl⟩:=hv.shape
  have q1 : decide ((d : Int) < 0) = false:=decide_eq_false (by omega)
  have q2 : decide ((100 : Int) < (d : Int)) = false:=decide_eq_false (by omega)
  have q3 : decide (100 < d) = false:=decide_eq_false (by omega)
  obtain ⟨n,hN⟩ : ∃ n,n = ts.length:=⟨_,rfl⟩
  rw [← hN] at HR ⊢
  clear hN hr hr' hv ht hf hz hn
  go_enter Tryz.func56,Tryz.ntmps56
  go_wp2_with fail
  refine HR.out.mono ?_
  rintro e w1 ⟨rfl,hb1⟩
  go_wp2
  go_ret
  exact ⟨rfl,hb1⟩
end Go.Proofs.YtcghccjnadagcaaGreatDoor
