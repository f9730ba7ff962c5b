/- Facts. -/
import Derived.Test.YtcghccjnadagcaaGreatDoorPt
import Derived.Test.YtcghccjnadagcaaGreatDoorPp
set_option maxRecDepth 100000
set_option maxHeartbeats 32000000
namespace Go.Proofs.YtcghccjnadagcaaGreatDoor
open Go.RowKit
theorem pbare_any (g : Pg) (x y z : Value) (w : World) (hd : PgD w x y z g) (hz : PmOK g) : Calls Tryz.prog 13 #[.agg #[.int .i64 g.mod,x,y,z]] w fun e w' => ∃ a b c,e = .returned (.agg #[.int .i64 (bareP g).mod,a,b,c]) ∧ POwn w' w.heap.size a b c (bareP g) ∧ Below w.heap.size w w':=by
 obtain ⟨m,ls,hs,cs⟩:=g
 obtain ⟨dl,⟨ts,rfl,dt⟩,us,rfl,dc⟩:=hd
 obtain ⟨⟨l1,l2⟩,⟨t1,t2⟩,c1,c2⟩:=hz
 simp only [] at dl dt dc l1 l2 t1 t2 c1 c2 ⊢
 have tl : ts.length ≤ 100000:=by simpa using t1
 have cl : us.length ≤ 100000:=by simpa using c1
 have HL:=Lib.hid (fun (W : World) (h : Below w.heap.size w W) => eachV_any ls x W (VrsD.below dl h) l1 fun w' i _ _ => bareLoc_any ls[i] w')
 have HT:=Lib.hid (fun (W : World) (h : Below w.heap.size w W) => eachT_any ts y W (ThsD.below dt h) tl fun w' i hi hb => by
  obtain ⟨ad,cap,_,_,_,hc⟩:=ThsD.below dt h
  obtain ⟨b,off,_,hl,_,hR,ss,e1,hS⟩:=hc i hi
  exact bareThr_any ts[i] w' (StrsD.below hR hb) ss e1 (hS.below hb) (t2 _ (List.mem_map_of_mem (List.getElem_mem hi))))
 have HC:=Lib.hid (fun (W : World) (h : Below w.heap.size w W) => eachC_any us z W (ClsD.below dc h) cl fun w' i hi hb => by
  obtain ⟨ad,cap,_,_,_,hc⟩:=ClsD.below dc h
  obtain ⟨b,off,_,hl,_,hE⟩:=hc i hi
  exact bareClaim_any us[i] w' (hE.below hb) (c2 _ (List.mem_map_of_mem (List.getElem_mem hi))).1)
 obtain ⟨a1,n1,p1,rfl⟩ : ∃ ad n cap,x = .slice ad n cap:=by obtain ⟨ad,cap,h⟩:=dl.shape; exact ⟨ad,_,cap,h⟩
 obtain ⟨a2,n2,p2,rfl⟩ : ∃ ad n cap,y = .slice ad n cap:=by obtain ⟨ad,cap,h⟩:=dt.shape; exact ⟨ad,_,cap,h⟩
 obtain ⟨a3,n3,p3,rfl⟩ : ∃ ad n cap,z = .slice ad n cap:=by obtain ⟨ad,cap,h⟩:=dc.shape; exact ⟨ad,_,cap,h⟩
 obtain ⟨W1,hW1⟩ : ∃ W1,W1 = (w.alloc (.cells #[.int .i64 m,.slice a1 n1 p1,.slice a2 n2 p2,.slice a3 n3 p3] 27)).alloc (.cells #[.int .i64 0,.slice none 0 0,.slice none 0 0,.slice none 0 0] 27):=⟨_,rfl⟩
 have hb:=bk_two w 27 27 #[.int .i64 m,.slice a1 n1 p1,.slice a2 n2 p2,.slice a3 n3 p3] #[.int .i64 0,.slice none 0 0,.slice none 0 0,.slice none 0 0]
 have hz : W1.heap.size = w.heap.size + 1 + 1:=by rw [hW1]; exact size_two w _ _
 have hbw : Below w.heap.size w W1:=by rw [hW1]; exact below_al2 w _ _
 rw [← hW1] at hb
 have HZ:=Lib.hid hz
 have hd0 : Below w.heap.size w W1.drew:=hbw.drew
 have q0 : W1.cell? ⟨w.heap.size,0,none⟩ = some (.int .i64 m):=hb.1.cell 0
 have q1 : W1.cell? ⟨w.heap.size,1,none⟩ = some (.slice a1 n1 p1):=hb.1.cell 1
 have q2 : W1.cell? ⟨w.heap.size,2,none⟩ = some (.slice a2 n2 p2):=hb.1.cell 2
 have q3 : W1.cell? ⟨w.heap.size,3,none⟩ = some (.slice a3 n3 p3):=hb.1.cell 3
 have lA:=hb.1.lt
 have HAD : Hid (∀ w2,Below W1.drew.heap.size W1.drew w2 → Below w.heap.size w w2 ∧ Bk w2 w.heap.size 27 #[.int .i64 m,.slice a1 n1 p1,.slice a2 n2 p2,.slice a3 n3 p3] ∧ Bk w2 (w.heap.size + 1) 27 #[.int .i64 0,.slice none 0 0,.slice none 0 0,.slice none 0 0]):=by
  refine Lib.hid fun w2 h => ?_
  have h' : Below W1.heap.size W1 w2:=((Below.refl W1.heap.size W1).drew).trans h
  exact ⟨hbw.trans (h'.mono hbw.size),hb.1.below h',hb.2.below h'⟩
 clear dl dt dc l1 l2 t1 t2 c1 c2 tl cl hb hz hbw
 go_enter Tryz.func13,Tryz.ntmps13
 go_upto_region 1 with fail
 rw [← hW1]
 clear hW1
 go_region_law (first
  | (go_simp; go_at_call 35; (with_reducible refine Calls.mono (HL.out _ hd0) ?_); rintro e w2 ⟨u1,rfl,o1,k2⟩; obtain ⟨hb2,A2,R2⟩:=HAD.out w2 k2; obtain ⟨b1,m1,d1,rfl⟩ : ∃ b n d,u1 = .slice b n d:=(by obtain ⟨b,d,h,_⟩:=own_shape o1; exact ⟨b,_,d,h⟩); have y0 : w2.cell? ⟨w.heap.size,0,none⟩ = some (.int .i64 m):=A2.cell 0; have y2 : w2.cell? ⟨w.heap.size,2,none⟩ = some (.slice a2 n2 p2):=A2.cell 2; have y3 : w2.cell? ⟨w.heap.size,3,none⟩ = some (.slice a3 n3 p3):=A2.cell 3; have l2:=A2.lt)
  | (go_simp; go_at_call 37; (with_reducible refine Calls.mono (HT.out _ hb2) ?_); rintro e w3 ⟨u2,rfl,o2,k3⟩; obtain ⟨b2,m2,d2,rfl⟩ : ∃ b n d,u2 = .slice b n d:=(by obtain ⟨b,d,h⟩:=o2.shape; exact ⟨b,_,d,h⟩); have A3:=A2.below k3; have R3:=R2.below k3; have hb3:=below_t hb2 k3 (Nat.le_refl _); have z0 : w3.cell? ⟨w.heap.size,0,none⟩ = some (.int .i64 m):=A3.cell 0; have z3 : w3.cell? ⟨w.heap.size,3,none⟩ = some (.slice a3 n3 p3):=A3.cell 3; have l3:=A3.lt)
  | (go_simp; go_at_call 39; (with_reducible refine Calls.mono (HC.out _ hb3) ?_); rintro e w4 ⟨u3,rfl,o3,k4⟩; obtain ⟨b3,m3,d3,rfl⟩ : ∃ b n d,u3 = .slice b n d:=(by obtain ⟨b,d,h⟩:=o3.shape; exact ⟨b,_,d,h⟩); have A4:=A3.below k4; have R4:=R3.below k4; have v0 : w4.cell? ⟨w.heap.size,0,none⟩ = some (.int .i64 m):=A4.cell 0; have l4:=A4.lt; have e0 : w4.cell? ⟨w.heap.size + 1,0,none⟩ = some (.int .i64 0):=R4.cell 0; have e1 : w4.cell? ⟨w.heap.size + 1,1,none⟩ = some (.slice none 0 0):=R4.cell 1; have e2 : w4.cell? ⟨w.heap.size + 1,2,none⟩ = some (.slice none 0 0):=R4.cell 2; have e3 : w4.cell? ⟨w.heap.size + 1,3,none⟩ = some (.slice none 0 0):=R4.cell 3; have g0:=R4.fz 0; have g1:=R4.fz 1; have g2:=R4.fz 2; have g3:=R4.fz 3; have r4:=R4.lt))
 all_goals
  have h1:=own_mono (own_below (own_below o1 k3) k4) (show w.heap.size ≤ W1.drew.heap.size from by have:=HZ.out; show w.heap.size ≤ W1.heap.size; omega)
  have h2:=(o2.below k4).mono (show w.heap.size ≤ w2.heap.size from Nat.le_of_lt A2.lt)
  have h3:=o3.mono (show w.heap.size ≤ w3.heap.size from Nat.le_of_lt A3.lt)
  have hP : POwn w4 w.heap.size (.slice b1 m1 d1) (.slice b2 m2 d2) (.slice b3 m3 d3) (bareP ⟨m,ls,ts.map (·.1),us.map (·.1)⟩):=⟨h1,h2,h3⟩
  have HP:=Lib.hid hP
  have HB4:=Lib.hid (below_t hb3 k4 (Nat.le_refl _))
  have HR4:=Lib.hid R4
  clear h1 h2 h3 hP k2 k3 k4 o1 o2 o3 A2 A3 A4 R2 R3 R4 hb2 hb3 hd0 HL HT HC HAD q0 q1 q2 q3
  go_wp2
  have j1:=HR4.out.set 0 (.int .i64 m)
  have j2:=j1.set 1 (.slice b1 m1 d1)
  have j3:=j2.set 2 (.slice b2 m2 d2)
  exact bodyPost_ret (v:=.agg #[.int .i64 m,.slice b1 m1 d1,.slice b2 m2 d2,.slice b3 m3 d3]) (results_pr rfl _ _ _ _ _ _ _ rfl (HR4.out.set4 _ _ _ _)) rfl ⟨_,_,_,rfl,(((HP.out.setBk HR4.out).setBk j1).setBk j2).setBk j3,below_set4' HB4.out (Nat.le_succ _) _ _ _ _⟩
end Go.Proofs.YtcghccjnadagcaaGreatDoor
