/- Facts. -/
import Derived.Test.YtcghccjnadagcaaGreatDoorPf
import Derived.Deep.RegionLaw
import Derived.Deep.AppendLies
set_option maxRecDepth 100000
set_option maxHeartbeats 32000000
namespace Go.Proofs.YtcghccjnadagcaaGreatDoor
open Go.RowKit
section
variable {w0 : World} {l : List Tok} {lv : Value} {r : Nat} {q : Pq}
theorem own_noGp {w : World} {B e n : Nat} {v u : Value} {xs : List Value} {n1 k1 a1 : Int} (h : w.ownsRow B e 1 v n xs) (hp : Gp w r u n1 k1 a1) (he : e ≠ 54) : v.ownBlock ≠ some r:=by
 intro hh
 rcases h.2 with ⟨rfl,_⟩ | ⟨g,cap,cur,rfl,_,hb,_⟩
 ·cases hh
 ·injection hh with hh
  have he2 : g = r:=hh
  subst he2
  unfold Gp at hp
  rw [hb] at hp
  simp at hp
  exact he hp.2
theorem gregs1_any {wb : World} {pb nb ib : Nat} (x : Tg w0 l lv) (W : World) (a : List ByteArray) (tk tn tp : Int) (ty : ByteArray) (h : Rg w0 wb W r pb nb ib l lv q a) (hal1 : a.length ≤ q.n) :
   Calls Tryz.prog 168 #[.agg #[.int .i64 tk,.string ty,.int .i64 tn,.int .i64 tp],.pointer (some ⟨nb,0,none⟩),.pointer (some ⟨pb,0,none⟩)] W fun e w' => e = .returned (.tuple #[]) ∧ Rg w0 wb w' r pb nb ib l lv (gnmP l q).2 (a ++ [(gnmP l q).1]):=by
 obtain ⟨sg,kp,pv,⟨v,nv,ov,hne⟩,iv,⟨n1,n2,n3,n4,n5,n6,n7,n8,n9⟩,len1,len2⟩:=h
 have HN:=Lib.hid (fun W' (h' : Sg w0 W' r l lv q) => gname_any x W' h')
 have hn:=x.hn
 have HO:=Lib.hid ov
 have HNV:=Lib.hid nv
 have HPV:=Lib.hid pv
 have HIV:=Lib.hid iv
 have HKP:=Lib.hid kp
 have HSG:=Lib.hid sg
 obtain ⟨s,hs⟩ : ∃ s,s = (gnmP l q).1:=⟨_,rfl⟩
 obtain ⟨q2,hq2⟩ : ∃ q2,q2 = (gnmP l q).2:=⟨_,rfl⟩
 rw [← hs,← hq2] at HN ⊢
 have HQ2:=Lib.hid hq2
 have pc:=pv.cell
 have pl:=pv.lt
 have hq1 : q.n ≤ 100000:=by have:=sg.ok.1; omega
 clear hs sg kp nv ov iv pv
 have hnc:=HNV.out.cell
 have hnf:=HNV.out.fz
 have hnl:=HNV.out.lt
 have had : Sg w0 (W.alloc (.cells #[.int .i64 tk,.string ty,.int .i64 tn,.int .i64 tp] 62)).drew r l lv q:=(HSG.out.alloc _).drew
 obtain ⟨i0,hi,hz0,hz1,hz2⟩:=info_parts info_str
 have hkd : Keep r W (W.alloc (.cells #[.int .i64 tk,.string ty,.int .i64 tn,.int .i64 tp] 62)).drew:=((Keep.refl r W).alloc _).drew
 have HKD:=Lib.hid hkd
 have hnvb : v.ownBlock ≠ some nb:=own_noCel HO.out HNV.out (by decide)
 have hpvb : v.ownBlock ≠ some pb:=own_noCel HO.out HPV.out (by decide)
 have HOW : Hid (∀ w2,Sg w0 w2 r l lv q2 → Keep r (W.alloc (.cells #[.int .i64 tk,.string ty,.int .i64 tn,.int .i64 tp] 62)).drew w2 → (w2.alloc (.cells #[.string s] 9)).ownsRow wb.heap.size 9 1 v a.length (rowB a)):=
   Lib.hid fun w2 _ hk => (own_keepG HO.out HSG.out.prs (HKD.out.trans hk) (by decide)).alloc _
 have HCN : Hid (∀ w2 w3,Keep r (W.alloc (.cells #[.int .i64 tk,.string ty,.int .i64 tn,.int .i64 tp] 62)).drew w2 → (w2.alloc (.cells #[.string s] 9)).grownBy w3 v.ownBlock → Cel w3 nb 36 v):=by
   refine Lib.hid fun w2 w3 hk hg => ?_
   have h1:=(HNV.out.keep (HKD.out.trans hk) n2).below ((Below.refl w2.heap.size w2).alloc (Nat.le_refl _) (.cells #[.string s] 9))
   have h2:=h1.lt
   unfold Cel at *
   rw [hg.block nb h2 (fun e => hnvb e.symm)]
   exact h1
 have hkb : wb.heap.size ≤ W.heap.size:=HKP.out.size
 have hsz : ∀ w2,Keep r (W.alloc (.cells #[.int .i64 tk,.string ty,.int .i64 tn,.int .i64 tp] 62)).drew w2 → wb.heap.size ≤ (w2.alloc (.cells #[.string s] 9)).heap.size:=fun w2 hk => by
   have h1:=HKD.out.size
   have h2:=hk.size
   rw [alloc_size]
   omega
 have HSZ:=Lib.hid hsz
 have HFIN : Hid (∀ w2 w3 g cap, Sg w0 w2 r l lv q2 → Keep r (W.alloc (.cells #[.int .i64 tk, .string ty, .int .i64 tn, .int .i64 tp] 62)).drew w2 → w3.ownsRow wb.heap.size 9 1 (.slice (some ⟨g, 0, none⟩) (a.length + 1) cap) (a.length + 1) (rowB a ++ [.string s]) →
     (w2.alloc (.cells #[.string s] 9)).grownBy w3 v.ownBlock → (v.ownBlock = some g ∨ g = (w2.alloc (.cells #[.string s] 9)).heap.size) → g < w3.heap.size → Rg w0 wb (w3.setCell ⟨nb,0,none⟩ (.slice (some ⟨g,0,none⟩) (a.length + 1) cap)) r pb nb ib l lv q2 (a ++ [s])):=by
   refine Lib.hid fun w2 w3 g cap h2 k2 ho hg hat hlt => ?_
   have hc3:=HCN.out _ _ k2 hg
   have hal:=(Below.refl w2.heap.size w2).alloc (Nat.le_refl _) (.cells #[.string s] 9)
   have hown : ∀ k,v.ownBlock = some k → wb.heap.size ≤ k ∧ k < W.heap.size:=HO.out.lt
   have hvr : v.ownBlock ≠ some r:=own_noGp HO.out HSG.out.prs (by decide)
   have hkk:=HKP.out.trans (HKD.out.trans k2)
   have h2a:=h2.alloc (.cells #[.string s] 9)
   have hra:=h2a.prs.lt
   have g3 : Gp w3 r lv q2.n q2.k q2.a:=by
     have:=h2a.prs
     unfold Gp at *
     rw [hg.block r hra (fun e => hvr e.symm)]
     exact this
   have hb3 : Below w0.heap.size w0 w3:=h2a.bel.grown hg h2a.bel.size (fun k hk => by have:=(hown k hk).1; omega)
   have s3 : Sg w0 w3 r l lv q2:=⟨g3,hb3,h2.hr,h2.ok⟩
   have kp3 : Keep r wb w3:=keep_grown (hkk.alloc _) hg (fun k hk => (hown k hk).1)
   have pv2:=(HPV.out.keep (HKD.out.trans k2) n1).below hal
   have pv3 : Cel w3 pb 98 (.pointer (some ⟨r,0,none⟩)):=by
     have hl:=pv2.lt
     unfold Cel at *
     rw [hg.block pb hl (fun e => hpvb e.symm)]
     exact pv2
   have iv2:=(HIV.out.keep (HKD.out.trans k2) n3).below hal
   have iv3 : StrR w3 ib ⟨#[44]⟩:=by
     have hl:=iv2.lt
     unfold StrR at *
     rw [hg.block ib hl (fun e => hne e.symm)]
     exact iv2
   have hgn : (Value.slice (some ⟨g,0,none⟩) (a.length + 1) cap).ownBlock ≠ some nb:=own_noCel ho hc3 (by decide)
   have hgs : w3.grownBy (w3.setCell ⟨nb,0,none⟩ (.slice (some ⟨g,0,none⟩) (a.length + 1) cap)) (some nb):=⟨rfl,rfl,rfl,by simp [World.setCell],fun k _ hk => Below.heap_setCell _ _ _ _ (by simpa using hk)⟩
   have hgi : g ≠ ib:=by
     rcases hat with he | he
     · rw [he] at hne
       exact fun e => hne (by rw [e])
     · have:=iv2.lt
       omega
   have hq2n : q.n ≤ q2.n:=by
     have h1:=HQ2.out
     rw [h1]
     unfold gnmP
     split
     · show q.n ≤ q.n + 1; omega
     · have:=HSG.out.ok.1
       unfold refP failP
       split <;> exact this
   refine ⟨s3.setNew (by omega) n2 0 _,kp3.setNew n5 _,pv3.other (fun e => n7 e.symm) _,⟨_,hc3.set _,?_,?_⟩,?_,⟨n1,n2,n3,n4,n5,n6,n7,n8,n9⟩,by simp,by simp; omega⟩
   · have h5:=ho.kept hgs (.inr hgn)
     have e1 : (a ++ [s]).length = a.length + 1:=by simp
     have e2 : rowB (a ++ [s]) = rowB a ++ [.string s]:=by simp [rowB]
     rw [e1,e2]
     exact h5
   · exact fun e => hgi (by injection e)
   · unfold StrR at *
     rw [Below.heap_setCell _ _ _ _ (by exact fun e => n8 e.symm)]
     exact iv3
 clear hkd hsz
 go_enter Tryz.func168,Tryz.ntmps168
 go_wp2
 go_region_law (first
   | (go_simp; go_at_call 125; refine (HN.out _ had).mono ?_; rintro e w2 ⟨rfl,h2,k2⟩; have hn2:=(HNV.out.keep (HKD.out.trans k2) n2).cell; have hl2:=(HNV.out.keep (HKD.out.trans k2) n2).lt)
   | (refine step_append_lies (s:=.tmp 4) (x:=.tmp 7) (t:=36) (base:=wb.heap.size) (e:=9) (i:=i0) (z:=.string ⟨#[]⟩) (size:=1) (bytes:=16) (v:=v) (n:=a.length) (xs:=rowB a) (ad:=⟨w2.heap.size,0,none⟩) (m:=1) (c:=1) (news:=[.string s]) (H:=(w2.alloc (.cells #[.string s] 9)).heap.size)
       (hgd:=rfl) (ho:=rfl) (ht:=Tryz.underlying36) (hi:=hi) (hz:=hz0) (hsize:=hz1) (hby:=hz2) (hzs:=rfl) (hsz:=by decide) (hs:=by simp [Act.eval]) (hown:=HOW.out _ h2 k2) (hx:=by simp [Act.eval]) (hl:=rfl)
       (hnews:=World.news_of_block (heap_alloc_new w2 _)) (h1:=fun u hu => by simp at hu; subst hu; rfl) (hm:=by decide) (h63:=by unfold maxLen; omega) (hbytes:=by omega) (hbase:=HSZ.out _ k2) (hH:=rfl) (h:=?_); intro g cap w3 hown hgrow hat hlt; have hc3:=HCN.out _ _ k2 hgrow; have hc4:=hc3.cell; have hc5:=hc3.fz; have hc6:=hc3.lt))
 all_goals exact bodyPost_end (v:=.tuple #[]) (by simp [results,Tryz.results168,go_sem]) rfl ⟨rfl,HFIN.out _ _ _ _ h2 k2 hown hgrow hat hlt⟩
end
def gregS (l : List Tok) (_i : Nat) (q : Pq) (a : List ByteArray) : Pq × List ByteArray:=((gnmP l q).2,a ++ [(gnmP l q).1])
def comB (s : List UInt8) : Bool:=s == [44]
def gregP (l : List Tok) (q : Pq) : List ByteArray × Pq:=
 if txB l q.n [114,101,103] = true then
  let R:=seqP l comB (gregS l) (l.length + 1) (gnmP l ⟨q.n + 1,q.k,q.a⟩).2 [(gnmP l ⟨q.n + 1,q.k,q.a⟩).1]
  (R.2,gexP l R.1 [59])
 else ([],q)
section
variable {w0 : World} {l : List Tok} {lv : Value} {r : Nat} {q : Pq}
theorem gregS_gt (l : List Tok) (q : Pq) (a : List ByteArray) (i : Nat) (h : q.n = i + 1) (hi : i < l.length) : i < (gregS l i q a).1.n:=by
 unfold gregS gnmP
 simp only []
 split
 ·show i < q.n + 1; omega
 ·unfold refP failP
  split <;> exact hi
theorem Rg.below {wb W W' : World} {pb nb ib : Nat} {a : List ByteArray} (h : Rg w0 wb W r pb nb ib l lv q a) (hb : Below W.heap.size W W') : Rg w0 wb W' r pb nb ib l lv q a:=by
 obtain ⟨sg,kp,pv,⟨v,nv,ov,hne⟩,iv,ne,len⟩:=h
 exact ⟨sg.below hb,kp.below hb,pv.below hb,⟨v,nv.below hb,own_below ov hb,hne⟩,iv.below hb,ne,len⟩
theorem Rg.next {wb W : World} {pb nb ib : Nat} {a : List ByteArray} (h : Rg w0 wb W r pb nb ib l lv q a) (_ : Tg w0 l lv) (hlt : q.n < l.length) : Rg w0 wb (W.setCell ⟨r,1,none⟩ (.int .i64 ((q.n : Int) + 1))) r pb nb ib l lv ⟨q.n + 1,q.k,q.a⟩ a:=by
 obtain ⟨sg,kp,pv,⟨v,nv,ov,hne⟩,iv,⟨n1,n2,n3,n4⟩,len1,len2⟩:=h
 have hvr : v.ownBlock ≠ some r:=own_noGp ov sg.prs (by decide)
 have hgs : W.grownBy (W.setCell ⟨r,1,none⟩ (.int .i64 ((q.n : Int) + 1))) (some r):=⟨rfl,rfl,rfl,by simp [World.setCell],fun k _ hk => Below.heap_setCell _ _ _ _ (by simpa using hk)⟩
 refine ⟨sg.setN ⟨q.n + 1,q.k,q.a⟩ rfl rfl (Pq.step sg.ok hlt),kp.setCell 1 _,pv.other n1 _,⟨v,nv.other n2 _,ov.kept hgs (.inr hvr),hne⟩,?_,⟨n1,n2,n3,n4⟩,len1,?_⟩
 ·unfold StrR at *
  rw [Below.heap_setCell _ _ _ _ (by exact n3)]
  exact iv
 ·show a.length ≤ q.n + 1 + 1; omega
theorem greg_seq {wb : World} {pb nb ib : Nat} {a : List ByteArray} (x : Tg w0 l lv) (W : World) (h : Rg w0 wb W r pb nb ib l lv q a) :
  Calls Tryz.prog 66 #[.pointer (some ⟨r,0,none⟩),.func (.func 124) #[] #[.pointer (some ⟨ib,0,none⟩)],.func (.func 168) #[] #[.pointer (some ⟨nb,0,none⟩),.pointer (some ⟨pb,0,none⟩)]] W fun e w' => e = .returned (.tuple #[]) ∧ Rg w0 wb w' r pb nb ib l lv (seqP l comB (gregS l) (l.length + 1) q a).1 (seqP l comB (gregS l) (l.length + 1) q a).2:=by
 refine gseq_any x _ _ _ _ (fun _ _ => by kernel_rfl) (fun _ _ => by kernel_rfl) comB rfl (gregS l) (fun W q a => Rg w0 wb W r pb nb ib l lv q a) (fun W q a => Rg w0 wb W r pb nb ib l lv q a ∧ a.length ≤ q.n)
  (fun _ _ _ h => h.sg) (fun _ _ _ h => h.1.sg) ?_ ?_ ?_ ?_ ?_ (fun q a i h hi => gregS_gt l q a i h hi) _ W q a h (by omega)
 ·intro w w' q a h hb
  exact h.below hb
 ·intro w w' q a h hb
  exact ⟨h.1.below hb,h.2⟩
 ·intro w q a h hlt
  exact ⟨h.next x hlt,by have:=h.len.2; show a.length ≤ q.n + 1; exact this⟩
 ·intro w q a y h _
  have hc:=gis1_any ⟨#[44]⟩ y ib w h.iv (comB y.data.toList) (by rw [Lib.toList_data,Lib.toList_data]; rfl)
  exact hc
 ·intro w q a i h hn hi
  rw [tokV_eq]
  exact gregs1_any x w a _ _ _ _ h.1 h.2
theorem gregisters_any (x : Tg w0 l lv) (w : World) (h : Sg w0 w r l lv q) :
  Calls Tryz.prog 126 #[.pointer (some ⟨r,0,none⟩)] w fun e w' => ∃ v,e = .returned v ∧ Sg w0 w' r l lv (gregP l q).2 ∧ Keep r w w' ∧ w'.ownsRow w.heap.size 9 1 v (gregP l q).1.length (rowB (gregP l q).1):=by
 have HT:=Lib.hid (fun (w : World) (h : Sg w0 w r l lv q) => gtoken_any x w h)
 rw [tokV_eq] at HT
 have HH:=Lib.hid h
 obtain ⟨⟨tk,tx,tn,tp⟩,htk⟩ : ∃ t,t = tokO l q.n:=⟨_,rfl⟩
 have htx : tx = (tokO l q.n).2.1:=congrArg (fun t : Tok => t.2.1) htk
 rw [← htk] at HT
 simp only [] at HT
 obtain ⟨y,hy⟩ : ∃ y : ByteArray,y = ⟨tx.toArray⟩:=⟨_,rfl⟩
 rw [← hy] at HT
 have hfd : ∀ w : World,(Instr.field 62 (.agg #[.int .i64 tk,.string y,.int .i64 tn,.int .i64 tp]) 1).run Tryz.prog w = .ok (.string y) w:=fun _ => by kernel_rfl
 have hrl:=h.prs.lt
 unfold gregP
 obtain ⟨b,hb⟩ : ∃ b,txB l q.n [114,101,103] = b:=⟨_,rfl⟩
 have hyx : (y.toList == [114,101,103]) = b:=by
  rw [← hb,Lib.toList_data,hy]
  unfold txB
  rw [← htx]
 rw [hb]
 clear htk hy
 cases b with
 | false =>
  clear htx hb h x
  go_enter Tryz.func126,Tryz.ntmps126
  go_wp2_with fail
  refine (HT.out _ (HH.out.alloc _)).mono ?_
  rintro e w1 ⟨rfl,hb1⟩
  go_wp2
  exact bodyPost_ret (v:=.slice none 0 0) (by simp [results,Tryz.results126,go_sem]) rfl ⟨_,rfl,(HH.out.alloc _).below hb1,((Keep.refl r w).alloc _).trans (Below.keep hb1),World.ownsRow_nil _ _ _ _⟩
 | true =>
  have hlt:=txB_lt hb (by simp)
  have hst:=Pq.step h.ok hlt
  have HST:=Lib.hid hst
  simp only [if_true]
  have HNM:=Lib.hid (fun (W : World) (hW : Sg w0 W r l lv ⟨q.n + 1,q.k,q.a⟩) => gname_any x W hW)
  obtain ⟨n1,hn1⟩ : ∃ s,s = (gnmP l ⟨q.n + 1,q.k,q.a⟩).1:=⟨_,rfl⟩
  obtain ⟨q1,hq1⟩ : ∃ q1,q1 = (gnmP l ⟨q.n + 1,q.k,q.a⟩).2:=⟨_,rfl⟩
  rw [← hn1,← hq1] at HNM ⊢
  obtain ⟨R,hRR⟩ : ∃ R,R = seqP l comB (gregS l) (l.length + 1) q1 [n1]:=⟨_,rfl⟩
  rw [← hRR]
  have HR:=Lib.hid hRR
  clear hRR
  have HX:=Lib.hid x
  have hn:=x.hn
  have hqn : q.n ≤ 100000:=by omega
  clear htx hb h x hst hn1
  go_enter Tryz.func126,Tryz.ntmps126
  go_wp2_with fail
  refine (HT.out _ (HH.out.alloc _)).mono ?_
  rintro e w1 ⟨rfl,hb1⟩
  have s1:=(HH.out.alloc (.cells #[.pointer (some ⟨r,0,none⟩)] 98)).below hb1
  have pv1:=(Cel.new w 98 (.pointer (some ⟨r,0,none⟩))).below hb1
  obtain ⟨⟨c0,c1,_,_⟩,f1,_⟩:=s1.prs.facts
  have hr1:=s1.prs.lt
  have pc1:=pv1.cell
  have pl1:=pv1.lt
  have S1:=Lib.hid s1
  obtain ⟨n,hnn⟩ : ∃ n,n = q.n:=⟨_,rfl⟩
  rw [← hnn] at c1 hqn
  have HNN:=Lib.hid hnn
  clear hnn s1
  go_wp2_with fail
  have h1s : Sg w0 (w1.setCell ⟨r,1,none⟩ (.int .i64 ((n : Int) + 1))) r l lv ⟨q.n + 1,q.k,q.a⟩:=by
   have:=S1.out.setN ⟨q.n + 1,q.k,q.a⟩ rfl rfl HST.out
   rw [HNN.out]
   exact this
  refine (HNM.out _ h1s).mono ?_
  rintro e w2 ⟨rfl,h2,k2⟩
  have pv2:=(pv1.other (g:=r) (o:=1) (by omega) (.int .i64 ((n : Int) + 1))).keep k2 (by omega)
  have pc2:=pv2.cell
  have pl2:=pv2.lt
  go_wp2_with fail
  clear pc2 pl2
  obtain ⟨w3,hw3⟩ : ∃ w3,w3 = (w2.alloc (.cells #[.string n1] 9)).alloc (.cells #[.slice (some ⟨w2.heap.size,0,none⟩) 1 1] 36):=⟨_,rfl⟩
  rw [← hw3]
  have hk12 : Keep r w w2:=((((Keep.refl r w).alloc _).trans (Below.keep hb1)).setCell 1 _).trans k2
  have s3 : Sg w0 w3 r l lv q1:=by rw [hw3]; exact (h2.alloc _).alloc _
  have k3 : Keep r w w3:=by rw [hw3]; exact (hk12.alloc _).alloc _
  have hal1:=(Below.refl w2.heap.size w2).alloc (Nat.le_refl _) (.cells #[.string n1] 9)
  have hal2:=(Below.refl (w2.alloc (.cells #[.string n1] 9)).heap.size (w2.alloc (.cells #[.string n1] 9))).alloc (Nat.le_refl _) (.cells #[.slice (some ⟨w2.heap.size,0,none⟩) 1 1] 36)
  have pv3 : Cel w3 w.heap.size 98 (.pointer (some ⟨r,0,none⟩)):=by rw [hw3]; exact (pv2.below hal1).below hal2
  obtain ⟨nb,hnb⟩ : ∃ nb,nb = w2.heap.size + 1:=⟨_,rfl⟩
  have nv3 : Cel w3 nb 36 (.slice (some ⟨w2.heap.size,0,none⟩) 1 1):=by
   have:=Cel.new (w2.alloc (.cells #[.string n1] 9)) 36 (.slice (some ⟨w2.heap.size,0,none⟩) 1 1)
   rw [alloc_size] at this
   rw [hw3,hnb]; exact this
  have hw2 : w.heap.size ≤ w2.heap.size:=hk12.size
  have ov3 : w3.ownsRow w.heap.size 9 1 (.slice (some ⟨w2.heap.size,0,none⟩) 1 1) 1 (rowB [n1]):=by
   rw [hw3]
   refine World.ownsRow.alloc ?_ _
   exact ⟨rfl,.inr ⟨w2.heap.size,1,_,rfl,hw2,heap_alloc_new w2 _,Nat.le_refl _,by unfold maxLen; decide,rfl,rfl⟩⟩
  have hnl : nb < w3.heap.size:=nv3.lt
  rw [← hnb]
  have HIN : Hid (∀ W ib,Sg w0 W r l lv q1 → Keep r w W → Below w3.heap.size w3 W → StrR W ib ⟨#[44]⟩ → w3.heap.size ≤ ib → Rg w0 w W r w.heap.size nb ib l lv q1 [n1]):=by
   refine Lib.hid fun W ib hs hk hb hi hle => ?_
   refine ⟨hs,hk,pv3.below hb,⟨_,nv3.below hb,own_below ov3 hb,?_⟩,hi,⟨by omega,by omega,by omega,Nat.le_refl _,by omega,by omega,by omega,by omega,?_⟩,by simp,by simp⟩
   ·intro e
    have e2 : w2.heap.size = ib:=by injection e
    omega
   ·exact HH.out.bel.size
  have HIS:=Lib.hid (fun W : World => gis_any ⟨#[44]⟩ W)
  have pd3 : Cel w3.drew w.heap.size 98 (.pointer (some ⟨r,0,none⟩)):=pv3.below (Below.refl _ _).drew
  have pc3:=pv3.cell
  have pl3:=pv3.lt
  have HFW : Hid (∀ w4 ib,Below w3.drew.heap.size w3.drew w4 → StrR w4 ib ⟨#[44]⟩ → w3.drew.heap.size ≤ ib → Rg w0 w w4 r w.heap.size nb ib l lv q1 [n1]):=by
   refine Lib.hid fun w4 ib hb hi hle => ?_
   have hb9 : Below w3.heap.size w3 w4:=((Below.refl w3.heap.size w3).drew).trans hb
   exact HIN.out w4 ib (s3.below hb9) (k3.below hb9) hb9 hi hle
  have HSQ : Hid (∀ W ib,Rg w0 w W r w.heap.size nb ib l lv q1 [n1] → Calls Tryz.prog 66 #[.pointer (some ⟨r,0,none⟩),.func (.func 124) #[] #[.pointer (some ⟨ib,0,none⟩)],.func (.func 168) #[] #[.pointer (some ⟨nb,0,none⟩),.pointer (some ⟨w.heap.size,0,none⟩)]] W fun e w' => e = .returned (.tuple #[]) ∧ Rg w0 w w' r w.heap.size nb ib l lv R.1 R.2):=by
   rw [HR.out]
   exact Lib.hid fun W ib hg => greg_seq HX.out W hg
  have HE1 : Hid (∀ w,Sg w0 w r l lv R.1 → Calls Tryz.prog 64 #[.pointer (some ⟨r,0,none⟩),.string ⟨#[59]⟩] w (ToG w0 r l lv (gexP l R.1 [59]) w (.tuple #[]))):=Lib.hid fun w h => gexpect_any HX.out w h ⟨#[59]⟩ (by simp)
  clear h2 k2 hk12 pv2 hal1 hal2 hw3 HIN HR
  subst hnb
  go_region_law (first
   | (go_simp; go_at_call 67; refine (HIS.out _).mono ?_; rintro e w4 ⟨ib,rfl,i4,hle,hb4⟩; have pc4:=(pd3.below hb4).cell; have pl4:=(pd3.below hb4).lt)
   | (go_simp; go_at_call 66; refine (HSQ.out _ _ (HFW.out _ _ hb4 i4 hle)).mono ?_; rintro e w5 ⟨rfl,g5⟩))
  all_goals
   obtain ⟨s5,k5,p5,⟨v5,n5,o5,_⟩,_,⟨m1,m2,_⟩,_⟩:=g5
   have pc5:=p5.cell
   have pl5:=p5.lt
   have S5:=Lib.hid s5
   have K5:=Lib.hid k5
   have O5:=Lib.hid o5
   have N5:=Lib.hid n5
   clear s5 k5 o5 n5
   go_wp2_with fail
   refine (HE1.out _ S5.out).mono ?_
   rintro e w6 ⟨rfl,s6,k6⟩
   have n6:=N5.out.keep k6 m2
   have nc6:=n6.cell
   have nl6:=n6.lt
   have O6:=Lib.hid (own_keepG O5.out S5.out.prs k6 (by decide))
   have S6:=Lib.hid s6
   have K6:=Lib.hid (K5.out.trans k6)
   clear s6 k6 n6
   go_wp2
   exact bodyPost_ret (v:=v5) (by simp [results,Tryz.results126,go_sem]) rfl ⟨_,rfl,S6.out,K6.out,O6.out⟩
end
end Go.Proofs.YtcghccjnadagcaaGreatDoor
