/- Facts. -/
import Derived.Test.YtcghccjnadagcaaGreatDoorPj
set_option maxRecDepth 100000
set_option maxHeartbeats 32000000
namespace Go.Proofs.YtcghccjnadagcaaGreatDoor
open Go.RowKit
def gLocS (l : List Tok) (i : Nat) (q : Pq) (g : Pg) : Pq × Pg:=((glocP l q (tokO l i).2.2.2).2,{ g with locs:=g.locs ++ [(glocP l q (tokO l i).2.2.2).1] })
noncomputable def gThS (l : List Tok) (i : Nat) (q : Pq) (g : Pg) : Pq × Pg:=((gthP l q (tokO l i).2.2.2).2,{ g with ths:=g.ths ++ [(gthP l q (tokO l i).2.2.2).1] })
noncomputable def gClS (l : List Tok) (i : Nat) (q : Pq) (g : Pg) : Pq × Pg:=((gclP l q (kdW (tokO l i).2.1) (tokO l i).2.2.2).2,{ g with cls:=g.cls ++ [(gclP l q (kdW (tokO l i).2.1) (tokO l i).2.2.2).1] })
section
variable {w0 wb : World} {l : List Tok} {lv : Value} {r pb rb xb ib : Nat} {s0 : ByteArray} {q : Pq}
theorem gprog1_any (x : Tg w0 l lv) (W : World) (g : Pg) (tk tn tp : Int) (ty : ByteArray) (h : Fg w0 wb W r pb rb xb ib s0 l lv q g) (hlen : g.locs.length + g.ths.length + g.cls.length + 1 ≤ q.n) (hge : q.n ≤ (glocP l q tp).2.n) :
   Calls Tryz.prog 68 #[.agg #[.int .i64 tk,.string ty,.int .i64 tn,.int .i64 tp],.pointer (some ⟨xb,0,none⟩),.pointer (some ⟨pb,0,none⟩)] W fun e w' => e = .returned (.tuple #[]) ∧ Fg w0 wb w' r pb rb xb ib s0 l lv (glocP l q tp).2 { g with locs:=g.locs ++ [(glocP l q tp).1] }:=by
 obtain ⟨⟨a,b,c,fr,po⟩,hln⟩:=h
 have HN:=Lib.hid (fun W' (h' : Sg w0 W' r l lv q) => glocation_any x W' h' tp)
 have hn:=x.hn
 have hqn : q.n ≤ 100000:=by have:=fr.sg.ok.1; omega
 have hXpl : (glocP l q tp).1.pl = tp:=by rfl
 obtain ⟨X,hX⟩ : ∃ X,X = (glocP l q tp).1:=⟨_,rfl⟩
 obtain ⟨q2,hq2⟩ : ∃ q2,q2 = (glocP l q tp).2:=⟨_,rfl⟩
 rw [← hX,← hq2] at HN
 rw [← hX] at hXpl
 rw [← hq2] at hge
 rw [← hX,← hq2]
 have hT : True:=trivial
 have hv:=po.l
 unfold VOwn at hv
 have hb1 : Below W.heap.size W (W.alloc (.cells #[.int .i64 tk,.string ty,.int .i64 tn,.int .i64 tp] 62)).drew:=((Below.refl _ _).alloc (Nat.le_refl _) _).drew
 have HF1:=Lib.hid (fr.below hb1)
 have HAD:=Lib.hid HF1.out.sg
 have pc:=fr.pv.cell
 have pl:=fr.pv.lt
 have xc : W.cell? ⟨xb,1,none⟩ = some a:=fr.xv.cell 1
 have xl:=fr.xv.lt
 have HPO:=Lib.hid po
 have HFR:=Lib.hid fr
 have HV:=Lib.hid hv
 obtain ⟨i0,hi,hz0,hz1,hz2⟩:=info_parts info_var
 have HV2 : Hid (∀ w2,Sg w0 w2 r l lv q2 → Keep r (W.alloc (.cells #[.int .i64 tk,.string ty,.int .i64 tn,.int .i64 tp] 62)).drew w2 → (w2.alloc (.cells #[.string X.nm,.int .i64 X.n,.int .i64 X.pl] 49)).ownsRow wb.heap.size 49 3 a g.locs.length (rowV g.locs)):=
   Lib.hid fun w2 _ k2 => (own_keepG (own_below HV.out hb1) HF1.out.sg.prs k2 (by decide)).alloc _
 have HSZ : Hid (∀ w2,Keep r (W.alloc (.cells #[.int .i64 tk,.string ty,.int .i64 tn,.int .i64 tp] 62)).drew w2 → wb.heap.size ≤ (w2.alloc (.cells #[.string X.nm,.int .i64 X.n,.int .i64 X.pl] 49)).heap.size):=Lib.hid fun w2 k2 => by
   have h1:=HFR.out.kp.size
   have h2:=hb1.size
   have h3:=k2.size
   rw [alloc_size]
   omega
 have HF3 : Hid (∀ w2 w3,Sg w0 w2 r l lv q2 → Keep r (W.alloc (.cells #[.int .i64 tk,.string ty,.int .i64 tn,.int .i64 tp] 62)).drew w2 → (w2.alloc (.cells #[.string X.nm,.int .i64 X.n,.int .i64 X.pl] 49)).grownBy w3 a.ownBlock → Fr w0 wb w3 r pb rb xb ib s0 l lv q2 #[.int .i64 g.mod,a,b,c]):=
   Lib.hid fun w2 w3 h2 k2 hg => ((HF1.out.call h2 k2).below ((Below.refl _ _).alloc (Nat.le_refl _) _)).grown (HV2.out w2 h2 k2) (by decide) (by decide) (by decide) (by decide) hg
 have HFIN : Hid (∀ w2 w3 g9 cap, Sg w0 w2 r l lv q2 → Keep r (W.alloc (.cells #[.int .i64 tk, .string ty, .int .i64 tn, .int .i64 tp] 62)).drew w2 → w3.ownsRow wb.heap.size 49 3 (.slice (some ⟨g9, 0, none⟩) (g.locs.length + 1) cap) (g.locs.length + 1) (rowV g.locs ++ [.string X.nm, .int .i64 X.n, .int .i64 X.pl]) →
     (w2.alloc (.cells #[.string X.nm,.int .i64 X.n,.int .i64 X.pl] 49)).grownBy w3 a.ownBlock → Fg w0 wb (w3.setCell ⟨xb,1,none⟩ (.slice (some ⟨g9,0,none⟩) (g.locs.length + 1) cap)) r pb rb xb ib s0 l lv q2 { g with locs:=g.locs ++ [X] }):=by
   refine Lib.hid fun w2 w3 g9 cap h2 k2 ho hg => ?_
   have F1:=HF1.out
   have hbk:=hb1
   have f3:=HF3.out w2 w3 h2 k2 hg
   have hv2:=HV2.out w2 h2 k2
   have hal:=(Below.refl w2.heap.size w2).alloc (Nat.le_refl _) (.cells #[.string X.nm,.int .i64 X.n,.int .i64 X.pl] 49)
   have p2:=(((HPO.out.below hb1).keepG F1.sg.prs k2).below hal)
   have lo : w3.ownsRow wb.heap.size 49 3 (.slice (some ⟨g9,0,none⟩) (g.locs.length + 1) cap) (g.locs ++ [X]).length (rowV (g.locs ++ [X])):=by
     rw [rowV_append,List.length_append]; exact ho
   have f4:=f3.set 1 (.slice (some ⟨g9,0,none⟩) (g.locs.length + 1) cap)
   refine ⟨⟨_,b,c,f4,?_⟩,?_⟩
   · exact ⟨own_setBk lo f3.xv (by decide),(p2.t.apart hv2 (by decide) (by decide) (by decide) (by decide) hg).setBk f3.xv (by decide) (by decide) (by decide) (by decide),(p2.c.apart hv2 (by decide) (by decide) hg).setBk f3.xv (by decide) (by decide)⟩
   · skip
     simp only [List.length_append,List.length_cons,List.length_nil]
     omega
 have hw2 : ∀ w2,Sg w0 w2 r l lv q2 → Keep r (W.alloc (.cells #[.int .i64 tk,.string ty,.int .i64 tn,.int .i64 tp] 62)).drew w2 → w2.cell? ⟨xb,1,none⟩ = some a ∧ xb < w2.heap.size:=fun w2 h2 k2 => ⟨(HF1.out.call h2 k2).xv.cell 1,(HF1.out.call h2 k2).xv.lt⟩
 have HW2:=Lib.hid hw2
 have HB1:=Lib.hid hb1
 clear hX hq2 fr po hv hw2 hb1 hT
 subst hXpl
 go_enter Tryz.func68,Tryz.ntmps68
 go_wp2
 go_region_law (first
   | (go_simp; go_at_call 69; refine (HN.out _ HAD.out).mono ?_; rintro e w2 ⟨rfl,h2,k2⟩; obtain ⟨xc2,xl2⟩:=HW2.out w2 h2 k2)
   | (refine step_append_lies (s:=.tmp 5) (x:=.tmp 10) (t:=23) (base:=wb.heap.size) (e:=49) (i:=i0) (z:=.agg #[.string ⟨#[]⟩,.int .i64 0,.int .i64 0]) (size:=3) (bytes:=32) (v:=a) (n:=g.locs.length) (xs:=rowV g.locs) (ad:=⟨w2.heap.size,0,none⟩) (m:=1) (c:=1) (news:=[.string X.nm,.int .i64 X.n,.int .i64 X.pl]) (H:=(w2.alloc (.cells #[.string X.nm,.int .i64 X.n,.int .i64 X.pl] 49)).heap.size)
       (hgd:=rfl) (ho:=rfl) (ht:=Tryz.underlying23) (hi:=hi) (hz:=hz0) (hsize:=hz1) (hby:=hz2) (hzs:=rfl) (hsz:=by decide) (hs:=by simp [Act.eval]) (hown:=HV2.out _ h2 k2) (hx:=by simp [Act.eval]) (hl:=rfl)
       (hnews:=World.news_of_block (heap_alloc_new w2 _)) (h1:=fun u hu => by simp at hu; rcases hu with rfl | rfl | rfl <;> rfl) (hm:=by decide) (h63:=by unfold maxLen; omega) (hbytes:=by omega) (hbase:=HSZ.out _ k2) (hH:=rfl) (h:=?_); intro g9 cap w3 hown hgrow hat hlt; have f3:=HF3.out _ _ h2 k2 hgrow; have xc3 : w3.cell? ⟨xb,1,none⟩ = some a:=f3.xv.cell 1; have xf3:=f3.xv.fz 1; have xl3:=f3.xv.lt))
 all_goals exact bodyPost_end (v:=.tuple #[]) (by simp [results,Tryz.results68,go_sem]) rfl ⟨rfl,HFIN.out _ _ _ _ h2 k2 hown hgrow⟩
theorem gprog2_any (x : Tg w0 l lv) (hsx : Sgn w0) (W : World) (g : Pg) (tk tn tp : Int) (ty : ByteArray) (h : Fg w0 wb W r pb rb xb ib s0 l lv q g) (hlen : g.locs.length + g.ths.length + g.cls.length + 1 ≤ q.n) (hge : q.n ≤ (gthP l q tp).2.n) :
   Calls Tryz.prog 70 #[.agg #[.int .i64 tk,.string ty,.int .i64 tn,.int .i64 tp],.pointer (some ⟨xb,0,none⟩),.pointer (some ⟨pb,0,none⟩)] W fun e w' => e = .returned (.tuple #[]) ∧ Fg w0 wb w' r pb rb xb ib s0 l lv (gthP l q tp).2 { g with ths:=g.ths ++ [(gthP l q tp).1] }:=by
 obtain ⟨⟨a,b,c,fr,po⟩,hln⟩:=h
 have HN:=Lib.hid (fun W' (h' : Sg w0 W' r l lv q) => gthread_any x hsx W' h' tp)
 have hn:=x.hn
 have hqn : q.n ≤ 100000:=by have:=fr.sg.ok.1; omega
 have hXpl : (gthP l q tp).1.pl = tp:=by rfl
 obtain ⟨X,hX⟩ : ∃ X,X = (gthP l q tp).1:=⟨_,rfl⟩
 obtain ⟨q2,hq2⟩ : ∃ q2,q2 = (gthP l q tp).2:=⟨_,rfl⟩
 rw [← hX,← hq2] at HN
 rw [← hX] at hXpl
 rw [← hq2] at hge
 rw [← hX,← hq2]
 obtain ⟨ts,e1,hv,hT⟩:=id po.t
 have hel : ts.length = g.ths.length:=by rw [← e1,List.length_map]
 have hts : ts.length ≤ 100000:=by omega
 have HEL:=Lib.hid hel
 clear hel
 have hb1 : Below W.heap.size W (W.alloc (.cells #[.int .i64 tk,.string ty,.int .i64 tn,.int .i64 tp] 62)).drew:=((Below.refl _ _).alloc (Nat.le_refl _) _).drew
 have HF1:=Lib.hid (fr.below hb1)
 have HAD:=Lib.hid HF1.out.sg
 have pc:=fr.pv.cell
 have pl:=fr.pv.lt
 have xc : W.cell? ⟨xb,2,none⟩ = some b:=fr.xv.cell 2
 have xl:=fr.xv.lt
 have HPO:=Lib.hid po
 have HFR:=Lib.hid fr
 have HV:=Lib.hid hv
 obtain ⟨i0,hi,hz0,hz1,hz2⟩:=info_parts info_thr
 have HV2 : Hid (∀ w2 (vr vb : Value),Sg w0 w2 r l lv q2 → Keep r (W.alloc (.cells #[.int .i64 tk,.string ty,.int .i64 tn,.int .i64 tp] 62)).drew w2 → (w2.alloc (.cells #[.string X.nm,vr,vb,.int .i64 X.pl] 39)).ownsRow wb.heap.size 39 4 b ts.length (rowT ts)):=
   Lib.hid fun w2 vr vb _ k2 => (own_keepG (own_below HV.out hb1) HF1.out.sg.prs k2 (by decide)).alloc _
 have HSZ : Hid (∀ w2 (vr vb : Value),Keep r (W.alloc (.cells #[.int .i64 tk,.string ty,.int .i64 tn,.int .i64 tp] 62)).drew w2 → wb.heap.size ≤ (w2.alloc (.cells #[.string X.nm,vr,vb,.int .i64 X.pl] 39)).heap.size):=Lib.hid fun w2 vr vb k2 => by
   have h1:=HFR.out.kp.size
   have h2:=hb1.size
   have h3:=k2.size
   rw [alloc_size]
   omega
 have HF3 : Hid (∀ w2 (vr vb : Value) w3,Sg w0 w2 r l lv q2 → Keep r (W.alloc (.cells #[.int .i64 tk,.string ty,.int .i64 tn,.int .i64 tp] 62)).drew w2 → (w2.alloc (.cells #[.string X.nm,vr,vb,.int .i64 X.pl] 39)).grownBy w3 b.ownBlock → Fr w0 wb w3 r pb rb xb ib s0 l lv q2 #[.int .i64 g.mod,a,b,c]):=
   Lib.hid fun w2 vr vb w3 h2 k2 hg => ((HF1.out.call h2 k2).below ((Below.refl _ _).alloc (Nat.le_refl _) _)).grown (HV2.out w2 vr vb h2 k2) (by decide) (by decide) (by decide) (by decide) hg
 have HFIN : Hid (∀ w2 (vr vb : Value) w3 g9 cap, Sg w0 w2 r l lv q2 → Keep r (W.alloc (.cells #[.int .i64 tk, .string ty, .int .i64 tn, .int .i64 tp] 62)).drew w2 → w2.ownsRow 0 9 1 vr X.regs.length (rowB X.regs) → SOwn w2 0 vb X.body → w3.ownsRow wb.heap.size 39 4 (.slice (some ⟨g9, 0, none⟩) (ts.length + 1) cap) (ts.length + 1) (rowT ts ++ [.string X.nm, vr, vb, .int .i64 X.pl]) →
     (w2.alloc (.cells #[.string X.nm,vr,vb,.int .i64 X.pl] 39)).grownBy w3 b.ownBlock → Fg w0 wb (w3.setCell ⟨xb,2,none⟩ (.slice (some ⟨g9,0,none⟩) (ts.length + 1) cap)) r pb rb xb ib s0 l lv q2 { g with ths:=g.ths ++ [X] }):=by
   refine Lib.hid fun w2 vr vb w3 g9 cap h2 k2 i1 i2 ho hg => ?_
   have F1:=HF1.out
   have hbk:=hb1
   have f3:=HF3.out w2 vr vb w3 h2 k2 hg
   have hv2:=HV2.out w2 vr vb h2 k2
   have hal:=(Below.refl w2.heap.size w2).alloc (Nat.le_refl _) (.cells #[.string X.nm,vr,vb,.int .i64 X.pl] 39)
   have p2:=(((HPO.out.below hb1).keepG F1.sg.prs k2).below hal)
   have hin : TIn w3 (ts ++ [(X,vr,vb)]):=(((hT.below hbk).keepG F1.sg.prs k2).below hal |>.apart hv2 (by decide) (by decide) (by decide) hg).snoc ((own_below i1 hal).kept hg (own_apartE (own_below i1 hal) hv2 (by decide))) ((i2.below hal).apart hv2 (by decide) (by decide) hg)
   have lo : TOwn w3 wb.heap.size (.slice (some ⟨g9,0,none⟩) (ts.length + 1) cap) (g.ths ++ [X]):=by
     refine ⟨ts ++ [(X,vr,vb)],by rw [List.map_append,e1]; rfl,?_,hin⟩
     rw [rowT_append,List.length_append]; exact ho
   have f4:=f3.set 2 (.slice (some ⟨g9,0,none⟩) (ts.length + 1) cap)
   refine ⟨⟨a,_,c,f4,?_⟩,?_⟩
   · exact ⟨own_setBk (World.ownsRow.kept p2.l hg (own_apartE p2.l hv2 (by decide))) f3.xv (by decide),lo.setBk f3.xv (by decide) (by decide) (by decide) (by decide),(p2.c.apart hv2 (by decide) (by decide) hg).setBk f3.xv (by decide) (by decide)⟩
   · have:=HEL.out
     simp only [List.length_append,List.length_cons,List.length_nil]
     omega
 have hw2 : ∀ w2,Sg w0 w2 r l lv q2 → Keep r (W.alloc (.cells #[.int .i64 tk,.string ty,.int .i64 tn,.int .i64 tp] 62)).drew w2 → w2.cell? ⟨xb,2,none⟩ = some b ∧ xb < w2.heap.size:=fun w2 h2 k2 => ⟨(HF1.out.call h2 k2).xv.cell 2,(HF1.out.call h2 k2).xv.lt⟩
 have HW2:=Lib.hid hw2
 have HB1:=Lib.hid hb1
 clear hX hq2 fr po hv hw2 hb1 hT e1
 subst hXpl
 go_enter Tryz.func70,Tryz.ntmps70
 go_wp2
 go_region_law (first
   | (go_simp; go_at_call 71; refine (HN.out _ HAD.out).mono ?_; rintro e w2 ⟨vr,vb,rfl,h2,k2,i1,i2⟩; obtain ⟨xc2,xl2⟩:=HW2.out w2 h2 k2)
   | (refine step_append_lies (s:=.tmp 5) (x:=.tmp 10) (t:=24) (base:=wb.heap.size) (e:=39) (i:=i0) (z:=.agg #[.string ⟨#[]⟩,.slice none 0 0,.slice none 0 0,.int .i64 0]) (size:=4) (bytes:=72) (v:=b) (n:=ts.length) (xs:=rowT ts) (ad:=⟨w2.heap.size,0,none⟩) (m:=1) (c:=1) (news:=[.string X.nm,vr,vb,.int .i64 X.pl]) (H:=(w2.alloc (.cells #[.string X.nm,vr,vb,.int .i64 X.pl] 39)).heap.size)
       (hgd:=rfl) (ho:=rfl) (ht:=Tryz.underlying24) (hi:=hi) (hz:=hz0) (hsize:=hz1) (hby:=hz2) (hzs:=rfl) (hsz:=by decide) (hs:=by simp [Act.eval]) (hown:=HV2.out _ vr vb h2 k2) (hx:=by simp [Act.eval]) (hl:=rfl)
       (hnews:=World.news_of_block (heap_alloc_new w2 _)) (h1:=fun u hu => by simp at hu; rcases hu with rfl | rfl | rfl | rfl; (· rfl); (· exact own_one i1); (· exact sown_one i2); (· rfl)) (hm:=by decide) (h63:=by unfold maxLen; omega) (hbytes:=by omega) (hbase:=HSZ.out _ vr vb k2) (hH:=rfl) (h:=?_); intro g9 cap w3 hown hgrow hat hlt; have f3:=HF3.out _ vr vb _ h2 k2 hgrow; have xc3 : w3.cell? ⟨xb,2,none⟩ = some b:=f3.xv.cell 2; have xf3:=f3.xv.fz 2; have xl3:=f3.xv.lt))
 all_goals exact bodyPost_end (v:=.tuple #[]) (by simp [results,Tryz.results70,go_sem]) rfl ⟨rfl,HFIN.out _ vr vb _ _ _ h2 k2 (own_mono i1 (Nat.zero_le _)) (i2.mono (Nat.zero_le _)) hown hgrow⟩
end
section
variable {w0 wb : World} {l : List Tok} {lv : Value} {r pb rb xb ib : Nat} {s0 : ByteArray} {q : Pq}
theorem gprog3_any (x : Tg w0 l lv) (hsx : Sgn w0)  (W : World) (g : Pg) (tk tn tp : Int) (ty : ByteArray) (h : Fg w0 wb W r pb rb xb ib s0 l lv q g) (hlen : g.locs.length + g.ths.length + g.cls.length + 1 ≤ q.n) (hge : q.n ≤ (gclP l q (kdW ty.data.toList) tp).2.n) (hwd : Wds W) :
   Calls Tryz.prog 73 #[.agg #[.int .i64 tk,.string ty,.int .i64 tn,.int .i64 tp],.pointer (some ⟨xb,0,none⟩),.pointer (some ⟨pb,0,none⟩)] W fun e w' => e = .returned (.tuple #[]) ∧ Fg w0 wb w' r pb rb xb ib s0 l lv (gclP l q (kdW ty.data.toList) tp).2 { g with cls:=g.cls ++ [(gclP l q (kdW ty.data.toList) tp).1] }:=by
 obtain ⟨⟨a,b,c,fr,po⟩,hln⟩:=h
 have HN:=Lib.hid (fun W' (h' : Sg w0 W' r l lv q) => gclaim_any x hsx W' h' (kdW ty.data.toList : Nat) tp)
 have HK:=Lib.hid (fun W' (h' : Below W.heap.size W W') => gkind_any ty W' (hwd.below h'))
 have hn:=x.hn
 have hqn : q.n ≤ 100000:=by have:=fr.sg.ok.1; omega
 have hXpl : (gclP l q (kdW ty.data.toList) tp).1.pl = tp:=by rfl
 have hXk : (gclP l q (kdW ty.data.toList) tp).1.kind = (kdW ty.data.toList : Nat):=rfl
 obtain ⟨X,hX⟩ : ∃ X,X = (gclP l q (kdW ty.data.toList) tp).1:=⟨_,rfl⟩
 obtain ⟨q2,hq2⟩ : ∃ q2,q2 = (gclP l q (kdW ty.data.toList) tp).2:=⟨_,rfl⟩
 rw [← hX,← hq2] at HN
 rw [← hX] at hXpl hXk
 rw [← hq2] at hge
 rw [← hX,← hq2]
 obtain ⟨kd,hkd⟩ : ∃ kd : Nat,kd = kdW ty.data.toList:=⟨_,rfl⟩
 rw [← hkd] at HN HK hXk
 have HXK:=Lib.hid hXk
 clear hXk hkd
 obtain ⟨ts,e1,hv,hT⟩:=id po.c
 have hel : ts.length = g.cls.length:=by rw [← e1,List.length_map]
 have hts : ts.length ≤ 100000:=by omega
 have HEL:=Lib.hid hel
 clear hel
 have hb1 : Below W.heap.size W (W.alloc (.cells #[.int .i64 tk,.string ty,.int .i64 tn,.int .i64 tp] 62)).drew:=((Below.refl _ _).alloc (Nat.le_refl _) _).drew
 have HF1:=Lib.hid (fr.below hb1)
 have HAD:=Lib.hid HF1.out.sg
 have pc:=fr.pv.cell
 have pl:=fr.pv.lt
 have xc : W.cell? ⟨xb,3,none⟩ = some c:=fr.xv.cell 3
 have xl:=fr.xv.lt
 have HPO:=Lib.hid po
 have HFR:=Lib.hid fr
 have HV:=Lib.hid hv
 obtain ⟨i0,hi,hz0,hz1,hz2⟩:=info_parts info_clm
 have HV2 : Hid (∀ w2 (v9 : Value),Sg w0 w2 r l lv q2 → Keep r (W.alloc (.cells #[.int .i64 tk,.string ty,.int .i64 tn,.int .i64 tp] 62)).drew w2 → (w2.alloc (.cells #[.int .i64 kd,v9,.int .i64 X.pl] 44)).ownsRow wb.heap.size 44 3 c ts.length (rowC ts)):=
   Lib.hid fun w2 v9 _ k2 => (own_keepG (own_below HV.out hb1) HF1.out.sg.prs k2 (by decide)).alloc _
 have HSZ : Hid (∀ w2 (v9 : Value),Keep r (W.alloc (.cells #[.int .i64 tk,.string ty,.int .i64 tn,.int .i64 tp] 62)).drew w2 → wb.heap.size ≤ (w2.alloc (.cells #[.int .i64 kd,v9,.int .i64 X.pl] 44)).heap.size):=Lib.hid fun w2 v9 k2 => by
   have h1:=HFR.out.kp.size
   have h2:=hb1.size
   have h3:=k2.size
   rw [alloc_size]
   omega
 have HF3 : Hid (∀ w2 (v9 : Value) w3,Sg w0 w2 r l lv q2 → Keep r (W.alloc (.cells #[.int .i64 tk,.string ty,.int .i64 tn,.int .i64 tp] 62)).drew w2 → (w2.alloc (.cells #[.int .i64 kd,v9,.int .i64 X.pl] 44)).grownBy w3 c.ownBlock → Fr w0 wb w3 r pb rb xb ib s0 l lv q2 #[.int .i64 g.mod,a,b,c]):=
   Lib.hid fun w2 v9 w3 h2 k2 hg => ((HF1.out.call h2 k2).below ((Below.refl _ _).alloc (Nat.le_refl _) _)).grown (HV2.out w2 v9 h2 k2) (by decide) (by decide) (by decide) (by decide) hg
 have HFIN : Hid (∀ w2 (v9 : Value) w3 g9 cap, Sg w0 w2 r l lv q2 → Keep r (W.alloc (.cells #[.int .i64 tk, .string ty, .int .i64 tn, .int .i64 tp] 62)).drew w2 → w2.ownsRow 0 46 5 v9 X.e.length (rowN X.e) → w3.ownsRow wb.heap.size 44 3 (.slice (some ⟨g9, 0, none⟩) (ts.length + 1) cap) (ts.length + 1) (rowC ts ++ [.int .i64 kd, v9, .int .i64 X.pl]) →
     (w2.alloc (.cells #[.int .i64 kd,v9,.int .i64 X.pl] 44)).grownBy w3 c.ownBlock → Fg w0 wb (w3.setCell ⟨xb,3,none⟩ (.slice (some ⟨g9,0,none⟩) (ts.length + 1) cap)) r pb rb xb ib s0 l lv q2 { g with cls:=g.cls ++ [X] }):=by
   refine Lib.hid fun w2 v9 w3 g9 cap h2 k2 i1 ho hg => ?_
   have F1:=HF1.out
   have hbk:=hb1
   have f3:=HF3.out w2 v9 w3 h2 k2 hg
   have hv2:=HV2.out w2 v9 h2 k2
   have hal:=(Below.refl w2.heap.size w2).alloc (Nat.le_refl _) (.cells #[.int .i64 kd,v9,.int .i64 X.pl] 44)
   have p2:=(((HPO.out.below hb1).keepG F1.sg.prs k2).below hal)
   have hin : CIn w3 (ts ++ [(X,v9)]):=(((hT.below hbk).keepG F1.sg.prs k2).below hal |>.apart hv2 (by decide) hg).snoc ((own_below i1 hal).kept hg (own_apartE (own_below i1 hal) hv2 (by decide)))
   have lo : COwn w3 wb.heap.size (.slice (some ⟨g9,0,none⟩) (ts.length + 1) cap) (g.cls ++ [X]):=by
     refine ⟨ts ++ [(X,v9)],by rw [List.map_append,e1]; rfl,?_,hin⟩
     have ho2:=ho
     rw [← HXK.out] at ho2
     rw [rowC_append,List.length_append]; exact ho2
   have f4:=f3.set 3 (.slice (some ⟨g9,0,none⟩) (ts.length + 1) cap)
   refine ⟨⟨a,b,_,f4,?_⟩,?_⟩
   · exact ⟨own_setBk (World.ownsRow.kept p2.l hg (own_apartE p2.l hv2 (by decide))) f3.xv (by decide),(p2.t.apart hv2 (by decide) (by decide) (by decide) (by decide) hg).setBk f3.xv (by decide) (by decide) (by decide) (by decide),lo.setBk f3.xv (by decide) (by decide)⟩
   · have:=HEL.out
     simp only [List.length_append,List.length_cons,List.length_nil]
     omega
 have hw2 : ∀ w2,Sg w0 w2 r l lv q2 → Keep r (W.alloc (.cells #[.int .i64 tk,.string ty,.int .i64 tn,.int .i64 tp] 62)).drew w2 → w2.cell? ⟨xb,3,none⟩ = some c ∧ xb < w2.heap.size:=fun w2 h2 k2 => ⟨(HF1.out.call h2 k2).xv.cell 3,(HF1.out.call h2 k2).xv.lt⟩
 have HW2:=Lib.hid hw2
 have HB1:=Lib.hid hb1
 clear hX hq2 fr po hv hw2 hb1 hT e1
 subst hXpl
 go_enter Tryz.func73,Tryz.ntmps73
 go_wp2
 go_region_law (first
   | (go_simp; go_at_call 74; refine (HN.out _ HAD.out).mono ?_; rintro e w2 ⟨v9,rfl,h2,k2,i1⟩; obtain ⟨xc2,xl2⟩:=HW2.out w2 h2 k2)
   | (go_simp; go_at_call 75; refine (HK.out _ HB1.out).mono ?_; rintro e w8 ⟨rfl,rfl⟩)
   | (refine step_append_lies (s:=.tmp 5) (x:=.tmp 13) (t:=25) (base:=wb.heap.size) (e:=44) (i:=i0) (z:=.agg #[.int .i64 0,.slice none 0 0,.int .i64 0]) (size:=3) (bytes:=40) (v:=c) (n:=ts.length) (xs:=rowC ts) (ad:=⟨w2.heap.size,0,none⟩) (m:=1) (c:=1) (news:=[.int .i64 kd,v9,.int .i64 X.pl]) (H:=(w2.alloc (.cells #[.int .i64 kd,v9,.int .i64 X.pl] 44)).heap.size)
       (hgd:=rfl) (ho:=rfl) (ht:=Tryz.underlying25) (hi:=hi) (hz:=hz0) (hsize:=hz1) (hby:=hz2) (hzs:=rfl) (hsz:=by decide) (hs:=by simp [Act.eval]) (hown:=HV2.out _ v9 h2 k2) (hx:=by simp [Act.eval]) (hl:=rfl)
       (hnews:=World.news_of_block (heap_alloc_new w2 _)) (h1:=fun u hu => by simp at hu; rcases hu with rfl | rfl | rfl; (· rfl); (· exact own_one i1); (· rfl)) (hm:=by decide) (h63:=by unfold maxLen; omega) (hbytes:=by omega) (hbase:=HSZ.out _ v9 k2) (hH:=rfl) (h:=?_); intro g9 cap w3 hown hgrow hat hlt; have f3:=HF3.out _ v9 _ h2 k2 hgrow; have xc3 : w3.cell? ⟨xb,3,none⟩ = some c:=f3.xv.cell 3; have xf3:=f3.xv.fz 3; have xl3:=f3.xv.lt))
 all_goals exact bodyPost_end (v:=.tuple #[]) (by simp [results,Tryz.results73,go_sem]) rfl ⟨rfl,HFIN.out _ v9 _ _ _ h2 k2 (own_mono i1 (Nat.zero_le _)) hown hgrow⟩
end
end Go.Proofs.YtcghccjnadagcaaGreatDoor
