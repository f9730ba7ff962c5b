/- Layer 14, the code: Keep. -/
import Derived.Test.YtkdpimifojjhaaaNm
namespace Go.Proofs.Ytkdpimifojjhaaa
set_option linter.unusedSimpArgs false
set_option linter.unusedVariables false
open Go.RowKit

/-- append of a row of edges to a row of one's own. -/
theorem append_edgs {w : World} {ops : Array Oper} {rest : List Oper} {o : Oper} {a : Act} {Q : Exit → Act → World → Prop} (hgd : o.guard = none) (s x : Operand)
    (ho : o.op = .call { callee := .builtin .append, args := #[s, x], argTypes := #[37, 37] }) (base : Nat) (v : Value) (xs ys : List Edg) (hs : a.eval s = v) (ad : Option Addr) (m cap : Nat) (hx : a.eval x = .slice ad m cap)
    (hown : w.ownsRow base 41 3 v xs.length (rowG xs)) (hys : EdgsD w (.slice ad m cap) ys) (hn : xs.length + ys.length ≤ 1000000) (hbase : base ≤ w.heap.size) (zs : List Edg) (hz : xs ++ ys = zs)
    (h : ∀ v' w', Hid (w'.ownsRow base 41 3 v' zs.length (rowG zs)) → Hid (Below base w w') → wpList Try.prog ops Q rest (a.put o.dst v') w') : wpList Try.prog ops Q (o :: rest) a w := by
  subst hz
  obtain ⟨i0, hi, hz0, hz1, hz2⟩ := info_parts info_edge
  have hm : ys.length = m ∧ (ad = none → cap = 0) ∧ ys.length ≤ cap := by
    obtain ⟨ad', cap', hv, h1, h2, hc⟩ := hys
    injection hv with e1 e2 e3
    subst e1; subst e2; subst e3
    exact ⟨rfl, h1.2, h1.1⟩
  obtain ⟨rfl, h0, h1⟩ := hm
  cases ad with
  | none =>
    have hc0 := h0 rfl
    have hy0 : ys = [] := List.eq_nil_of_length_eq_zero (by omega)
    subst hy0; subst hc0
    refine wpList_append_own_none hgd s x 37 ho base 41 i0 3 Try.underlying37 hi v xs.length (rowG xs) hs hown hx ?_
    exact h v w (Lib.hid (by rw [List.append_nil]; exact hown)) (Lib.hid (Below.refl _ _))
  | some a0 =>
    refine wpList_append_own _ hgd s x 37 ho base 41 i0 (.agg #[.int .i64 0, .int .i64 0, .int .i64 0]) 3 24 Try.underlying37 hi hz0 hz1 hz2 rfl (by decide) v xs.length (rowG xs) hs hown a0 ys.length cap (rowG ys) hx (rowG_len ys) (edgs_flat hys) (rowG_one ys) (by unfold maxLen; omega) (by omega) hbase ?_
    intro v' w' h1 h2 _
    refine h v' w' (Lib.hid ?_) (Lib.hid ((Below.refl base w).grown h2 hbase (fun k hk => (hown.lt k hk).1)))
    rw [List.length_append, rowG_app]
    exact h1
theorem ownE_nil (B : Nat) (w : World) : w.ownsRow B 41 3 (.slice none 0 0) ([] : List Edg).length (rowG []) := ⟨rfl, .inl ⟨rfl, rfl⟩⟩

set_option maxRecDepth 100000 in
set_option maxHeartbeats 8000000 in
theorem isin_any (l : List Bool) (x : Int) (hx : 0 ≤ x) (v : Value) (gi : Nat) (w : World) (hd : TrusD w v l) (hn : l.length ≤ 1000000) (hk : Bk w gi 32 #[v]) (q : Bool) (hq : isIn l x = q) :
    Calls Try.prog 48 #[.int .i64 x, .pointer (some ⟨gi, 0, none⟩)] w fun e w' => e = .returned (.bool q) ∧ Below w.heap.size w w' := by
  obtain ⟨ad, cap, rfl⟩ := hd.shape0
  have c0 := hk.cell 0
  have lk := hk.lt
  obtain ⟨k, rfl⟩ : ∃ k : Nat, x = (k : Int) := ⟨x.toNat, by omega⟩
  unfold isIn at hq
  by_cases hlt : k < l.length
  · obtain ⟨b, off, rfl, hbl, y⟩ := TrusD.at2 hd k hlt
    rw [decide_eq_true (by omega), Bool.true_and, Int.toNat_natCast, List.getD_eq_getElem?_getD, List.getElem?_eq_getElem hlt] at hq
    have hq : l[k] = q := hq
    rw [hq] at y
    have i1 : (0 : Int) ≤ (k : Int) := by omega
    have i2 : (k : Int) < (l.length : Int) := by omega
    clear hd hk hx hn
    generalize l.length = n at c0 i2 ⊢
    clear hq
    go_enter Try.func48, Try.ntmps48
    go_wp2_with fail
    go_ret
    exact ⟨rfl, Below.refl _ _⟩
  · rw [decide_eq_false (by omega), Bool.false_and] at hq
    have i2 : ¬ (k : Int) < (l.length : Int) := by omega
    subst hq
    clear hd hk hx hn hlt
    generalize l.length = n at c0 i2 ⊢
    go_enter Try.func48, Try.ntmps48
    go_wp2_with fail
    go_ret
    exact ⟨rfl, Below.refl _ _⟩

set_option maxRecDepth 100000 in
set_option maxHeartbeats 8000000 in
theorem keep_any (g : Gr) (li : List Bool) (vs va vt vi : Value) (w : World) (hd : GrD w vs va vt g) (hi : TrusD w vi li) (hn : g.st.length ≤ 1001 ∧ g.to.length ≤ 1000 ∧ g.ag.length ≤ 1000) (hli : li.length ≤ 1000) :
    Calls Try.prog 32 #[.agg #[vs, va, vt], vi] w fun e w' => ∃ us ua ut, e = .returned (.agg #[us, ua, ut]) ∧ GrD w' us ua ut (keepZ g li) ∧ Below w.heap.size w w' := by
  obtain ⟨q, hq⟩ : ∃ q, rightG g = q := ⟨_, rfl⟩
  have HR := Lib.hid fun (W : World) (h : Below w.heap.size w W) => right14_any g vs va vt W (hd.below h) hn q hq
  have HRW := Lib.hid fun (W : World) (h : Below w.heap.size w W) (hg : RG g) => list_any g hg vs va vt W (hd.below h) ⟨hn.1, hn.2.1⟩
  have HCT := Lib.hid fun (W : World) (h : Below w.heap.size w W) (h1 : 1 ≤ g.st.length) => count_any vs va vt g W (hd.below h).s h1 (by omega)
  have HIN := Lib.hid fun (W : World) (gi : Nat) (x : Int) (q : Bool) (h : Below w.heap.size w W) (hx : 0 ≤ x) (hk : Bk W gi 32 #[vi]) (hq : isIn li x = q) => isin_any li x hx vi gi W (hi.below h) (by omega) hk q hq
  have HQ := Lib.hid hq
  have HSZ : Hid (g.to.length ≤ 1000 ∧ g.st.length ≤ 1001) := Lib.hid ⟨hn.2.1, hn.1⟩
  obtain ⟨a1, p1, rfl⟩ := hd.s.shape0
  obtain ⟨a2, p2, rfl⟩ := hd.t.shape0
  obtain ⟨a3, p3, rfl⟩ := hd.a.shape0
  obtain ⟨a4, p4, rfl⟩ := hi.shape0
  clear hd hn hq hi hli
  generalize hn : g.st.length = n at HR HRW HCT ⊢
  generalize hl : g.ag.length = l at HR HRW HCT ⊢
  generalize hm : g.to.length = m at HR HRW HCT ⊢
  generalize hli : li.length = lb at HIN ⊢
  have HN := Lib.hid hn
  clear hn hl hm hli
  have L3 : Below w.heap.size w (((w.alloc (.cells #[.slice a1 n p1, .slice a3 l p3, .slice a2 m p2] 24)).alloc (.cells #[.slice a4 lb p4] 32)).alloc (.cells #[.slice none 0 0, .slice none 0 0, .slice none 0 0] 24)) := bal (bal (bal (Below.refl _ _) _) _) _
  have BX := Lib.hid L3
  have KX := Lib.hid (bk_alloc (bk_alloc (Bk.new w 24 #[.slice a1 n p1, .slice a3 l p3, .slice a2 m p2]) (.cells #[.slice a4 lb p4] 32)) (.cells #[.slice none 0 0, .slice none 0 0, .slice none 0 0] 24))
  have IX := Lib.hid (bk_alloc (bk_at2 w (.cells #[.slice a1 n p1, .slice a3 l p3, .slice a2 m p2] 24) 32 #[.slice a4 lb p4]) (.cells #[.slice none 0 0, .slice none 0 0, .slice none 0 0] 24))
  have RX : Hid (Bk (((w.alloc (.cells #[.slice a1 n p1, .slice a3 l p3, .slice a2 m p2] 24)).alloc (.cells #[.slice a4 lb p4] 32)).alloc (.cells #[.slice none 0 0, .slice none 0 0, .slice none 0 0] 24)) (w.heap.size + 1 + 1) 24 #[.slice none 0 0, .slice none 0 0, .slice none 0 0]) := Lib.hid (bk_at (by rw [alloc_size, alloc_size]))
  clear L3
  go_enter Try.func32, Try.ntmps32
  go_wp2_with fail
  generalize World.alloc (World.alloc (World.alloc w _) _) _ = w0 at BX KX IX RX ⊢
  obtain ⟨r, hr⟩ : ∃ r, r = w.heap.size + 1 + 1 := ⟨_, rfl⟩
  rw [← hr] at RX ⊢
  obtain ⟨gi, hgi⟩ : ∃ r, r = w.heap.size + 1 := ⟨_, rfl⟩
  rw [← hgi] at IX ⊢
  have HRR : Hid (w.heap.size < r ∧ w.heap.size < gi) := Lib.hid ⟨by omega, by omega⟩
  clear hr hgi
  refine (HR.out _ BX.out).mono ?_
  rintro e w1 ⟨rfl, b1⟩
  have BY := Lib.hid (BX.out.trans (b1.mono BX.out.size))
  have KY := Lib.hid (KX.out.below b1)
  have IY := Lib.hid (IX.out.below b1)
  have RY := Lib.hid (RX.out.below b1)
  clear b1 HR BX KX IX RX
  cases q with
  | false =>
    have d0 := RY.out.cell 0
    have d1 := RY.out.cell 1
    have d2 := RY.out.cell 2
    have f0 := RY.out.fz 0
    have f1 := RY.out.fz 1
    have f2 := RY.out.fz 2
    have lr := RY.out.lt
    have HS := Lib.hid (set3_bk (.slice none 0 0) (.slice none 0 0) (.slice none 0 0) RY.out)
    have HK := Lib.hid (set3_keep (w := w1) (g := r) (.slice none 0 0) (.slice none 0 0) (.slice none 0 0))
    go_wp2_with fail
    generalize ((w1.setCell _ _).setCell _ _).setCell _ _ = w9 at HS HK ⊢
    clear d0 d1 d2
    have d0 := HS.out.cell 0
    have d1 := HS.out.cell 1
    have d2 := HS.out.cell 2
    refine bodyPost_ret (v := .agg #[.slice none 0 0, .slice none 0 0, .slice none 0 0]) (by simp [results, Try.results32, go_sem, d0, d1, d2]) rfl ?_
    exact ⟨_, _, _, rfl, by rw [show keepZ g li = noG from if_neg (fun h => by rw [HQ.out] at h; cases h)]; exact noG_D _, BY.out.trans (HK.out.below (fun _ h => by rw [h]; exact Nat.le_of_lt HRR.out.1) BY.out.size)⟩
  | true =>
    have HG := Lib.hid (right_RG g HQ.out)
    have HO : Hid (keepZ g li = bld (numN g) (keepL g li)) := Lib.hid (if_pos HQ.out)
    have HLL : Hid ((allL g).length ≤ 1000 ∧ numN g ≤ 1000) := Lib.hid ⟨by rw [HG.out.allLen]; exact HSZ.out.1, by have := HSZ.out.2; unfold numN; omega⟩
    have HRK := Lib.hid fun (W : World) (h : Below w.heap.size w W) => HRW.out W h HG.out
    have HCK := Lib.hid fun (W : World) (h : Below w.heap.size w W) => HCT.out W h (by rw [← HN.out]; exact HG.out.pos)
    have c0 := KY.out.cell 0
    have c1 := KY.out.cell 1
    have c2 := KY.out.cell 2
    have lw := KY.out.lt
    obtain ⟨M, hM⟩ : ∃ M, M = (allL g).length := ⟨_, rfl⟩
    have HM := Lib.hid hM
    rw [← hM] at HLL HRK
    clear HRW HCT hM
    go_wp2_with fail
    refine (HRK.out _ BY.out).mono ?_
    rintro e w2 ⟨gl, rfl, ho, hlt, b2⟩
    have BZ := Lib.hid (BY.out.trans (b2.mono BY.out.size))
    have KZ := Lib.hid (KY.out.below b2)
    have IZ := Lib.hid (IY.out.below b2)
    have RZ := Lib.hid (RY.out.below b2)
    have HE0 : Hid (BkE w2 gl (allL g)) := Lib.hid ho
    have W2 : Hid (w.heap.size ≤ w2.heap.size ∧ r < w2.heap.size ∧ gl < w2.heap.size ∧ w.heap.size < w2.heap.size ∧ gi < w2.heap.size) := Lib.hid ⟨BZ.out.size, RZ.out.lt, ho.lt, KZ.out.lt, IZ.out.lt⟩
    clear b2 c0 c1 c2 lw ho hlt BY KY RY IY
    go_wp2_with fail
    have I0 := Lib.hid (Below.refl w2.heap.size w2)
    go_loopg [6, 17] M (fun fuel s6 i' wr => ∃ (k : Nat), i' = .int .i64 k ∧ k ≤ M ∧ M - k ≤ fuel ∧ wr.ownsRow w2.heap.size 41 3 s6 ((allL g).take k |>.filter fun e => isIn li e.1 && isIn li e.2.2).length (rowG ((allL g).take k |>.filter fun e => isIn li e.1 && isIn li e.2.2)) ∧ Below w2.heap.size w2 wr)
    case atStart => exact ⟨0, rfl, Nat.zero_le _, Nat.le_refl _, ownE_nil _ _, I0.out⟩
    case round =>
      clear I0
      obtain ⟨k, rfl, hk, hf, ho, hb⟩ := hrel
      have HW := Lib.hid ho
      have HB := Lib.hid hb
      have HE := Lib.hid (Bk.below HE0.out hb)
      have BW := Lib.hid (BZ.out.trans (hb.mono BZ.out.size))
      have IW := Lib.hid (IZ.out.below hb)
      clear ho hb
      have i5 : IntKind.i64.wrap ((k : Int) + 1) = (k : Int) + 1 := IntWalk.i64_in _ (by have := HLL.out; omega)
      by_cases hlt : k < M
      · have hk1 : k < (allL g).length := by rw [← HM.out]; exact hlt
        obtain ⟨x0, x1, x2⟩ := bkE_at HE.out k _ (List.getElem?_eq_getElem hk1)
        have HOK := Lib.hid (HG.out.mem (List.getElem_mem hk1))
        have HFT : Hid ((allL g).take (k + 1) = (allL g).take k ++ [(allL g)[k]]) := Lib.hid (by rw [List.take_add_one, List.getElem?_eq_getElem hk1]; rfl)
        obtain ⟨⟨ef, ea, et⟩, hE⟩ : ∃ e, e = (allL g)[k] := ⟨_, rfl⟩
        rw [← hE] at x0 x1 x2 HOK HFT
        have hok := of_decide_eq_true HOK.out
        have HFE : Hid (0 ≤ ef) := Lib.hid hok.1.1
        have HTE : Hid (0 ≤ et) := Lib.hid hok.2.1.1
        have lg := HE.out.lt
        have i1 : (0 : Int) ≤ (k : Int) := by omega
        have i2 : (k : Int) < (M : Int) := by omega
        obtain ⟨q1, hq1⟩ : ∃ q, isIn li ef = q := ⟨_, rfl⟩
        obtain ⟨q2, hq2⟩ : ∃ q, isIn li et = q := ⟨_, rfl⟩
        have HQ1 := Lib.hid hq1
        have HQ2 := Lib.hid hq2
        have HEB := Lib.hid (Bk.new wr 41 #[.int .i64 ef, .int .i64 ea, .int .i64 et])
        have BW2 := Lib.hid (bal BW.out (.cells #[.int .i64 ef, .int .i64 ea, .int .i64 et] 41))
        have HB2 := Lib.hid (HB.out.alloc HB.out.size (.cells #[.int .i64 ef, .int .i64 ea, .int .i64 et] 41))
        have IW2 := Lib.hid (bk_alloc IW.out (.cells #[.int .i64 ef, .int .i64 ea, .int .i64 et] 41))
        have OW2 := Lib.hid (World.ownsRow.alloc HW.out (.cells #[.int .i64 ef, .int .i64 ea, .int .i64 et] 41))
        clear hk1 hE hok hq1 hq2 HOK
        go_wp2_with fail
        obtain ⟨ge, hge⟩ : ∃ x, x = wr.heap.size := ⟨_, rfl⟩
        rw [← hge] at HEB ⊢
        have HGE : Hid (ge < (wr.alloc (.cells #[.int .i64 ef, .int .i64 ea, .int .i64 et] 41)).heap.size) := Lib.hid HEB.out.lt
        generalize World.alloc wr _ = w5 at HEB BW2 HB2 IW2 OW2 HGE ⊢
        clear hge x0 x1 x2 lg HE BW IW HW HB
        refine (HIN.out w5 gi ef q1 BW2.out HFE.out IW2.out HQ1.out).mono ?_
        rintro e w6 ⟨rfl, b6⟩
        replace HEB := Lib.hid (HEB.out.below b6)
        replace IW2 := Lib.hid (IW2.out.below b6)
        replace BW2 := Lib.hid (BW2.out.trans (b6.mono BW2.out.size))
        replace OW2 := Lib.hid (own_below OW2.out b6)
        replace HB2 := Lib.hid (HB2.out.trans (b6.mono HB2.out.size))
        clear b6
        cases q1 with
        | false =>
          have HKL : Hid ((((allL g).take (k + 1)).filter fun e => isIn li e.1 && isIn li e.2.2) = ((allL g).take k).filter fun e => isIn li e.1 && isIn li e.2.2) := Lib.hid (by
            rw [HFT.out, List.filter_append, List.filter_cons_of_neg (by simp [HQ1.out]), List.filter_nil, List.append_nil])
          go_wp2_with fail
          go_roundg (gk - 1)
          case measure => omega
          case rel => exact ⟨k + 1, by go_num, by omega, by omega, by rw [HKL.out]; exact OW2.out, HB2.out⟩
        | true =>
          have e0 := HEB.out.cell 0
          have e1 := HEB.out.cell 1
          have e2 := HEB.out.cell 2
          have le := HEB.out.lt
          go_wp2_with fail
          refine (HIN.out w6 gi et q2 BW2.out HTE.out IW2.out HQ2.out).mono ?_
          rintro e w7 ⟨rfl, b7⟩
          replace HEB := Lib.hid (HEB.out.below b7)
          replace BW2 := Lib.hid (BW2.out.trans (b7.mono BW2.out.size))
          replace OW2 := Lib.hid (own_below OW2.out b7)
          replace HB2 := Lib.hid (HB2.out.trans (b7.mono HB2.out.size))
          clear b7 e0 e1 e2 le
          cases q2 with
          | false =>
            have HKL : Hid ((((allL g).take (k + 1)).filter fun e => isIn li e.1 && isIn li e.2.2) = ((allL g).take k).filter fun e => isIn li e.1 && isIn li e.2.2) := Lib.hid (by
              rw [HFT.out, List.filter_append, List.filter_cons_of_neg (by simp [HQ2.out]), List.filter_nil, List.append_nil])
            go_wp2_with fail
            go_roundg (gk - 1)
            case measure => omega
            case rel => exact ⟨k + 1, by go_num, by omega, by omega, by rw [HKL.out]; exact OW2.out, HB2.out⟩
          | true =>
            have HKL : Hid ((((allL g).take k).filter fun e => isIn li e.1 && isIn li e.2.2) ++ [((ef, ea, et) : Edg)] = (((allL g).take (k + 1)).filter fun e => isIn li e.1 && isIn li e.2.2)) := Lib.hid (by
              rw [HFT.out, List.filter_append, List.filter_cons_of_pos (by simp [HQ1.out, HQ2.out]), List.filter_nil])
            have HLE : Hid ((((allL g).take k).filter fun e => isIn li e.1 && isIn li e.2.2).length ≤ 1000) := Lib.hid (Nat.le_trans (List.length_filter_le _ _) (by rw [List.length_take]; have := HLL.out; have := HM.out; omega))
            generalize ((allL g).take k).filter (fun e => isIn li e.1 && isIn li e.2.2) = Fk at OW2 HKL HLE
            generalize hFn : ((allL g).take (k + 1)).filter (fun e => isIn li e.1 && isIn li e.2.2) = Fn at HKL
            have HFN := Lib.hid hFn
            clear hFn
            have e0 := HEB.out.cell 0
            have e1 := HEB.out.cell 1
            have e2 := HEB.out.cell 2
            have le := HEB.out.lt
            have OW8 := Lib.hid (World.ownsRow.alloc OW2.out (.cells #[.int .i64 ef, .int .i64 ea, .int .i64 et] 41))
            have ED8 := Lib.hid (edgsD_of_bk (w := w7.alloc (.cells #[.int .i64 ef, .int .i64 ea, .int .i64 et] 41)) (g := w7.heap.size) (xs := [(ef, ea, et)]) (n := 1) (Bk.new w7 _ _) rfl (by decide))
            have HN8 : Hid (Fk.length + [((ef, ea, et) : Edg)].length ≤ 1000000) := Lib.hid (by have := HLE.out; simp only [List.length_cons, List.length_nil]; omega)
            have HS8 : Hid (w2.heap.size ≤ (w7.alloc (.cells #[.int .i64 ef, .int .i64 ea, .int .i64 et] 41)).heap.size) := Lib.hid (by rw [alloc_size]; have := HB2.out.size; omega)
            have HB8 := Lib.hid (HB2.out.alloc HB2.out.size (.cells #[.int .i64 ef, .int .i64 ea, .int .i64 et] 41))
            go_wp2_with (at_builtin; refine append_edgs rfl (.tmp 31) (.tmp 33) rfl w2.heap.size _ Fk [(ef, ea, et)] rfl _ _ _ rfl OW8.out ED8.out HN8.out HS8.out Fn HKL.out ?_)
            intro v9 w9 O9 B9
            have HB9 := Lib.hid (HB8.out.trans B9.out)
            clear B9 HB8 OW8 ED8 HN8 HS8
            go_wp2_with fail
            go_roundg (gk - 1)
            case measure => omega
            case rel => exact ⟨k + 1, by go_num, by omega, by omega, by rw [HFN.out]; exact O9.out, HB9.out⟩
      · obtain rfl : k = M := by omega
        have HKW : Hid (((allL g).take k).filter (fun e => isIn li e.1 && isIn li e.2.2) = keepL g li) := Lib.hid (by unfold keepL; rw [HM.out, List.take_length])
        rw [HKW.out] at HW
        have KW := Lib.hid (KZ.out.below HB.out)
        have RW := Lib.hid (RZ.out.below HB.out)
        have c0 := KW.out.cell 0
        have c1 := KW.out.cell 1
        have c2 := KW.out.cell 2
        have lw := KW.out.lt
        have HFR : Hid (∀ e ∈ keepL g li, 0 ≤ e.1 ∧ e.1 < (numN g : Int)) := Lib.hid (AllOk.fr (HG.out.keepOk li))
        obtain ⟨kl, hkl⟩ : ∃ x, x = (keepL g li).length := ⟨_, rfl⟩
        have HKLN : Hid (kl ≤ 1000) := Lib.hid (by rw [hkl]; exact Nat.le_trans (List.length_filter_le _ _) (by have := HLL.out; have := HM.out; omega))
        have HKLE := Lib.hid hkl
        clear HE hlt hf hk HRK HKW hkl
        go_wp2_with fail
        refine (HCK.out _ BW.out).mono ?_
        rintro e w3 ⟨rfl, b3⟩
        have B3 := Lib.hid (BW.out.trans (b3.mono BW.out.size))
        have X3 := Lib.hid (RW.out.below b3)
        have E3 := Lib.hid (edgsD_of_own (own_below HW.out b3))
        clear b3 c0 c1 c2 lw HCK
        go_wp2_with fail
        have HLN := Lib.hid (bld_lens (numN g) _ HFR.out)
        refine (graph_any (numN g) _ _ _ E3.out HLL.out.2 (by rw [← HKLE.out]; exact HKLN.out) HFR.out).mono ?_
        rintro e w4 ⟨gs, ga, gt, rfl, gd, b4⟩
        have B4 := Lib.hid (B3.out.trans (b4.mono B3.out.size))
        have X4 := Lib.hid (X3.out.below b4)
        have HGD : Hid (GrB w3.heap.size w4 gs ga gt (keepZ g li)) := Lib.hid (by rw [HO.out]; exact gd)
        have HR3 : Hid (r < w3.heap.size) := Lib.hid X3.out.lt
        rw [← HKLE.out]
        rw [← HKLE.out, ← HO.out] at HLN
        clear gd b4
        have d0 := X4.out.cell 0
        have d1 := X4.out.cell 1
        have d2 := X4.out.cell 2
        have f0 := X4.out.fz 0
        have f1 := X4.out.fz 1
        have f2 := X4.out.fz 2
        have lr := X4.out.lt
        obtain ⟨N1, hN1⟩ : ∃ x, x = numN g + 1 := ⟨_, rfl⟩
        rw [← hN1] at HLN ⊢
        have HN6 : Hid (N1 ≤ 1000000 ∧ kl ≤ 1000000 ∧ kl ≤ 1000000) := Lib.hid (by have := HLL.out; have := HKLN.out; omega)
        clear hN1
        have HS := Lib.hid (set3_bk (.slice (some ⟨gs, 0, none⟩) N1 N1) (.slice (some ⟨ga, 0, none⟩) kl kl) (.slice (some ⟨gt, 0, none⟩) kl kl) X4.out)
        have HK4 := Lib.hid (set3_keep (w := w4) (g := r) (.slice (some ⟨gs, 0, none⟩) N1 N1) (.slice (some ⟨ga, 0, none⟩) kl kl) (.slice (some ⟨gt, 0, none⟩) kl kl))
        go_wp2_with fail
        generalize ((w4.setCell _ _).setCell _ _).setCell _ _ = w9 at HS HK4 ⊢
        clear d0 d1 d2
        have d0 := HS.out.cell 0
        have d1 := HS.out.cell 1
        have d2 := HS.out.cell 2
        refine bodyPost_ret (v := .agg #[.slice (some ⟨gs, 0, none⟩) N1 N1, .slice (some ⟨ga, 0, none⟩) kl kl, .slice (some ⟨gt, 0, none⟩) kl kl]) (by simp [results, Try.results32, go_sem, d0, d1, d2]) rfl ?_
        refine ⟨_, _, _, rfl, ?_, B4.out.trans (HK4.out.below (fun _ h => by rw [h]; exact Nat.le_of_lt HRR.out.1) B4.out.size)⟩
        exact (HGD.out.oth HK4.out (fun _ h => by rw [h]; exact Nat.le_of_lt HR3.out)).grD HLN.out.1 HLN.out.2.1 HLN.out.2.2 HN6.out

end Go.Proofs.Ytkdpimifojjhaaa
