/- What the reference's list does. -/
import Derived.Test.YtlpgafgiljffhaaGreatDoorVg
import Derived.Test.YtlpgafgiljffhaaGreatDoorVh
namespace Go.Proofs.YtlpgafgiljffhaaGreatDoor
open Go.RowKit
theorem SIn.grown {w w' : World} {ts : List SI} {B n : Nat} {v : Value} {xs : List Value} (h : SIn w ts) (hv : w.ownsRow B 61 9 v n xs) (hg : w.grownBy w' v.ownBlock) : SIn w' ts :=
  fun t ht => ⟨(h t ht).1.kept hg (own_apart (h t ht).1 hv), (h t ht).2.kept hg (own_apart (h t ht).2 hv)⟩
structure LS (w wx : World) (acc : List St) (va : Value) (b : Nat) (x : St) (ve vf : Value) : Prop where
  acc : SOwn wx w.heap.size va acc
  blk : BlkS wx b x ve vf
  e : wx.ownsRow 0 65 5 ve x.e.length (rowN x.e)
  f : wx.ownsRow 0 65 5 vf x.f.length (rowN x.f)
  below : Below w.heap.size w wx
  lt : ∀ g, va.ownBlock = some g → g < b
  le : w.heap.size ≤ b
theorem LS.under {w wx wy : World} {acc : List St} {va : Value} {b : Nat} {x : St} {ve vf : Value} (h : LS w wx acc va b x ve vf) (hb : Below wx.heap.size wx wy) : LS w wy acc va b x ve vf :=
  ⟨h.acc.below hb, h.blk.under hb, own_below h.e hb, own_below h.f hb, h.below.trans (hb.mono h.below.size), h.lt, h.le⟩
theorem own_apartB {w : World} {B n b : Nat} {u : Value} {xs : List Value} {x : St} {ve vf : Value} (h : w.ownsRow B 65 5 u n xs) (h' : BlkS w b x ve vf) : u.ownBlock ≠ some b := by
  intro h0
  rcases h.2 with ⟨rfl, _⟩ | ⟨g, cap, cur, rfl, _, hg, _⟩
  · cases h0
  · have e : g = b := Option.some.inj h0
    unfold BlkS at h'
    rw [e, h'] at hg
    cases hg
theorem SOwn.setB {w : World} {B b o : Nat} {v u : Value} {xs : List St} {x : St} {ve vf : Value} (h : SOwn w B v xs) (hb : BlkS w b x ve vf) (hne : v.ownBlock ≠ some b) : SOwn (w.setCell ⟨b, o, none⟩ u) B v xs := by
  obtain ⟨ts, h1, h2, h3⟩ := h
  exact ⟨ts, h1, ownsRow_setCell_other h2 hne _, fun t ht => ⟨ownsRow_setCell_other (h3 t ht).1 (own_apartB (h3 t ht).1 hb) _, ownsRow_setCell_other (h3 t ht).2 (own_apartB (h3 t ht).2 hb) _⟩⟩
theorem BlkS.set67 {w : World} {b : Nat} {x : St} {ve vf : Value} (h : BlkS w b x ve vf) :
    (∀ u : Int, BlkS (w.setCell ⟨b, 6, none⟩ (.int .i64 u)) b { x with body := u } ve vf) ∧ (∀ u : Int, BlkS (w.setCell ⟨b, 7, none⟩ (.int .i64 u)) b { x with els := u } ve vf) := by
  unfold BlkS St.cells at h
  have hlt := (Array.getElem?_eq_some_iff.1 h).1
  have hg := (Array.getElem?_eq_some_iff.1 h).2
  refine ⟨fun u => ?_, fun u => ?_⟩ <;> simp [BlkS, St.cells, World.setCell, Array.getElem?_modify, h]
theorem sown_ne {w : World} {B b : Nat} {v : Value} {xs : List St} (h : SOwn w B v xs) (hb : b < B) : v.ownBlock ≠ some b := by
  obtain ⟨ts, _, h2, _⟩ := h
  intro h0
  have := (h2.lt b h0).1
  omega
theorem LS.counts {w wx : World} {acc bs os : List St} {va vb vo : Value} {b : Nat} {x : St} {ve vf : Value} (h : LS w wx acc va b x ve vf) (hb : SOwn wx (b + 1) vb bs) (ho : SOwn wx (b + 1) vo os) (n m : Int) :
    LS w ((wx.setCell ⟨b, 6, none⟩ (.int .i64 n)).setCell ⟨b, 7, none⟩ (.int .i64 m)) acc va b { x with body := n, els := m } ve vf ∧ SOwn ((wx.setCell ⟨b, 6, none⟩ (.int .i64 n)).setCell ⟨b, 7, none⟩ (.int .i64 m)) (b + 1) vb bs ∧ SOwn ((wx.setCell ⟨b, 6, none⟩ (.int .i64 n)).setCell ⟨b, 7, none⟩ (.int .i64 m)) (b + 1) vo os := by
  have k1 := h.blk.set67.1 n
  have k2 := k1.set67.2 m
  have ha : va.ownBlock ≠ some b := fun h0 => by have := h.lt b h0; omega
  refine ⟨⟨(h.acc.setB h.blk ha).setB k1 ha, k2, ?_, ?_, (h.below.setCell (p := ⟨b, 6, none⟩) h.le _).setCell (p := ⟨b, 7, none⟩) h.le _, h.lt, h.le⟩, (hb.setB h.blk (sown_ne hb (by omega))).setB k1 (sown_ne hb (by omega)), (ho.setB h.blk (sown_ne ho (by omega))).setB k1 (sown_ne ho (by omega))⟩
  · have e1 := ownsRow_setCell_other (a := ⟨b, 6, none⟩) h.e (own_apartB h.e h.blk) (.int .i64 n)
    exact ownsRow_setCell_other (a := ⟨b, 7, none⟩) e1 (own_apartB e1 k1) (.int .i64 m)
  · have e1 := ownsRow_setCell_other (a := ⟨b, 6, none⟩) h.f (own_apartB h.f h.blk) (.int .i64 n)
    exact ownsRow_setCell_other (a := ⟨b, 7, none⟩) e1 (own_apartB e1 k1) (.int .i64 m)
theorem own_off {w : World} {B b n e size : Nat} {va vb : Value} {xs : List Value} (h : w.ownsRow B e size vb n xs) (hb : b < B) (ha : ∀ g, va.ownBlock = some g → g < b) : vb.ownBlock = none ∨ vb.ownBlock ≠ va.ownBlock := by
  cases hv : vb.ownBlock with
  | none => exact .inl rfl
  | some g =>
    right
    intro h0
    have h1 := (h.lt g hv).1
    have h2 := ha g h0.symm
    omega
def comb (acc : List St) : SRes → SRes
  | .ok xs j => .ok (acc ++ xs) j
  | .err k a => .err k a
theorem sown_shape {w : World} {B : Nat} {v : Value} {xs : List St} (h : SOwn w B v xs) : ∃ ad cap, v = .slice ad xs.length cap := by
  obtain ⟨ts, h1, h2, _⟩ := h
  obtain ⟨ad, cap, h3, _⟩ := own_shape h2
  exact ⟨ad, cap, by rw [h3, ← h1, List.length_map]⟩
theorem rbr {l : List Tok} {v : Value} {F inn N : Nat} (hN : N = l.length) (hinn : inn ≤ 30)
    (hL : ∀ inn' i' r', inn' ≤ 30 → i' ≤ N → lst l F inn' i' = some r' → SFit N i' r' ∧ ∀ W, RCtx l v W → Calls Tryz.prog 113 #[v, .int .i64 i', .int .i64 inn'] W (LAns r' W))
    (i : Nat) (r : SRes) (hi : i ≤ N) (hr : brc (lst l F) l inn i = some r) : SFit N i r ∧ ∀ W, RCtx l v W → Calls Tryz.prog 127 #[v, .int .i64 i, .int .i64 inn] W (LAns r W) := by
  subst hN
  by_cases h30 : inn = 30
  · subst h30
    have hb : ∀ L L' : Nat → Nat → Option SRes, brc L l 30 i = brc L' l 30 i := fun L L' => by unfold brc; simp
    rw [hb _ (fun _ _ => none)] at hr
    exact ⟨brc_fit l (fun _ _ => none) 30 i r hi (fun _ _ _ _ h => by cases h) hr, fun W hW => rbraced_any l v i 30 (fun _ _ => none) r W hW (by omega) hr (fun _ _ _ h => by cases h)⟩
  · refine ⟨?_, fun W hW => rbraced_any l v i inn (lst l F) r W hW hinn hr (fun i' r' h1 h2 => ?_)⟩
    · unfold brc at hr
      by_cases h1 : sgAt l i [123] = true
      · rw [if_pos h1] at hr
        have hlt := sgAt_lt h1
        rw [if_neg (by omega)] at hr
        cases h3 : lst l F (inn + 1) (i + 1) with
        | none => rw [h3] at hr; cases hr
        | some r3 =>
          rw [h3] at hr
          have hf := (hL (inn + 1) (i + 1) r3 (by omega) (by omega) h3).1
          cases r3 with
          | err k a => cases hr; exact hf
          | ok b j =>
            obtain ⟨f1, f2, f3⟩ := hf
            by_cases h4 : sgAt l j [125] = true
            · have := sgAt_lt h4
              simp only [if_pos h4] at hr
              cases hr
              exact ⟨by omega, by omega, by omega⟩
            · simp only [if_neg h4] at hr
              cases hr
              exact refK_ne _ _
      · rw [if_neg h1] at hr; cases hr; exact refK_ne _ _
    · obtain ⟨k1, k2⟩ := hL (inn + 1) i' r' (by omega) h1 h2
      exact ⟨k1, fun W hW => k2 W hW⟩
theorem rkind_any (l : List Tok) (v : Value) (i : Nat) (w : World) (hx : RCtx l v w) (hlt : i < l.length) :
    Calls Tryz.prog 125 #[v, .int .i64 i] w fun e w' => e = .returned (.int .i64 (kindL l i)) ∧ Below w.heap.size w w' := by
  by_cases hk : (tokO l i).1 = 1
  · exact rkind_word l v i w hx hlt hk
  · have h : kindL l i = 0 := by unfold kindL; rw [if_neg (fun h => hk h.2)]
    rw [h]
    exact rkind_other l v i w hx hlt hk
set_option maxRecDepth 100000 in
set_option maxHeartbeats 8000000 in
theorem rlist_step (l : List Tok) (v : Value) (f inn i : Nat) (r : SRes) (w : World) (hx : RCtx l v w) (hinn : inn ≤ 30) (hi : i ≤ l.length) (hr : lst l f inn i = some r)
    (hL : ∀ f' inn' i' r', f' < f → inn' ≤ 30 → i' ≤ l.length → lst l f' inn' i' = some r' → SFit l.length i' r' ∧ ∀ W, RCtx l v W → Calls Tryz.prog 113 #[v, .int .i64 i', .int .i64 inn'] W (LAns r' W)) :
    Calls Tryz.prog 113 #[v, .int .i64 i, .int .i64 inn] w (LAns r w) := by
  have HX := Lib.hid hx
  have HL := Lib.hid hL
  have HR := Lib.hid hr
  have hlen := hx.hn
  obtain ⟨ad0, cap0, rfl, hj0⟩ := hx.ht
  clear hj0 hL
  obtain ⟨N, hN⟩ : ∃ N, N = l.length := ⟨_, rfl⟩
  have HN := Lib.hid hN
  rw [← hN] at HX HL hlen hi ⊢
  clear hx hN hr
  go_enter Tryz.func113, Tryz.ntmps113
  go_wp2
  go_loopg [1, 10] f (fun fuel i' va wr => ∃ (acc : List St) (j : Nat) (r' : SRes), i' = .int .i64 j ∧ fuel ≤ f ∧ j ≤ N ∧ acc.length ≤ j ∧ lst l fuel inn j = some r' ∧ r = comb acc r' ∧ SOwn wr w.heap.size va acc ∧ Below w.heap.size w wr)
  case atStart => exact ⟨[], i, r, rfl, Nat.le_refl _, hi, Nat.zero_le _, HR.out, by cases r <;> rfl, SOwn.nil _ _, Below.refl _ _⟩
  case round =>
    obtain ⟨acc, j, r', rfl, hfu, hj, hacc, hrun, hcomb, hs, hb⟩ := hrel
    obtain ⟨F, hF⟩ : ∃ F, gk = F + 1 := by
      cases gk with
      | zero => cases hrun
      | succ F => exact ⟨F, rfl⟩
    subst hF
    have HS := Lib.hid hs
    have HB := Lib.hid hb
    have HXR := Lib.hid (HX.out.below hb)
    have HCO := Lib.hid hcomb
    obtain ⟨ada, capa, rfl⟩ := sown_shape hs
    obtain ⟨na, hna⟩ : ∃ n, n = acc.length := ⟨_, rfl⟩
    have HNA := Lib.hid hna
    rw [← hna] at HS hacc ⊢
    have m1 : F < F + 1 := by omega
    rw [lst] at hrun
    clear hs hb hcomb hna HR
    by_cases hgo : j < l.length ∧ sgAt l j [125] = false
    · rw [if_pos hgo] at hrun
      obtain ⟨hjl, h125⟩ := hgo
      have HI := Lib.hid (ris_any l _ j ⟨#[125]⟩ wr HXR.out.ht HXR.out.hn false h125)
      have HK := Lib.hid (rkind_any l _ j wr HXR.out hjl)
      have hjN : j < N := by have := HN.out; omega
      have hk13 := kindL_le l j
      obtain ⟨gt, rfl, hgt⟩ : ∃ gt, ad0 = some ⟨gt, 0, none⟩ ∧ gt < w.heap.size := by
        obtain ⟨ad', cap', hv, hc⟩ := HX.out.ht
        obtain ⟨g', hg', hl', _⟩ := hc j hjl
        cases hv
        exact ⟨g', hg', hl'⟩
      have hfit := fun K tp => fld_fit l HX.out.plOK (formL K) (j + 1) (st0 K tp) (by omega)
      have HFLD := fun (K tp : Nat) (W : World) (hW : RCtx l (.slice (some ⟨gt, 0, none⟩) N cap0) W) (h1 : 1 ≤ K) (h2 : K ≤ 13) => rfields_any l _ (j + 1) K tp W hW (by omega) h1 h2
      obtain ⟨K, hK⟩ : ∃ K, K = kindL l j := ⟨_, rfl⟩
      have HKL := Lib.hid hK
      rw [← hK] at hrun HK hk13
      clear h125 hK
      go_wp2_with (go_at_call 83; refine HI.out.mono ?_; rintro e w4 ⟨rfl, rfl⟩)
      refine HK.out.mono ?_
      rintro e w4 ⟨rfl, hb4⟩
      have HB4 := Lib.hid (HB.out.trans (hb4.mono HB.out.size))
      have HS4 := Lib.hid (HS.out.below hb4)
      have HX4 := Lib.hid (HX.out.below HB4.out)
      obtain ⟨_, _, _, c3⟩ := (HX4.out.ht.at2 rfl hjl : _ ∧ _ ∧ _ ∧ _)
      obtain ⟨tp, htp⟩ : ∃ t, t = plc l j := ⟨_, rfl⟩
      rw [← htp] at c3 hrun
      have hgt4 : gt < w4.heap.size := Nat.lt_of_lt_of_le hgt HB4.out.size
      have HTP := Lib.hid htp
      clear hb4 htp HB HS HXR HI HK
      by_cases hK0 : K = 0
      · rw [if_pos hK0] at hrun
        cases hrun
        have hre : r = .err 5 tp := HCO.out
        subst hre
        have q1 : ((K : Int) == 0) = true := by rw [hK0]; rfl
        clear hfit HFLD
        go_wp2
        go_quiet (fail)
        go_wp2
        refine bodyPost_ret (v := .tuple #[.slice none 0 0, .int .i64 0, .int .i64 5, .int .i64 tp]) (by simp [results, Tryz.results113, go_sem]) rfl ⟨rfl, below_drewN HB4.out _⟩
      · rw [if_neg hK0] at hrun
        have q1 : ((K : Int) == 0) = false := by simp; omega
        have hff := hfit K tp
        have HFI : Hid (Calls Tryz.prog 126 #[.slice (some ⟨gt, 0, none⟩) N cap0, .int .i64 ((j : Int) + 1), .agg #[.int .i64 K, .string ⟨#[]⟩, .string ⟨#[]⟩, .slice none 0 0, .slice none 0 0, .bool false, .int .i64 0, .int .i64 0, .int .i64 tp]] w4 (FAns (fld l (formL K) (j + 1) (st0 K tp)) w4)) := HFLD K tp w4 HX4.out (by omega) hk13
        clear hfit HFLD
        go_wp2_with fail
        refine HFI.out.mono ?_
        clear HFI c3
        cases hfl : fld l (formL K) (j + 1) (st0 K tp) with
        | err k1 a1 =>
          rw [hfl] at hrun hff
          cases hrun
          have hre : r = .err k1 a1 := HCO.out
          subst hre
          have hk1 : k1 ≠ 0 := hff
          have q2 : ((k1 : Int) != 0) = true := by simp; omega
          clear hff hfl hk1
          rintro e w5 ⟨x, ve, vf, rfl, ho1, ho2, hb5⟩
          have HB5 := Lib.hid (HB4.out.trans (hb5.mono HB4.out.size))
          obtain ⟨a1', c1', rfl, hj1⟩ := own_shape ho1
          obtain ⟨a2', c2', rfl, hj2⟩ := own_shape ho2
          clear hj1 hj2 ho1 ho2 hb5
          unfold St.cells
          go_wp2
          refine bodyPost_ret (v := .tuple #[.slice none 0 0, .int .i64 0, .int .i64 k1, .int .i64 a1]) (by simp [results, Tryz.results113, go_sem]) rfl ⟨rfl, HB5.out.alloc HB5.out.size _⟩
        | ok x j1 =>
          rw [hfl] at hrun hff
          obtain ⟨hj1a, hj1b⟩ := hff
          rintro e w5 ⟨ve, vf, rfl, ho1, ho2, hb5⟩
          obtain ⟨a1', c1', rfl, hj1⟩ := own_shape ho1
          obtain ⟨a2', c2', rfl, hj2⟩ := own_shape ho2
          clear hj1 hj2 hfl
          have HLS : Hid (LS w (w5.alloc (.cells (x.cells (.slice a1' x.e.length c1') (.slice a2' x.f.length c2')) 61)) acc (.slice ada na capa) w5.heap.size x (.slice a1' x.e.length c1') (.slice a2' x.f.length c2')) := by
            have hb5' : Below w.heap.size w w5 := HB4.out.trans (hb5.mono HB4.out.size)
            have hal : Below w5.heap.size w5 (w5.alloc (.cells (x.cells (.slice a1' x.e.length c1') (.slice a2' x.f.length c2')) 61)) := (Below.refl _ _).alloc (Nat.le_refl _) _
            refine ⟨(HS4.out.below hb5).below hal, heap_alloc_new w5 _, own_mono (own_below ho1 hal) (Nat.zero_le _), own_mono (own_below ho2 hal) (Nat.zero_le _), hb5'.trans (hal.mono hb5'.size), ?_, hb5'.size⟩
            obtain ⟨ts, _, ht, _⟩ := HS4.out
            exact fun g hg => Nat.lt_of_lt_of_le (ht.lt g hg).2 hb5.size
          have HOK := HS4
          obtain ⟨me, hme⟩ : ∃ m, m = x.e.length := ⟨_, rfl⟩
          obtain ⟨mf, hmf⟩ : ∃ m, m = x.f.length := ⟨_, rfl⟩
          have HME := Lib.hid hme
          have HMF := Lib.hid hmf
          rw [← hme, ← hmf] at HLS ⊢
          have HRUN := Lib.hid hrun
          have hj1N : j1 ≤ N := by have := HN.out; omega
          have hj1j : j + 1 ≤ j1 := hj1a
          clear hrun ho1 ho2 hb5 hme hmf HS4 HB4 hj1a hj1b HOK HX4 hgt4
          unfold St.cells at HLS ⊢
          go_upto_region 11 with fail
          obtain ⟨b, hbb⟩ : ∃ b, b = w5.heap.size := ⟨_, rfl⟩
          rw [← hbb] at HLS ⊢
          generalize (w5.alloc (.cells #[.int .i64 x.kind, .string x.reg, .string x.loc, .slice a1' me c1', .slice a2' mf c2', .bool x.ne, .int .i64 x.body, .int .i64 x.els, .int .i64 x.pl] 61)) = w6 at HLS ⊢
          clear hbb
          have hF : F < f := by omega
          have HBR := Lib.hid (fun i' r' h1 h2 => rbr (inn := inn) HN.out hinn (fun inn' i' r' => HL.out F inn' i' r' hF) i' r' h1 h2)
          have H6 := HLS
          obtain ⟨bk, hbk⟩ : ∃ bk, bk = blkB K := ⟨_, rfl⟩
          have HBK := Lib.hid hbk
          have HRB := rblock_any K
          rw [← hbk] at HRB
          have HRB2 := Lib.hid HRB
          clear HLS hbk HRB
          go_upto_if 67 with (go_at_call 94; refine (HRB2.out _).mono ?_; rintro e w' ⟨rfl, rfl⟩)
          go_cut [13, 16] (fun s13 s16 wx => ∃ (bs : List St) (vb : Value) (j2 : Nat), s13 = .int .i64 j2 ∧ s16 = vb ∧ (if blkB K then brc (lst l F) l inn j1 else some (.ok [] j1)) = some (.ok bs j2) ∧ LS w wx acc (.slice ada na capa) b x (.slice a1' me c1') (.slice a2' mf c2') ∧ SOwn wx (b + 1) vb bs ∧ j1 ≤ j2 ∧ j2 ≤ N ∧ bs.length ≤ j2 - j1)
          case first =>
            cases bk with
            | false =>
              go_wp2
              go_meet
              refine ⟨[], _, j1, rfl, rfl, ?_, H6.out, SOwn.nil _ _, Nat.le_refl _, hj1N, by simp⟩
              rw [← HBK.out]; rfl
            | true =>
              have HRN := HRUN.out
              rw [← HBK.out] at HRN
              cases hbr : brc (lst l F) l inn j1 with
              | none =>
                rw [if_pos rfl, hbr] at HRN; cases HRN
              | some rb =>
                rw [if_pos rfl, hbr] at HRN
                obtain ⟨hbf, hbc⟩ := HBR.out j1 rb hj1N hbr
                have HBC := Lib.hid (hbc w6 (HX.out.below H6.out.below))
                have HBRB := Lib.hid hbr
                clear hbc hbr
                go_wp2_with fail
                refine HBC.out.mono ?_
                cases rb with
                | err k1 a1 =>
                  cases HRN
                  have hre : r = .err k1 a1 := HCO.out
                  subst hre
                  have hk1 : k1 ≠ 0 := hbf
                  have q2 : ((k1 : Int) != 0) = true := by simp; omega
                  clear hbf hk1
                  rintro e w7 ⟨rfl, hb7⟩
                  go_wp2
                  refine bodyPost_ret (v := .tuple #[.slice none 0 0, .int .i64 0, .int .i64 k1, .int .i64 a1]) (by simp [results, Tryz.results113, go_sem]) rfl ⟨rfl, H6.out.below.trans (hb7.mono H6.out.below.size)⟩
                | ok bs j2 =>
                  obtain ⟨hf1, hf2, hf3⟩ := hbf
                  clear HRN
                  rintro e w7 ⟨vb, rfl, hsb, hb7⟩
                  have H7 := Lib.hid (H6.out.under hb7)
                  have HSB := Lib.hid (hsb.mono (H6.out.blk.lt : b + 1 ≤ w6.heap.size))
                  clear hsb
                  go_wp2
                  go_meet
                  refine ⟨bs, vb, j2, rfl, rfl, ?_, H7.out, HSB.out, hf1, by have := HN.out; omega, hf3⟩
                  rw [← HBK.out, if_pos rfl]; exact HBRB.out
          case rest =>
            obtain ⟨bs, vb, j2, rfl, rfl, hbrc, hls, hsb, hj12, hj2N, hbl⟩ := hcut
            obtain ⟨adb, capb, hvb⟩ := sown_shape hsb
            subst hvb
            have H8 := Lib.hid hls
            have HSB := Lib.hid hsb
            have HBRC := Lib.hid hbrc
            obtain ⟨nb, hnb⟩ : ∃ n, n = bs.length := ⟨_, rfl⟩
            have HNB := Lib.hid hnb
            rw [← hnb] at HSB hbl ⊢
            clear hls hsb hbrc hnb H6
            go_upto_region 17 with fail
            obtain ⟨el, hel⟩ : ∃ el, el = (decide (K = 10) && elseAt l j2) := ⟨_, rfl⟩
            have HEL := Lib.hid hel
            go_cut [106] (fun s106 wx => s106 = .bool el ∧ wc = wx)
            case first =>
              by_cases hk10 : K = 10
              · have q10 : ((K : Int) == 10) = true := by rw [hk10]; rfl
                by_cases hj2 : j2 < N
                · have hj2l : j2 < l.length := by have := HN.out; omega
                  obtain ⟨c0, c1, _, _⟩ := ((HX.out.below H8.out.below).ht.at2 rfl hj2l : _ ∧ _ ∧ _ ∧ _)
                  have hgtc : gt < wc.heap.size := Nat.lt_of_lt_of_le hgt H8.out.below.size
                  obtain ⟨tk, htk⟩ : ∃ t, t = (tokO l j2).1 := ⟨_, rfl⟩
                  obtain ⟨tx, htx⟩ : ∃ t, t = txt l j2 := ⟨_, rfl⟩
                  have hel2 : el = (decide (tk = 1) && (tx.data.toList == [101, 108, 115, 101])) := by
                    rw [hel, htk, htx, hk10]; rfl
                  rw [← htk] at c0
                  rw [← htx] at c1
                  clear hel htk htx hj2l hk10
                  by_cases h1 : tk = 1
                  · have q1' : ((tk : Int) == 1) = true := by rw [h1]; rfl
                    have q3 : (tx.toList == [101, 108, 115, 101]) = el := by rw [hel2, h1, Lib.toList_data]; rfl
                    clear hel2 h1
                    cases el with
                    | true =>
                      go_wp2
                      go_meet
                      exact ⟨rfl, rfl⟩
                    | false =>
                      go_wp2
                      go_meet
                      exact ⟨rfl, rfl⟩
                  · have q1' : ((tk : Int) == 1) = false := by simp; omega
                    have hre : el = false := by rw [hel2]; simp [h1]
                    subst hre
                    clear hel2 h1
                    go_wp2
                    go_meet
                    exact ⟨rfl, rfl⟩
                · have hre : el = false := by
                    rw [hel]
                    unfold elseAt tokO
                    rw [List.getElem?_eq_none (by have := HN.out; omega)]
                    simp
                  subst hre
                  clear hel hk10
                  go_wp2
                  go_meet
                  exact ⟨rfl, rfl⟩
              · have q10 : ((K : Int) == 10) = false := by simp; omega
                have hre : el = false := by rw [hel]; simp [hk10]
                subst hre
                clear hel hk10
                go_wp2
                go_meet
                exact ⟨rfl, rfl⟩
            case rest =>
              obtain ⟨rfl, rfl⟩ := hcut
              clear hel
              go_upto_if 106 with fail
              go_cut [13, 17] (fun s13 s17 wx => ∃ (os : List St) (vo : Value) (j3 : Nat), s13 = .int .i64 j3 ∧ s17 = vo ∧ (if el then brc (lst l F) l inn (j2 + 1) else some (.ok [] j2)) = some (.ok os j3) ∧ LS w wx acc (.slice ada na capa) b x (.slice a1' me c1') (.slice a2' mf c2') ∧ SOwn wx (b + 1) (.slice adb nb capb) bs ∧ SOwn wx (b + 1) vo os ∧ j2 ≤ j3 ∧ j3 ≤ N ∧ os.length ≤ j3 - j2)
              case first =>
                cases el with
                | false =>
                  go_wp2
                  go_meet
                  exact ⟨[], _, j2, rfl, rfl, rfl, H8.out, HSB.out, SOwn.nil _ _, Nat.le_refl _, hj2N, by simp⟩
                | true =>
                  have hel' := HEL.out
                  have hK10 : K = 10 ∧ elseAt l j2 = true := by simpa using hel'.symm
                  have hj2l : j2 < l.length := by
                    have h := hK10.2
                    unfold elseAt tokO at h
                    by_cases h1 : j2 < l.length
                    · exact h1
                    · rw [List.getElem?_eq_none (by omega)] at h; simp at h
                  have HRN := HRUN.out
                  rw [HBRC.out] at HRN
                  simp only [if_pos hK10] at HRN
                  cases hbr : brc (lst l F) l inn (j2 + 1) with
                  | none => rw [hbr] at HRN; cases HRN
                  | some rb =>
                    rw [hbr] at HRN
                    obtain ⟨hbf, hbc⟩ := HBR.out (j2 + 1) rb (by have := HN.out; omega) hbr
                    have HBC : Hid (Calls Tryz.prog 127 #[.slice (some ⟨gt, 0, none⟩) N cap0, .int .i64 ((j2 : Int) + 1), .int .i64 inn] wc (LAns rb wc)) := hbc wc (HX.out.below H8.out.below)
                    have HBRB := Lib.hid hbr
                    clear hbc hbr hK10 hel' hj2l
                    go_wp2_with fail
                    refine HBC.out.mono ?_
                    cases rb with
                    | err k1 a1 =>
                      cases HRN
                      have hre : r = .err k1 a1 := HCO.out
                      subst hre
                      have hk1 : k1 ≠ 0 := hbf
                      have q2 : ((k1 : Int) != 0) = true := by simp; omega
                      clear hbf hk1
                      rintro e w7 ⟨rfl, hb7⟩
                      go_wp2
                      refine bodyPost_ret (v := .tuple #[.slice none 0 0, .int .i64 0, .int .i64 k1, .int .i64 a1]) (by simp [results, Tryz.results113, go_sem]) rfl ⟨rfl, H8.out.below.trans (hb7.mono H8.out.below.size)⟩
                    | ok os j3 =>
                      obtain ⟨hf1, hf2, hf3⟩ := hbf
                      clear HRN
                      rintro e w7 ⟨vo, rfl, hso, hb7⟩
                      have H9 := Lib.hid (H8.out.under hb7)
                      have HSB9 := Lib.hid (HSB.out.below hb7)
                      have HSO := Lib.hid (hso.mono (H8.out.blk.lt : b + 1 ≤ wc.heap.size))
                      clear hso
                      go_wp2
                      go_meet
                      exact ⟨os, vo, j3, rfl, rfl, HBRB.out, H9.out, HSB9.out, HSO.out, by omega, by have := HN.out; omega, by omega⟩
              case rest =>
                clear H8 HSB
                obtain ⟨os, vo, j3, rfl, rfl, hbr2, hls, hsb, hso, hj23, hj3N, hol⟩ := hcut
                obtain ⟨ado, capo, hvo⟩ := sown_shape hso
                subst hvo
                obtain ⟨no, hno⟩ : ∃ n, n = os.length := ⟨_, rfl⟩
                have HNO := Lib.hid hno
                rw [← hno] at hso hol ⊢
                have H8 := Lib.hid hls
                have HCN := Lib.hid (hls.counts hsb hso (nb : Nat) (no : Nat))
                obtain ⟨⟨x0, x1, x2, x3, x4, x5, x6, x7, x8⟩, xfr⟩ := hls.blk.facts
                have xf6 := xfr 6
                have xf7 := xfr 7
                have HRUN3 : Hid (∃ r'', lst l F inn j3 = some r'' ∧ r = comb (acc ++ ({ x with body := (bs.length : Nat), els := (os.length : Nat) } :: (bs ++ os))) r'') := by
                  have h := HRUN.out
                  rw [HBRC.out] at h
                  have he : (if K = 10 ∧ elseAt l j2 = true then brc (lst l F) l inn (j2 + 1) else some (.ok [] j2)) = some (.ok os j3) := by
                    rw [← hbr2, HEL.out]
                    by_cases hc : K = 10 ∧ elseAt l j2 = true
                    · rw [if_pos hc, if_pos (by simp [hc.1, hc.2])]
                    · rw [if_neg hc, if_neg (by simpa using hc)]
                  simp only [he] at h
                  cases h3 : lst l F inn j3 with
                  | none => rw [h3] at h; cases h
                  | some r'' =>
                    rw [h3] at h
                    refine ⟨r'', rfl, ?_⟩
                    cases r'' with
                    | err k a => cases h; exact HCO.out
                    | ok xs j4 => cases h; rw [HCO.out]; simp [comb]
                clear hbr2 hls hsb hso hno xfr HRUN HBRC HEL HBR
                go_upto_region 25 with fail
                obtain ⟨H10, HB10, HO10⟩ := HCN.out
                generalize ((wc.setCell ⟨b, 6, none⟩ (.int .i64 (nb : Nat))).setCell ⟨b, 7, none⟩ (.int .i64 (no : Nat))) = w7 at H10 HB10 HO10 ⊢
                clear HCN x0 x1 x2 x3 x4 x5 x6 x7 x8 xf6 xf7 H8
                obtain ⟨⟨x0, x1, x2, x3, x4, x5, x6, x7, x8⟩, _⟩ := H10.blk.facts
                simp only [] at x0 x1 x2 x3 x4 x5 x6 x7 x8
                obtain ⟨ta, ta1, ta2, ta3⟩ := H10.acc
                obtain ⟨tb, tb1, tb2, tb3⟩ := HB10
                obtain ⟨tc, tc1, tc2, tc3⟩ := HO10
                have hla : ta.length = na := by rw [HNA.out, ← ta1, List.length_map]
                have hlb : tb.length = nb := by rw [HNB.out, ← tb1, List.length_map]
                have hlc : tc.length = no := by rw [HNO.out, ← tc1, List.length_map]
                rw [hla] at ta2
                rw [hlb] at tb2
                rw [hlc] at tc2
                obtain ⟨y, hy⟩ : ∃ y : St, y = { x with body := (nb : Nat), els := (no : Nat) } := ⟨_, rfl⟩
                have hal : Below w7.heap.size w7 (w7.alloc (.cells #[.int .i64 x.kind, .string x.reg, .string x.loc, .slice a1' me c1', .slice a2' mf c2', .bool x.ne, .int .i64 (nb : Nat), .int .i64 (no : Nat), .int .i64 x.pl] 61)) := (Below.refl _ _).alloc (Nat.le_refl _) _
                have HNEW : Hid ((w7.alloc (.cells #[.int .i64 x.kind, .string x.reg, .string x.loc, .slice a1' me c1', .slice a2' mf c2', .bool x.ne, .int .i64 (nb : Nat), .int .i64 (no : Nat), .int .i64 x.pl] 61)).ownsRow w7.heap.size 61 9 (.slice (some ⟨w7.heap.size, 0, none⟩) 1 1) 1 (rowS [(y, .slice a1' me c1', .slice a2' mf c2')])) := by rw [hy]; exact own_newS w7 { x with body := (nb : Nat), els := (no : Nat) } (.slice a1' me c1') (.slice a2' mf c2')
                have HSY : Hid (SIn (w7.alloc (.cells #[.int .i64 x.kind, .string x.reg, .string x.loc, .slice a1' me c1', .slice a2' mf c2', .bool x.ne, .int .i64 (nb : Nat), .int .i64 (no : Nat), .int .i64 x.pl] 61)) [(y, .slice a1' me c1', .slice a2' mf c2')]) := by
                  intro t ht
                  obtain rfl := List.mem_singleton.1 ht
                  rw [hy]
                  exact ⟨own_below H10.e hal, own_below H10.f hal⟩
                have HA8 := Lib.hid (own_below ta2 hal)
                have HB8 := Lib.hid (own_below tb2 hal)
                have HC8 := Lib.hid (own_below tc2 hal)
                have HSA := Lib.hid (ta3.below hal)
                have HSB := Lib.hid (tb3.below hal)
                have HSC := Lib.hid (tc3.below hal)
                have HBW : Hid (Below w.heap.size w (w7.alloc (.cells #[.int .i64 x.kind, .string x.reg, .string x.loc, .slice a1' me c1', .slice a2' mf c2', .bool x.ne, .int .i64 (nb : Nat), .int .i64 (no : Nat), .int .i64 x.pl] 61))) := H10.below.trans (hal.mono H10.below.size)
                have hwle := HBW.out.size
                have HLT := Lib.hid H10.lt
                have hbnd : na + 1 + nb + no ≤ j3 ∧ j3 ≤ 100000 := by omega
                have hy2 := Lib.hid hy
                clear hal H10 ta2 tb2 tc2 ta3 tb3 tc3 hy
                go_wp2_with (at_builtin; refine append_sts2 rfl (.tmp 129) (.tmp 131) rfl w.heap.size w7.heap.size na 1 _ _ (rowS ta) [(y, .slice a1' me c1', .slice a2' mf c2')] rfl rfl HA8.out HNEW.out HSY.out rfl (by omega) hwle ?_)
                intro v8 w8 ho8 hg8 hal8
                obtain ⟨ad8, cap8, rfl, hj8⟩ := own_shape ho8
                clear hj8
                have HO8 := Lib.hid ho8
                have HSA8 := Lib.hid (HSA.out.grown HA8.out hg8)
                have HSY8 := Lib.hid (HSY.out.grown HA8.out hg8)
                have HSB8 := Lib.hid (HSB.out.grown HA8.out hg8)
                have HSC8 := Lib.hid (HSC.out.grown HA8.out hg8)
                have HB9 := Lib.hid (HB8.out.kept hg8 (own_off HB8.out (by omega) HLT.out))
                have HC9 := Lib.hid (HC8.out.kept hg8 (own_off HC8.out (by omega) HLT.out))
                have HW8 := Lib.hid (Below.grown HBW.out hg8 hwle (fun k hk => (HA8.out.lt k hk).1))
                have hne8 : (Value.slice ado no capo).ownBlock = none ∨ (Value.slice ado no capo).ownBlock ≠ (Value.slice ad8 (na + 1) cap8).ownBlock := by
                  rcases hal8 with h | h
                  · rw [h]; exact own_off HC8.out (by omega) HLT.out
                  · cases hv : (Value.slice ado no capo).ownBlock with
                    | none => exact .inl rfl
                    | some g =>
                      right
                      rw [h]
                      intro h0
                      have h1 := (HC8.out.lt g hv).2
                      have h2 := Option.some.inj h0
                      have h3 : g < w7.heap.size + 1 := by simpa using h1
                      have h4 : g = w7.heap.size + 1 := by simpa using h2
                      omega
                have HNE8 := Lib.hid hne8
                have hw8 := HW8.out.size
                clear HA8 HSA HSY HSB HSC HB8 HC8 HBW hg8 hal8 ho8 hne8 HNEW x0 x1 x2 x3 x4 x5 x6 x7 x8
                go_wp2_with (at_builtin; refine append_sts2 rfl (.tmp 133) (.tmp 134) rfl w.heap.size (b + 1) (na + 1) nb _ _ (rowS ta ++ rowS [(y, .slice a1' me c1', .slice a2' mf c2')]) tb rfl rfl HO8.out HB9.out HSB8.out hlb.symm (by omega) hw8 ?_)
                intro v9 w9 ho9 hg9 hal9
                obtain ⟨ad9, cap9, rfl, hj9⟩ := own_shape ho9
                clear hj9
                have HO9 := Lib.hid ho9
                have HSA9 := Lib.hid (HSA8.out.grown HO8.out hg9)
                have HSY9 := Lib.hid (HSY8.out.grown HO8.out hg9)
                have HSB9 := Lib.hid (HSB8.out.grown HO8.out hg9)
                have HSC9 := Lib.hid (HSC8.out.grown HO8.out hg9)
                have HC10 := Lib.hid (HC9.out.kept hg9 HNE8.out)
                have HW9 := Lib.hid (Below.grown HW8.out hg9 hw8 (fun k hk => (HO8.out.lt k hk).1))
                have hw9 := HW9.out.size
                clear HO8 HSA8 HSY8 HSB8 HSC8 HB9 HC9 HW8 hg9 hal9 ho9 HNE8 hw8
                have t1 : na + 1 + nb + no ≤ 1000000 := by omega
                have t2 : w9.ownsRow w.heap.size 61 9 (.slice ad9 (na + 1 + nb) cap9) (na + 1 + nb) (rowS ta ++ (rowS [(y, .slice a1' me c1', .slice a2' mf c2')] ++ rowS tb)) := HO9.out
                have t3 : w9.ownsRow (b + 1) 61 9 (.slice ado no capo) no (rowS tc) := HC10.out
                have t4 : SIn w9 tc := HSC9.out
                go_wp2_with (at_builtin; refine append_sts2 rfl (.tmp 136) (.tmp 137) rfl w.heap.size (b + 1) (na + 1 + nb) no _ _ (rowS ta ++ (rowS [(y, .slice a1' me c1', .slice a2' mf c2')] ++ rowS tb)) tc rfl rfl t2 t3 t4 hlc.symm t1 hw9 ?_)
                intro v10 w10 ho10 hg10 hal10
                obtain ⟨ad10, cap10, rfl, hj10⟩ := own_shape ho10
                clear hj10
                have HO10 := Lib.hid ho10
                have HSA10 := Lib.hid (HSA9.out.grown HO9.out hg10)
                have HSY10 := Lib.hid (HSY9.out.grown HO9.out hg10)
                have HSB10 := Lib.hid (HSB9.out.grown HO9.out hg10)
                have HSC10 := Lib.hid (HSC9.out.grown HO9.out hg10)
                have HW10 := Lib.hid (Below.grown HW9.out hg10 hw9 (fun k hk => (HO9.out.lt k hk).1))
                clear HO9 HSA9 HSY9 HSB9 HSC9 HC10 HW9 hg10 hal10 ho10 hw9
                have HFIN : Hid (SOwn w10 w.heap.size (.slice ad10 (na + 1 + nb + no) cap10) (acc ++ ({ x with body := (bs.length : Nat), els := (os.length : Nat) } :: (bs ++ os)))) := by
                  refine ⟨ta ++ ([(y, .slice a1' me c1', .slice a2' mf c2')] ++ (tb ++ tc)), ?_, ?_, HSA10.out.append (HSY10.out.append (HSB10.out.append HSC10.out))⟩
                  · rw [List.map_append, List.map_append, List.map_append, ta1, tb1, tc1, ← HNB.out, ← HNO.out, ← hy2.out]; rfl
                  · rw [rowS_append, rowS_append, rowS_append, List.length_append, List.length_append, List.length_append, hla, hlb, hlc, List.length_singleton, show na + (1 + (nb + no)) = na + 1 + nb + no by omega]
                    exact HO10.out
                obtain ⟨r'', hr3, hcomb3⟩ := HRUN3.out
                have HR3 := Lib.hid hr3
                have HC3 := Lib.hid hcomb3
                have hal3 : (acc ++ ({ x with body := (bs.length : Nat), els := (os.length : Nat) } :: (bs ++ os))).length ≤ j3 := by
                  rw [List.length_append, List.length_cons, List.length_append, ← HNA.out, ← HNB.out, ← HNO.out]; omega
                have HA3 := Lib.hid hal3
                clear hr3 hcomb3 hal3 HO10 HSA10 HSY10 HSB10 HSC10 hy2
                go_wp2
                go_roundg F
                case measure => exact m1
                case rel => exact ⟨_, j3, r'', rfl, by omega, hj3N, HA3.out, HR3.out, HC3.out, HFIN.out, HW10.out⟩
    · rw [if_neg hgo] at hrun
      cases hrun
      have hre : r = .ok acc j := by rw [HCO.out]; show SRes.ok (acc ++ []) j = _; rw [List.append_nil]
      subst hre
      by_cases hjl : j < l.length
      · have h125 : sgAt l j [125] = true := by
          cases h : sgAt l j [125] with
          | true => rfl
          | false => exact absurd ⟨hjl, h⟩ hgo
        have HI := Lib.hid (ris_any l _ j ⟨#[125]⟩ wr HXR.out.ht HXR.out.hn true h125)
        have hjN : j < N := by have := HN.out; omega
        clear hgo h125 hjl
        go_wp2_with (go_at_call 83; refine HI.out.mono ?_; rintro e w4 ⟨rfl, rfl⟩)
        refine bodyPost_ret (v := .tuple #[.slice ada na capa, .int .i64 j, .int .i64 0, .int .i64 0]) (by simp [results, Tryz.results113, go_sem]) rfl ⟨_, rfl, HS.out, HB.out⟩
      · have hjN : N ≤ j := by have := HN.out; omega
        clear hgo hjl
        go_wp2
        refine bodyPost_ret (v := .tuple #[.slice ada na capa, .int .i64 j, .int .i64 0, .int .i64 0]) (by simp [results, Tryz.results113, go_sem]) rfl ⟨_, rfl, HS.out, HB.out⟩
end Go.Proofs.YtlpgafgiljffhaaGreatDoor
