/- Layer 6: Claim. -/
import Derived.Test.YtibkegalbcjmpaaOx
import Derived.Deep.DeepCutAuto
namespace Go.Proofs.Ytibkegalbcjmpaa
open Go.RowKit

set_option maxRecDepth 100000 in
set_option maxHeartbeats 4000000 in
theorem claim_any (l : List Nd) (v : Value) (m : Int) (lv tv cv : Value) (vars : List (ByteArray × Int × Int)) (ts : List TN) (w : World) (hv : NdsC w v l) (hn : l.length ≤ 100000) (hz : NmOK l) (hlv : VnsD w lv vars) (htv : TnsD w tv ts) (hcv : ∃ a n c, cv = .slice a n c)
    (n1 : vars.length ≤ 100000) (n2 : ts.length ≤ 100000) (n3 : ∀ x ∈ ts, x.regs.length ≤ 100000) (cs : List Opn) (ok : Bool) (hc : CodIs (rsvC (vars.map (·.1)) ts) l cs ok) :
    Calls Try.prog 13 #[v, .agg #[.int .i64 m, lv, tv, cv]] w (CAns cs ok w) := by
  have hls := hlv.shape
  have hts := htv.shape
  obtain ⟨wb, hwb⟩ : ∃ wb, wb = w.alloc (.cells #[.int .i64 m, lv, tv, cv] 28) := ⟨_, rfl⟩
  have hb : Below w.heap.size w wb := by rw [hwb]; exact (Below.refl _ _).alloc (Nat.le_refl _) _
  have hk : Bk wb w.heap.size 28 #[.int .i64 m, lv, tv, cv] := by rw [hwb]; exact Bk.new w _ _
  have HL := Lib.hid (fun (W : World) (h : Below wb.heap.size wb W) => locs_any vars m lv tv cv W (VnsD.below hlv (hb.trans (h.mono hb.size))) n1 (by obtain ⟨a, c, h⟩ := hls; exact ⟨a, _, c, h⟩) (by obtain ⟨a, c, h⟩ := hts; exact ⟨a, _, c, h⟩) hcv)
  have HN := Lib.hid (fun (W : World) (h : Below wb.heap.size wb W) => tnames_any ts m lv tv cv W (TnsD.below htv (hb.trans (h.mono hb.size))) n2 (by obtain ⟨a, c, h⟩ := hls; exact ⟨a, _, c, h⟩) (by obtain ⟨a, c, h⟩ := hts; exact ⟨a, _, c, h⟩) hcv)
  have HT := Lib.hid (fun (W : World) (h : Below wb.heap.size wb W) (p1 p2 : Nat) (hx : CtxC W p1 p2 w.heap.size (vars.map (·.1)) ts) => translateC l v p1 p2 w.heap.size (rsvC (vars.map (·.1)) ts) W (hv.below (hb.trans (h.mono hb.size))) hn hz (fun V hV xo xn xm xi xp o b ho => clm1_any (vars.map (·.1)) ts xo xn xm xi xp p1 p2 w.heap.size V (hx.below hV) o b ho) cs ok hc)
  have HX := Lib.hid (fun (W : World) (h : Below wb.heap.size wb W) (p1 p2 : Nat) (v1 v2 : Value) (h1 : W.cell? ⟨p1, 0, none⟩ = some v1) (h2 : W.cell? ⟨p2, 0, none⟩ = some v2) (s1 : StrsD W v1 (vars.map (·.1))) (s2 : StrsD W v2 (ts.map (·.nm))) => (⟨⟨v1, h1, s1⟩, ⟨v2, h2, s2⟩, ⟨m, lv, tv, cv, hk.below h, TnsD.below htv (hb.trans (h.mono hb.size))⟩, by rw [List.length_map]; exact n1, n2, n3⟩ : CtxC W p1 p2 w.heap.size (vars.map (·.1)) ts))
  obtain ⟨ad, cap, rfl, _⟩ := id hv
  obtain ⟨ad1, cap1, rfl⟩ := hls
  obtain ⟨ad2, cap2, rfl⟩ := hts
  obtain ⟨ad3, nn3, cap3, rfl⟩ := hcv
  generalize l.length = n at HT ⊢
  generalize vars.length = nn1 at HT HL HN HX hwb hk ⊢
  generalize ts.length = nn2 at HT HL HN HX hwb hk ⊢
  have k0 := hk.cell 0
  have k1 := hk.cell 1
  have k2 := hk.cell 2
  have k3 := hk.cell 3
  have kl := hk.lt
  have HKK := Lib.hid hk
  have HQ := Lib.hid (fun (W : World) (h : Below wb.heap.size wb W) => (⟨(hk.below h).cell 0, (hk.below h).cell 1, (hk.below h).cell 2, (hk.below h).cell 3, (hk.below h).lt⟩ : W.cell? ⟨w.heap.size, 0, none⟩ = some (.int .i64 m) ∧ W.cell? ⟨w.heap.size, 1, none⟩ = some (.slice ad1 nn1 cap1) ∧ W.cell? ⟨w.heap.size, 2, none⟩ = some (.slice ad2 nn2 cap2) ∧ W.cell? ⟨w.heap.size, 3, none⟩ = some (.slice ad3 nn3 cap3) ∧ w.heap.size < W.heap.size))
  have HB := Lib.hid hb
  have HWB := Lib.hid hwb
  clear hv hlv htv hn hz n1 n2 n3 hc hb hk hwb
  go_enter Try.func13, Try.ntmps13
  go_upto_region 1 with fail
  rw [← HWB.out]
  go_cut [6, 7, 8, 9, 10, 11] (fun s6 s7 s8 s9 s10 s11 wx => ∃ p1 p2, s6 = .pointer (some ⟨p1, 0, none⟩) ∧ s7 = .pointer (some ⟨p2, 0, none⟩) ∧ Fin wb wx p1 p2 (vars.map (·.1)) (ts.map (·.nm)))
  case first =>
    go_region_law (first
      | (go_simp; go_at_call 32; refine Calls.mono (HL.out _ (by first | exact (Below.refl _ _).drew | exact ((Below.refl _ _).alloc (Nat.le_refl _) _).drew | exact (((Below.refl _ _).alloc (Nat.le_refl _) _).alloc (by simp) _).drew)) ?_; rintro e w2 ⟨u1, rfl, o1, b2⟩; obtain ⟨au, cu, rfl, _⟩ := own_shape' o1; have hb2 : Below wb.heap.size wb w2 := (by first | exact Below.trans (Below.refl _ _).drew (b2.mono (by simp)) | exact Below.trans ((Below.refl _ _).alloc (Nat.le_refl _) _).drew (b2.mono (by simp)) | exact Below.trans (((Below.refl _ _).alloc (Nat.le_refl _) _).alloc (by simp) _).drew (b2.mono (by simp; omega))); obtain ⟨e0, e1, e2, e3, el⟩ := HQ.out _ hb2; (try have k6 : Bk w2 wb.heap.size 23 #[.slice none 0 0] := (by first | exact Bk.below (show Bk (wb.alloc (.cells #[.slice none 0 0] 23)).drew wb.heap.size 23 #[.slice none 0 0] from Bk.new wb 23 #[.slice none 0 0]) b2 | exact Bk.below (show Bk ((wb.alloc (.cells #[.slice none 0 0] 23)).alloc (.cells #[.slice none 0 0] 23)).drew wb.heap.size 23 #[.slice none 0 0] from (two_new wb 23 23 #[.slice none 0 0] #[.slice none 0 0]).2.1) b2)); (try have k7 : Bk w2 (wb.heap.size + 1) 23 #[.slice none 0 0] := Bk.below (show Bk ((wb.alloc (.cells #[.slice none 0 0] 23)).alloc (.cells #[.slice none 0 0] 23)).drew (wb.heap.size + 1) 23 #[.slice none 0 0] from (two_new wb 23 23 #[.slice none 0 0] #[.slice none 0 0]).2.2) b2); (try have c6 := k6.cell 0); (try have f6 := k6.fz 0); (try have l6 := k6.lt); (try have c7 := k7.cell 0); (try have f7 := k7.fz 0); (try have l7 := k7.lt))
      | (go_simp; go_at_call 33; refine Calls.mono (HN.out _ (by first | exact hb2 | exact hb2.alloc hb2.size _ | exact (hb2.alloc hb2.size _).alloc (by have := hb2.size; simp; omega) _)) ?_; rintro e w3 ⟨u2, rfl, o2, b3⟩; obtain ⟨av, cv2, rfl, _⟩ := own_shape' o2; have hb3 : Below wb.heap.size wb w3 := (by first | exact hb2.trans (b3.mono hb2.size) | exact (hb2.alloc hb2.size _).trans (b3.mono (by have := hb2.size; simp; omega)) | exact ((hb2.alloc hb2.size _).alloc (by have := hb2.size; simp; omega) _).trans (b3.mono (by have := hb2.size; simp; omega))); have s1 : StrsD w3 _ (vars.map (·.1)) := (by first | exact StrsD.below (strsD_of_own o1) b3 | exact StrsD.below (StrsD.below (strsD_of_own o1) ((Below.refl _ _).alloc (Nat.le_refl _) _)) b3 | exact StrsD.below (StrsD.below (strsD_of_own o1) (((Below.refl _ _).alloc (Nat.le_refl _) _).alloc (by simp) _)) b3); have s2 : StrsD w3 _ (ts.map (·.nm)) := strsD_of_own o2; (try have k8 : Bk w3 wb.heap.size 23 #[.slice none 0 0] := (by first | exact Bk.below k6 b3 | exact Bk.below (Bk.below k6 ((Below.refl _ _).alloc (Nat.le_refl _) _)) b3 | exact Bk.below (Bk.below k6 (((Below.refl _ _).alloc (Nat.le_refl _) _).alloc (by simp) _)) b3)); (try have c8 := k8.cell 0); (try have f8 := k8.fz 0); (try have l8 := k8.lt); (try have k9 : Bk w3 (wb.heap.size + 1) 23 #[.slice none 0 0] := (by first | exact Bk.below k7 b3 | exact Bk.below (Bk.below k7 ((Below.refl _ _).alloc (Nat.le_refl _) _)) b3 | exact Bk.below (Bk.below k7 (((Below.refl _ _).alloc (Nat.le_refl _) _).alloc (by simp) _)) b3)); (try have c9 := k9.cell 0); (try have f9 := k9.fz 0); (try have l9 := k9.lt); (try have k10 : Bk w3 w2.heap.size 23 #[.slice none 0 0] := (by first | exact Bk.below (Bk.new w2 23 #[.slice none 0 0]) b3 | exact Bk.below (two_new w2 23 23 #[.slice none 0 0] #[.slice none 0 0]).2.1 b3)); (try have k11 : Bk w3 (w2.heap.size + 1) 23 #[.slice none 0 0] := Bk.below (two_new w2 23 23 #[.slice none 0 0] #[.slice none 0 0]).2.2 b3); (try have c10 := k10.cell 0); (try have f10 := k10.fz 0); (try have l10 := k10.lt); (try have c11 := k11.cell 0); (try have f11 := k11.fz 0); (try have l11 := k11.lt)))
    all_goals
      have hbs := hb2.size
      have hbs3 : w2.heap.size ≤ w3.heap.size := by first | exact b3.size | (have := b3.size; simp at this; omega)
      go_wp2_with fail
      go_meet
      refine ⟨_, _, rfl, rfl, ?_⟩
      rw [List.length_map] at s1 s2
      first
        | with_reducible exact fin_nn hb3 s1 s2
        | with_reducible exact fin_nm hb3 s1 s2
        | ((with_reducible refine fin_sn hb3 s1 s2 ?_ ?_) <;> first | assumption | omega)
        | ((with_reducible refine fin_sm hb3 s1 s2 ?_ ?_) <;> first | assumption | omega)
        | ((with_reducible refine fin_ss hb3 s1 s2 ?_ ?_ ?_ ?_ ?_) <;> first | assumption | omega)
  case rest =>
    obtain ⟨p1, p2, rfl, rfl, hbx, v1, v2, x1, x2, y1, y2⟩ := hcut
    have HT2 := Lib.hid (HT.out _ hbx p1 p2 (HX.out _ hbx p1 p2 v1 v2 x1 x2 y1 y2))
    have HBX := Lib.hid (HB.out.trans (hbx.mono HB.out.size))
    clear hbx x1 x2 y1 y2 k0 k1 k2 k3 kl
    go_wp2_with fail
    refine HT2.out.mono ?_
    rintro e w4 ⟨sv, rfl, o4, b4⟩
    have O4 := Lib.hid (own_mono o4 HBX.out.size)
    have B4 := Lib.hid (HBX.out.trans (b4.mono HBX.out.size))
    clear o4 b4
    go_wp2
    go_ret2
    exact ⟨_, rfl, O4.out, B4.out⟩

end Go.Proofs.Ytibkegalbcjmpaa
