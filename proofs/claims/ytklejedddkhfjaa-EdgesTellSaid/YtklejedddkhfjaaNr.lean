/- Layer 14, the code: Reach. -/
import Derived.Test.YtklejedddkhfjaaNq
namespace Go.Proofs.Ytklejedddkhfjaa
set_option linter.unusedSimpArgs false
set_option linter.unusedVariables false
open Go.RowKit

def ReachZ (g : Gr) (F : List Int) (r : List Bool) : Prop := (rightG g = true → IsR (allL g) F (numN g) r) ∧ (rightG g = false → r = [])
theorem reachZ_one {g : Gr} {F : List Int} {r s : List Bool} (h1 : ReachZ g F r) (h2 : ReachZ g F s) : r = s := by
  cases h : rightG g with
  | true => exact isR_one (h1.1 h) (h2.1 h)
  | false => rw [h1.2 h, h2.2 h]
/-- The last one goes. -/
theorem own_pop {w : World} {B k : Nat} {ad : Option Addr} {n cap : Nat} {S : List Int} {x : Int} (h : w.ownsRow B 3 1 (.slice ad n cap) (S ++ [x]).length (ints (S ++ [x]))) (hk : S.length = k) :
    ∃ g, ad = some ⟨g, 0, none⟩ ∧ n = k + 1 ∧ k + 1 ≤ cap ∧ w.cell? ⟨g, k, none⟩ = some (.int .i64 x) ∧ g < w.heap.size ∧ w.ownsRow B 3 1 (.slice ad k cap) S.length (ints S) := by
  subst hk
  have hl : (S ++ [x]).length = S.length + 1 := by simp
  rw [hl] at h
  obtain ⟨h1, h2⟩ := h
  rcases h2 with ⟨hv, h2⟩ | ⟨g, cap', cur, hv, hB, hg, hle, hm, hcs, ht⟩
  · omega
  · injection hv with e1 e2 e3
    subst e1; subst e2; subst e3
    rw [Nat.mul_one] at hcs ht
    have hi : ints (S ++ [x]) = ints S ++ [.int .i64 x] := by simp [ints]
    rw [hi] at ht
    refine ⟨g, rfl, rfl, hle, ?_, (Array.getElem?_eq_some_iff.1 hg).1, by rw [ints_len, Nat.mul_one], .inr ⟨g, cap, cur, rfl, hB, hg, by omega, hm, by rw [Nat.mul_one]; exact hcs, ?_⟩⟩
    · rw [show w.cell? ⟨g, S.length, none⟩ = cur[S.length]? from Bk.cell (show Bk w g _ cur from hg) _]
      have : (cur.toList.take (S.length + 1))[S.length]? = some (.int .i64 x) := by
        rw [ht, List.getElem?_append_right (by rw [ints_len]; exact Nat.le_refl _), ints_len, Nat.sub_self]; rfl
      rw [List.getElem?_take, if_pos (by omega), Array.getElem?_toList] at this
      exact this
    · rw [Nat.mul_one]
      have : (cur.toList.take (S.length + 1)).take S.length = ints S := by
        rw [ht]
        exact List.take_left' (ints_len S)
      rw [List.take_take, Nat.min_eq_left (by omega)] at this
      exact this
theorem to_D {W : World} {ad : Option Addr} {m cap s t : Nat} {l : List Int} (h : IntsD W (.slice ad m cap) l) (hst : s ≤ t) (htm : t ≤ m) (hm : m ≤ cap) : IntsD W (.slice (if cap = s then ad else Option.map (fun x => x.add s) ad) (t - s) (cap - s)) ((l.take t).drop s) := by
  have h1 := SlD.drop (SlD.take h t cap htm (Nat.le_trans htm hm) (Nat.le_refl _)) s 1 rfl hst
  unfold sliced at h1
  rw [Nat.mul_one] at h1
  exact h1
theorem list_snoc {S : List Int} (h : 0 < S.length) : ∃ S0 x, S = S0 ++ [x] := ⟨S.dropLast, S.getLast (List.ne_nil_of_length_pos h), (List.dropLast_concat_getLast _).symm⟩

set_option maxRecDepth 100000 in
set_option maxHeartbeats 8000000 in
theorem reach_any (g : Gr) (F : List Int) (vs va vt vf : Value) (w : World) (hd : GrD w vs va vt g) (hfd : IntsD w vf F) (hn : g.st.length ≤ 1001 ∧ g.to.length ≤ 1000 ∧ g.ag.length ≤ 1000) (hF : F.length ≤ 1000) :
    Calls Try.prog 27 #[.agg #[vs, va, vt], vf] w fun e w' => ∃ v r, e = .returned v ∧ TrusD w' v r ∧ ReachZ g F r ∧ Below w.heap.size w w' := by
  obtain ⟨q, hq⟩ : ∃ q, rightG g = q := ⟨_, rfl⟩
  have HR := Lib.hid fun (W : World) (h : Below w.heap.size w W) => right14_any g vs va vt W (hd.below h) hn q hq
  have HCT := Lib.hid fun (W : World) (h : Below w.heap.size w W) (h1 : 1 ≤ g.st.length) => count_any vs va vt g W (hd.below h).s h1 (by omega)
  have HQ := Lib.hid hq
  have HD := Lib.hid hd
  have HFD := Lib.hid hfd
  have HSZ : Hid (g.to.length ≤ 1000 ∧ g.st.length ≤ 1001 ∧ F.length ≤ 1000) := Lib.hid ⟨hn.2.1, hn.1, hF⟩
  obtain ⟨a1, p1, rfl⟩ := hd.s.shape0
  obtain ⟨a2, p2, h2, hcp, _⟩ := hd.t
  obtain ⟨a3, p3, rfl⟩ := hd.a.shape0
  obtain ⟨a4, p4, rfl⟩ := hfd.shape0
  subst h2
  have HCP : Hid (g.to.length ≤ p2 ∧ (a2 = none → p2 = 0)) := Lib.hid hcp
  clear hd hn hq hfd hF hcp
  obtain ⟨n, hn⟩ : ∃ n, n = g.st.length := ⟨_, rfl⟩
  obtain ⟨m, hm⟩ : ∃ n, n = g.to.length := ⟨_, rfl⟩
  obtain ⟨l, hl⟩ : ∃ n, n = g.ag.length := ⟨_, rfl⟩
  obtain ⟨nf, hnf⟩ : ∃ n, n = F.length := ⟨_, rfl⟩
  rw [← hn, ← hm, ← hl] at HR HCT HD ⊢
  rw [← hnf] at HFD ⊢
  rw [← hm] at HCP
  have HN := Lib.hid hn
  have HM := Lib.hid hm
  have HNF := Lib.hid hnf
  clear hn hl hm hnf
  have BX := Lib.hid (bal (Below.refl w.heap.size w) (.cells #[.slice a1 n p1, .slice a3 l p3, .slice a2 m p2] 26))
  have KX := Lib.hid (Bk.new w 26 #[.slice a1 n p1, .slice a3 l p3, .slice a2 m p2])
  go_enter Try.func27, Try.ntmps27
  go_wp2_with fail
  generalize (w.alloc _) = w0 at BX KX ⊢
  refine (HR.out _ BX.out).mono ?_
  rintro e w1 ⟨rfl, b1⟩
  have BY := Lib.hid (BX.out.trans (b1.mono BX.out.size))
  have KY := Lib.hid (KX.out.below b1)
  clear b1 HR BX KX
  cases q with
  | false =>
    go_wp2_with fail
    go_ret
    exact ⟨_, [], rfl, SlD.nil, ⟨fun h => (by rw [HQ.out] at h; cases h), fun _ => rfl⟩, BY.out⟩
  | true =>
    have HG := Lib.hid (right_RG g HQ.out)
    have HCK := Lib.hid fun (W : World) (h : Below w.heap.size w W) => HCT.out W h (by rw [HN.out]; exact HG.out.pos)
    have c0 := KY.out.cell 0
    have c1 := KY.out.cell 1
    have c2 := KY.out.cell 2
    have lw := KY.out.lt
    obtain ⟨N, hN⟩ : ∃ N, N = numN g := ⟨_, rfl⟩
    rw [← hN] at HCK
    have HNU : Hid (N = numN g ∧ N + 1 = n) := Lib.hid ⟨hN, by rw [hN, HN.out]; have := HG.out.pos; unfold numN; omega⟩
    have hn6 : N ≤ 1000000 := by have := HNU.out; have := HSZ.out; have := HN.out; omega
    clear HCT hN
    go_wp2_with fail
    refine (HCK.out _ BY.out).mono ?_
    rintro e w2 ⟨rfl, b2⟩
    have BZ := Lib.hid (BY.out.trans (b2.mono BY.out.size))
    have KZ := Lib.hid (KY.out.below b2)
    clear b2 c0 c1 c2 lw BY KY HCK
    go_wp2_with (refine make_one rfl (.tmp 13) (.tmp 13) 33 4 (.bool false) 1 Try.underlying33 info_bool rfl (by decide) rfl N rfl rfl hn6 ?_)
    intro w3 Z HZ hz b3
    have HR3 := Lib.hid (bkT_new HZ.out hz.out)
    have B3 := Lib.hid (BZ.out.trans (b3.mono BZ.out.size))
    have K3 := Lib.hid (KZ.out.below b3)
    obtain ⟨gr, hgr⟩ : ∃ x, x = w2.heap.size := ⟨_, rfl⟩
    rw [← hgr] at HR3 ⊢
    have HGR : Hid (w.heap.size < gr ∧ gr < w3.heap.size) := Lib.hid ⟨by rw [hgr]; exact KZ.out.lt, (show Bk w3 gr _ _ from HR3.out).lt⟩
    clear hgr hz HZ b3 BZ KZ hn6
    go_upto_region 6 with fail
    have L2 := two_new w3 33 24 #[.slice (some ⟨gr, 0, none⟩) N N] #[.slice none 0 0]
    obtain ⟨g1, hg1⟩ : ∃ x, x = w3.heap.size := ⟨_, rfl⟩
    obtain ⟨g2, hg2⟩ : ∃ x, x = w3.heap.size + 1 := ⟨_, rfl⟩
    have HBB : Hid (w3.heap.size + 2 ≤ ((w3.alloc (.cells #[.slice (some ⟨gr, 0, none⟩) N N] 33)).alloc (.cells #[.slice none 0 0] 24)).heap.size) := Lib.hid (by rw [alloc_size, alloc_size]; exact Nat.le_refl _)
    rw [← hg2, ← hg1] at L2 ⊢
    have HGG : Hid (g1 = w3.heap.size ∧ g2 = w3.heap.size + 1) := Lib.hid ⟨hg1, hg2⟩
    have LB : Hid (Below w3.heap.size w3 ((w3.alloc (.cells #[.slice (some ⟨gr, 0, none⟩) N N] 33)).alloc (.cells #[.slice none 0 0] 24))) := Lib.hid (by rw [← hg1]; exact L2.1)
    have L21 := Lib.hid L2.2.1
    have L22 := Lib.hid L2.2.2
    clear hg1 hg2 L2
    generalize World.alloc (World.alloc w3 _) _ = w4 at LB L21 L22 HBB ⊢
    have B4 := Lib.hid (B3.out.trans (LB.out.mono B3.out.size))
    have K4 := Lib.hid (K3.out.below LB.out)
    obtain ⟨B, hB⟩ : ∃ B, B = w3.heap.size + 2 := ⟨_, rfl⟩
    have HRS : Hid (RS w4 B g1 gr g2 N (List.replicate N false) (.slice none 0 0) []) := Lib.hid ⟨L21.out, (show Bk w3 gr _ _ from HR3.out).below LB.out, L22.out, ⟨rfl, .inl ⟨rfl, rfl⟩⟩, by have := HGG.out; omega, by have := HGR.out; omega, by have := HGG.out; omega, by rw [hB]; exact HBB.out⟩
    have HFS : Hid (∀ x, Fs B gr g2 x → w.heap.size < x) := Lib.hid (fun x h => by
      have h1 := HGR.out
      have h2 := HGG.out
      rcases h with h | h | h <;> omega)
    have HBW : Hid (∀ W, Oth (Fs B gr g2) w4 W → Below w.heap.size w W) := Lib.hid (fun W h => B4.out.trans (h.below (fun x hx => Nat.le_of_lt (HFS.out x hx)) B4.out.size))
    have HKW : Hid (∀ W, Oth (Fs B gr g2) w4 W → Bk W w.heap.size 26 #[.slice a1 n p1, .slice a3 l p3, .slice a2 m p2]) := Lib.hid (fun W h => h.bk K4.out (fun h1 => Nat.lt_irrefl _ (HFS.out _ h1)))
    have HVI := Lib.hid (visit_any B g1 gr g2 N F (.slice a4 nf p4) _ _ _ w4 HRS.out List.length_replicate (fun W h => IntsD.below HFD.out (HBW.out W h)) HSZ.out.2.2 (by have := HNU.out; have := HSZ.out; have := HN.out; omega) (by rw [cf_rep, List.length_nil]; have := HNU.out; have := HSZ.out; have := HN.out; omega))
    clear hB HBB LB L21 L22 B3 K3 HR3 HRS
    go_wp2_with fail
    refine HVI.out.mono ?_
    rintro e w5 ⟨rfl, R, vo, S, rs, vi, ho⟩
    have HRS := Lib.hid rs
    have HSE : Hid (Sea g F R S) := Lib.hid (Sea.start HG.out (by rw [← HNU.out.1]; exact vi))
    have HO := Lib.hid ho
    have HMS : Hid (2 * cf R + S.length ≤ 2 * N) := Lib.hid (by have := vi.meas; rw [cf_rep, List.length_nil] at this; omega)
    clear rs vi ho HVI
    go_wp2_with fail
    go_loopg [8] (2 * N) (fun fuel s8 wr => ∃ (R : List Bool) (vo : Value) (S : List Int), 2 * cf R + S.length ≤ fuel ∧ 2 * cf R + S.length ≤ 2 * N ∧ RS wr B g1 gr g2 N R vo S ∧ Sea g F R S ∧ Oth (Fs B gr g2) w4 wr)
    case atStart => exact ⟨R, vo, S, HMS.out, HMS.out, HRS.out, HSE.out, HO.out⟩
    case round =>
      clear HRS HSE HO HMS
      obtain ⟨R, vo, S, hf, hm, rs, se, ho⟩ := hrel
      have HRS := Lib.hid rs
      have HSE := Lib.hid se
      have HO := Lib.hid ho
      have HF := Lib.hid hf
      have HM2 := Lib.hid hm
      clear rs se ho hf hm
      obtain ⟨zo, zc, hvo, _⟩ := own_shape' HRS.out.ow
      subst hvo
      have c0 := HRS.out.r2.cell 0
      have l0 := HRS.out.r2.lt
      by_cases hlt : 0 < S.length
      · obtain ⟨S0, x, hS⟩ := list_snoc hlt
        subst hS
        obtain ⟨k, hk⟩ : ∃ k, S0.length = k := ⟨_, rfl⟩
        obtain ⟨gs, rfl, hk1, hkc, y0, lg, ow0⟩ := own_pop HRS.out.ow hk
        rw [hk1] at c0 HRS hlt
        have HOW := Lib.hid ow0
        have hx := HSE.out.stk x (by simp)
        obtain ⟨xn, rfl⟩ : ∃ xn : Nat, x = (xn : Int) := ⟨x.toNat, by omega⟩
        have HXN : Hid (xn < N) := Lib.hid (by rw [HNU.out.1]; omega)
        have HK := Lib.hid hk
        have i1 : IntKind.i64.wrap (((k + 1 : Nat) : Int) - 1) = (k : Int) := by rw [show ((k + 1 : Nat) : Int) - 1 = (k : Int) by omega]; exact IntWalk.i64_in _ (by have := HM2.out; rw [List.length_append, hk] at this; have := HNU.out; have := HSZ.out; have := HN.out; omega)
        have i2 : (0 : Int) ≤ (k : Int) := by omega
        have i3 : (k : Int) < ((k + 1 : Nat) : Int) := by omega
        have i4 : (k : Int) ≤ (zc : Int) := by omega
        have i6 : (k : Int) < (k : Int) + 1 := by omega
        have h64 : wrap64 (k : Int) = (k : Int) := IntWalk.wrap64_in _ (by have := HM2.out; rw [List.length_append, hk] at this; have := HNU.out; have := HSZ.out; have := HN.out; omega)
        have f0 := HRS.out.r2.fz 0
        clear hx hk ow0
        go_upto_region 10 with fail
        have HRS7 := Lib.hid (HRS.out.put (Below.refl B wr) HOW.out)
        have HO7 := Lib.hid (HO.out.trans (G := Fs B gr g2) (Oth.set wr g2 0 (.slice (some ⟨gs, 0, none⟩) k zc)) (fun _ h => h) (fun _ _ h => .inr (.inl h)))
        generalize World.setCell wr _ _ = w7 at HRS7 HO7 ⊢
        clear c0 l0 y0 lg f0
        have hxs : xn < g.st.length := by rw [← HN.out]; have := HNU.out; have := HXN.out; omega
        have hxs1 : xn + 1 < g.st.length := by rw [← HN.out]; have := HNU.out; have := HXN.out; omega
        have hxN : xn < numN g := by rw [← HNU.out.1]; exact HXN.out
        have st0 := HG.out.st xn (Nat.le_of_lt hxN)
        have st1 := HG.out.st (xn + 1) hxN
        have hup := HG.out.up xn hxN
        have hle := HG.out.le (xn + 1) hxN
        obtain ⟨b0, o0, rfl, bl, x0⟩ := IntsD.at2 HD.out.s xn hxs
        obtain ⟨b0', o0', he, _, x1⟩ := IntsD.at2 HD.out.s (xn + 1) hxs1
        injection he with he
        injection he with e1 e2
        subst e1 e2
        rw [List.getElem?_eq_getElem hxs] at st0
        rw [List.getElem?_eq_getElem hxs1] at st1
        rw [Option.some.inj st0] at x0
        rw [Option.some.inj st1] at x1
        obtain ⟨s, hs⟩ : ∃ s, s = sN g xn := ⟨_, rfl⟩
        obtain ⟨t, ht⟩ : ∃ t, t = sN g (xn + 1) := ⟨_, rfl⟩
        rw [← hs] at x0 hup
        rw [← ht] at x1 hup hle
        have hcp := HCP.out.1
        rw [← HM.out] at hle
        have HX0 := Lib.hid (fun W (h : Below w.heap.size w W) => (h.cell (p := ⟨b0, _, none⟩) bl).trans x0)
        have HX1 := Lib.hid (fun W (h : Below w.heap.size w W) => (h.cell (p := ⟨b0, _, none⟩) bl).trans x1)
        clear x0 x1
        have x0 := HX0.out _ (HBW.out _ HO7.out)
        have x1 := HX1.out _ (HBW.out _ HO7.out)
        have HST : Hid (s = sN g xn ∧ t = sN g (xn + 1) ∧ s ≤ t ∧ t ≤ m) := Lib.hid ⟨hs, ht, hup, hle⟩
        have k0 := (HKW.out _ HO7.out).cell 0
        have k2 := (HKW.out _ HO7.out).cell 2
        have lk := (HKW.out _ HO7.out).lt
        have j1 : (0 : Int) ≤ (xn : Int) := by omega
        have j2 : (xn : Int) < (n : Int) := by have := HNU.out; have := HXN.out; omega
        have j3 : (0 : Int) ≤ (xn : Int) + 1 := by omega
        have j4 : (xn : Int) + 1 < (n : Int) := by have := HNU.out; have := HXN.out; omega
        have j5 : IntKind.i64.wrap ((xn : Int) + 1) = (xn : Int) + 1 := IntWalk.i64_in _ (by have := HSZ.out; have := HN.out; omega)
        have j6 : (0 : Int) ≤ (s : Int) := by omega
        have j7 : (s : Int) ≤ (t : Int) := by omega
        have j8 : (t : Int) ≤ (p2 : Int) := by omega
        have j9 : (0 : Int) ≤ (t : Int) := by omega
        clear hxs hxs1 hxN st0 st1 hup hle hs ht hcp i1 i2 i3 i4 i6 h64
        have HTD : Hid (∀ W, Oth (Fs B gr g2) w7.drew W → IntsD W (.slice (if p2 = s then a2 else Option.map (fun x => x.add s) a2) (t - s) (p2 - s)) (toL g xn)) := Lib.hid (fun W h => by
          have h1 := (HD.out.below (HBW.out W ((HO7.out.trans (G := Fs B gr g2) (Oth.of (F := Fs B gr g2) (below_draws' w7)) (fun _ h => h) (fun _ _ h => h)).trans (G := Fs B gr g2) h (fun _ h => h) (fun _ _ h => h)))).t
          unfold toL
          rw [← HST.out.1, ← HST.out.2.1]
          exact to_D h1 HST.out.2.2.1 HST.out.2.2.2 HCP.out.1)
        have HVI := Lib.hid (visit_any B g1 gr g2 N (toL g xn) _ R _ S0 w7.drew HRS7.out.drew (by rw [HSE.out.len]; exact HNU.out.1.symm) HTD.out (by unfold toL; rw [List.length_drop, List.length_take]; have := HSZ.out; have := HST.out; have := HM.out; omega) (by have := HNU.out; have := HSZ.out; have := HN.out; omega) (by have := HM2.out; rw [List.length_append] at this; have := HNU.out; have := HSZ.out; have := HN.out; omega))
        obtain ⟨dpp, hdpp⟩ : ∃ d, d = (if p2 = s then a2 else Option.map (fun x => x.add s) a2) := ⟨_, rfl⟩
        rw [← hdpp] at HVI
        have HDP := Lib.hid hdpp
        clear hdpp HTD
        have k0d : w7.drew.cell? ⟨w.heap.size, 0, none⟩ = some (.slice (some ⟨b0, o0, none⟩) n p1) := k0
        have k2d : w7.drew.cell? ⟨w.heap.size, 2, none⟩ = some (.slice a2 m p2) := k2
        have x0d : w7.drew.cell? ⟨b0, o0 + xn, none⟩ = some (.int .i64 s) := x0
        have x1d : w7.drew.cell? ⟨b0, o0 + (xn + 1), none⟩ = some (.int .i64 t) := x1
        go_region_held3 (fun W : World => W.cell? ⟨w.heap.size, 0, none⟩ = some (.slice (some ⟨b0, o0, none⟩) n p1) ∧ W.cell? ⟨w.heap.size, 2, none⟩ = some (.slice a2 m p2) ∧ W.cell? ⟨b0, o0 + xn, none⟩ = some (.int .i64 s) ∧ W.cell? ⟨b0, o0 + (xn + 1), none⟩ = some (.int .i64 t))
          (first | with_reducible exact ⟨k0d, k2d, x0d, x1d⟩ | with_reducible exact ⟨q0, q2, y0, y1⟩ | with_reducible assumption)
          ((go_at_call 36; go_split_ands; rw [← HDP.out]; (with_reducible refine Calls.mono HVI.out ?_); rintro e w8 ⟨rfl, R8, vo8, S8, rs8, vi8, ho8⟩; have HRS8 := Lib.hid rs8; have HVI8 := Lib.hid vi8; have HOA := Lib.hid ((HO7.out.trans (G := Fs B gr g2) (Oth.of (F := Fs B gr g2) (below_draws' w7)) (fun _ h => h) (fun _ _ h => h)).trans (G := Fs B gr g2) ho8 (fun _ h => h) (fun _ _ h => h)); have q0 : w8.cell? ⟨w.heap.size, 0, none⟩ = some (.slice (some ⟨b0, o0, none⟩) n p1) := (HKW.out _ HOA.out).cell 0; have q2 : w8.cell? ⟨w.heap.size, 2, none⟩ = some (.slice a2 m p2) := (HKW.out _ HOA.out).cell 2; have y0 := HX0.out _ (HBW.out _ HOA.out); have y1 := HX1.out _ (HBW.out _ HOA.out)))
        have HSE8 : Hid (Sea g F R8 S8) := Lib.hid (Sea.step HG.out HSE.out (by rw [← HNU.out.1]; exact HVI8.out))
        have HMS8 : Hid (2 * cf R8 + S8.length + 1 ≤ 2 * cf R + (S0 ++ [(xn : Int)]).length) := Lib.hid (by have := HVI8.out.meas; rw [List.length_append]; simp only [List.length_cons, List.length_nil]; omega)
        clear rs8 vi8 ho8 HVI k0d k2d x0d x1d k0 k2 lk x0 x1 q0 q2 y0 y1 j1 j2 j3 j4 j5 j6 j7 j8 j9
        go_wp2_with fail
        go_roundg (gk - 1)
        case measure => have := HF.out; have := HMS8.out; omega
        case rel => exact ⟨R8, vo8, S8, by have := HF.out; have := HMS8.out; omega, by have := HM2.out; have := HMS8.out; omega, HRS8.out, HSE8.out, HOA.out⟩
      · have hS0 : S = [] := List.eq_nil_of_length_eq_zero (by omega)
        subst hS0
        have d1 := HRS.out.r1.cell 0
        have l1 := HRS.out.r1.lt
        have HRL : Hid (R.length = N) := Lib.hid (by rw [HSE.out.len]; exact HNU.out.1.symm)
        go_wp2_with fail
        go_ret
        exact ⟨_, R, rfl, BkT.trus HRS.out.rr HRL.out (by have := HNU.out; have := HSZ.out; have := HN.out; omega), ⟨fun _ => HSE.out.fin HG.out, fun h => (by rw [HQ.out] at h; cases h)⟩, HBW.out _ HO.out⟩

end Go.Proofs.Ytklejedddkhfjaa
