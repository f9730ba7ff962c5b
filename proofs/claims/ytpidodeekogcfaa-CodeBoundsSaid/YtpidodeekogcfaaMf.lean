/- CodeBounds: the law's walk. -/
import Derived.Test.YtpidodeekogcfaaMe
import Derived.Test.YtpidodeekogcfaaMg
namespace Go.Proofs.Ytpidodeekogcfaa
open Go.RowKit

abbrev bR : ByteArray := ⟨#[114, 49]⟩

theorem light_is (l : List Nd) (v : Value) (w : World) (hv : NdsC w v l) (hn : l.length ≤ maxLen) (b : Bool) (hb : lightB l = b) :
    Calls Try.prog 8 #[v] w fun e w' => e = .returned (.bool b) ∧ Below w.heap.size w w' :=
  (light_any l v w hv.nds hn b hb).mono fun _ _ ⟨h, h'⟩ => ⟨h, h' ▸ Below.refl _ _⟩
theorem light_nmOK (l : List Nd) (h : lightB l = true) : l.length ≤ 250 ∧ NmOK l := by
  unfold lightB at h
  rw [Bool.and_eq_true] at h
  refine ⟨of_decide_eq_true h.1, fun i hi => ?_⟩
  have := List.all_eq_true.1 h.2 _ (List.getElem_mem hi)
  unfold lightN at this
  have := of_decide_eq_true this
  omega

set_option maxRecDepth 100000 in
set_option maxHeartbeats 2000000 in
theorem bounds_heavy (l : List Nd) (v : Value) (n : Int) (ob : List Int) (ov : Value) (w : World) (hv : NdsC w v l) (hl : l.length ≤ maxLen) (hb : lightB l = false) (ho : BytesD w ov ob) :
    Calls Try.prog 5 #[v, .int .u8 n, ov] w fun e w' => e = .returned (.bool true) ∧ Below w.heap.size w w' := by
  have HL := Lib.hid (light_is l v w hv hl false hb)
  obtain ⟨ad, cap, rfl, _⟩ := id hv
  obtain ⟨ad2, cap2, rfl⟩ := ho.shape
  generalize l.length = len at HL
  generalize ob.length = len2
  clear hv hl hb ho
  go_enter Try.func5, Try.ntmps5
  go_wp2_with fail
  refine HL.out.mono ?_
  rintro e w1 ⟨rfl, b1⟩
  go_wp2_with fail
  refine (known_any w1).mono ?_
  rintro e w2 ⟨rfl, b2⟩
  go_wp2
  go_ret
  exact ⟨rfl, b1.trans (b2.mono b1.size)⟩

set_option maxRecDepth 100000 in
set_option maxHeartbeats 2000000 in
theorem bounds_long (l : List Nd) (v : Value) (n : Int) (ob : List Int) (ov : Value) (w : World) (hv : NdsC w v l) (hl : l.length ≤ maxLen) (hb : lightB l = true) (ho : BytesD w ov ob) (h20 : 20 < ob.length) (hol : ob.length ≤ maxLen) :
    Calls Try.prog 5 #[v, .int .u8 n, ov] w fun e w' => e = .returned (.bool true) ∧ Below w.heap.size w w' := by
  have HL := Lib.hid (light_is l v w hv hl true hb)
  obtain ⟨ad, cap, rfl, _⟩ := id hv
  obtain ⟨ad2, cap2, rfl⟩ := ho.shape
  generalize l.length = len at HL
  generalize ob.length = len2 at h20 hol
  unfold maxLen at hol
  clear hv hl hb ho
  go_enter Try.func5, Try.ntmps5
  go_wp2_with fail
  refine HL.out.mono ?_
  rintro e w1 ⟨rfl, b1⟩
  go_wp2_with fail
  refine (known_any w1).mono ?_
  rintro e w2 ⟨rfl, b2⟩
  go_wp2
  go_ret
  exact ⟨rfl, b1.trans (b2.mono b1.size)⟩

set_option maxRecDepth 100000 in
set_option maxHeartbeats 8000000 in
theorem bounds_light (l : List Nd) (v : Value) (n : Int) (ob : List Int) (ov : Value) (w : World) (hv : NdsC w v l) (hb : lightB l = true) (ho : BytesD w ov ob) (h20 : ob.length ≤ 20) (hn : 0 ≤ n ∧ n ≤ 255) :
    Calls Try.prog 5 #[v, .int .u8 n, ov] w fun e w' => e = .returned (.bool true) ∧ Below w.heap.size w w' := by
  obtain ⟨hl250, hz⟩ := light_nmOK l hb
  obtain ⟨hn0, hn1⟩ := hn
  have HL := Lib.hid (light_is l v w hv (by unfold maxLen; omega) true hb)
  obtain ⟨cs, ok, hc⟩ := codIs_of (rsvT [bA, bB, bR]) l
  have HTH := Lib.hid (fun (W : World) (h : Below w.heap.size w W) (rv : Value) (hr : StrsD W rv [bA, bB, bR]) => thread_any l v [bA, bB, bR] rv W (hv.below h) (by omega) hz hr (by decide) cs ok hc)
  have HC := Lib.hid hc
  have HOB := Lib.hid ho
  obtain ⟨ad, cap, rfl, _⟩ := id hv
  obtain ⟨ad2, cap2, hov, hcp1, hcp2, hcb⟩ := ho
  subst hov
  have HCB := Lib.hid hcb
  generalize l.length = len at HL HTH
  obtain ⟨len2, hlen2⟩ : ∃ n, n = ob.length := ⟨_, rfl⟩
  rw [← hlen2] at h20 ⊢
  have HL2 := Lib.hid hlen2
  clear hv hb hz hl250 hc hcb hcp1 hcp2 hlen2 HOB
  obtain ⟨m, hm⟩ : ∃ m, m = 2 + n % 15 := ⟨_, rfl⟩
  have hm1 : 2 ≤ m := by omega
  have hm2 : m ≤ 16 := by omega
  have HM := Lib.hid hm
  clear hm
  have q1 : decide ((20 : Int) < (len2 : Int)) = false := decide_eq_false (by omega)
  have q2 : decide (20 < len2) = false := decide_eq_false (by omega)
  go_enter Try.func5, Try.ntmps5
  go_wp2_with fail
  refine HL.out.mono ?_
  rintro e w1 ⟨rfl, b1⟩
  have B1 := Lib.hid b1
  have K2 := Lib.hid (Bk.new w1 9 #[.string bA, .string bB, .string bR])
  have L2 : Hid (Below w1.heap.size w1 (w1.alloc (.cells #[.string bA, .string bB, .string bR] 9))) := (Below.refl _ _).alloc (Nat.le_refl _) _
  clear b1
  go_wp2_with fail
  rw [← HM.out]
  generalize w1.alloc _ = w2 at K2 L2 ⊢
  have B2 := Lib.hid (B1.out.trans (L2.out.mono B1.out.size))
  refine (HTH.out w2 B2.out _ (strsD_of_bk K2.out rfl (by decide))).mono ?_
  rintro e w3 ⟨sv, rfl, o3, b3⟩
  have B3 := Lib.hid (B2.out.trans (b3.mono B2.out.size))
  have D3 := Lib.hid (opsD_of_own o3)
  obtain ⟨ads, caps, rfl, _⟩ := own_shape' o3
  clear b3 o3 K2 L2 B1 B2
  cases ok with
  | false =>
    have hcs : cs = [] := by
      rcases HC.out with ⟨e, _, _, _, h1, h2⟩ | ⟨_, _, h⟩
      · rw [← h1] at h2; exact h2
      · exact h
    subst hcs
    have hl0 : ([] : List Opn).length = 0 := rfl
    rw [hl0]
    go_wp2_with fail
    refine (known_any w3).mono ?_
    rintro e w4 ⟨rfl, b4⟩
    go_wp2
    go_ret
    exact ⟨rfl, B3.out.trans (b4.mono B3.out.size)⟩
  | true =>
    have K4 := Lib.hid (Bk.new w3 3 #[.int .i64 0, .int .i64 0, .int .i64 0])
    have L4 : Hid (Below w3.heap.size w3 (w3.alloc (.cells #[.int .i64 0, .int .i64 0, .int .i64 0] 3))) := (Below.refl _ _).alloc (Nat.le_refl _) _
    obtain ⟨nc, hnc⟩ : ∃ nc, nc = cs.length := ⟨_, rfl⟩
    rw [← hnc] at D3 ⊢
    have HNC := Lib.hid hnc
    clear hnc
    go_wp2_with fail
    generalize w3.alloc _ = w4 at K4 L4 ⊢
    go_loopg [12] 3 (fun fuel i' wr => ∃ (k : Nat) (r0 r1 r2 : Int), i' = .int .i64 k ∧ k ≤ 3 ∧ 3 - k ≤ fuel ∧ Bk wr w3.heap.size 3 #[.int .i64 r0, .int .i64 r1, .int .i64 r2] ∧ (0 ≤ r0 ∧ r0 < m) ∧ (0 ≤ r1 ∧ r1 < m) ∧ (0 ≤ r2 ∧ r2 < m) ∧ Below w3.heap.size w3 wr)
    case atStart => exact ⟨0, 0, 0, 0, rfl, by omega, by omega, K4.out, ⟨by omega, by omega⟩, ⟨by omega, by omega⟩, ⟨by omega, by omega⟩, L4.out⟩
    case round =>
      obtain ⟨k, r0, r1, r2, rfl, hk, hf, hbk, h0, h1, h2, hb⟩ := hrel
      have HBK := Lib.hid hbk
      have HBW := Lib.hid hb
      have H0 := Lib.hid h0
      have H1 := Lib.hid h1
      have H2 := Lib.hid h2
      have B5 := Lib.hid (B3.out.trans (hb.mono B3.out.size))
      clear hbk hb h0 h1 h2
      by_cases hlt : k < len2 ∧ k < 3
      · obtain ⟨hlt1, hlt2⟩ := hlt
        have hk' : k < ob.length := by have := HL2.out; omega
        obtain ⟨b, off, rfl, hbl, x0, x1, x2⟩ := HCB.out k hk'
        obtain ⟨x, hx⟩ : ∃ x, x = ob[k] := ⟨_, rfl⟩
        rw [← hx] at x0 x1 x2
        have c0 : wr.cell? ⟨b, off + k, none⟩ = some (.int .u8 x) := (B5.out.cell (p := ⟨b, _, none⟩) hbl).trans (by rw [Nat.mul_one] at x0; exact x0)
        obtain ⟨y, hy⟩ : ∃ y, y = x % m := ⟨_, rfl⟩
        have hy0 : 0 ≤ y := by rw [hy]; exact Int.emod_nonneg _ (by omega)
        have hy1 : y < m := by rw [hy]; exact Int.emod_lt_of_pos _ (by omega)
        have hmz : ¬ m = 0 := by omega
        have HY := Lib.hid hy
        have lr := HBK.out.lt
        clear x0 hx hy
        have hz' := HBK.out.fz k
        have hset := HBK.out.set k (.int .i64 y)
        have HSET := Lib.hid hset
        obtain ⟨u, hu⟩ : ∃ u, wr.cell? ⟨w3.heap.size, k, none⟩ = some u := by
          rw [HBK.out.cell k]
          exact ⟨_, Array.getElem?_eq_getElem (by simp; omega)⟩
        clear hset
        go_wp2
        go_roundg (gk - 1)
        case measure => omega
        case rel =>
          have hs := HSET.out
          have hbw := HBW.out.setCell (p := ⟨w3.heap.size, k, none⟩) (Nat.le_refl _) (.int .i64 y)
          rw [← HY.out]
          have hk3 : k = 0 ∨ k = 1 ∨ k = 2 := by omega
          rcases hk3 with rfl | rfl | rfl
          · exact ⟨1, y, r1, r2, by go_num, by omega, by omega, hs, ⟨hy0, hy1⟩, H1.out, H2.out, hbw⟩
          · exact ⟨2, r0, y, r2, by go_num, by omega, by omega, hs, H0.out, ⟨hy0, hy1⟩, H2.out, hbw⟩
          · exact ⟨3, r0, r1, y, by go_num, by omega, by omega, hs, H0.out, H1.out, ⟨hy0, hy1⟩, hbw⟩
      · have hlt' : len2 ≤ k ∨ 3 ≤ k := by omega
        have hrn : rightN ⟨m, [r0, r1, r2], [], []⟩ = true := by
          simp [rightN, allB, okI, hm1, hm2, H0.out.1, H0.out.2, H1.out.1, H1.out.2, H2.out.1, H2.out.2]
        obtain ⟨f1, ⟨z, f2, f3, f4⟩, f5, f6, f7⟩ := cod_facts HC.out ⟨m, [r0, r1, r2], [], []⟩ hrn rfl rfl rfl
        have hms : (⟨m, [r0, r1, r2], [], []⟩ : Nbs).mod = m := rfl
        rw [hms] at f4
        have D5 := Lib.hid (OpsD.below D3.out HBW.out)
        have HI := Lib.hid (intsD_of_bk (xs := [r0, r1, r2]) HBK.out rfl (show 3 ≤ 1000000 by decide))
        obtain ⟨d, hd⟩ : ∃ d, (htsL cs 0 0).1 = d := ⟨_, rfl⟩
        rw [hd] at f5 f6
        rw [← HNC.out] at f6 f7
        have HVC := Lib.hid (value_code cs ⟨m, [r0, r1, r2], [], []⟩ [] _ _ _ _ wr ⟨HI.out, allD_nil, rfl, intsD_nil, (show 3 ≤ 100000 by decide), by decide, (fun x hx => by cases hx), (show 0 ≤ 100000 by decide)⟩ D5.out (by rw [← HNC.out]; omega) z true f2)
        have HDC := Lib.hid (fun (W : World) (h : Below wr.heap.size wr W) => depth_code cs _ W (OpsD.below D5.out h) (by rw [← HNC.out]; omega) d hd)
        have HRC := Lib.hid (fun (W : World) (h : Below wr.heap.size wr W) => right_code cs [] _ _ 3 0 W (OpsD.below D5.out h) intsD_nil (by rw [← HNC.out]; omega) true f1)
        have hl3 : ([r0, r1, r2] : List Int).length = 3 := rfl
        rw [hl3] at HVC
        clear f1 f2 hrn hms hd hl3
        rcases hlt' with hh | hh
        all_goals
          go_wp2_with (first
            | (go_at_call 17; refine HVC.out.mono ?_; rintro e w6 ⟨rfl, b6⟩; have B6 := Lib.hid b6; clear b6)
            | (go_at_call 19; refine (HDC.out _ B6.out).mono ?_; rintro e w7 ⟨rfl, b7⟩; have B7 := Lib.hid (B6.out.trans (b7.mono B6.out.size)); clear b7)
            | (go_at_call 21; refine (HRC.out _ B7.out).mono ?_; rintro e w8 ⟨rfl, b8⟩; have B8 := Lib.hid (B7.out.trans (b8.mono B7.out.size)); clear b8)
            | (go_at_call 10; refine (known_any _).mono ?_; rintro e w9 ⟨rfl, b9⟩; have B9 := Lib.hid (B8.out.trans (b9.mono B8.out.size)); clear b9))
          all_goals
            go_ret
            exact ⟨rfl, B5.out.trans (B9.out.mono B5.out.size)⟩

end Go.Proofs.Ytpidodeekogcfaa
