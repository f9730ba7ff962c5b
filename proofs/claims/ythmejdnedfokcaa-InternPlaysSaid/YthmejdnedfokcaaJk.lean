/- InternPlays: its walk, by what a table's methods do. -/
import Derived.Test.YthmejdnedfokcaaJf
import Derived.Test.YthmejdnedfokcaaJi
import Derived.Deep.RegionHeld3
namespace Go.Proofs.Ythmejdnedfokcaa
set_option linter.unusedSimpArgs false
set_option linter.unusedVariables false
open Go.RowKit

/-- The code's table and the reference's, with the same texts, apart from one another. -/
structure Pair (TB : World → Value → List ByteArray → (Nat → Prop) → Prop) (w wr : World) (ta : Value) (gr : Nat) (La Lb : List ByteArray) (F G : Nat → Prop) : Prop where
  a : TB wr ta La F
  b : RT wr (.pointer (some ⟨gr, 0, none⟩)) Lb G
  fa : ∀ g, F g → w.heap.size ≤ g
  fb : ∀ g, G g → w.heap.size ≤ g
  dj : ∀ g, F g → ¬ G g
  bel : Below w.heap.size w wr
theorem Pair.kept {TB : World → Value → List ByteArray → (Nat → Prop) → Prop} (H : TabOK TB) {w wr w' : World} {B gr : Nat} {ta : Value} {La Lb : List ByteArray} {F G : Nat → Prop} (h : Pair TB w wr ta gr La Lb F G) (hB : wr.heap.size ≤ B) (hb : Below B wr w') : Pair TB w w' ta gr La Lb F G :=
  ⟨H.below h.a (hb.mono hB), h.b.below (hb.mono hB), h.fa, h.fb, h.dj, h.bel.trans (hb.mono (Nat.le_trans h.bel.size hB))⟩
theorem Pair.quiet {TB : World → Value → List ByteArray → (Nat → Prop) → Prop} (H : TabOK TB) {w wr w' : World} {gr : Nat} {ta : Value} {La Lb : List ByteArray} {F G : Nat → Prop} (h : Pair TB w wr ta gr La Lb F G) (hb : Below wr.heap.size wr w') : Pair TB w w' ta gr La Lb F G :=
  h.kept H (Nat.le_refl _) hb
theorem Pair.putA {TB : World → Value → List ByteArray → (Nat → Prop) → Prop} (H : TabOK TB) {w wr w' : World} {gr : Nat} {ta : Value} {La Lb La' : List ByteArray} {F G F' : Nat → Prop} (h : Pair TB w wr ta gr La Lb F G) (ht : TB w' ta La' F') (hF : ∀ g, F' g → F g ∨ wr.heap.size ≤ g) (ho : Oth F wr w') : Pair TB w w' ta gr La' Lb F' G :=
  ⟨ht, h.b.frame ho.b.size fun g hg => ho.k g (h.b.lt g hg) fun hf => h.dj g hf hg, fun g hg => (hF g hg).elim (h.fa g) (fun k => Nat.le_trans h.bel.size k), h.fb,
    fun g hg hG => (hF g hg).elim (fun k => h.dj g k hG) (fun k => by have := h.b.lt g hG; omega), h.bel.trans (ho.below h.fa h.bel.size)⟩
theorem Pair.putB {TB : World → Value → List ByteArray → (Nat → Prop) → Prop} (H : TabOK TB) {w wr w' : World} {gr : Nat} {ta : Value} {La Lb Lb' : List ByteArray} {F G G' : Nat → Prop} (h : Pair TB w wr ta gr La Lb F G) (ht : RT w' (.pointer (some ⟨gr, 0, none⟩)) Lb' G') (hG : ∀ g, G' g → G g ∨ wr.heap.size ≤ g) (ho : Oth G wr w') : Pair TB w w' ta gr La Lb' F G' :=
  ⟨H.frame h.a ho.b.size fun g hg => ho.k g (H.lt h.a g hg) fun hf => h.dj g hg hf, ht, h.fa, fun g hg => (hG g hg).elim (h.fb g) (fun k => Nat.le_trans h.bel.size k),
    fun g hF hg => (hG g hg).elim (fun k => h.dj g hF k) (fun k => by have := H.lt h.a g hF; omega), h.bel.trans (ho.below h.fb h.bel.size)⟩
theorem RT.zero (w : World) : RT (w.alloc (.cells #[.slice none 0 0] 29)) (.pointer (some ⟨w.heap.size, 0, none⟩)) [] (fun x => x = w.heap.size) :=
  ⟨w.heap.size, _, rfl, Bk.new _ _ _, ⟨rfl, .inl ⟨rfl, rfl⟩⟩, fun x => ⟨.inl, fun h => h.elim id fun h => by cases h⟩⟩
theorem RT.cell {w : World} {gr : Nat} {L : List ByteArray} {G : Nat → Prop} (h : RT w (.pointer (some ⟨gr, 0, none⟩)) L G) : ∃ ad cap, gr < w.heap.size ∧ w.cell? ⟨gr, 0, none⟩ = some (.slice ad L.length cap) := by
  obtain ⟨g, v, e, hb, ho, _⟩ := h
  injection e with e
  injection e with e
  injection e with e _ _
  subst e
  obtain ⟨ad, cap, rfl⟩ := (strsD_of_own ho).shape0
  exact ⟨ad, cap, hb.lt, hb.cell 0⟩

attribute [local go_sem ↓] Go.wp_at_zero Go.wp_at_succ
set_option maxRecDepth 100000 in
set_option maxHeartbeats 8000000 in
theorem plays_in {TB : World → Value → List ByteArray → (Nat → Prop) → Prop} (H0 : TabOK TB) (l : List ByteArray) (s : ByteArray) (v : Value) (w : World) (hv : StrsD w v l) :
    Calls Try.prog 3 #[v, .string s] w fun e w' => e = .returned (.bool true) ∧ Below w.heap.size w w' := by
  have H := Lib.hid H0
  have HKN := Lib.hid (known13_in H0)
  have HV := Lib.hid hv
  clear H0
  obtain ⟨q, hq⟩ : ∃ q, lightT l = q := ⟨_, rfl⟩
  have HL := Lib.hid (light13_any l v w hv q hq)
  have HQ := Lib.hid hq
  obtain ⟨ad, cap, rfl⟩ := hv.shape0
  obtain ⟨n, hn⟩ : ∃ n, n = l.length := ⟨_, rfl⟩
  rw [← hn] at HL HV ⊢
  have HN := Lib.hid hn
  clear hv hq hn
  go_enter Try.func3, Try.ntmps3
  go_wp2_with fail
  refine HL.out.mono ?_
  rintro e w1 ⟨rfl, b1⟩
  have B := Lib.hid b1
  clear b1 HL
  by_cases hl : q = true ∧ s.size ≤ 200
  · obtain ⟨rfl, hs⟩ := hl
    have HS3 : Hid (s.size ≤ 300) := Lib.hid (by omega)
    have hs2 : ¬ (200 : Int) < (s.size : Int) := by omega
    clear hs
    go_wp2_with fail
    refine (H.out.new w1).mono ?_
    rintro e w2 ⟨a1, F0, rfl, t1, hF0, b1⟩
    have PR : Hid (Pair TB w (w2.alloc (.cells #[.slice none 0 0] 29)) (.pointer (some a1)) w2.heap.size (allL l 0) (allL l 0) F0 (fun x => x = w2.heap.size)) := Lib.hid
      ⟨H.out.below t1 ((Below.refl w2.heap.size w2).alloc (Nat.le_refl _) _), RT.zero w2, fun g hg => Nat.le_trans B.out.size (hF0 g hg), fun g hg => by rw [hg]; exact Nat.le_trans B.out.size b1.size, fun g h1 h2 => by have := H.out.lt t1 g h1; omega, (B.out.trans (b1.mono B.out.size)).trans ((Below.refl w.heap.size w2).alloc (Nat.le_trans B.out.size b1.size) _)⟩
    clear t1 hF0 b1
    go_wp2_with fail
    generalize w2.alloc _ = wq at PR ⊢
    generalize w2.heap.size = gr at PR ⊢
    go_loopg [7] n (fun fuel i' wr => ∃ (k : Nat) (F G : Nat → Prop), i' = .int .i64 k ∧ k ≤ n ∧ n - k ≤ fuel ∧ Pair TB w wr (.pointer (some a1)) gr (allL l k) (allL l k) F G)
    case atStart => exact ⟨0, F0, _, rfl, Nat.zero_le _, Nat.le_refl _, PR.out⟩
    case round =>
      obtain ⟨k, F, G, rfl, hk, hf, htw⟩ := hrel
      replace PR := Lib.hid htw
      clear htw
      have HN200 : Hid (n ≤ 200) := Lib.hid (by rw [HN.out]; exact light_len HQ.out)
      by_cases hlt : k < n
      · have hk' : k < l.length := by rw [← HN.out]; exact hlt
        have HLT := Lib.hid hlt
        have HFW := Lib.hid (all_few HQ.out k (by rw [← HN.out]; exact hk))
        have HFX := Lib.hid (all_few HQ.out (k + 1) hk')
        have HAN := Lib.hid (all_next l k hk')
        have HLL : Hid ((allL l (k + 1)).length ≤ 200) := Lib.hid (by have := all_len l (k + 1) hk'; have := HN200.out; rw [← HN.out] at *; omega)
        have HXS : Hid ((l[k]).size ≤ 300) := Lib.hid ((light_few HQ.out).2 _ (List.getElem_mem hk'))
        have HYY := Lib.hid (fun (W : World) (h : Below w.heap.size w W) => StrsD.at2 (StrsD.below HV.out h) k hk')
        generalize l[k] = x at HAN HXS HYY
        generalize hL : allL l k = L at PR HFW HAN
        generalize hL2 : allL l (k + 1) = M at HAN HLL HFX
        have HM := Lib.hid hL2
        clear hL hk' hL2
        obtain ⟨b, off, rfl, hbl, y⟩ := HYY.out wr PR.out.bel
        have e1 : (0 : Int) ≤ (k : Int) := by omega
        have e2 : (k : Int) < (n : Int) := by omega
        go_wp2_with fail
        refine (H.out.put x PR.out.a HFW.out HXS.out).mono ?_
        obtain ⟨p2, hp2⟩ : ∃ z, hasT L x = z := ⟨_, rfl⟩
        have HP2 := Lib.hid hp2
        rw [hp2]
        generalize hpn : (putN L x : Int) = pn
        have HPN := Lib.hid hpn
        clear hp2 hpn
        rintro e w4 ⟨rfl, F', t1, h1, o1⟩
        rw [← HAN.out] at t1
        replace PR := Lib.hid (PR.out.putA H.out t1 h1 o1)
        clear t1 h1 o1 y hbl
        obtain ⟨b', off', hbe, hbl, y⟩ := HYY.out w4 PR.out.bel
        injection hbe with hbe
        injection hbe with hb1 hb2
        subst hb1 hb2
        go_wp2_with fail
        refine (rput_any x PR.out.b HFW.out).mono ?_
        rw [HP2.out, HPN.out, ← HAN.out]
        rintro e w5 ⟨rfl, G', t1, h1, o1⟩
        replace PR := Lib.hid (PR.out.putB H.out t1 h1 o1)
        clear t1 h1 o1 y hbl
        go_wp2_with fail
        obtain ⟨g1, hg1⟩ : ∃ z, hasT M s = z := ⟨_, rfl⟩
        generalize hgn : (getN M s : Int) = gn
        refine (H.out.get s PR.out.a HFX.out HS3.out).mono ?_
        rw [hg1, hgn]
        have HG1 := Lib.hid hg1
        have HGN := Lib.hid hgn
        clear hg1 hgn
        rintro e w6 ⟨rfl, b⟩
        replace PR := Lib.hid (PR.out.quiet H.out b)
        clear b
        go_wp2_with fail
        refine (rget_any s PR.out.b HFX.out).mono ?_
        rw [HG1.out, HGN.out]
        rintro e w7 ⟨rfl, b⟩
        replace PR := Lib.hid (PR.out.quiet H.out b)
        clear b
        have HC1 := Lib.hid (fun (W : World) (h : Below w7.heap.size w7 W) => H.out.len (H.out.below PR.out.a h) HFX.out)
        have HC2 := Lib.hid (fun (W : World) (h : Below w7.heap.size w7 W) => H.out.slots (H.out.below PR.out.a h) HFX.out)
        have HC3 := Lib.hid (fun (W : World) (h : Below w7.heap.size w7 W) => rslots_any (PR.out.b.below h) HFX.out)
        obtain ⟨ad, cap, lg, cc⟩ := PR.out.b.cell
        have HCC := Lib.hid (fun (W : World) (h : Below w7.heap.size w7 W) => (And.intro ((h.cell (p := ⟨gr, 0, none⟩) lg).trans cc) h : W.cell? ⟨gr, 0, none⟩ = some (.slice ad M.length cap) ∧ Below w7.heap.size w7 W))
        obtain ⟨m, hm⟩ : ∃ m, m = M.length := ⟨_, rfl⟩
        rw [← hm] at HC1 HC2 HC3 HCC
        obtain ⟨sl, hsl⟩ : ∃ x, x = slotsN m := ⟨_, rfl⟩
        rw [← hsl] at HC2 HC3
        have bb : Below w7.heap.size w7 w7 := Below.refl _ _
        have hpp : (pn != pn) = false := by simp
        have hqq : ((!p2) != (!p2)) = false := by simp
        have hgg : (gn != gn) = false := by simp
        have hhh : (g1 != g1) = false := by simp
        have hmm : ((m : Int) != (m : Int)) = false := by simp
        have hss : ((sl : Int) != (sl : Int)) = false := by simp
        have hwk : IntKind.i64.wrap ((k : Int) + 1) = (k : Int) + 1 := IntWalk.i64_in _ (by have := HLT.out; have := HN200.out; omega)
        clear lg cc hm hsl
        go_wp2_with fail
        go_region_held3 (fun W : World => W.cell? ⟨gr, 0, none⟩ = some (.slice ad m cap) ∧ Below w7.heap.size w7 W)
          (first | with_reducible exact HCC.out _ bb | with_reducible exact HCC.out _ bb.drew | with_reducible assumption | (go_split_ands; with_reducible exact HCC.out _ (by with_reducible assumption)))
          ((first | (go_split_ands; (with_reducible refine Calls.mono (HC1.out _ (by assumption)) ?_); rintro e wn ⟨rfl, bn⟩; have bb : Below w7.heap.size w7 wn := Below.trans (by assumption) (bn.mono (Below.size (by assumption)))) | (go_split_ands; (with_reducible refine Calls.mono (HC2.out _ (by assumption)) ?_); rintro e wn ⟨rfl, bn⟩; have bb : Below w7.heap.size w7 wn := Below.trans (by assumption) (bn.mono (Below.size (by assumption)))) | (go_split_ands; (with_reducible refine Calls.mono (HC3.out _ (by assumption)) ?_); rintro e wn ⟨rfl, bn⟩; have bb : Below w7.heap.size w7 wn := Below.trans (by assumption) (bn.mono (Below.size (by assumption))))))
        all_goals
          go_split_ands
          replace PR := Lib.hid (PR.out.quiet H.out bb)
          have hwk : IntKind.i64.wrap ((k : Int) + 1) = (k : Int) + 1 := IntWalk.i64_in _ (by have := HLT.out; have := HN200.out; omega)
          go_wp2_with fail
          have hlt := HLT.out
          go_roundg (gk - 1)
          case measure => omega
          case rel => exact ⟨k + 1, F', G', by go_num, by omega, by omega, by rw [HM.out]; exact PR.out⟩
      · obtain rfl : k = n := by omega
        have HFW := Lib.hid (all_few HQ.out k (by rw [← HN.out]; exact Nat.le_refl _))
        generalize hL : allL l k = L at PR HFW
        have HLL : Hid (L.length ≤ 200) := Lib.hid (by have := all_len l k (by rw [← HN.out]; exact Nat.le_refl _); have := HN200.out; rw [hL] at *; omega)
        clear hL hlt hf hk
        obtain ⟨wq, rfl⟩ : ∃ x, x = wr := ⟨_, rfl⟩
        obtain ⟨g0, rfl⟩ : ∃ x, x = gk := ⟨_, rfl⟩
        obtain ⟨m, hm⟩ : ∃ m, m = L.length := ⟨_, rfl⟩
        have HM := Lib.hid hm
        rw [← hm] at HLL
        clear hm
        go_wp2_with fail
        refine (H.out.all PR.out.a HFW.out).mono ?_
        rintro e w5 ⟨va, rfl, ow, b⟩
        rw [← HM.out] at ow
        have OW := Lib.hid ow
        have BA := Lib.hid b
        obtain ⟨aa, ca, rfl, -⟩ := OwnT.shape ow
        have PR5 := Lib.hid (PR.out.quiet H.out b)
        obtain ⟨ad1, cap1, lg, cc⟩ := PR5.out.b.cell
        rw [← HM.out] at cc
        have hmm : ((m : Int) != (m : Int)) = false := by simp
        clear ow b PR5
        go_wp2_with fail
        clear lg cc
        go_loopg [17] (m + 2) (fun fuel i' wz => ∃ (j : Nat), i' = .int .i64 ((j : Int) - 1) ∧ j ≤ m + 2 ∧ m + 2 - j ≤ fuel ∧ OwnT wz wq.heap.size (.slice aa m ca) m (L.map fun x => .string x) ∧ Below wq.heap.size wq wz)
        case atStart => exact ⟨0, by rfl, by omega, by omega, OW.out, BA.out⟩
        case round =>
          clear OW BA
          obtain ⟨j, rfl, hj, hf, ho, hb⟩ := hrel
          have OW := Lib.hid ho
          have BA := Lib.hid hb
          have HF := Lib.hid hf
          clear ho hb hf
          have hl200 := HLL.out
          by_cases hjm : j ≤ m + 1
          · obtain ⟨z, hz⟩ : ∃ z : Int, z = (j : Int) - 1 := ⟨_, rfl⟩
            rw [← hz]
            have HZ := Lib.hid hz
            have HJM := Lib.hid hjm
            have e1 : z ≤ (m : Int) := by omega
            have hwz : IntKind.i64.wrap (z + 1) = z + 1 := IntWalk.i64_in _ (by omega)
            have hll : ∀ x : ByteArray, (x.toList != x.toList) = false := by simp
            clear hz hj hjm hl200
            go_wp2_with fail
            refine (H.out.at' z (H.out.below PR.out.a BA.out) HFW.out).mono ?_
            obtain ⟨q, hq⟩ : ∃ q, atB L z = q := ⟨_, rfl⟩
            obtain ⟨x, hx⟩ : ∃ x, atS L z = x := ⟨_, rfl⟩
            rw [hq, hx]
            have HQ2 := Lib.hid hq
            have HX2 := Lib.hid hx
            clear hq hx
            rintro e w6 ⟨rfl, b⟩
            replace OW := Lib.hid (OwnT.below OW.out b)
            replace BA := Lib.hid (BA.out.trans (b.mono BA.out.size))
            clear b
            go_wp2_with fail
            refine (rat_any z (PR.out.b.below BA.out) HFW.out).mono ?_
            rw [HQ2.out, HX2.out]
            rintro e w7 ⟨rfl, b⟩
            replace OW := Lib.hid (OwnT.below OW.out b)
            replace BA := Lib.hid (BA.out.trans (b.mono BA.out.size))
            clear b
            have hxx := hll x
            clear hll
            cases q
            · go_wp2_with fail
              have hz := HZ.out
              have hf := HF.out
              have hjm := HJM.out
              go_roundg (gk - 1)
              case measure => omega
              case rel => exact ⟨j + 1, by go_num, by omega, by omega, OW.out, BA.out⟩
            · obtain ⟨p, rfl, hp⟩ : ∃ p : Nat, z = (p : Int) ∧ p < L.length := by
                have := of_decide_eq_true HQ2.out
                exact ⟨z.toNat, by omega, by omega⟩
              have hpx : L[p] = x := by
                rw [← HX2.out]
                unfold atS
                rw [HQ2.out, if_pos rfl, Int.toNat_natCast, List.getD_eq_getElem?_getD, List.getElem?_eq_getElem hp]; rfl
              have hpm : p < m := by rw [HM.out]; exact hp
              obtain ⟨b, cap2, hbe, hbl, y⟩ := OwnT.cell OW.out hpm
              rw [List.getElem?_map, List.getElem?_eq_getElem hp, hpx] at y
              change _ = some (Value.string x) at y
              injection hbe with hbe1 hbe2 hbe3
              subst hbe1; subst hbe3
              have e2 : (0 : Int) ≤ (p : Int) := by omega
              have e3 : (p : Int) < (m : Int) := by omega
              clear hp hpx hpm
              go_wp2_with fail
              have hz := HZ.out
              have hf := HF.out
              have hjm := HJM.out
              go_roundg (gk - 1)
              case measure => omega
              case rel => exact ⟨j + 1, by go_num, by omega, by omega, OW.out, BA.out⟩
          · have e1 : ¬ (j : Int) - 1 ≤ (m : Int) := by omega
            clear hj hjm hl200 HF
            go_wp2_with fail
            clear e1
            obtain ⟨w2q, rfl⟩ : ∃ x, x = wr := ⟨_, rfl⟩
            obtain ⟨g2, rfl⟩ : ∃ x, x = gk := ⟨_, rfl⟩
            go_loopg [22] m (fun fuel i' wz => ∃ (j : Nat) (xs : List Value), i' = .int .i64 j ∧ j ≤ m ∧ m - j ≤ fuel ∧ OwnT wz wq.heap.size (.slice aa m ca) m xs ∧ Below wq.heap.size wq wz)
            case atStart => exact ⟨0, _, rfl, Nat.zero_le _, Nat.le_refl _, OW.out, BA.out⟩
            case round =>
              clear OW BA
              obtain ⟨d, xs, rfl, hj, hf, ho, hb⟩ := hrel
              have OW := Lib.hid ho
              have BA := Lib.hid hb
              have HF := Lib.hid hf
              have hl200 := HLL.out
              clear ho hb hf
              by_cases hjm : d < m
              · have HJM := Lib.hid hjm
                obtain ⟨ga, ca', hge, hB, hgl, hgc, hgf, hgs⟩ := OwnT.put OW.out hjm
                injection hge with hg1 hg2 hg3
                subst hg1
                have hx : ∃ u, xs[d]? = some u := by
                  have := OW.out.1
                  exact ⟨_, List.getElem?_eq_getElem (by omega)⟩
                obtain ⟨u, hu⟩ := hx
                rw [hu] at hgc
                have OW2 := Lib.hid (hgs (.string ⟨#[115, 112, 111, 105, 108, 116]⟩))
                have BA2 := Lib.hid (BA.out.setCell (p := ⟨ga, d, none⟩) hB (.string ⟨#[115, 112, 111, 105, 108, 116]⟩))
                have e2 : (0 : Int) ≤ (d : Int) := by omega
                have e3 : (d : Int) < (m : Int) := by omega
                have hwk : IntKind.i64.wrap ((d : Int) + 1) = (d : Int) + 1 := IntWalk.i64_in _ (by omega)
                clear hj hjm hl200 hgs hu hg2 hg3
                go_wp2_with fail
                have hf := HF.out
                have hjm := HJM.out
                go_roundg (gk - 1)
                case measure => omega
                case rel => exact ⟨d + 1, _, by go_num, by omega, by omega, OW2.out, BA2.out⟩
              · have hee : ∀ x : ByteArray, (x.toList == x.toList) = true := by simp
                have e1 : ¬ (d : Int) < (m : Int) := by omega
                clear hj hjm hl200 HF
                go_wp2_with fail
                refine (H.out.at' 0 (H.out.below PR.out.a BA.out) HFW.out).mono ?_
                obtain ⟨q, hq⟩ : ∃ q, atB L 0 = q := ⟨_, rfl⟩
                obtain ⟨x, hx⟩ : ∃ x, atS L 0 = x := ⟨_, rfl⟩
                rw [hq, hx]
                have HA1 := Lib.hid hx
                have HA2 := Lib.hid hq
                clear hq hx
                rintro e w6 ⟨rfl, b⟩
                replace BA := Lib.hid (BA.out.trans (b.mono BA.out.size))
                clear b
                go_wp2_with fail
                refine (rat_any 0 (PR.out.b.below BA.out) HFW.out).mono ?_
                rw [HA1.out, HA2.out]
                rintro e w7 ⟨rfl, b⟩
                replace BA := Lib.hid (BA.out.trans (b.mono BA.out.size))
                clear b
                have hxx := hee x
                clear hee
                go_wp2_with fail
                refine (HKN.out w7).mono ?_
                rintro e w8 ⟨rfl, b⟩
                replace BA := Lib.hid (BA.out.trans (b.mono BA.out.size))
                clear b
                go_wp2_with fail
                go_ret
                exact ⟨rfl, PR.out.bel.trans (BA.out.mono PR.out.bel.size)⟩
  · cases q with
    | false =>
      go_wp2_with fail
      refine (HKN.out w1).mono ?_
      rintro e w2 ⟨rfl, b⟩
      replace B := Lib.hid (B.out.trans (b.mono B.out.size))
      go_wp2_with fail
      go_ret
      exact ⟨rfl, B.out⟩
    | true =>
      have hs2 : (200 : Int) < (s.size : Int) := by
        have : ¬ s.size ≤ 200 := fun h => hl ⟨rfl, h⟩
        omega
      clear hl
      go_wp2_with fail
      refine (HKN.out w1).mono ?_
      rintro e w2 ⟨rfl, b⟩
      replace B := Lib.hid (B.out.trans (b.mono B.out.size))
      go_wp2_with fail
      go_ret
      exact ⟨rfl, B.out⟩

end Go.Proofs.Ythmejdnedfokcaa
