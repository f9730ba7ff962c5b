/- Layer 17, the reference: groups. Layer 17, the reference: Groups, Within. -/
import Derived.Test.YtkdpimifojjhaaaQp
import Derived.Test.YtkdpimifojjhaaaRg
import Derived.Test.YtkdpimifojjhaaaPf
namespace Go.Proofs.Ytkdpimifojjhaaa
set_option linter.unusedSimpArgs false
set_option linter.unusedVariables false
open Go.RowKit

def fsts' (zs : List (List Int × Value)) : List (List Int) := zs.map (·.1)
theorem fsts'_len (zs : List (List Int × Value)) : (fsts' zs).length = zs.length := by simp [fsts']
theorem fsts'_app (zs : List (List Int × Value)) (l : List Int) (v : Value) : fsts' (zs ++ [(l, v)]) = fsts' zs ++ [l] := by simp [fsts']
/-- One row more. -/
theorem GG.push {w w' : World} {B : Nat} {vg vg' vl : Value} {l : List Int} {zs : List (List Int × Value)} (h : GG w B vg zs) (hg : w.grownBy w' vg.ownBlock) (ho : w'.ownsRow B 22 1 vg' (zs.length + 1) (zs.map (·.2) ++ [vl])) (hl : w.ownsRow B 3 1 vl l.length (ints l))
    (hap : ∀ (i : Nat) (a : List Int × Value), zs[i]? = some a → ∀ x, a.2.ownBlock = some x → vl.ownBlock ≠ some x) : GG w' B vg' (zs ++ [(l, vl)]) := by
  refine ⟨by rw [List.length_append, List.map_append]; exact ho, fun i a hi => ?_, fun i j a b hij hi hj x hx => ?_⟩
  · by_cases hil : i < zs.length
    · rw [List.getElem?_append_left hil] at hi
      exact own_grown (h.r i a hi) hg fun x hx => h.apart hi x hx
    · rw [List.getElem?_append_right (by omega)] at hi
      have hm := List.mem_of_getElem? hi
      rw [List.mem_singleton] at hm
      subst hm
      exact own_grown hl hg fun x hx e => by
        rcases own_types h.o hl (by decide) with e2 | e2
        · rw [e2] at e; cases e
        · exact e2 (e.trans hx.symm)
  · have last : ∀ (k : Nat) (c : List Int × Value), ¬ k < zs.length → (zs ++ [(l, vl)])[k]? = some c → k = zs.length ∧ c = (l, vl) := fun k c hk hc => by
      have hkk := (List.getElem?_eq_some_iff.1 hc).1
      rw [List.length_append, List.length_singleton] at hkk
      rw [List.getElem?_append_right (by omega)] at hc
      have hm := List.mem_of_getElem? hc
      rw [List.mem_singleton] at hm
      exact ⟨by omega, hm⟩
    by_cases h1 : i < zs.length
    · rw [List.getElem?_append_left h1] at hi
      by_cases h2 : j < zs.length
      · rw [List.getElem?_append_left h2] at hj
        exact h.ap i j a b hij hi hj x hx
      · obtain ⟨_, rfl⟩ := last j b h2 hj
        exact hap i a hi x hx
    · obtain ⟨e1, rfl⟩ := last i a h1 hi
      by_cases h2 : j < zs.length
      · rw [List.getElem?_append_left h2] at hj
        exact fun e => hap j b hj x e hx
      · obtain ⟨e2, _⟩ := last j b h2 hj
        omega
/-- A row beside grows. -/
theorem GG.other {w w' : World} {B : Nat} {vg vl : Value} {n : Nat} {xs : List Value} {zs : List (List Int × Value)} (h : GG w B vg zs) (hg : w.grownBy w' vl.ownBlock) (hl : w.ownsRow B 3 1 vl n xs) (hap : ∀ (i : Nat) (a : List Int × Value), zs[i]? = some a → ∀ x, a.2.ownBlock = some x → vl.ownBlock ≠ some x) : GG w' B vg zs :=
  ⟨own_grown h.o hg fun x hx e => by
    rcases own_types hl h.o (by decide) with e2 | e2
    · rw [e2] at e; cases e
    · exact e2 (e.trans hx.symm), fun i a hi => own_grown (h.r i a hi) hg fun x hx => hap i a hi x hx, h.ap⟩
def selQ (q : Nat → Nat) (li : List Bool) (p i : Nat) : List Int := ((List.range i).filter fun j => q j == p && isIn li (j : Int)).map Int.ofNat
def rgrK (q : Nat → Nat) (li : List Bool) (n p : Nat) : List (List Int) := ((List.range p).map fun r => selQ q li r n).filter fun l => decide (0 < l.length)
theorem selQ_step (q : Nat → Nat) (li : List Bool) (p i : Nat) : selQ q li p (i + 1) = selQ q li p i ++ if (q i == p && isIn li (i : Int)) = true then [(i : Int)] else [] := by
  unfold selQ
  rw [List.range_succ, List.filter_append, List.map_append]
  congr 1
  by_cases h : (q i == p && isIn li (i : Int)) = true
  · rw [if_pos h, List.filter_cons, if_pos h]; rfl
  · rw [if_neg h, List.filter_cons, if_neg h]; rfl
theorem rgrK_step (q : Nat → Nat) (li : List Bool) (n p : Nat) : rgrK q li n (p + 1) = rgrK q li n p ++ if 0 < (selQ q li p n).length then [selQ q li p n] else [] := by
  unfold rgrK
  rw [List.range_succ, List.map_append, List.filter_append]
  congr 1
  by_cases h : 0 < (selQ q li p n).length
  · rw [if_pos h, List.map_cons, List.filter_cons, if_pos (by simpa using h)]; rfl
  · rw [if_neg h, List.map_cons, List.filter_cons, if_neg (by simpa using h)]; rfl
theorem selQ_len (q : Nat → Nat) (li : List Bool) (p i : Nat) : (selQ q li p i).length ≤ i := by
  unfold selQ
  rw [List.length_map]
  have := List.length_filter_le (fun j => q j == p && isIn li (j : Int)) (List.range i)
  rwa [List.length_range] at this
set_option maxRecDepth 100000 in
set_option maxHeartbeats 8000000 in
theorem rgroups_any (q : Nat → Nat) (n : Nat) (li : List Bool) (vp vi : Value) (w : World) (hp : IntsD w vp (tab n fun i => (q i : Int))) (hi : TrusD w vi li) (hn : n ≤ 1000) (hli : li.length ≤ 1000000) :
    Calls Try.prog 29 #[vp, vi] w fun e w' => ∃ v zs, e = .returned v ∧ AllD w' v zs ∧ fsts' zs = rgrK q li n n ∧ Below w.heap.size w w' := by
  have HP := Lib.hid hp
  have HI := Lib.hid hi
  obtain ⟨zp, yp, rfl⟩ := hp.shape0
  obtain ⟨zi, yi, rfl⟩ := hi.shape0
  rw [tab_len] at HP ⊢
  obtain ⟨m, hm⟩ : ∃ m, m = li.length := ⟨_, rfl⟩
  rw [← hm] at HI ⊢
  have HM := Lib.hid hm
  have HNN := Lib.hid hn
  clear hp hi hn hli hm
  go_enter Try.func29, Try.ntmps29
  go_wp2_with fail
  go_loopg [5, 6, 7, 8] n (fun fuel s5 s6 s7 s8 wr => ∃ (p : Nat) (zs : List (List Int × Value)), s6 = .int .i64 p ∧ p ≤ n ∧ n - p ≤ fuel ∧ GG wr w.heap.size s5 zs ∧ fsts' zs = rgrK q li n p ∧ Below w.heap.size w wr)
  case atStart => exact ⟨0, [], rfl, Nat.zero_le _, Nat.le_refl _, GG.nil _ _, rfl, Below.refl _ _⟩
  case round =>
    obtain ⟨p, zs, rfl, hpn, hf, hg, hz, hb⟩ := hrel
    have HG := Lib.hid hg
    have HZ := Lib.hid hz
    have HB := Lib.hid hb
    clear hz hb
    obtain ⟨g3, rfl⟩ : ∃ x, x = gk := ⟨_, rfl⟩
    by_cases hlt : p < n
    · obtain ⟨zg, yg, hsg, hj⟩ := own_shape' hg.o
      subst hsg
      have HZL : Hid (zs.length ≤ 1000) := Lib.hid (by
        have h := congrArg List.length HZ.out
        rw [fsts'_len] at h
        have h2 : (rgrK q li n p).length ≤ p := by
          unfold rgrK
          have := List.length_filter_le (fun l : List Int => decide (0 < l.length)) ((List.range p).map fun r => selQ q li r n)
          rwa [List.length_map, List.length_range] at this
        have := HNN.out
        omega)
      have HST := Lib.hid (rgrK_step q li n p)
      have p5 : IntKind.i64.wrap ((p : Int) + 1) = (p : Int) + 1 := IntWalk.i64_in _ (by have := HNN.out; omega)
      clear hj hg
      go_wp2_with fail
      go_loopg [7, 8] n (fun fuel s7 s8 wr => ∃ i : Nat, s8 = .int .i64 i ∧ i ≤ n ∧ n - i ≤ fuel ∧ wr.ownsRow w.heap.size 3 1 s7 (selQ q li p i).length (ints (selQ q li p i)) ∧ GG wr w.heap.size (.slice zg zs.length yg) zs ∧ (∀ (j : Nat) (a : List Int × Value), zs[j]? = some a → ∀ x, a.2.ownBlock = some x → s7.ownBlock ≠ some x) ∧ Below w.heap.size w wr)
      case atStart => exact ⟨0, rfl, Nat.zero_le _, Nat.le_refl _, ⟨rfl, .inl ⟨rfl, rfl⟩⟩, HG.out, fun j a hj x hx => (fun e => by cases e), HB.out⟩
      case round =>
        clear HG HB
        obtain ⟨i, rfl, hi, hf2, how, hg, hap, hb⟩ := hrel
        have HOW := Lib.hid how
        have HG := Lib.hid hg
        have HAP := Lib.hid hap
        have HB := Lib.hid hb
        clear hg hap
        obtain ⟨z7, y7, hs7, hj⟩ := own_shape' how
        subst hs7
        clear hj how
        by_cases hlt2 : i < n
        · have hst := selQ_step q li p i
          have hpi := IntsD.below HP.out hb
          obtain ⟨b1, o1, eb1, hj1, hj2⟩ := IntsD.at2 hpi i (by rw [tab_len]; exact hlt2)
          clear hj1 hj2
          subst eb1
          have x0 := (cellAt hpi (tab_at n (fun i => (q i : Int)) i hlt2)).1
          have i1 : (0 : Int) ≤ (i : Int) := by omega
          have i2 : (i : Int) < (n : Int) := by omega
          have i5 : IntKind.i64.wrap ((i : Int) + 1) = (i : Int) + 1 := IntWalk.i64_in _ (by have := HNN.out; omega)
          have HLS := Lib.hid (selQ_len q li p i)
          clear hpi
          by_cases hqp : q i = p
          · by_cases him : i < m
            · have hii := TrusD.below HI.out hb
              have hil : i < li.length := by rw [← HM.out]; exact him
              obtain ⟨b2, o2, eb2, lb2, xi⟩ := TrusD.at2 hii i hil
              subst eb2
              have hin : isIn li (i : Int) = li[i] := by
                unfold isIn
                rw [decide_eq_true (by omega), Bool.true_and, Int.toNat_natCast, List.getD_eq_getElem?_getD, List.getElem?_eq_getElem hil]; rfl
              have i6 : (i : Int) < (m : Int) := by omega
              have HST2 : Hid (selQ q li p (i + 1) = selQ q li p i ++ if li[i] = true then [(i : Int)] else []) := Lib.hid (by
                rw [hst, hin, show (q i == p) = true from by simpa using hqp, Bool.true_and])
              generalize li[i] = bi at xi HST2
              rw [hqp] at x0
              clear hst hin hii hil hb hqp
              cases bi with
              | true =>
                have HSE : Hid (selQ q li p (i + 1) = selQ q li p i ++ [(i : Int)]) := Lib.hid HST2.out
                have HBA := Lib.hid (bal (Below.refl wr.heap.size wr) (.cells #[.int .i64 i] 3))
                have HOA := Lib.hid (own_below HOW.out HBA.out)
                have HGA := Lib.hid (HG.out.below HBA.out)
                have KBA := Lib.hid (Bk.new wr 3 #[.int .i64 i])
                have HL8 : Hid ((selQ q li p i).length ≤ 1000000) := Lib.hid (by have := HLS.out; have := HNN.out; omega)
                have HS8 : Hid (w.heap.size ≤ (wr.alloc (.cells #[.int .i64 i] 3)).heap.size) := Lib.hid (Nat.le_trans HB.out.size HBA.out.size)
                have HZ8 : Hid (ints (selQ q li p i) ++ [.int .i64 i] = ints (selQ q li p (i + 1))) := Lib.hid (by rw [HSE.out]; simp [ints])
                have HLEN : Hid ((selQ q li p (i + 1)).length = (selQ q li p i).length + 1) := Lib.hid (by rw [HSE.out, List.length_append]; rfl)
                have HBN := Lib.hid (HB.out.trans (HBA.out.mono HB.out.size))
                clear HST2
                go_wp2_with (refine list_app1 rfl (.tmp 39) (.tmp 41) 22 3 (.int .i64 0) 8 rfl Try.underlying22 info_int rfl (by decide) w.heap.size (.slice z7 (selQ q li p i).length y7) (selQ q li p i).length _ rfl HOA.out wr.heap.size (.int .i64 i) rfl KBA.out rfl HL8.out HS8.out _ HZ8.out ?_; intro g9 cp w9 O9 B9 G9 E9)
                go_roundg (gk - 1)
                case measure => omega
                case rel => exact ⟨i + 1, by go_num, by omega, by omega, by rw [HLEN.out]; exact O9.out, HGA.out.other G9.out HOA.out HAP.out, fun j a hj x hx e => by
                  have e2 : g9 = x := by simpa [Value.ownBlock] using e
                  subst e2
                  rcases E9.out with e3 | e3
                  · exact HAP.out j a hj _ hx e3
                  · have := (own_blk (HGA.out.r j a hj) _ hx).2; omega, HBN.out.trans B9.out⟩
              | false =>
                have HSE : Hid (selQ q li p (i + 1) = selQ q li p i) := Lib.hid (by rw [HST2.out]; simp)
                clear HST2
                go_wp2_with fail
                go_roundg (gk - 1)
                case measure => omega
                case rel => exact ⟨i + 1, by go_num, by omega, by omega, by rw [HSE.out]; exact HOW.out, HG.out, HAP.out, HB.out⟩
            · have hin : isIn li (i : Int) = false := by unfold isIn; rw [decide_eq_false (by have := HM.out; omega)]; rfl
              have HSE : Hid (selQ q li p (i + 1) = selQ q li p i) := Lib.hid (by rw [hst, hin, Bool.and_false]; simp)
              have i6 : ¬ ((i : Int) < (m : Int)) := by omega
              rw [hqp] at x0
              clear hst hin hb hqp
              go_wp2_with fail
              go_roundg (gk - 1)
              case measure => omega
              case rel => exact ⟨i + 1, by go_num, by omega, by omega, by rw [HSE.out]; exact HOW.out, HG.out, HAP.out, HB.out⟩
          · have HSE : Hid (selQ q li p (i + 1) = selQ q li p i) := Lib.hid (by rw [hst, show (q i == p) = false from by simpa using hqp, Bool.false_and]; simp)
            generalize q i = qi at x0 hqp
            have hne : ¬ ((qi : Int) = (p : Int)) := by omega
            clear hst hb
            go_wp2_with fail
            go_roundg (gk - 1)
            case measure => omega
            case rel => exact ⟨i + 1, by go_num, by omega, by omega, by rw [HSE.out]; exact HOW.out, HG.out, HAP.out, HB.out⟩
        · obtain rfl : i = n := by omega
          obtain ⟨S, hS⟩ : ∃ S, S = selQ q li p i := ⟨_, rfl⟩
          rw [← hS] at HOW HST HAP ⊢
          obtain ⟨sl, hsl⟩ : ∃ sl, sl = S.length := ⟨_, rfl⟩
          have HSL := Lib.hid hsl
          have HSM : Hid (sl ≤ 1000) := Lib.hid (by rw [hsl, hS]; have := selQ_len q li p i; have := HNN.out; omega)
          rw [← hsl] at HOW HST HAP ⊢
          clear hS hsl hlt2 hi hf2 hb
          by_cases hpos : 0 < sl
          · have HSE : Hid (rgrK q li i (p + 1) = rgrK q li i p ++ [S]) := Lib.hid (by rw [HST.out, if_pos hpos])
            have hpi : ((0 : Int) < (sl : Int)) := by omega
            have HBA := Lib.hid (bal (Below.refl wr.heap.size wr) (.cells #[.slice z7 sl y7] 22))
            have HOA := Lib.hid (own_below HOW.out HBA.out)
            have HGA := Lib.hid (HG.out.below HBA.out)
            have KBA := Lib.hid (Bk.new wr 22 #[.slice z7 sl y7])
            have HL8 : Hid (zs.length ≤ 1000000) := Lib.hid (by have := HZL.out; omega)
            have HS8 : Hid (w.heap.size ≤ (wr.alloc (.cells #[.slice z7 sl y7] 22)).heap.size) := Lib.hid (Nat.le_trans HB.out.size HBA.out.size)
            have HBN := Lib.hid (HB.out.trans (HBA.out.mono HB.out.size))
            clear HST
            go_wp2_with (refine list_app1 rfl (.tmp 46) (.tmp 48) 30 22 (.slice none 0 0) 24 rfl Try.underlying30 info_row rfl (by decide) w.heap.size (.slice zg zs.length yg) zs.length _ rfl HGA.out.o wr.heap.size (.slice z7 sl y7) rfl KBA.out rfl HL8.out HS8.out _ rfl ?_; intro g9 cp w9 O9 B9 G9 E9)
            go_roundg (g3 - 1)
            case measure => omega
            case rel => exact ⟨p + 1, _, by go_num, by omega, by omega, HGA.out.push (l := S) G9.out O9.out (by rw [← HSL.out]; exact HOA.out) HAP.out, by rw [HSE.out, fsts'_app, HZ.out], HBN.out.trans B9.out⟩
          · have HSE : Hid (rgrK q li i (p + 1) = rgrK q li i p) := Lib.hid (by rw [HST.out, if_neg hpos, List.append_nil])
            have hpi : ¬ ((0 : Int) < (sl : Int)) := by omega
            clear HST
            go_wp2_with fail
            go_roundg (g3 - 1)
            case measure => omega
            case rel => exact ⟨p + 1, zs, by go_num, by omega, by omega, HG.out, by rw [HSE.out, HZ.out], HB.out⟩
    · obtain rfl : p = n := by omega
      clear hlt hpn hf hg
      go_wp2_with fail
      go_ret
      exact ⟨_, zs, rfl, HG.out.data, HZ.out, HB.out⟩

end Go.Proofs.Ytkdpimifojjhaaa

namespace Go.Proofs.Ytkdpimifojjhaaa
set_option linter.unusedSimpArgs false
set_option linter.unusedVariables false
open Go.RowKit

theorem filt_two (f g : Nat → List Int) (P : List Int → Bool) : ∀ L : List Nat, (∀ r ∈ L, (0 < (f r).length ↔ P (g r) = true) ∧ (P (g r) = true → f r = g r)) → (L.map f).filter (fun l => decide (0 < l.length)) = (L.map g).filter P
  | [], _ => rfl
  | r :: L, h => by
    obtain ⟨h1, h2⟩ := h r (List.mem_cons_self ..)
    have ih := filt_two f g P L fun x hx => h x (List.mem_cons_of_mem _ hx)
    rw [List.map_cons, List.map_cons, List.filter_cons, List.filter_cons, ih]
    by_cases hp : P (g r) = true
    · rw [if_pos (by simpa using h1.2 hp), if_pos hp, h2 hp]
    · rw [if_neg (by simpa using fun hh => hp (h1.1 hh)), if_neg hp]
theorem selQ_none (q : Nat → Nat) (li : List Bool) (n r : Nat) (hc : Canon q n) (hr : nx q n ≤ r) : selQ q li r n = [] := by
  unfold selQ
  have : (List.range n).filter (fun j => q j == r && isIn li (j : Int)) = [] := List.filter_eq_nil_iff.2 fun j hj => by
    have := nx_lt q n hc n (Nat.le_refl _) j (List.mem_range.1 hj)
    simp
    intro h
    omega
  rw [this]; rfl
theorem rgrK_stop (q : Nat → Nat) (li : List Bool) (n : Nat) (hc : Canon q n) : ∀ d, rgrK q li n (nx q n + d) = rgrK q li n (nx q n)
  | 0 => rfl
  | d + 1 => by
    rw [← Nat.add_assoc, rgrK_step, selQ_none q li n _ hc (by omega), if_neg (by decide), List.append_nil, rgrK_stop q li n hc d]
theorem rgrK_all (q : Nat → Nat) (li : List Bool) (n : Nat) (hc : Canon q n) : rgrK q li n n = ((List.range (nx q n)).map fun r => selQ q li r n).filter fun l => decide (0 < l.length) := by
  have := rgrK_stop q li n hc (n - nx q n)
  rw [show nx q n + (n - nx q n) = n by have := nx_le q n; omega] at this
  rw [this]; rfl
theorem rgr_true (q : Nat → Nat) (li : List Bool) (n : Nat) (hc : Canon q n) (hli : ∀ j : Nat, j < n → isIn li (j : Int) = true) : rgrK q li n n = grp q (nx q n) n := by
  rw [rgrK_all q li n hc]
  have h := filt_two (fun r => selQ q li r n) (fun v => ((List.range n).filter fun k => q k == v).map Int.ofNat) (fun _ => true) (List.range (nx q n)) (fun r hr => by
    have e : selQ q li r n = ((List.range n).filter fun k => q k == r).map Int.ofNat := by
      unfold selQ
      congr 1
      refine List.filter_congr fun k hk => ?_
      rw [hli k (List.mem_range.1 hk), Bool.and_true]
    refine ⟨⟨fun _ => rfl, fun _ => ?_⟩, fun _ => e⟩
    rw [e]
    exact (grp_good q n _ (by unfold grp tab; exact List.mem_map.2 ⟨r, hr, rfl⟩)).1)
  rw [h, List.filter_eq_self.2 (fun _ _ => rfl)]
  rfl
theorem rgr_in (q : Nat → Nat) (li : List Bool) (n : Nat) (hc : Canon q n) (hK : ∀ i j : Nat, i < n → j < n → q i = q j → i ≠ j → isIn li (i : Int) = true ∧ isIn li (j : Int) = true) : rgrK q li n n = (grp q (nx q n) n).filter fun l => isIn li (l.headD 0) := by
  rw [rgrK_all q li n hc]
  refine filt_two (fun r => selQ q li r n) (fun v => ((List.range n).filter fun k => q k == v).map Int.ofNat) (fun l => isIn li (l.headD 0)) (List.range (nx q n)) (fun r hr => ?_)
  obtain ⟨G, hG⟩ : ∃ G, G = (List.range n).filter fun k => q k == r := ⟨_, rfl⟩
  have hpos := (grp_good q n _ (by unfold grp tab; exact List.mem_map.2 ⟨r, hr, rfl⟩)).1
  rw [List.length_map, ← hG] at hpos
  have hmem : ∀ k, k ∈ G → k < n ∧ q k = r := fun k hk => by
    rw [hG] at hk
    obtain ⟨h1, h2⟩ := List.mem_filter.1 hk
    exact ⟨List.mem_range.1 h1, by simpa using h2⟩
  have hsel : selQ q li r n = (G.filter fun k : Nat => isIn li (k : Int)).map Int.ofNat := by
    unfold selQ
    rw [hG, List.filter_filter]
    congr 1
    refine List.filter_congr fun k _ => ?_
    rw [Bool.and_comm]
  show (0 < (selQ q li r n).length ↔ isIn li ((((List.range n).filter fun k => q k == r).map Int.ofNat).headD 0) = true) ∧ (isIn li ((((List.range n).filter fun k => q k == r).map Int.ofNat).headD 0) = true → selQ q li r n = ((List.range n).filter fun k => q k == r).map Int.ofNat)
  rw [← hG]
  clear hG
  cases G with
  | nil => exact absurd hpos (Nat.not_lt_zero _)
  | cons h t =>
    have hh := hmem h (List.mem_cons_self ..)
    show (0 < (selQ q li r n).length ↔ isIn li (h : Int) = true) ∧ (isIn li (h : Int) = true → selQ q li r n = (h :: t).map Int.ofNat)
    by_cases hin : isIn li (h : Int) = true
    · have hall : (h :: t).filter (fun k : Nat => isIn li (k : Int)) = h :: t := List.filter_eq_self.2 fun k hk => by
        by_cases hkh : k = h
        · rw [hkh]; exact hin
        · have := hmem k hk
          exact (hK k h this.1 hh.1 (this.2.trans hh.2.symm) hkh).1
      rw [hsel, hall]
      exact ⟨⟨fun _ => hin, fun _ => by simp⟩, fun _ => rfl⟩
    · have hnone : (h :: t).filter (fun k : Nat => isIn li (k : Int)) = [] := List.filter_eq_nil_iff.2 fun k hk => by
        by_cases hkh : k = h
        · rw [hkh]; exact hin
        · have := hmem k hk
          exact fun _ => hin (hK k h this.1 hh.1 (this.2.trans hh.2.symm) hkh).2
      rw [hsel, hnone]
      exact ⟨⟨fun hx => absurd hx (by decide), fun hx => absurd hx hin⟩, fun hx => absurd hx hin⟩
/-- In what is kept only nodes that are in have edges. -/
theorem keep_edge {g : Gr} (hg : RG g) (li : List Bool) {v u : Nat} (hA : (egr (keepG g li)).A v u) : isIn li (v : Int) = true ∧ isIn li (u : Int) = true := by
  have hk : RG (keepG g li) := bld_RG _ _ (hg.keepOk li)
  obtain ⟨e, he, e1, e2, _⟩ := hk.ofA hA
  rw [show allL (keepG g li) = srt (numN g) (keepL g li) from bld_all _ _] at he
  obtain ⟨i, _, he⟩ := List.mem_flatMap.1 he
  have hm := (List.mem_filter.1 (ofN_mem he).1).2
  rw [Bool.and_eq_true, e1, e2] at hm
  exact hm
theorem keep_mut {g : Gr} (hg : RG g) (li : List Bool) {i j : Nat} (h : Rea (egr (keepG g li)).A i j) (hne : i ≠ j) : isIn li (j : Int) = true := by
  cases h with
  | refl => exact absurd rfl hne
  | tail _ e => exact (keep_edge hg li e).2
theorem par_tab (g : Gr) : parG g = tab (parG g).length (fun i => ((pnG g i : Nat) : Int)) ∧ grpG g = grp (pnG g) (nx (pnG g) (parG g).length) (parG g).length ∧ (parG g).length ≤ numN g := by
  unfold parG grpG
  by_cases h : rightG g = true
  · rw [if_pos h, if_pos h, tab_len]; exact ⟨rfl, rfl, Nat.le_refl _⟩
  · rw [if_neg h, if_neg h]; exact ⟨rfl, rfl, Nat.zero_le _⟩
theorem wth_ref (g : Gr) (li : List Bool) : rgrK (pnG (keepZ g li)) li (parG (keepZ g li)).length (parG (keepZ g li)).length = wthG g li := by
  unfold wthG
  rw [(par_tab (keepZ g li)).2.1]
  refine rgr_in _ li _ (pn_canon (A := (egr (keepZ g li)).A) _) fun i j hi hj hq hne => ?_
  have hm : Mut (egr (keepZ g li)).A i j := (pn_same i j).1 hq
  unfold keepZ at hm
  by_cases h : rightG g = true
  · rw [if_pos h] at hm
    exact ⟨keep_mut (right_RG g h) li hm.2 (Ne.symm hne), keep_mut (right_RG g h) li hm.1 hne⟩
  · exfalso
    have : parG (keepZ g li) = [] := by
      unfold keepZ
      rw [if_neg h]
      unfold parG
      rw [if_neg (by decide)]
    rw [this] at hi
    exact absurd hi (Nat.not_lt_zero _)
set_option maxRecDepth 100000 in
set_option maxHeartbeats 8000000 in
theorem rwithin_any (g : Gr) (li : List Bool) (vs va vt vi : Value) (w : World) (hd : GrD w vs va vt g) (hi : TrusD w vi li) (hn : g.st.length ≤ 1001 ∧ g.to.length ≤ 1000 ∧ g.ag.length ≤ 1000) (hli : li.length ≤ 1000) :
    Calls Try.prog 17 #[.agg #[vs, va, vt], vi] w fun e w' => ∃ v zs, e = .returned v ∧ AllD w' v zs ∧ fsts' zs = wthG g li ∧ Below w.heap.size w w' := by
  have HKP := Lib.hid fun (W : World) (h : Below w.heap.size w W) => rkeep_any g li vs va vt vi W (hd.below h) (hi.below h) ⟨hn.1, hn.2.1⟩ hli
  have HPT := Lib.hid fun (W : World) (us ua ut : Value) (h : GrD W us ua ut (keepZ g li)) => rparts_any (keepZ g li) us ua ut W h ⟨(keepZ_lens g li hn).1, (keepZ_lens g li hn).2.1⟩
  obtain ⟨n, hN⟩ : ∃ n, n = (parG (keepZ g li)).length := ⟨_, rfl⟩
  have HN : Hid (n ≤ 1000) := Lib.hid (by have := (par_tab (keepZ g li)).2.2; have := (keepZ_lens g li hn).1; unfold numN at *; omega)
  have HPR : Hid (parG (keepZ g li) = tab n fun i => ((pnG (keepZ g li) i : Nat) : Int)) := Lib.hid (by rw [hN]; exact (par_tab _).1)
  have HWR : Hid (rgrK (pnG (keepZ g li)) li n n = wthG g li) := Lib.hid (by rw [hN]; exact wth_ref g li)
  have HGP := Lib.hid fun (W : World) (v : Value) (h : Below w.heap.size w W) (hp : IntsD W v (tab n fun i => ((pnG (keepZ g li) i : Nat) : Int))) => rgroups_any (pnG (keepZ g li)) n li v vi W hp (hi.below h) HN.out (by omega)
  have BX := Lib.hid (bal (Below.refl w.heap.size w) (.cells #[vs, va, vt] 24))
  have KX := Lib.hid (Bk.new w 24 #[vs, va, vt])
  clear hd hi hn hli hN
  go_enter Try.func17, Try.ntmps17
  go_wp2_with fail
  generalize (w.alloc _) = w0 at BX KX ⊢
  refine Calls.mono (HKP.out w0 BX.out) ?_
  rintro e w1 ⟨us, ua, ut, rfl, hg1, b1⟩
  have B1 := Lib.hid (BX.out.trans (b1.mono BX.out.size))
  clear b1
  go_wp2_with fail
  refine Calls.mono (HPT.out w1 us ua ut hg1) ?_
  rintro e w2 ⟨v2, rfl, hp2, b2⟩
  rw [HPR.out] at hp2
  have B2 := Lib.hid (B1.out.trans (b2.mono B1.out.size))
  clear b2 hg1
  go_wp2_with fail
  refine Calls.mono (HGP.out w2 v2 B2.out hp2) ?_
  rintro e w3 ⟨v3, zs, rfl, hz, hf, b3⟩
  go_wp2_with fail
  go_ret
  exact ⟨v3, zs, rfl, hz, hf.trans HWR.out, B2.out.trans (b3.mono B2.out.size)⟩
set_option maxRecDepth 100000 in
set_option maxHeartbeats 8000000 in
theorem rgrps_any (g : Gr) (vs va vt : Value) (w : World) (hd : GrD w vs va vt g) (hn : g.st.length ≤ 1001 ∧ g.to.length ≤ 1000) :
    Calls Try.prog 15 #[.agg #[vs, va, vt]] w fun e w' => ∃ v zs, e = .returned v ∧ AllD w' v zs ∧ fsts' zs = grpG g ∧ Below w.heap.size w w' := by
  have HPT := Lib.hid fun (W : World) (h : Below w.heap.size w W) => rparts_any g vs va vt W (hd.below h) hn
  obtain ⟨n, hN⟩ : ∃ n, n = (parG g).length := ⟨_, rfl⟩
  have HN : Hid (n ≤ 1000) := Lib.hid (by have := (par_tab g).2.2; unfold numN at *; omega)
  have HPR : Hid (parG g = tab n fun i => ((pnG g i : Nat) : Int)) := Lib.hid (by rw [hN]; exact (par_tab _).1)
  have HWR : Hid (rgrK (pnG g) (List.replicate n true) n n = grpG g) := Lib.hid (by
    rw [(par_tab g).2.1, ← hN]
    exact rgr_true _ _ _ (pn_canon (A := (egr g).A) _) fun j hj => by
      unfold isIn
      rw [List.length_replicate, decide_eq_true (by omega), Bool.true_and, Int.toNat_natCast, List.getD_eq_getElem?_getD, List.getElem?_replicate_of_lt hj]; rfl)
  have hn6 : n ≤ 1000000 := by have := HN.out; omega
  have BX := Lib.hid (bal (Below.refl w.heap.size w) (.cells #[vs, va, vt] 24))
  have KX := Lib.hid (Bk.new w 24 #[vs, va, vt])
  clear hd hn hN
  go_enter Try.func15, Try.ntmps15
  go_wp2_with fail
  generalize (w.alloc _) = w0 at BX KX ⊢
  refine Calls.mono (HPT.out w0 BX.out) ?_
  rintro e w1 ⟨v1, rfl, hp1, b1⟩
  rw [HPR.out] at hp1
  have B1 := Lib.hid (BX.out.trans (b1.mono BX.out.size))
  have HP1 := Lib.hid hp1
  obtain ⟨z1, y1, rfl⟩ := hp1.shape0
  rw [tab_len] at HP1 ⊢
  clear b1 hp1
  go_wp2_with (refine make_one rfl (.tmp 9) (.tmp 9) 32 4 (.bool false) 1 Try.underlying32 info_bool rfl (by decide) rfl n rfl rfl hn6 ?_; intro w3 Z HZ hz b3)
  obtain ⟨gA, hgA⟩ : ∃ x, x = w1.heap.size := ⟨_, rfl⟩
  have HA := Lib.hid (bkT_new HZ.out hz.out)
  rw [← hgA] at HA ⊢
  have B3 : Hid (Below gA w1 w3) := Lib.hid (by rw [hgA]; exact b3)
  have HGA := Lib.hid hgA
  clear hz HZ b3 hgA
  go_loopg [5] n (fun fuel s5 wr => ∃ k : Nat, s5 = .int .i64 k ∧ k ≤ n ∧ n - k ≤ fuel ∧ BkT wr gA (tab n fun j => decide (j < k)) ∧ Below gA w1 wr)
  case atStart => exact ⟨0, rfl, Nat.zero_le _, Nat.le_refl _, by rw [show (tab n fun j => decide (j < 0)) = List.replicate n false from tab_rep n false]; exact HA.out, B3.out⟩
  case round =>
    clear HA B3
    obtain ⟨k, rfl, hk, hf, ha, hb⟩ := hrel
    have HA := Lib.hid ha
    have HB := Lib.hid hb
    by_cases hlt : k < n
    · have x0 := ha.at (tab_at n (fun j => decide (j < k)) k hlt)
      have f0 := ha.fz k
      have l0 := (show Bk wr gA _ _ from ha).lt
      have i1 : (0 : Int) ≤ (k : Int) := by omega
      have i2 : (k : Int) < (n : Int) := by omega
      have i5 : IntKind.i64.wrap ((k : Int) + 1) = (k : Int) + 1 := IntWalk.i64_in _ (by have := HN.out; omega)
      have HA2 : Hid (BkT (wr.setCell ⟨gA, k, none⟩ (.bool true)) gA (tab n fun j => decide (j < k + 1))) := Lib.hid (by
        have h := ha.set k true
        rw [tab_set] at h
        have e : tab n (upd (fun j => decide (j < k)) k true) = tab n fun j => decide (j < k + 1) := tab_congr fun j _ => by
          unfold upd
          by_cases hj : j = k
          · rw [if_pos hj, hj]; exact (decide_eq_true (Nat.lt_succ_self k)).symm
          · rw [if_neg hj]; exact decide_eq_decide.2 (by omega)
        rw [e] at h
        exact h)
      have HB2 := Lib.hid (hb.setCell (p := ⟨gA, k, none⟩) (Nat.le_refl gA) (.bool true))
      clear ha hb
      go_wp2_with fail
      go_roundg (gk - 1)
      case measure => omega
      case rel => exact ⟨k + 1, by go_num, by omega, by omega, HA2.out, HB2.out⟩
    · obtain rfl : k = n := by omega
      have HT : Hid (TrusD wr (.slice (some ⟨gA, 0, none⟩) k k) (List.replicate k true)) := Lib.hid (by
        have e : (tab k fun j => decide (j < k)) = List.replicate k true := by
          rw [← tab_rep k true]
          exact tab_congr fun j hj => decide_eq_true hj
        rw [e] at ha
        exact ha.trus List.length_replicate hn6)
      have HPW := Lib.hid (IntsD.below HP1.out (HGA.out ▸ hb))
      have HBW := Lib.hid (B1.out.trans ((show Below w1.heap.size w1 wr from HGA.out ▸ hb).mono B1.out.size))
      clear hlt hk hf ha hb HA
      go_wp2_with fail
      refine Calls.mono (rgroups_any (pnG g) k (List.replicate k true) _ _ wr HPW.out HT.out HN.out (by rw [List.length_replicate]; exact hn6)) ?_
      rintro e w9 ⟨v9, zs, rfl, hz, hf, b9⟩
      go_wp2_with fail
      go_ret
      exact ⟨v9, zs, rfl, hz, hf.trans HWR.out, HBW.out.trans (b9.mono HBW.out.size)⟩

end Go.Proofs.Ytkdpimifojjhaaa
