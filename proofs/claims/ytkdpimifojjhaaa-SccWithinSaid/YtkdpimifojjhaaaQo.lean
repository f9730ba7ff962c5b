/- Layer 17, the code: slices.DeleteFunc of rows. -/
import Derived.Test.YtkdpimifojjhaaaQn
namespace Go.Proofs.Ytkdpimifojjhaaa
set_option linter.unusedSimpArgs false
set_option linter.unusedVariables false
open Go.RowKit

theorem oth_setCells (g : Nat) : ∀ (vs : List Value) (o : Nat) (w : World), Oth (fun x => x = g) w (w.setCells g o vs)
  | [], _, w => Oth.refl _ w
  | v :: r, o, w => (Oth.set w g o v).trans (oth_setCells g r (o + 1) _) (fun _ h => h) (fun _ _ h => h)
/-- What stands in the row while it is gone through: the first j were looked at, those that stay are the first i. -/
structure DL (P : List Int × Value → Bool) (zs : List (List Int × Value)) (vals : List Value) (i j : Nat) : Prop where
  len : vals.length = zs.length
  lo : vals.take i = ((zs.take j).filter fun z => !P z).map (·.2)
  il : ((zs.take j).filter fun z => !P z).length = i
  hi : vals.drop j = (zs.drop j).map (·.2)
  lt : i < j
theorem DL.start {P : List Int × Value → Bool} {zs : List (List Int × Value)} {k : Nat} (hk : k < zs.length) (h1 : ∀ z, zs[k]? = some z → P z = true) (h2 : ∀ j, j < k → ∀ z, zs[j]? = some z → P z = false) : DL P zs (zs.map (·.2)) k (k + 1) := by
  have e1 : (zs.take k).filter (fun z => !P z) = zs.take k := List.filter_eq_self.2 fun z hz => by
    obtain ⟨j, hj, e⟩ := List.getElem_of_mem hz
    rw [List.length_take] at hj
    rw [List.getElem_take] at e
    rw [h2 j (by omega) z (by rw [List.getElem?_eq_getElem (by omega), e])]; rfl
  have e2 : (zs.take (k + 1)).filter (fun z => !P z) = zs.take k := by
    rw [List.take_add_one, List.getElem?_eq_getElem hk, List.filter_append, e1]
    have : ([zs[k]] : List (List Int × Value)).filter (fun z => !P z) = [] := by simp [h1 zs[k] (List.getElem?_eq_getElem hk)]
    show zs.take k ++ ([zs[k]] : List (List Int × Value)).filter (fun z => !P z) = _
    rw [this, List.append_nil]
  exact ⟨by rw [List.length_map], by rw [e2, List.map_take], by rw [e2, List.length_take]; omega, by rw [List.map_drop], Nat.lt_succ_self k⟩
theorem DL.skip {P : List Int × Value → Bool} {zs : List (List Int × Value)} {vals : List Value} {i j : Nat} (h : DL P zs vals i j) (hj : j < zs.length) (hp : P zs[j] = true) : DL P zs vals i (j + 1) := by
  have e : (zs.take (j + 1)).filter (fun z => !P z) = (zs.take j).filter fun z => !P z := by
    rw [List.take_add_one, List.getElem?_eq_getElem hj, List.filter_append]
    have : ([zs[j]] : List (List Int × Value)).filter (fun z => !P z) = [] := by simp [hp]
    show _ ++ ([zs[j]] : List (List Int × Value)).filter (fun z => !P z) = _
    rw [this, List.append_nil]
  exact ⟨h.len, by rw [e]; exact h.lo, by rw [e]; exact h.il, by rw [← List.drop_drop, h.hi, ← List.map_drop, List.drop_drop], by have := h.lt; omega⟩
theorem DL.keep {P : List Int × Value → Bool} {zs : List (List Int × Value)} {vals : List Value} {i j : Nat} (h : DL P zs vals i j) (hj : j < zs.length) (hp : P zs[j] = false) : DL P zs (vals.set i zs[j].2) (i + 1) (j + 1) := by
  have e : (zs.take (j + 1)).filter (fun z => !P z) = (zs.take j).filter (fun z => !P z) ++ [zs[j]] := by
    rw [List.take_add_one, List.getElem?_eq_getElem hj, List.filter_append]
    have : ([zs[j]] : List (List Int × Value)).filter (fun z => !P z) = [zs[j]] := by simp [hp]
    show _ ++ ([zs[j]] : List (List Int × Value)).filter (fun z => !P z) = _
    rw [this]
  have hl := h.lt
  refine ⟨by rw [List.length_set, h.len], ?_, by rw [e, List.length_append, h.il]; rfl, ?_, by omega⟩
  · rw [e, List.map_append, ← h.lo, List.take_add_one, List.take_set_of_le (Nat.le_refl _), List.getElem?_set_self (by rw [h.len]; omega)]; rfl
  · rw [List.drop_set_of_lt (by omega), ← List.drop_drop, h.hi, ← List.map_drop, List.drop_drop]
theorem DL.at {P : List Int × Value → Bool} {zs : List (List Int × Value)} {vals : List Value} {i j : Nat} (h : DL P zs vals i j) (hj : j < zs.length) : vals[j]? = some zs[j].2 := by
  have h1 : (vals.drop j)[0]? = vals[j]? := by rw [List.getElem?_drop]; rfl
  rw [← h1, h.hi, List.getElem?_map, List.getElem?_drop, Nat.add_zero, List.getElem?_eq_getElem hj]; rfl
theorem zero_row : ∀ w, (zeroValue 22).run Try.prog w = .ok (.slice none 0 0) w := by
  intro w
  obtain ⟨i0, hi, hz0, hz1, hz2⟩ := info_parts info_row
  simp [zeroValue, typeInfo, hi, hz0]
theorem own_ints {w : World} {B : Nat} {v : Value} {l : List Int} (h : w.ownsRow B 3 1 v l.length (ints l)) : IntsD w v l := intsD_of_own (T := 3) (by rw [ints_flat] at h; exact h)
set_option maxRecDepth 100000 in
set_option maxHeartbeats 8000000 in
theorem delete_any (P : List Int × Value → Bool) (gi : Nat) (zs : List (List Int × Value)) (vg : Value) (w : World) (B : Nat) (hz : GG w B vg zs) (hn : zs.length ≤ 1000) (hB : B ≤ w.heap.size) (hgi : gi < B)
    (hP : ∀ W, Below B w W → ∀ z ∈ zs, IntsD W z.2 z.1 → Calls Try.prog 30 #[z.2, .pointer (some ⟨gi, 0, none⟩)] W fun e w' => e = .returned (.bool (P z)) ∧ w' = W) :
    Calls Try.prog 31 #[vg, .func (.func 30) #[] #[.pointer (some ⟨gi, 0, none⟩)]] w fun e w' => ∃ v', e = .returned v' ∧ AllD w' v' (zs.filter fun z => !P z) ∧ Below B w w' := by
  have hdat := hz.data
  have HIX := Lib.hid (index_any P gi zs vg w hdat (by omega) fun z hm => hP w (Below.refl _ _) z hm (own_ints (by obtain ⟨i, hi, e⟩ := List.getElem_of_mem hm; exact hz.r i z (by rw [List.getElem?_eq_getElem hi, e]))))
  obtain ⟨ad, cap, hvg, hj⟩ := own_shape' hz.o
  clear hj
  subst hvg
  obtain ⟨n, hN⟩ : ∃ n, n = zs.length := ⟨_, rfl⟩
  rw [← hN] at HIX hn ⊢
  have HN := Lib.hid hN
  have HZ := Lib.hid hz
  have HP := Lib.hid hP
  have HNN := Lib.hid hn
  have HBB := Lib.hid hB
  have HD := Lib.hid hdat
  clear hN hz hP hn hdat
  go_enter Try.func31, Try.ntmps31
  go_upto_region 2 with (go_at_call 47; refine Calls.mono HIX.out ?_; rintro e w' ⟨r, rfl, hfo, rfl⟩; have HFO := Lib.hid hfo; clear hfo)
  rcases HFO.out with ⟨hr, hall⟩ | ⟨i0, hr, hi0, hf1, hf2⟩
  · subst hr
    have HAL : Hid (zs.filter (fun z => !P z) = zs) := Lib.hid (List.filter_eq_self.2 fun z hz => by rw [hall z hz]; rfl)
    clear hall
    go_wp2_with fail
    go_ret
    exact ⟨_, rfl, by have h := HD.out; rw [← HN.out] at h; rw [HAL.out, ]; exact h, Below.refl _ _⟩
  · subst hr
    obtain ⟨gO, cO, eO, hBO, _, _, _, _⟩ := own_put HZ.out.o hi0
    have eO2 : Value.slice ad n cap = .slice (some ⟨gO, 0, none⟩) n cO := by rw [← HN.out] at eO; exact eO
    injection eO2 with e1 e2 e3
    subst e1
    subst e3
    clear eO e2
    have hi0n : i0 < n := by rw [HN.out]; exact hi0
    have how0 : w'.ownsRow B 22 1 (.slice (some ⟨gO, 0, none⟩) n cap) n (zs.map (·.2)) := by have h := HZ.out.o; rw [← HN.out] at h; exact h
    have HOW0 := Lib.hid how0
    have HDL0 := Lib.hid (DL.start hi0 hf1 hf2)
    have HIN := Lib.hid (fun (W : World) (ho : Oth (fun x => x = gO) w' W) (z : List Int × Value) (k : Nat) (hk : zs[k]? = some z) => own_ints (ho.own (HZ.out.r k z hk) fun x hx e => HZ.out.apart hk x hx (by rw [e, ← HN.out]; rfl)))
    have HBO := Lib.hid hBO
    have HBW := Lib.hid (fun (W : World) (ho : Oth (fun x => x = gO) w' W) => ho.below (B := B) (fun x h => by rw [h]; exact hBO) HBB.out)
    have j5 : IntKind.i64.wrap ((i0 : Int) + 1) = (i0 : Int) + 1 := IntWalk.i64_in _ (by have := HNN.out; omega)
    have hne : ¬ ((i0 : Int) = -1) := by omega
    have hzr := zero_row
    clear hf1 hf2 hi0 how0 hBO HFO HIX HD
    go_wp2_with fail
    go_loopg [5, 6, 7] n (fun fuel s5 s6 s7 wr => ∃ (i j : Nat) (vals : List Value), s5 = .int .i64 i ∧ s6 = .int .i64 j ∧ j ≤ n ∧ n - j ≤ fuel ∧ wr.ownsRow B 22 1 (.slice (some ⟨gO, 0, none⟩) n cap) n vals ∧ DL P zs vals i j ∧ Oth (fun x => x = gO) w' wr)
    case atStart => exact ⟨i0, i0 + 1, _, rfl, by go_num, by omega, by omega, HOW0.out, HDL0.out, Oth.refl _ _⟩
    case round =>
      obtain ⟨i, j, vals, rfl, rfl, hj, hf, how, hdl, ho⟩ := hrel
      have HOW := Lib.hid how
      have HDL := Lib.hid hdl
      have HO := Lib.hid ho
      have hij := hdl.lt
      by_cases hlt : j < n
      · have hjl : j < zs.length := by rw [← HN.out]; exact hlt
        obtain ⟨g1, c1, e1, _, l1, x1, _, _⟩ := own_put how hlt
        have eg1 : gO = g1 := slice_blk e1
        subst eg1
        rw [hdl.at hjl] at x1
        obtain ⟨g2, c2, e2, _, l2, x2, f2, hs2⟩ := own_put how (show i < n by omega)
        have eg2 : gO = g2 := slice_blk e2
        subst eg2
        obtain ⟨vi, hvi⟩ : ∃ vi, vals[i]? = some vi := ⟨_, List.getElem?_eq_getElem (by rw [hdl.len, ← HN.out]; omega)⟩
        rw [hvi] at x2
        have HC := Lib.hid (HP.out wr (HBW.out wr ho) zs[j] (List.getElem_mem hjl) (HIN.out wr ho zs[j] j (List.getElem?_eq_getElem hjl)))
        have HOW2 := Lib.hid (hs2 zs[j].2)
        have HO2 := Lib.hid (ho.trans (G := fun x => x = gO) (Oth.set wr gO i zs[j].2) (fun _ h => h) (fun _ _ h => h))
        obtain ⟨q, hq⟩ : ∃ q, P zs[j] = q := ⟨_, rfl⟩
        rw [hq] at HC
        have HDN : Hid (q = true → DL P zs vals i (j + 1)) := Lib.hid (fun h => hdl.skip hjl (by rw [hq, h]))
        have HDK : Hid (q = false → DL P zs (vals.set i zs[j].2) (i + 1) (j + 1)) := Lib.hid (fun h => hdl.keep hjl (by rw [hq, h]))
        have i1 : (0 : Int) ≤ (j : Int) := by omega
        have i2 : (j : Int) < (n : Int) := by omega
        have i3 : (0 : Int) ≤ (i : Int) := by omega
        have i4 : (i : Int) < (n : Int) := by omega
        have i5 : IntKind.i64.wrap ((j : Int) + 1) = (j : Int) + 1 := IntWalk.i64_in _ (by have := HNN.out; omega)
        have i6 : IntKind.i64.wrap ((i : Int) + 1) = (i : Int) + 1 := IntWalk.i64_in _ (by have := HNN.out; omega)
        obtain ⟨za, zl, zc, hav⟩ : ∃ za zl zc, zs[j].2 = .slice za zl zc := by
          obtain ⟨za, zc, h⟩ := (HIN.out wr ho zs[j] j (List.getElem?_eq_getElem hjl)).shape0
          exact ⟨za, _, zc, h⟩
        rw [hav] at x1 HC HOW2 HO2 HDK
        clear hav how hdl ho hq e1 e2 hs2 hvi hjl
        cases q with
        | true =>
          go_wp2_with (go_at_call 30; refine Calls.mono HC.out ?_; rintro e w' ⟨rfl, rfl⟩)
          go_roundg (gk - 1)
          case measure => omega
          case rel => exact ⟨i, j + 1, vals, rfl, by go_num, by omega, by omega, HOW.out, HDN.out (by simp), HO.out⟩
        | false =>
          go_wp2_with (go_at_call 30; refine Calls.mono HC.out ?_; rintro e w' ⟨rfl, rfl⟩)
          go_roundg (gk - 1)
          case measure => omega
          case rel => exact ⟨i + 1, j + 1, _, by go_num, by go_num, by omega, by omega, HOW2.out, HDK.out (by simp), HO2.out⟩
      · obtain rfl : j = n := by omega
        have hall : ∀ t, t < j → wr.cell? ⟨gO, t, none⟩ = vals[t]? ∧ wr.frozen? ⟨gO, t, none⟩ = false := fun t ht => by
          obtain ⟨g1, c1, e1, _, l1, x1, f1, _⟩ := own_put how ht
          have eg1 : gO = g1 := slice_blk e1
          subst eg1
          exact ⟨x1, f1⟩
        have hvl : vals.length = j := by rw [hdl.len, HN.out]
        have hcl : ∀ ty, (Builtin.clear_ #[30] ty #[.slice (some ⟨gO, i, none⟩) (j - i) (cap - i)]).run Try.prog wr = .ok (.tuple #[]) (wr.setCells gO i (List.replicate (j - i) (.slice none 0 0))) :=
          fun ty => Lib.run_clear_slice wr _ 22 ty _ Try.underlying30 hzr rfl rfl gO i _ _ (by omega) (fun t ht => by rw [(hall (i + t) (by omega)).1, List.getElem?_eq_getElem (by omega)]; rfl) (fun t ht => (hall (i + t) (by omega)).2)
        have hcapj : j ≤ cap ∧ cap ≤ maxLen := by
          obtain ⟨_, h2⟩ := how
          rcases h2 with ⟨h, _⟩ | ⟨g, c, cur, e, _, _, hle, hml, _⟩
          · cases h
          · injection e with _ _ e3; subst e3; exact ⟨hle, hml⟩
        have HOT := Lib.hid (HO.out.trans (G := fun x => x = gO) (oth_setCells gO (List.replicate (j - i) (.slice none 0 0)) i wr) (fun _ h => h) (fun _ _ h => h))
        have HRS : Hid (AllD (wr.setCells gO i (List.replicate (j - i) (.slice none 0 0))) (.slice (some ⟨gO, 0, none⟩) i cap) (zs.filter fun z => !P z)) := Lib.hid (by
          have hfl : (zs.filter fun z => !P z).length = i := by have h := hdl.il; rw [HN.out, List.take_length] at h; exact h
          have hlo := hdl.lo
          rw [HN.out, List.take_length] at hlo
          refine ⟨some ⟨gO, 0, none⟩, cap, by rw [hfl], ⟨by rw [hfl]; have := hcapj.1; omega, fun h => by cases h⟩, by have := hcapj.2; unfold maxLen at this; omega, fun t ht => ?_⟩
          rw [hfl] at ht
          have hz1 : (zs.filter fun z => !P z)[t]? = some (zs.filter fun z => !P z)[t] := List.getElem?_eq_getElem (by rw [hfl]; exact ht)
          refine ⟨gO, 0, rfl, Nat.lt_of_lt_of_le (own_blk how gO rfl).2 (oth_setCells gO (List.replicate (j - i) (.slice none 0 0)) i wr).b.size, ?_, ?_⟩
          · rw [World.cell?_setCells_out gO _ _ _ _ (fun _ _ => .inl (by show 0 + t * 1 < i; omega))]
            rw [Nat.zero_add, Nat.mul_one, (hall t (by omega)).1]
            have h1 : (vals.take i)[t]? = vals[t]? := by rw [List.getElem?_take, if_pos ht]
            rw [← h1, hlo, List.getElem?_map, hz1]; rfl
          · have hm := (List.mem_filter.1 (List.mem_of_getElem? hz1)).1
            obtain ⟨k, hk, e⟩ := List.getElem_of_mem hm
            exact HIN.out _ HOT.out _ k (by rw [List.getElem?_eq_getElem hk, e]))
        have HBF := Lib.hid (HBW.out _ HOT.out)
        have i3 : (0 : Int) ≤ (i : Int) := by omega
        have i4 : (i : Int) ≤ (j : Int) := by omega
        have i7 : i ≤ j := by omega
        have i8 : i ≤ cap := by have := hcapj.1; omega
        have hne2 : ¬ cap = i := by have := hcapj.1; omega
        clear hall hvl hcapj how hdl ho HOW HDL HO
        generalize wr.setCells gO i (List.replicate (j - i) (.slice none 0 0)) = wf at hcl HRS HBF HOT
        go_wp2_with fail
        go_ret
        exact ⟨_, rfl, HRS.out, HBF.out⟩

end Go.Proofs.Ytkdpimifojjhaaa
