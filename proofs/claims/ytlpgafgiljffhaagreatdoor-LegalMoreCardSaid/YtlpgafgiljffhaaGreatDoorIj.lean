/- legal: Index, Locs, and the reference's. legal: the fixed programs. legal: known. -/
import Derived.Test.YtlpgafgiljffhaaGreatDoorIh
namespace Go.Proofs.YtlpgafgiljffhaaGreatDoor
open Go.RowKit
set_option linter.unusedSimpArgs false
set_option linter.unusedVariables false
def idxF (s : ByteArray) : List ByteArray → Nat → Int
  | [], _ => -1
  | x :: l, k => if x = s then (k : Int) else idxF s l (k + 1)
theorem ba_eq (a b : ByteArray) : (a.toList == b.toList) = decide (a = b) := by
  by_cases h : a = b
  · subst h; simp
  · rw [decide_eq_false h, beq_eq_false_iff_ne]
    intro e
    rw [ByteArray.toList_eq, ByteArray.toList_eq] at e
    exact h (ByteArray.ext (Array.toList_inj.1 e))
theorem idxF_cons (s x : ByteArray) (l : List ByteArray) (k : Nat) : idxF s (x :: l) k = if x = s then (k : Int) else idxF s l (k + 1) := rfl
section
variable {w : World}
set_option maxRecDepth 100000 in
set_option maxHeartbeats 4000000 in
theorem slidx_any (l : List ByteArray) (v : Value) (s : ByteArray) (w : World) (hv : StrsD w v l) (hn : l.length ≤ 100000) :
    Calls Tryz.prog 29 #[v, .string s] w fun e w' => e = .returned (.int .i64 (idxF s l 0)) ∧ w = w' := by
  have HV := Lib.hid hv
  obtain ⟨ad, cap, rfl⟩ := SlD.shape hv
  obtain ⟨n, hnn⟩ : ∃ n, n = l.length := ⟨_, rfl⟩
  obtain ⟨r, hr⟩ : ∃ r, idxF s l 0 = r := ⟨_, rfl⟩
  rw [hr]
  rw [← hnn] at hn ⊢
  have HN := Lib.hid hnn
  have HR := Lib.hid hr
  clear hv hr hnn
  go_enter Tryz.func29, Tryz.ntmps29
  go_wp2_with fail
  go_loopg [8] n (fun fuel i' wr => ∃ k : Nat, i' = .int .i64 k ∧ k ≤ n ∧ n - k ≤ fuel ∧ idxF s (l.drop k) k = r ∧ wr = w)
  case atStart => exact ⟨0, rfl, Nat.zero_le _, Nat.le_refl _, HR.out, rfl⟩
  case round =>
    obtain ⟨k, rfl, hk, hf, ha, rfl⟩ := hrel
    clear HR
    by_cases hlt : k < n
    · have hky : k < l.length := by have := HN.out; omega
      obtain ⟨ad', cap', hve, _, _, hcc⟩ := HV.out
      obtain ⟨bb, off, hba, hbl, x0⟩ := hcc k hky
      have he1 : ad = ad' := by injection hve
      rw [← he1] at hba
      subst hba
      obtain ⟨x, hx⟩ : ∃ x, x = l[k] := ⟨_, rfl⟩
      rw [← hx] at x0
      have x0 : wr.cell? ⟨bb, off + k * 1, none⟩ = some (.string x) := x0
      rw [Nat.mul_one] at x0
      have hdr : l.drop k = x :: l.drop (k + 1) := by rw [hx]; exact List.drop_eq_getElem_cons hky
      rw [hdr, idxF_cons] at ha
      clear hx hdr hcc hve he1
      by_cases hxs : x = s
      · have e1 : (x.toList == s.toList) = true := by rw [ba_eq]; exact decide_eq_true hxs
        have e2 : (s.toList == x.toList) = true := by rw [ba_eq]; exact decide_eq_true hxs.symm
        rw [if_pos hxs] at ha
        subst ha
        clear hxs
        go_wp2_with fail
        go_ret
        exact ⟨rfl, rfl⟩
      · have e1 : (x.toList == s.toList) = false := by rw [ba_eq]; exact decide_eq_false hxs
        have e2 : (s.toList == x.toList) = false := by rw [ba_eq]; exact decide_eq_false (fun e => hxs e.symm)
        rw [if_neg hxs] at ha
        clear hxs
        go_wp2_with fail
        go_roundg (gk - 1)
        case measure => omega
        case rel => exact ⟨k + 1, by go_num, by omega, by omega, ha, rfl⟩
    · obtain rfl : k = n := by omega
      rw [show l.drop k = [] by rw [HN.out]; exact List.drop_length] at ha
      have ha : (-1 : Int) = r := ha
      subst ha
      go_wp2_with fail
      go_ret
      exact ⟨rfl, rfl⟩
set_option maxRecDepth 100000 in
set_option maxHeartbeats 4000000 in
theorem ridx_any (l : List ByteArray) (v : Value) (s : ByteArray) (w : World) (hv : StrsD w v l) (hn : l.length ≤ 100000) :
    Calls Tryz.prog 16 #[v, .string s] w fun e w' => e = .returned (.int .i64 (idxF s l 0)) ∧ w = w' := by
  have HV := Lib.hid hv
  obtain ⟨ad, cap, rfl⟩ := SlD.shape hv
  obtain ⟨n, hnn⟩ : ∃ n, n = l.length := ⟨_, rfl⟩
  obtain ⟨r, hr⟩ : ∃ r, idxF s l 0 = r := ⟨_, rfl⟩
  rw [hr]
  rw [← hnn] at hn ⊢
  have HN := Lib.hid hnn
  have HR := Lib.hid hr
  clear hv hr hnn
  go_enter Tryz.func16, Tryz.ntmps16
  go_wp2_with fail
  go_loopg [5] n (fun fuel i' wr => ∃ k : Nat, i' = .int .i64 k ∧ k ≤ n ∧ n - k ≤ fuel ∧ idxF s (l.drop k) k = r ∧ wr = w)
  case atStart => exact ⟨0, rfl, Nat.zero_le _, Nat.le_refl _, HR.out, rfl⟩
  case round =>
    obtain ⟨k, rfl, hk, hf, ha, rfl⟩ := hrel
    clear HR
    by_cases hlt : k < n
    · have hky : k < l.length := by have := HN.out; omega
      obtain ⟨ad', cap', hve, _, _, hcc⟩ := HV.out
      obtain ⟨bb, off, hba, hbl, x0⟩ := hcc k hky
      have he1 : ad = ad' := by injection hve
      rw [← he1] at hba
      subst hba
      obtain ⟨x, hx⟩ : ∃ x, x = l[k] := ⟨_, rfl⟩
      rw [← hx] at x0
      have x0 : wr.cell? ⟨bb, off + k * 1, none⟩ = some (.string x) := x0
      rw [Nat.mul_one] at x0
      have hdr : l.drop k = x :: l.drop (k + 1) := by rw [hx]; exact List.drop_eq_getElem_cons hky
      rw [hdr, idxF_cons] at ha
      clear hx hdr hcc hve he1
      by_cases hxs : x = s
      · have e1 : (x.toList == s.toList) = true := by rw [ba_eq]; exact decide_eq_true hxs
        have e2 : (s.toList == x.toList) = true := by rw [ba_eq]; exact decide_eq_true hxs.symm
        rw [if_pos hxs] at ha
        subst ha
        clear hxs
        go_wp2_with fail
        go_ret
        exact ⟨rfl, rfl⟩
      · have e1 : (x.toList == s.toList) = false := by rw [ba_eq]; exact decide_eq_false hxs
        have e2 : (s.toList == x.toList) = false := by rw [ba_eq]; exact decide_eq_false (fun e => hxs e.symm)
        rw [if_neg hxs] at ha
        clear hxs
        go_wp2_with fail
        go_roundg (gk - 1)
        case measure => omega
        case rel => exact ⟨k + 1, by go_num, by omega, by omega, ha, rfl⟩
    · obtain rfl : k = n := by omega
      rw [show l.drop k = [] by rw [HN.out]; exact List.drop_length] at ha
      have ha : (-1 : Int) = r := ha
      subst ha
      go_wp2_with fail
      go_ret
      exact ⟨rfl, rfl⟩
theorem lidx_any (l : List ByteArray) (v : Value) (s : ByteArray) (w : World) (hv : StrsD w v l) (hn : l.length ≤ 100000) :
    Calls Tryz.prog 15 #[v, .string s] w fun e w' => e = .returned (.int .i64 (idxF s l 0)) ∧ w = w' := by
  have H := Lib.hid (slidx_any l v s w hv hn)
  clear hv hn
  go_enter Tryz.func15, Tryz.ntmps15
  go_wp2_with fail
  refine H.out.mono ?_
  rintro e w2 ⟨rfl, rfl⟩
  go_wp2_with fail
  go_ret
  exact ⟨rfl, rfl⟩
set_option maxRecDepth 100000 in
set_option maxHeartbeats 4000000 in
theorem locs_any (xs : List Vr) (m : Int) (v y z : Value) (w : World) (hv : VrsD w v xs) (hn : xs.length ≤ 100000) (hy : ∃ a n c, y = .slice a n c) (hz : ∃ a n c, z = .slice a n c) :
    Calls Tryz.prog 13 #[.agg #[.int .i64 m, v, y, z]] w fun e w' => ∃ u, e = .returned u ∧ w'.ownsRow w.heap.size 9 1 u (nms xs).length (rowB (nms xs)) ∧ Below w.heap.size w w' := by
  obtain ⟨a2, n2, c2, rfl⟩ := hy
  obtain ⟨a3, n3, c3, rfl⟩ := hz
  have HV := Lib.hid hv
  obtain ⟨ad, cap, rfl⟩ := SlD.shape hv
  obtain ⟨n, hnn⟩ : ∃ n, n = xs.length := ⟨_, rfl⟩
  have HR : Hid ((nms xs).length = n) := Lib.hid (by unfold nms; rw [List.length_map, hnn])
  rw [← hnn] at hn ⊢
  have HN := Lib.hid hnn
  have HAL := Lib.hid (bel_al w (.cells #[.int .i64 m, .slice ad n cap, .slice a2 n2 c2, .slice a3 n3 c3] 26))
  have HB := Lib.hid (Bk.new w 26 #[.int .i64 m, .slice ad n cap, .slice a2 n2 c2, .slice a3 n3 c3])
  clear hv hnn
  go_enter Tryz.func13, Tryz.ntmps13
  go_upto_region 1 with fail
  generalize World.alloc _ _ = wB at HAL HB ⊢
  have b1 : wB.cell? ⟨w.heap.size, 1, none⟩ = some (.slice ad n cap) := HB.out.cell 1
  have bl := HB.out.lt
  go_wp2_with fail
  clear b1 bl
  go_loopg [3, 9] n (fun fuel v' i' wr => ∃ (k : Nat) (ad9 : Option Addr) (cap9 : Nat), i' = .int .i64 k ∧ k ≤ n ∧ n - k ≤ fuel ∧ v' = .slice ad9 k cap9 ∧ Hid (wr.ownsRow wB.heap.size 9 1 (.slice ad9 k cap9) k (rowB (nms (xs.take k)))) ∧ Hid (Below wB.heap.size wB wr))
  case atStart => exact ⟨0, none, 0, rfl, Nat.zero_le _, Nat.le_refl _, rfl, Lib.hid ⟨rfl, .inl ⟨rfl, rfl⟩⟩, Lib.hid (Below.refl _ _)⟩
  case round =>
    obtain ⟨k, ad9, cap9, rfl, hk, hf, rfl, ho, hb⟩ := hrel
    have b1 : wr.cell? ⟨w.heap.size, 1, none⟩ = some (.slice ad n cap) := (HB.out.below hb.out).cell 1
    have bl := (HB.out.below hb.out).lt
    by_cases hlt : k < n
    · have hky : k < xs.length := by have := HN.out; omega
      have hm1 : k + 1 ≤ n := hlt
      have hm2 : n - (k + 1) ≤ gk - 1 := by omega
      have hm3 : gk - 1 < gk := by omega
      obtain ⟨ad', cap', hve, _, _, hcc⟩ := HV.out
      obtain ⟨bb, off, hba, hbl, x0, x1, x2⟩ := hcc k hky
      have he1 : ad = ad' := by injection hve
      rw [← he1] at hba
      subst hba
      obtain ⟨x, hx⟩ : ∃ x, x = xs[k] := ⟨_, rfl⟩
      rw [← hx] at x0 x1 x2
      have HTK : Hid (rowB (nms (xs.take (k + 1))) = rowB (nms (xs.take k)) ++ [.string x.nm]) := Lib.hid (by unfold nms rowB; rw [hx, List.take_succ_eq_append_getElem hky]; simp only [List.map_append, List.map_cons, List.map_nil])
      obtain ⟨xn, xv, xp⟩ := x
      simp only [] at x0 x1 x2 HTK
      have BW := Lib.hid (HAL.out.trans (hb.out.mono HAL.out.size))
      have c0 : wr.cell? ⟨bb, off + k * 3, none⟩ = some (.string xn) := (BW.out.cell (p := ⟨bb, _, none⟩) hbl).trans x0
      have c1 : wr.cell? ⟨bb, off + k * 3 + 1, none⟩ = some (.int .i64 xv) := (BW.out.cell (p := ⟨bb, _, none⟩) hbl).trans x1
      have c2 : wr.cell? ⟨bb, off + k * 3 + 2, none⟩ = some (.int .i64 xp) := (BW.out.cell (p := ⟨bb, _, none⟩) hbl).trans x2
      clear hx hcc hve he1 x0 x1 x2
      have L1 := Lib.hid (bel_al2 wr (.cells #[.string xn, .int .i64 xv, .int .i64 xp] 40) (.cells #[.string xn] 9))
      have hown := own_below ho.out L1.out
      have hsz := Nat.le_trans hb.out.size L1.out.size
      have hla : k ≤ 1000000 := by omega
      go_wp2_with (at_builtin; refine append_oneG 34 9 1 16 (.string ⟨#[]⟩) Tryz.underlying34 info_str rfl (by decide) (by decide) rfl (.tmp 13) (.tmp 16) rfl wB.heap.size k _ _ [.string xn] rfl (wr.heap.size + 1) (by simp [Act.eval, alloc_size]) hown rfl (fun j _ => by simp [alloc_size]) (fun u hu => by simp only [List.mem_cons, List.not_mem_nil, or_false] at hu; subst hu; rfl) hla hsz ?_)
      intro v9 w9 ho9 hb9 hg9
      obtain ⟨ad4, cap4, rfl, _⟩ := own_shape ho9
      have HO9 := Lib.hid ho9
      have HB9 := Lib.hid (hb.out.trans ((L1.out.mono hb.out.size).trans hb9))
      clear ho9 hb9 hg9 hown hsz ho hb L1 b1 bl c0 c1 c2 BW
      go_wp2_with fail
      go_roundg (gk - 1)
      case measure => exact hm3
      case rel => exact ⟨k + 1, ad4, cap4, by go_num, hm1, hm2, rfl, Lib.hid (by rw [HTK.out]; exact HO9.out), HB9⟩
    · obtain rfl : k = n := by omega
      rw [show xs.take k = xs by rw [HN.out]; exact List.take_length] at ho
      go_wp2_with fail
      go_ret
      exact ⟨_, rfl, by rw [HR.out]; exact own_mono ho.out HAL.out.size, HAL.out.trans (hb.out.mono HAL.out.size)⟩
set_option maxRecDepth 100000 in
set_option maxHeartbeats 4000000 in
theorem rlocs_any (xs : List Vr) (m : Int) (v y z : Value) (w : World) (hv : VrsD w v xs) (hn : xs.length ≤ 100000) (hy : ∃ a n c, y = .slice a n c) (hz : ∃ a n c, z = .slice a n c) :
    Calls Tryz.prog 14 #[.agg #[.int .i64 m, v, y, z]] w fun e w' => ∃ u, e = .returned u ∧ w'.ownsRow w.heap.size 9 1 u (nms xs).length (rowB (nms xs)) ∧ Below w.heap.size w w' := by
  obtain ⟨a2, n2, c2, rfl⟩ := hy
  obtain ⟨a3, n3, c3, rfl⟩ := hz
  have HV := Lib.hid hv
  obtain ⟨ad, cap, rfl⟩ := SlD.shape hv
  obtain ⟨n, hnn⟩ : ∃ n, n = xs.length := ⟨_, rfl⟩
  have HR : Hid ((nms xs).length = n) := Lib.hid (by unfold nms; rw [List.length_map, hnn])
  rw [← hnn] at hn ⊢
  have HN := Lib.hid hnn
  have HAL := Lib.hid (bel_al w (.cells #[.int .i64 m, .slice ad n cap, .slice a2 n2 c2, .slice a3 n3 c3] 26))
  have HB := Lib.hid (Bk.new w 26 #[.int .i64 m, .slice ad n cap, .slice a2 n2 c2, .slice a3 n3 c3])
  clear hv hnn
  go_enter Tryz.func14, Tryz.ntmps14
  go_upto_region 1 with fail
  generalize World.alloc _ _ = wB at HAL HB ⊢
  have b1 : wB.cell? ⟨w.heap.size, 1, none⟩ = some (.slice ad n cap) := HB.out.cell 1
  have bl := HB.out.lt
  go_wp2_with fail
  clear b1 bl
  go_loopg [3, 4] n (fun fuel v' i' wr => ∃ (k : Nat) (ad9 : Option Addr) (cap9 : Nat), i' = .int .i64 k ∧ k ≤ n ∧ n - k ≤ fuel ∧ v' = .slice ad9 k cap9 ∧ Hid (wr.ownsRow wB.heap.size 9 1 (.slice ad9 k cap9) k (rowB (nms (xs.take k)))) ∧ Hid (Below wB.heap.size wB wr))
  case atStart => exact ⟨0, none, 0, rfl, Nat.zero_le _, Nat.le_refl _, rfl, Lib.hid ⟨rfl, .inl ⟨rfl, rfl⟩⟩, Lib.hid (Below.refl _ _)⟩
  case round =>
    obtain ⟨k, ad9, cap9, rfl, hk, hf, rfl, ho, hb⟩ := hrel
    have b1 : wr.cell? ⟨w.heap.size, 1, none⟩ = some (.slice ad n cap) := (HB.out.below hb.out).cell 1
    have bl := (HB.out.below hb.out).lt
    by_cases hlt : k < n
    · have hky : k < xs.length := by have := HN.out; omega
      have hm1 : k + 1 ≤ n := hlt
      have hm2 : n - (k + 1) ≤ gk - 1 := by omega
      have hm3 : gk - 1 < gk := by omega
      obtain ⟨ad', cap', hve, _, _, hcc⟩ := HV.out
      obtain ⟨bb, off, hba, hbl, x0, x1, x2⟩ := hcc k hky
      have he1 : ad = ad' := by injection hve
      rw [← he1] at hba
      subst hba
      obtain ⟨x, hx⟩ : ∃ x, x = xs[k] := ⟨_, rfl⟩
      rw [← hx] at x0 x1 x2
      have HTK : Hid (rowB (nms (xs.take (k + 1))) = rowB (nms (xs.take k)) ++ [.string x.nm]) := Lib.hid (by unfold nms rowB; rw [hx, List.take_succ_eq_append_getElem hky]; simp only [List.map_append, List.map_cons, List.map_nil])
      obtain ⟨xn, xv, xp⟩ := x
      simp only [] at x0 x1 x2 HTK
      have BW := Lib.hid (HAL.out.trans (hb.out.mono HAL.out.size))
      have c0 : wr.cell? ⟨bb, off + k * 3, none⟩ = some (.string xn) := (BW.out.cell (p := ⟨bb, _, none⟩) hbl).trans x0
      have c1 : wr.cell? ⟨bb, off + k * 3 + 1, none⟩ = some (.int .i64 xv) := (BW.out.cell (p := ⟨bb, _, none⟩) hbl).trans x1
      have c2 : wr.cell? ⟨bb, off + k * 3 + 2, none⟩ = some (.int .i64 xp) := (BW.out.cell (p := ⟨bb, _, none⟩) hbl).trans x2
      clear hx hcc hve he1 x0 x1 x2
      have L1 := Lib.hid (bel_al wr (.cells #[.string xn] 9))
      have hown := own_below ho.out L1.out
      have hsz : wB.heap.size ≤ (wr.alloc (.cells #[.string xn] 9)).heap.size := Nat.le_trans hb.out.size L1.out.size
      have hla : k ≤ 1000000 := by omega
      go_wp2_with (at_builtin; refine append_oneG 34 9 1 16 (.string ⟨#[]⟩) Tryz.underlying34 info_str rfl (by decide) (by decide) rfl (.tmp 12) (.tmp 19) rfl wB.heap.size k _ _ [.string xn] rfl wr.heap.size rfl hown rfl (fun j _ => by simp [alloc_size]) (fun u hu => by simp only [List.mem_cons, List.not_mem_nil, or_false] at hu; subst hu; rfl) hla hsz ?_)
      intro v9 w9 ho9 hb9 hg9
      obtain ⟨ad4, cap4, rfl, _⟩ := own_shape ho9
      have HO9 := Lib.hid ho9
      have HB9 := Lib.hid (hb.out.trans ((L1.out.mono hb.out.size).trans hb9))
      clear ho9 hb9 hg9 hown hsz ho hb L1 b1 bl c0 c1 c2 BW
      go_wp2_with fail
      go_roundg (gk - 1)
      case measure => exact hm3
      case rel => exact ⟨k + 1, ad4, cap4, by go_num, hm1, hm2, rfl, Lib.hid (by rw [HTK.out]; exact HO9.out), HB9⟩
    · obtain rfl : k = n := by omega
      rw [show xs.take k = xs by rw [HN.out]; exact List.take_length] at ho
      go_wp2_with fail
      go_ret
      exact ⟨_, rfl, by rw [HR.out]; exact own_mono ho.out HAL.out.size, HAL.out.trans (hb.out.mono HAL.out.size)⟩
end

end Go.Proofs.YtlpgafgiljffhaaGreatDoor

namespace Go.Proofs.YtlpgafgiljffhaaGreatDoor
open Go.RowKit
set_option linter.unusedSimpArgs false
set_option linter.unusedVariables false
set_option maxRecDepth 100000
theorem flaw_of (x : St) (h0 : ¬ (x.kind < 1 ∨ 13 < x.kind ∨ x.pl < 0)) (h1 : nameW x.reg (hasB x.kind.toNat 0) = true) (h2 : nameW x.loc (hasB x.kind.toNat 1) = true) (h3 : valW x.e (hasB x.kind.toNat 2) = true) (h4 : valW x.f (hasB x.kind.toNat 3) = true)
    (h5 : ((x.ne && !hasB x.kind.toNat 4) || ((decide (x.body ≠ 0) && !hasB x.kind.toNat 5) || (decide (x.els ≠ 0) && !hasB x.kind.toNat 6))) = false) : flawB x = false := by
  unfold flawB; rw [if_neg h0, h1, h2, h3, h4, h5]; rfl
theorem val_of (l : List Nd) (h : rightB l = true) (h2 : regsO l = true) : valW l true = true := by unfold valW; rw [if_pos rfl, h, h2]; rfl
theorem flT_of (t : Th) (h1 : nameB t.nm = true) (h2 : (t.regs.all fun s => !(!nameB s)) = true) (h3 : rightSB t.body = true) (h4 : ¬ t.pl < 0) : flT t = false := by unfold flT; rw [h1, h2, h3, decide_eq_false h4]; rfl
theorem flC_of (c : Cl) (h1 : kindB c.kind = true) (h2 : rightB c.e = true) (h3 : (c.e.all fun n => !ownless n) = true) (h4 : ¬ c.pl < 0) : flC c = false := by unfold flC; rw [h1, h2, h3, decide_eq_false h4]; rfl
theorem pg_of (g : Pg) (h1 : numB g.mod = true) (h2 : (g.locs.all fun x => !flV x) = true) (h3 : ∀ t ∈ g.ths, flT t = false) (h4 : ∀ c ∈ g.cls, flC c = false) : rightPB g = true := by
  have e3 : (g.ths.all fun x => !flT x) = true := List.all_eq_true.2 fun t ht => by rw [h3 t ht]; rfl
  have e4 : (g.cls.all fun x => !flC x) = true := List.all_eq_true.2 fun t ht => by rw [h4 t ht]; rfl
  unfold rightPB; rw [h1, h2, e3, e4]; rfl
theorem rsb (xs : List St) (t : Tr) (h1 : xs.length ≤ 200) (h2 : t.flat = xs) (h3 : ∀ x ∈ xs, flawB x = false) (h4 : t.hgt ≤ 30) : rightSB xs = true :=
  rightSB_yes ⟨h1, ⟨t, h2⟩, List.all_eq_true.2 fun x hx => by rw [h3 x hx]; rfl, t, h2, h4⟩
theorem all1 {α : Type} {P : α → Prop} {a : α} (h : P a) : ∀ x ∈ [a], P x := fun x hx => by rcases List.mem_singleton.1 hx with rfl; exact h
theorem all2 {α : Type} {P : α → Prop} {a b : α} (h : P a) (k : P b) : ∀ x ∈ [a, b], P x := fun x hx => by rcases List.mem_cons.1 hx with rfl | hx; exact h; exact all1 k x hx
theorem all3 {α : Type} {P : α → Prop} {a b c : α} (h : P a) (k : P b) (l : P c) : ∀ x ∈ [a, b, c], P x := fun x hx => by rcases List.mem_cons.1 hx with rfl | hx; exact h; exact all2 k l x hx
theorem all0 {α : Type} {P : α → Prop} : ∀ x ∈ ([] : List α), P x := fun x hx => (List.not_mem_nil hx).elim
theorem fw1 : flawB ⟨3, ⟨#[97]⟩, ⟨#[120]⟩, [], [], false, 0, 0, 29⟩ = false := flaw_of _ (by decide) (by kernel_rfl) (by kernel_rfl) (by kernel_rfl) (by kernel_rfl) (by kernel_rfl)
theorem sb1 : rightSB [⟨3, ⟨#[97]⟩, ⟨#[120]⟩, [], [], false, 0, 0, 29⟩] = true := rsb _ (.node ⟨3, ⟨#[97]⟩, ⟨#[120]⟩, [], [], false, 0, 0, 29⟩ .nil .nil .nil) (by decide) rfl (all1 fw1) (by decide)
theorem rt1 : rightPB pg1 = true := pg_of _ (by kernel_rfl) (by kernel_rfl) (all1 (flT_of _ (by kernel_rfl) (by kernel_rfl) sb1 (by decide))) all0
theorem nb2 : rightB [⟨1, 2, ⟨#[]⟩, ⟨#[]⟩, 33⟩] = true := right_yes _ ⟨.leaf ⟨1, 2, ⟨#[]⟩, ⟨#[]⟩, 33⟩, rfl, rfl, by decide, by kernel_rfl, by decide⟩
theorem fw2 : flawB ⟨2, ⟨#[97]⟩, ⟨#[]⟩, [⟨1, 2, ⟨#[]⟩, ⟨#[]⟩, 33⟩], [], false, 0, 0, 25⟩ = false := flaw_of _ (by decide) (by kernel_rfl) (by kernel_rfl) (val_of _ nb2 (by kernel_rfl)) (by kernel_rfl) (by kernel_rfl)
theorem sb2 : rightSB [⟨2, ⟨#[97]⟩, ⟨#[]⟩, [⟨1, 2, ⟨#[]⟩, ⟨#[]⟩, 33⟩], [], false, 0, 0, 25⟩] = true := rsb _ (.node ⟨2, ⟨#[97]⟩, ⟨#[]⟩, [⟨1, 2, ⟨#[]⟩, ⟨#[]⟩, 33⟩], [], false, 0, 0, 25⟩ .nil .nil .nil) (by decide) rfl (all1 fw2) (by decide)
theorem rt2 : rightPB pg2 = true := pg_of _ (by kernel_rfl) (by kernel_rfl) (all1 (flT_of _ (by kernel_rfl) (by kernel_rfl) sb2 (by decide))) all0
theorem nb3 : rightB [⟨1, 1, ⟨#[]⟩, ⟨#[]⟩, 21⟩] = true := right_yes _ ⟨.leaf ⟨1, 1, ⟨#[]⟩, ⟨#[]⟩, 21⟩, rfl, rfl, by decide, by kernel_rfl, by decide⟩
theorem fw3 : flawB ⟨10, ⟨#[]⟩, ⟨#[]⟩, [⟨1, 1, ⟨#[]⟩, ⟨#[]⟩, 21⟩], [], false, 1, 0, 18⟩ = false := flaw_of _ (by decide) (by kernel_rfl) (by kernel_rfl) (val_of _ nb3 (by kernel_rfl)) (by kernel_rfl) (by kernel_rfl)
theorem fw3b : flawB ⟨13, ⟨#[]⟩, ⟨#[]⟩, [], [], false, 0, 0, 25⟩ = false := flaw_of _ (by decide) (by kernel_rfl) (by kernel_rfl) (by kernel_rfl) (by kernel_rfl) (by kernel_rfl)
theorem sb3 : rightSB [⟨10, ⟨#[]⟩, ⟨#[]⟩, [⟨1, 1, ⟨#[]⟩, ⟨#[]⟩, 21⟩], [], false, 1, 0, 18⟩, ⟨13, ⟨#[]⟩, ⟨#[]⟩, [], [], false, 0, 0, 25⟩] = true := rsb _ (.node ⟨10, ⟨#[]⟩, ⟨#[]⟩, [⟨1, 1, ⟨#[]⟩, ⟨#[]⟩, 21⟩], [], false, 1, 0, 18⟩ (.node ⟨13, ⟨#[]⟩, ⟨#[]⟩, [], [], false, 0, 0, 25⟩ .nil .nil .nil) .nil .nil) (by decide) rfl (all2 fw3 fw3b) (by decide)
theorem rt3 : rightPB pg3 = true := pg_of _ (by kernel_rfl) (by kernel_rfl) (all1 (flT_of _ (by kernel_rfl) (by kernel_rfl) sb3 (by decide))) all0
theorem fw4a : flawB ⟨12, ⟨#[]⟩, ⟨#[]⟩, [], [], false, 2, 0, 36⟩ = false := flaw_of _ (by decide) (by kernel_rfl) (by kernel_rfl) (by kernel_rfl) (by kernel_rfl) (by kernel_rfl)
theorem fw4b : flawB ⟨3, ⟨#[97]⟩, ⟨#[120]⟩, [], [], false, 0, 0, 43⟩ = false := flaw_of _ (by decide) (by kernel_rfl) (by kernel_rfl) (by kernel_rfl) (by kernel_rfl) (by kernel_rfl)
theorem fw4c : flawB ⟨13, ⟨#[]⟩, ⟨#[]⟩, [], [], false, 0, 0, 55⟩ = false := flaw_of _ (by decide) (by kernel_rfl) (by kernel_rfl) (by kernel_rfl) (by kernel_rfl) (by kernel_rfl)
theorem sb4 : rightSB [⟨12, ⟨#[]⟩, ⟨#[]⟩, [], [], false, 2, 0, 36⟩, ⟨3, ⟨#[97]⟩, ⟨#[120]⟩, [], [], false, 0, 0, 43⟩, ⟨13, ⟨#[]⟩, ⟨#[]⟩, [], [], false, 0, 0, 55⟩] = true := rsb _ (.node ⟨12, ⟨#[]⟩, ⟨#[]⟩, [], [], false, 2, 0, 36⟩ (.node ⟨3, ⟨#[97]⟩, ⟨#[120]⟩, [], [], false, 0, 0, 43⟩ .nil .nil (.node ⟨13, ⟨#[]⟩, ⟨#[]⟩, [], [], false, 0, 0, 55⟩ .nil .nil .nil)) .nil .nil) (by decide) rfl (all3 fw4a fw4b fw4c) (by decide)
theorem nb4 : rightB [⟨9, 0, ⟨#[]⟩, ⟨#[]⟩, 77⟩, ⟨4, 0, ⟨#[97]⟩, ⟨#[116]⟩, 73⟩, ⟨3, 0, ⟨#[120]⟩, ⟨#[]⟩, 80⟩] = true := right_yes _ ⟨.bin ⟨9, 0, ⟨#[]⟩, ⟨#[]⟩, 77⟩ (.leaf ⟨4, 0, ⟨#[97]⟩, ⟨#[116]⟩, 73⟩) (.leaf ⟨3, 0, ⟨#[120]⟩, ⟨#[]⟩, 80⟩), ⟨rfl, rfl, rfl⟩, rfl, by decide, by kernel_rfl, by decide⟩
theorem rt4 : rightPB pg4 = true := pg_of _ (by kernel_rfl) (by kernel_rfl) (all1 (flT_of _ (by kernel_rfl) (by kernel_rfl) sb4 (by decide))) (all1 (flC_of _ (by kernel_rfl) nb4 (by kernel_rfl) (by decide)))
theorem chk1 : chkC pg1 = (9, 29) := by unfold chkC; rw [rt1]; kernel_rfl
theorem chk2 : chkC pg2 = (11, 33) := by unfold chkC; rw [rt2]; kernel_rfl
theorem chk3 : chkC pg3 = (13, 25) := by unfold chkC; rw [rt3]; kernel_rfl
theorem chk4 : chkC pg4 = (0, 0) := by unfold chkC; rw [rt4]; kernel_rfl
theorem smok_of (xs : List St) (h : (xs.all fun x => decide (x.reg.size ≤ 100000) && (decide (x.loc.size ≤ 100000) && (decide (x.e.length ≤ 100000) && (decide (x.f.length ≤ 100000) && ((x.e.all fun n => decide (n.nm.size ≤ 100000) && decide (n.inn.size ≤ 100000)) && (x.f.all fun n => decide (n.nm.size ≤ 100000) && decide (n.inn.size ≤ 100000))))))) = true) : SmOK xs := by
  intro x hx
  have := List.all_eq_true.1 h x hx
  simp only [Bool.and_eq_true, decide_eq_true_eq, List.all_eq_true] at this
  obtain ⟨h1, h2, h3, h4, h5, h6⟩ := this
  exact ⟨h1, h2, h3, h4, fun i hi => h5 _ (List.getElem_mem hi), fun i hi => h6 _ (List.getElem_mem hi)⟩
theorem nmok_of (l : List Nd) (h : (l.all fun n => decide (n.nm.size ≤ 100000) && decide (n.inn.size ≤ 100000)) = true) : NmOK l := fun i hi => by
  have := List.all_eq_true.1 h _ (List.getElem_mem hi)
  simpa only [Bool.and_eq_true, decide_eq_true_eq] using this
theorem str_of (l : List ByteArray) (h : (l.all fun n => decide (n.size ≤ 100000)) = true) : ∀ s ∈ l, s.size ≤ 100000 := fun s hs => by simpa using List.all_eq_true.1 h s hs
theorem vr_of (l : List Vr) (h : (l.all fun n => decide (n.nm.size ≤ 100000)) = true) : ∀ s ∈ l, s.nm.size ≤ 100000 := fun s hs => by simpa using List.all_eq_true.1 h s hs
theorem bd_of (l : List St) (h : (l.all fun n => decide (0 ≤ n.body) && decide (n.body ≤ 1000000)) = true) : ∀ s ∈ l, 0 ≤ s.body ∧ s.body ≤ 1000000 := fun s hs => by simpa only [Bool.and_eq_true, decide_eq_true_eq] using List.all_eq_true.1 h s hs
theorem ok1 : PmOK pg1 := ⟨⟨by decide, vr_of _ (by kernel_rfl)⟩, ⟨by decide, all1 ⟨by decide, by decide, str_of _ (by kernel_rfl), by decide, smok_of _ (by kernel_rfl)⟩⟩, ⟨by decide, all0⟩⟩
theorem bd1 : rightPB pg1 = true → ∀ t ∈ pg1.ths, ∀ s ∈ t.body, 0 ≤ s.body ∧ s.body ≤ 1000000 := fun _ => all1 (bd_of _ (by kernel_rfl))
theorem ok2 : PmOK pg2 := ⟨⟨by decide, vr_of _ (by kernel_rfl)⟩, ⟨by decide, all1 ⟨by decide, by decide, str_of _ (by kernel_rfl), by decide, smok_of _ (by kernel_rfl)⟩⟩, ⟨by decide, all0⟩⟩
theorem bd2 : rightPB pg2 = true → ∀ t ∈ pg2.ths, ∀ s ∈ t.body, 0 ≤ s.body ∧ s.body ≤ 1000000 := fun _ => all1 (bd_of _ (by kernel_rfl))
theorem ok3 : PmOK pg3 := ⟨⟨by decide, vr_of _ (by kernel_rfl)⟩, ⟨by decide, all1 ⟨by decide, by decide, str_of _ (by kernel_rfl), by decide, smok_of _ (by kernel_rfl)⟩⟩, ⟨by decide, all0⟩⟩
theorem bd3 : rightPB pg3 = true → ∀ t ∈ pg3.ths, ∀ s ∈ t.body, 0 ≤ s.body ∧ s.body ≤ 1000000 := fun _ => all1 (bd_of _ (by kernel_rfl))
theorem ok4 : PmOK pg4 := ⟨⟨by decide, vr_of _ (by kernel_rfl)⟩, ⟨by decide, all1 ⟨by decide, by decide, str_of _ (by kernel_rfl), by decide, smok_of _ (by kernel_rfl)⟩⟩, ⟨by decide, (all1 ⟨by decide, nmok_of _ (by kernel_rfl)⟩)⟩⟩
theorem bd4 : rightPB pg4 = true → ∀ t ∈ pg4.ths, ∀ s ∈ t.body, 0 ≤ s.body ∧ s.body ≤ 1000000 := fun _ => all1 (bd_of _ (by kernel_rfl))

end Go.Proofs.YtlpgafgiljffhaaGreatDoor

namespace Go.Proofs.YtlpgafgiljffhaaGreatDoor
open Go.RowKit
set_option linter.unusedSimpArgs false
set_option linter.unusedVariables false
theorem strs2 (w : World) (T : Nat) (a b : ByteArray) : StrsD (w.alloc (.cells #[.string a, .string b] T)) (.slice (some ⟨w.heap.size, 0, none⟩) 2 2) [a, b] := by
  have hb := Bk.new w T #[.string a, .string b]
  refine ⟨_, 2, rfl, ⟨Nat.le_refl _, fun h => by cases h⟩, by omega, fun i hi => ⟨w.heap.size, 0, rfl, hb.lt, ?_⟩⟩
  match i, hi with
  | 0, _ => exact hb.cell 0
  | 1, _ => exact hb.cell 1
theorem idx1 : idxF ⟨#[98]⟩ [⟨#[97]⟩, ⟨#[98]⟩] 0 = 1 := by kernel_rfl
theorem idx2 : idxF ⟨#[98]⟩ [] 0 = -1 := rfl
theorem nms5 : (nms pg5.locs).length = 1 := rfl
theorem locs5 : pg5.locs.length ≤ 100000 := by decide
set_option maxRecDepth 100000 in
set_option maxHeartbeats 8000000 in
theorem known_any (w : World) (hf : Flds w) : Calls Tryz.prog 9 #[] w fun e w' => e = .returned (.bool true) ∧ Below w.heap.size w w' := by
  have HF := Lib.hid hf
  have HB0 := Lib.hid (Below.refl w.heap.size w)
  clear hf
  go_enter Tryz.func9, Tryz.ntmps9
  go_wp2_with fail
  refine (parsed_any _ pg1 0 0 (by exact prs1) _ (by unfold maxLen; decide)).mono ?_
  rintro e u1 ⟨a1, b1, c1, rfl, po1, hp1⟩
  have HC1 : Hid (Below w.heap.size w u1) := Lib.hid (HB0.out.trans (hp1.mono HB0.out.size))
  have K1 := check_any pg1 a1 b1 c1 (pgD_of_own po1) ok1 (flds_below HF.out HC1.out) bd1
  rw [chk1] at K1
  clear po1 hp1
  go_wp2_with fail
  refine K1.mono ?_
  rintro e v1 ⟨rfl, hv1⟩
  have HD1 : Hid (Below w.heap.size w v1) := Lib.hid (HC1.out.trans (hv1.mono HC1.out.size))
  clear hv1 K1 HC1 HB0
  go_wp2_with fail
  refine (parsed_any _ pg2 0 0 (by exact prs2) _ (by unfold maxLen; decide)).mono ?_
  rintro e u2 ⟨a2, b2, c2, rfl, po2, hp2⟩
  have HC2 : Hid (Below w.heap.size w u2) := Lib.hid (HD1.out.trans (hp2.mono HD1.out.size))
  have K2 := check_any pg2 a2 b2 c2 (pgD_of_own po2) ok2 (flds_below HF.out HC2.out) bd2
  rw [chk2] at K2
  clear po2 hp2
  go_wp2_with fail
  refine K2.mono ?_
  rintro e v2 ⟨rfl, hv2⟩
  have HD2 : Hid (Below w.heap.size w v2) := Lib.hid (HC2.out.trans (hv2.mono HC2.out.size))
  clear hv2 K2 HC2 HD1
  go_wp2_with fail
  refine (parsed_any _ pg3 0 0 (by exact prs3) _ (by unfold maxLen; decide)).mono ?_
  rintro e u3 ⟨a3, b3, c3, rfl, po3, hp3⟩
  have HC3 : Hid (Below w.heap.size w u3) := Lib.hid (HD2.out.trans (hp3.mono HD2.out.size))
  have K3 := check_any pg3 a3 b3 c3 (pgD_of_own po3) ok3 (flds_below HF.out HC3.out) bd3
  rw [chk3] at K3
  clear po3 hp3
  go_wp2_with fail
  refine K3.mono ?_
  rintro e v3 ⟨rfl, hv3⟩
  have HD3 : Hid (Below w.heap.size w v3) := Lib.hid (HC3.out.trans (hv3.mono HC3.out.size))
  clear hv3 K3 HC3 HD2
  go_wp2_with fail
  refine (parsed_any _ pg4 0 0 (by exact prs4) _ (by unfold maxLen; decide)).mono ?_
  rintro e u4 ⟨a4, b4, c4, rfl, po4, hp4⟩
  have HC4 : Hid (Below w.heap.size w u4) := Lib.hid (HD3.out.trans (hp4.mono HD3.out.size))
  have K4 := check_any pg4 a4 b4 c4 (pgD_of_own po4) ok4 (flds_below HF.out HC4.out) bd4
  rw [chk4] at K4
  clear po4 hp4
  go_wp2_with fail
  refine K4.mono ?_
  rintro e v4 ⟨rfl, hv4⟩
  have HD4 : Hid (Below w.heap.size w v4) := Lib.hid (HC4.out.trans (hv4.mono HC4.out.size))
  clear hv4 K4 HC4 HD3
  go_wp2_with fail
  have I1 := lidx_any [⟨#[97]⟩, ⟨#[98]⟩] _ ⟨#[98]⟩ _ (strs2 v4 9 ⟨#[97]⟩ ⟨#[98]⟩) (by decide)
  rw [idx1] at I1
  refine I1.mono ?_
  rintro e u5 ⟨rfl, rfl⟩
  have HD5 := Lib.hid (HD4.out.trans ((bel_al v4 (.cells #[.string ⟨#[97]⟩, .string ⟨#[98]⟩] 9)).mono HD4.out.size))
  clear I1 HD4
  generalize World.alloc _ _ = v5 at HD5 ⊢
  go_wp2_with fail
  have I2 := lidx_any [] _ ⟨#[98]⟩ v5 SlD.nil (by decide)
  rw [idx2] at I2
  refine I2.mono ?_
  rintro e u6 ⟨rfl, rfl⟩
  clear I2
  go_wp2_with fail
  refine (parsed_any _ pg5 0 0 (by exact prs5) _ (by unfold maxLen; decide)).mono ?_
  rintro e u6 ⟨a6, b6, c6, rfl, po6, hp6⟩
  have HC6 : Hid (Below w.heap.size w u6) := Lib.hid (HD5.out.trans (hp6.mono HD5.out.size))
  have pd := pgD_of_own po6
  have L6 := locs_any pg5.locs pg5.mod a6 b6 c6 u6 pd.1 locs5 (by obtain ⟨x, y, h⟩ := po6.t.shape; exact ⟨x, _, y, h⟩) (by obtain ⟨x, y, h⟩ := po6.c.shape; exact ⟨x, _, y, h⟩)
  clear po6 hp6 pd HD5
  go_wp2_with fail
  refine L6.mono ?_
  rintro e u7 ⟨uv, rfl, ho7, hb7⟩
  obtain ⟨ad7, cap7, rfl, _⟩ := own_shape ho7
  have HC7 : Hid (Below w.heap.size w u7) := Lib.hid (HC6.out.trans (hb7.mono HC6.out.size))
  rw [nms5]
  clear ho7 hb7 L6 HC6
  go_wp2_with fail
  go_ret
  exact ⟨rfl, HC7.out⟩

end Go.Proofs.YtlpgafgiljffhaaGreatDoor
