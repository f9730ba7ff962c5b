/- Layer 12, the code: numbers as bytes, and bytes put into their places. -/
import Derived.Test.YtmkgijedchpgcaaEo
import Derived.Test.YtmkgijedchpgcaaEc
import Derived.Test.YtmkgijedchpgcaaYg
import Derived.Laws.CopyOwn
namespace Go.Proofs.Ytmkgijedchpgcaa
set_option linter.unusedSimpArgs false
set_option linter.unusedVariables false
open Go.RowKit

def zY : Value := .int .u8 0
/-- The first k numbers, as bytes. -/
def mixY (l : List Int) (k : Nat) : List Value := mixL (fun j => Value.int .u8 (l.getD j 0)) (fun _ => zY) l.length k
theorem mixY_zero (l : List Int) : mixY l 0 = List.replicate l.length zY := by unfold mixY; rw [mix_zero, range_rep]
theorem mixY_all (l : List Int) : mixY l l.length = rowY l := by
  unfold mixY rowY
  rw [mix_all]
  apply List.ext_getElem
  · simp
  · intro i h1 h2
    have hi : i < l.length := by simpa using h2
    simp [List.getD_eq_getElem?_getD, List.getElem?_eq_getElem hi]
theorem mixY_len (l : List Int) (k : Nat) : (mixY l k).length = l.length := mix_len _ _ _ _

set_option maxRecDepth 100000 in
set_option maxHeartbeats 2000000 in
theorem bytesOf_any (l : List Int) (v : Value) (w : World) (hv : IntsD w v l) (hn : l.length ≤ 1000000) (hb : ∀ n ∈ l, 0 ≤ n ∧ n < 256) :
    Calls Try.prog 24 #[v] w fun e w' => e = .returned (.slice (some ⟨w.heap.size, 0, none⟩) l.length l.length) ∧ Bk w' w.heap.size 5 (rowY l).toArray ∧ Below w.heap.size w w' := by
  have H1 := Lib.hid hv
  have HB := Lib.hid hb
  obtain ⟨a1, p1, rfl⟩ := hv.shape0
  obtain ⟨n, hN⟩ : ∃ n, n = l.length := ⟨_, rfl⟩
  rw [← hN] at hn H1 ⊢
  have N1 := Lib.hid hN
  have hn6 : n ≤ 1000000 := by omega
  clear hv hN hb
  go_enter Try.func24, Try.ntmps24
  go_wp2_with (refine make_one rfl (.tmp 7) (.tmp 7) 56 5 zY 1 Try.underlying56 info_u8 rfl (by decide) rfl n rfl rfl hn6 ?_)
  intro w1 Z HZ G1 b1
  have B1 := Lib.hid b1
  clear b1
  obtain ⟨g, hg⟩ : ∃ g, g = w.heap.size := ⟨_, rfl⟩
  rw [← hg] at G1 ⊢
  have HG := Lib.hid hg
  have P0 : Hid (Bk w1 g 5 (mixY l 0).toArray) := Lib.hid (by rw [mixY_zero, ← N1.out, ← HZ.out]; exact G1.out)
  clear hg HZ G1
  go_wp2_with fail
  go_loopg [11] n (fun fuel i' wr => ∃ (k : Nat), i' = .int .i64 k ∧ k ≤ n ∧ n - k ≤ fuel ∧ Bk wr g 5 (mixY l k).toArray ∧ Below w.heap.size w wr)
  case atStart => exact ⟨0, rfl, Nat.zero_le _, Nat.le_refl _, P0.out, B1.out⟩
  case round =>
    obtain ⟨k, rfl, hk, hf, hp, hb⟩ := hrel
    have HP := Lib.hid hp
    have HBW := Lib.hid hb
    clear hp hb P0
    by_cases hlt : k < n
    · have hk' : k < l.length := by have := N1.out; omega
      obtain ⟨b, off, rfl, hbl, x0⟩ := IntsD.at2 (H1.out.below HBW.out) k hk'
      have hx := HB.out _ (List.getElem_mem hk')
      obtain ⟨xn, hxn⟩ : ∃ x, x = l[k] := ⟨_, rfl⟩
      rw [← hxn] at x0 hx
      have HX := Lib.hid hxn
      have hu : IntKind.u8.wrap xn = xn := by show xn % 256 = _; omega
      have e1 : (0 : Int) ≤ (k : Int) := Int.natCast_nonneg _
      have e2 : (k : Int) < (n : Int) := by omega
      have c0 : wr.cell? ⟨g, k, none⟩ = some zY := by
        rw [HP.out.cell k, List.getElem?_toArray]
        unfold mixY mixL
        rw [List.getElem?_map, List.getElem?_range hk']
        simp
      have f0 : wr.frozen? ⟨g, k, none⟩ = false := HP.out.fz k
      have l0 := HP.out.lt
      have HST : Hid (Bk (wr.setCell ⟨g, k, none⟩ (.int .u8 xn)) g 5 (mixY l (k + 1)).toArray) := Lib.hid (by
        have h3 := heap_setCell_same wr g k _ _ (.int .u8 xn) HP.out
        rw [List.setIfInBounds_toArray, show (mixY l k).set k (.int .u8 xn) = mixY l (k + 1) from mix_set _ _ _ _ _ hk' (by rw [HX.out, List.getD_eq_getElem?_getD, List.getElem?_eq_getElem hk']; rfl)] at h3
        exact h3)
      have HBS : Hid (Below w.heap.size w (wr.setCell ⟨g, k, none⟩ (.int .u8 xn))) := Lib.hid (Below.setCell (p := ⟨g, k, none⟩) HBW.out (Nat.le_of_eq HG.out.symm) _)
      clear hxn
      go_wp2_with fail
      go_roundg (gk - 1)
      case measure => omega
      case rel => exact ⟨k + 1, by go_num, by omega, by omega, HST.out, HBS.out⟩
    · have hkn : k = n := by omega
      subst hkn
      go_wp2
      go_ret
      refine ⟨by rw [← HG.out]; rfl, ?_, HBW.out⟩
      have := HP.out
      rw [N1.out, mixY_all] at this
      rw [← HG.out]
      exact this

/-- copy, told by what it leaves. -/
theorem step_copy_fr {P : Program} {ops : Array Oper} {o : Oper} {a : Act} {w : World} {K : Act → World → Prop} {Q : Exit → Act → World → Prop} {E : Prop} (hgd : o.guard = none) (d s : Operand) (dT sT : TypeId)
    (ho : o.op = .call { callee := .builtin .copy, args := #[d, s], argTypes := #[dT, sT] }) (elem : TypeId) (hu : P.underlying dT = some (.slice elem)) (hsz : (P.info? elem).map (·.size) = some 1)
    (dp sp : Option Addr) (dLen dCap sLen sCap : Nat) (hd : a.eval d = .slice dp dLen dCap) (hs : a.eval s = .slice sp sLen sCap)
    (g off : Nat) (cur : List Value) (t : TypeId) (hg : Bk w g t cur.toArray) (cs : List Value) (hn : cs.length = Nat.min sLen dLen)
    (hpos : 0 < cs.length → dp = some ⟨g, off, none⟩ ∧ ∃ ad, sp = some ad ∧ ∀ j v, cs[j]? = some v → w.cell? (ad.add j) = some v)
    (hfit : off + cs.length ≤ cur.length) (h1 : ∀ v ∈ cs, v.oneCell' = true)
    (h : ∀ w', Hid (Bk w' g t (splice cur off cs).toArray) → Hid (Fr g (g + 1) w w') → K (a.put o.dst (goInt cs.length)) w') :
    if Region.wanted o (yielded ops a.tmps) = true then Oper.wp P o a w K Q else E := by
  have hw : Region.wanted o (yielded ops a.tmps) = true := by simp [Region.wanted, hgd]
  rw [if_pos hw]
  by_cases h0 : cs.length = 0
  · obtain rfl : cs = [] := List.eq_nil_of_length_eq_zero h0
    have hrun := run_copy_none (P := P) w dT sT o.type elem dp sp dLen dCap sLen sCap hu hsz (by simpa using hn.symm)
    unfold Oper.wp
    simp [execOp, ho, resolve, invoke, builtin, hd, hs, hrun, Result.andThen]
    exact h w (Lib.hid (by have h9 : w.heap[g]? = _ := hg; show w.heap[g]? = _; simpa [splice] using h9)) (Lib.hid (Fr.refl _ _ _))
  · obtain ⟨rfl, ad, rfl, hsrc⟩ := hpos (by omega)
    have hrun := run_copy_row (P := P) w dT sT o.type elem g off dLen dCap ad sLen sCap cur.toArray t cs hu hsz hg hn hsrc (by simpa using hfit) h1
    unfold Oper.wp
    simp [execOp, ho, resolve, invoke, builtin, hd, hs, hrun, Result.andThen]
    refine h _ (Lib.hid (show _ = _ by simpa [splice] using setRow_heap w g _ _ t _ hg)) (Lib.hid ⟨below_setRow (Below.refl _ _) (Nat.le_refl _) _, ⟨by simp [World.setRow], fun k hk _ => setRow_other w g k _ (by omega)⟩⟩)

theorem splice_done (done xs : List Value) (n : Nat) (z : Value) (h : xs.length ≤ n) : splice (done ++ List.replicate n z) done.length xs = (done ++ xs) ++ List.replicate (n - xs.length) z := by
  unfold splice
  rw [List.take_left', List.drop_append, List.drop_of_length_le (by omega), List.nil_append, show done.length + xs.length - done.length = xs.length by omega, List.drop_replicate, List.append_assoc]
  rfl

/-- What has been put: the first bytes; the rest of the row. -/
structure PutAt (w : World) (g r N : Nat) (done : List Int) : Prop where
  le : done.length ≤ N
  row : Bk w g 5 (rowY done ++ List.replicate (N - done.length) zY).toArray
  box : ∃ dp, (done.length < N → dp = some ⟨g, done.length, none⟩) ∧ Bk w r 56 #[.slice dp (N - done.length) (N - done.length)]
  lt : g < r

theorem put_end {g r N : Nat} {done xs : List Int} {dp : Option Addr} {m k rs : Nat} {w w2 : World} (hdp : k < N → dp = some ⟨g, k, none⟩) (hk : k = done.length) (hrs : rs = N - done.length) (hm : xs.length = m) (hle : done.length ≤ N) (hmr : m ≤ rs) (hlt : g < r)
    (h2 : Bk w2 g 5 (splice (rowY done ++ List.replicate rs zY) done.length (rowY xs)).toArray) (hf : Fr g (g + 1) w.drew w2) (hb : Bk w2 r 56 #[.slice dp rs rs]) :
    PutAt (w2.setCell ⟨r, 0, none⟩ (.slice (if rs = m then dp else Option.map (fun x => x.add m) dp) (rs - m) (rs - m))) g r N (done ++ xs) ∧ Fr g (r + 1) w (w2.setCell ⟨r, 0, none⟩ (.slice (if rs = m then dp else Option.map (fun x => x.add m) dp) (rs - m) (rs - m))) := by
  have hlen : (done ++ xs).length = done.length + m := by rw [List.length_append, hm]
  have hyl : ∀ l : List Int, (rowY l).length = l.length := fun l => by unfold rowY; exact List.length_map _
  refine ⟨⟨by omega, ?_, ⟨if rs = m then dp else Option.map (fun x => x.add m) dp, fun h => ?_, ?_⟩, hlt⟩, ?_⟩
  · have h3 := splice_done (rowY done) (rowY xs) rs zY (by rw [hyl]; omega)
    rw [hyl, hyl] at h3
    rw [h3, show rowY done ++ rowY xs = rowY (done ++ xs) by unfold rowY; rw [List.map_append], hm] at h2
    rw [hlen, show N - (done.length + m) = rs - m by omega]
    exact (heap_setCell_other w2 ⟨r, 0, none⟩ g _ (by simp; omega)).trans h2
  · rw [if_neg (by omega), hdp (by omega), hlen]
    show some (Addr.add ⟨g, k, none⟩ m) = _
    unfold Addr.add
    simp [hk]
  · rw [hlen, show N - (done.length + m) = rs - m by omega]
    exact heap_setCell_same w2 r 0 _ _ _ hb
  · have e1 : Below g w w2 := (Below.drew (Below.refl g w)).trans hf.b
    refine ⟨Below.setCell (p := ⟨r, 0, none⟩) e1 (by show g ≤ r; omega) _, ⟨?_, fun j hj hjl => ?_⟩⟩
    · have := hf.k.1
      rw [setCell_size]
      exact this
    · rw [heap_setCell_other w2 ⟨r, 0, none⟩ j _ (by simp; omega)]
      exact hf.k.2 j (by omega) hjl

theorem put_any (g r N : Nat) (done xs : List Int) (sp : Option Addr) (m cap : Nat) (w : World) (h : PutAt w g r N done) (hm : xs.length = m) (hc : m ≤ cap) (hfit : done.length + m ≤ N) (hN : N ≤ 1000000)
    (hsp : 0 < m → ∃ ad, sp = some ad ∧ ∀ j v, (rowY xs)[j]? = some v → w.cell? (ad.add j) = some v) :
    Calls Try.prog 23 #[.slice sp m cap, .pointer (some ⟨r, 0, none⟩)] w fun e w' => e = .returned (.tuple #[]) ∧ PutAt w' g r N (done ++ xs) ∧ Fr g (r + 1) w w' := by
  obtain ⟨dp, hdp, hbx⟩ := h.box
  have c0 : w.cell? ⟨r, 0, none⟩ = some (.slice dp (N - done.length) (N - done.length)) := hbx.cell 0
  have f0 : w.frozen? ⟨r, 0, none⟩ = false := hbx.fz 0
  have l0 := hbx.lt
  obtain ⟨k, hk⟩ : ∃ k, k = done.length := ⟨_, rfl⟩
  obtain ⟨rs, hrs⟩ : ∃ rs, rs = N - done.length := ⟨_, rfl⟩
  have hle := h.le
  rw [← hrs] at c0 hbx
  rw [← hk] at hfit hdp
  have HR : Hid (Bk w g 5 (rowY done ++ List.replicate rs zY).toArray) := Lib.hid (by rw [hrs]; exact h.row)
  have HBX := Lib.hid hbx
  have HDP := Lib.hid hdp
  have HSP := Lib.hid hsp
  have HLT := Lib.hid h.lt
  have hgr : ¬ g = r := by have := h.lt; omega
  have HGR := Lib.hid hgr
  have hmr : m ≤ rs := by omega
  have HRL : Hid (done.length + (rowY xs).length ≤ (rowY done ++ List.replicate rs zY).length) := Lib.hid (by simp only [rowY, List.length_append, List.length_map, List.length_replicate]; omega)
  have HXM : Hid ((rowY xs).length = m) := Lib.hid (by simp only [rowY, List.length_map]; exact hm)
  have HMN : Hid ((rowY xs).length = Nat.min m rs) := Lib.hid (by show _ = min m rs; rw [HXM.out]; exact (Nat.min_eq_left hmr).symm)
  have HPO : Hid (0 < (rowY xs).length → dp = some ⟨g, done.length, none⟩ ∧ ∃ ad, sp = some ad ∧ ∀ j v, (rowY xs)[j]? = some v → w.cell? (ad.add j) = some v) := Lib.hid (fun h0 => by
    rw [HXM.out] at h0
    refine ⟨?_, hsp h0⟩
    rw [← hk]
    exact hdp (by omega))
  have HK := Lib.hid hk
  have HRS := Lib.hid hrs
  have HM := Lib.hid hm
  have HLE := Lib.hid hle
  have hu1 : Try.prog.underlying 56 = some (.slice 5) := Try.underlying56
  have hu2 : (Try.prog.info? 5).map (·.size) = some 1 := by kernel_rfl
  have h1s : ∀ v ∈ rowY xs, v.oneCell' = true := by
    intro v hv
    obtain ⟨n, _, rfl⟩ := List.mem_map.1 hv
    rfl
  have H1S := Lib.hid h1s
  have bm : (0 : Int) ≤ (m : Int) := by omega
  have bm1 : (m : Int) ≤ (rs : Int) := by omega
  clear h hk hrs hm hc hfit hN hsp hdp hbx hgr hle h1s
  go_enter Try.func23, Try.ntmps23
  go_region_law
    ((refine step_copy_fr (by rfl) (.tmp 4) (.tmp 5) 56 56 (by rfl) 5 hu1 hu2 dp sp rs rs m cap (by rfl) (by rfl) g done.length (rowY done ++ List.replicate rs zY) 5 HR.out (rowY xs) HMN.out HPO.out HRL.out H1S.out ?_; intro w2 HG2 HF2; rw [HXM.out]; have KB2 := Lib.hid (HF2.out.bk (g := r) (T := 56) (cs := #[.slice dp rs rs]) (by have := HLT.out; omega) HBX.out); have q0 := KB2.out.cell 0; have q1 := KB2.out.fz 0; have q2 := KB2.out.lt))
  all_goals
    have HE := put_end HDP.out HK.out HRS.out HM.out HLE.out hmr HLT.out HG2.out HF2.out KB2.out
    clear q0 q1 q2
    go_end0
    exact ⟨rfl, HE⟩

end Go.Proofs.Ytmkgijedchpgcaa
