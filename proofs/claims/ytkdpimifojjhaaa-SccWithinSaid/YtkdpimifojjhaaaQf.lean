/- Layer 17, the code: leave. -/
import Derived.Test.YtkdpimifojjhaaaQd
namespace Go.Proofs.Ytkdpimifojjhaaa
set_option linter.unusedSimpArgs false
set_option linter.unusedVariables false
open Go.RowKit

/-- The nodes L, from the k-th on, have the leader i; the row holds A and the others. -/
def TT.popK (T : TT) (i : Nat) (A L : List Nat) (k : Nat) : TT := { T with lead := fun x => if x ∈ L.drop k then (i : Int) else T.lead x, opn := A ++ L.take k }
theorem popK_end (T : TT) (i : Nat) (A B : List Nat) : T.popK i A (i :: B) 0 = T.clr i A B := by
  unfold TT.popK TT.clr
  rw [List.drop_zero, List.take_zero, List.append_nil]
theorem popK_top (T : TT) (i : Nat) (A L : List Nat) (h : T.opn = A ++ L) : T.popK i A L L.length = T := by
  unfold TT.popK
  rw [List.drop_length, List.take_length, ← h]
  congr 1
theorem popK_step (T : TT) (i : Nat) (A L : List Nat) (k : Nat) (hk : k < L.length) : { T.popK i A L (k + 1) with lead := upd (T.popK i A L (k + 1)).lead L[k] (i : Int), opn := A ++ L.take k } = T.popK i A L k := by
  have e : upd (T.popK i A L (k + 1)).lead L[k] (i : Int) = (T.popK i A L k).lead := by
    funext x
    show (if x = L[k] then (i : Int) else if x ∈ L.drop (k + 1) then (i : Int) else T.lead x) = if x ∈ L.drop k then (i : Int) else T.lead x
    rw [List.drop_eq_getElem_cons hk]
    by_cases hx : x = L[k]
    · rw [if_pos hx, if_pos (by rw [hx]; exact List.mem_cons_self ..)]
    · rw [if_neg hx]
      by_cases hm : x ∈ L.drop (k + 1)
      · rw [if_pos hm, if_pos (List.mem_cons_of_mem _ hm)]
      · rw [if_neg hm, if_neg fun hh => by rcases List.mem_cons.1 hh with e | e; exact hx e; exact hm e]
  rw [e]
  rfl
section
variable {w : World} {B n gS gO gL gD : Nat} {T : TT} {vo : Value}
set_option maxRecDepth 100000 in
set_option maxHeartbeats 8000000 in
theorem leave_any (h : SR w B n gS gO gL gD T vo) (i : Nat) (hi : i < n) (A B' : List Nat) (hop : T.opn = A ++ i :: B') (hB : i ∉ B') (hlt : ∀ x ∈ T.opn, x < n) (hld : T.lead i = -1) (hll : T.opn.length ≤ 1000) (T' : TT) (hT : (if T.low i < T.ord i then T else T.clr i A B') = T') :
    Calls Try.prog 45 #[.pointer (some ⟨gS, 0, none⟩), .int .i64 i] w fun e w' => e = .returned (.tuple #[]) ∧ ∃ vo', SR w' B n gS gO gL gD T' vo' ∧ Oth (fun x => x = gS ∨ x = gD) w w' ∧ vo'.ownBlock = vo.ownBlock := by
  have i1 : (0 : Int) ≤ (i : Int) := by omega
  have i2 : (i : Int) < (n : Int) := by omega
  have c1 := h.r.cell 1
  have c2 := h.r.cell 2
  have xO := h.o.at (tab_at n _ i hi)
  have xL := h.l.at (tab_at n _ i hi)
  have lS := h.r.lt
  have lO := h.o.lt
  have lL := h.l.lt
  have H := Lib.hid h
  have HT := Lib.hid hT
  by_cases hc : T.low i < T.ord i
  · rw [if_pos hc] at hT
    subst hT
    clear HT h hi hop hB hlt hll hld
    generalize T.low i = p at xL hc
    generalize T.ord i = q at xO hc
    have hc' : ((p : Int) < (q : Int)) := by omega
    go_enter Try.func45, Try.ntmps45
    go_upto_region 0 with fail
    go_region
    go_wp2_with fail
    exact bodyPost_ret (v := .tuple #[]) (by simp [results, Try.results45, go_sem]) rfl ⟨rfl, vo, H.out.drew, oth_drew (Oth.refl _ _), rfl⟩
  · rw [if_neg hc] at hT
    obtain ⟨L, hL⟩ : ∃ L, L = i :: B' := ⟨_, rfl⟩
    have HE := Lib.hid (popK_end T i A B')
    rw [hT, ← hL] at HE
    have HL := Lib.hid hL
    rw [← hL] at hop
    have HTop := Lib.hid (popK_top T i A L hop)
    have HOP := Lib.hid hop
    have HLT := Lib.hid hlt
    have HLL : Hid (A.length + L.length ≤ 1000) := Lib.hid (by rw [hop, List.length_append] at hll; exact hll)
    have HI := Lib.hid hi
    have HNB := Lib.hid hB
    have HLD := Lib.hid hld
    clear HT h hi hop hB hlt hll hld hT hL
    obtain ⟨K, hK⟩ : ∃ K, K = L.length := ⟨_, rfl⟩
    generalize T.low i = p at xL hc
    generalize T.ord i = q at xO hc
    have hc' : ¬ ((p : Int) < (q : Int)) := by omega
    go_enter Try.func45, Try.ntmps45
    go_upto_region 0 with fail
    go_region
    go_wp2_with fail
    have HS0 := Lib.hid H.out.drew
    have HO0 : Hid (Oth (fun x => x = gS ∨ x = gD) w w.drew) := Lib.hid (oth_drew (Oth.refl _ _))
    generalize World.drew w = w1 at HS0 HO0 ⊢
    clear c1 c2 xO xL lS lO lL hc hc' H
    go_loopg [] (K + 1) (fun fuel wr => ∃ (k : Nat) (v : Value), k ≤ K ∧ k + 1 ≤ fuel ∧ SR wr B n gS gO gL gD (T.popK i A L k) v ∧ Oth (fun x => x = gS ∨ x = gD) w wr ∧ v.ownBlock = vo.ownBlock)
    case atStart => exact ⟨K, vo, Nat.le_refl _, Nat.le_refl _, by rw [hK, HTop.out]; exact HS0.out, HO0.out, rfl⟩
    case round =>
      clear HS0 HO0
      obtain ⟨k, v, hk, hf, hs, ho, hv⟩ := hrel
      have HS := Lib.hid hs
      have HO := Lib.hid ho
      have HV := Lib.hid hv
      have c3 := hs.r.cell 3
      have c4 := hs.r.cell 4
      have f4 := hs.r.fz 4
      have lS := hs.r.lt
      have lD := hs.d.lt
      have xi := hs.d.at (tab_at n _ i HI.out)
      cases k with
      | zero =>
        have hone : (T.popK i A L 0).lead i = (i : Int) := by show (if i ∈ L.drop 0 then (i : Int) else T.lead i) = _; rw [if_pos (by rw [HL.out, List.drop_zero]; exact List.mem_cons_self ..)]
        have hne : ¬ ((i : Int) = -1) := by omega
        rw [hone] at xi
        clear hs ho hv hone
        go_wp2_with fail
        exact bodyPost_end (v := .tuple #[]) (by simp [results, Try.results45, go_sem]) rfl ⟨rfl, v, by have := HS.out; rw [HE.out] at this; exact this, HO.out, HV.out⟩
      | succ k =>
        have hkL : k < L.length := by omega
        have hone : (T.popK i A L (k + 1)).lead i = -1 := by
          show (if i ∈ L.drop (k + 1) then (i : Int) else T.lead i) = _
          rw [if_neg, HLD.out]
          rw [HL.out, List.drop_succ_cons]
          exact fun hm => HNB.out (List.mem_of_mem_drop hm)
        rw [hone] at xi
        obtain ⟨u, hu⟩ : ∃ u, L[k] = u := ⟨_, rfl⟩
        have hun : u < n := by rw [← hu]; exact HLT.out _ (by rw [HOP.out]; exact List.mem_append_right _ (List.getElem_mem hkL))
        have xu := hs.d.at (tab_at n _ u hun)
        have fu := hs.d.fz u
        have ht : (T.popK i A L (k + 1)).opn = (A ++ L.take k) ++ [u] := by
          show A ++ L.take (k + 1) = _
          rw [List.take_add_one, List.getElem?_eq_getElem hkL, hu, List.append_assoc]; rfl
        obtain ⟨M, hM⟩ : ∃ M, M = (A ++ L.take k).length := ⟨_, rfl⟩
        have hMl : M ≤ 1000 := by rw [hM, List.length_append, List.length_take]; have := HLL.out; omega
        have how := hs.ow
        rw [ht, List.map_append] at how
        obtain ⟨ad, cap, hve, _⟩ := own_shape' how
        subst hve
        have how2 := own_pop (S := (A ++ L.take k).map Int.ofNat) (x := Int.ofNat u) (k := M) (by rw [List.length_append, List.length_map]; rw [List.length_append] at how; exact how) (by rw [List.length_map, hM])
        obtain ⟨g, rfl, hm1, hcap, xg, lg, how3⟩ := how2
        have hlen : (A ++ L.take k ++ [u]).length = M + 1 := by rw [List.length_append]; exact hm1
        rw [hlen] at HS HV c4
        have HS2 := Lib.hid (HS.out.setD u (i : Int)).drew
        have HO2 := Lib.hid (oth_drew (HO.out.trans (G := fun x => x = gS ∨ x = gD) (Oth.set wr gD u (.int .i64 i)) (fun _ h => h) (fun _ _ h => .inr h)))
        have hgD : g ≠ gD := fun e => own_ge HS.out.ow HS.out.bD (by rw [e]; rfl)
        have HW3 : Hid (((wr.setCell ⟨gD, u, none⟩ (.int .i64 i)).drew).ownsRow B 3 1 (.slice (some ⟨g, 0, none⟩) M cap) (A ++ L.take k).length (ints ((A ++ L.take k).map Int.ofNat))) := Lib.hid (by
          rw [List.length_map] at how3
          exact (oth_drew (Oth.set wr gD u (.int .i64 i))).own how3 fun x hx e => hgD ((show g = x from by simpa [Value.ownBlock] using hx).trans e))
        have HST : Hid ({ T.popK i A L (k + 1) with lead := upd (T.popK i A L (k + 1)).lead u (i : Int), opn := A ++ L.take k } = T.popK i A L k) := Lib.hid (by rw [← hu]; exact popK_step T i A L k hkL)
        have i5 : IntKind.i64.wrap (((M + 1 : Nat) : Int) - 1) = (M : Int) := by rw [show ((M + 1 : Nat) : Int) - 1 = (M : Int) by omega]; exact IntWalk.i64_in _ (by omega)
        have i5' : IntKind.i64.wrap ((M : Int) + 1 - 1) = (M : Int) := by rw [show (M : Int) + 1 - 1 = (M : Int) by omega]; exact IntWalk.i64_in _ (by omega)
        have i6 : (0 : Int) ≤ (M : Int) := by omega
        have i7 : (M : Int) < ((M + 1 : Nat) : Int) := by omega
        have i8 : (0 : Int) ≤ (u : Int) := by omega
        have i9 : (u : Int) < (n : Int) := by omega
        have n1 : ¬ gS = gD := HS.out.ne.2.2
        have n2 : ¬ gD = gS := Ne.symm n1
        have n3 : ¬ g = gD := hgD
        have n4 : ¬ gD = g := Ne.symm hgD
        have hw1 : M ≤ M + 1 := Nat.le_succ M
        have hw2 : M ≤ cap := Nat.le_of_succ_le hcap
        have xg' : wr.cell? ⟨g, M, none⟩ = some (.int .i64 (u : Int)) := xg
        clear hs hv ho ht hu hM hlen hm1 how how3 hone hun hkL hgD xg
        generalize (T.popK i A L (k + 1)).lead u = y at xu
        go_upto_region 3 with fail
        go_region
        generalize World.drew (World.setCell _ _ _) = w2 at HS2 HO2 HW3 ⊢
        have HS4 := Lib.hid (HS2.out.setV (v' := .slice (some ⟨g, 0, none⟩) M cap) (l := A ++ L.take k) (Below.refl _ _) HW3.out)
        rw [HST.out] at HS4
        have HO4 := Lib.hid (HO2.out.trans (G := fun x => x = gS ∨ x = gD) (Oth.set w2 gS 4 (.slice (some ⟨g, 0, none⟩) M cap)) (fun _ h => h) (fun _ _ h => .inl h))
        clear c3 c4 f4 xi xu fu xg' lS lD lg
        have c4 := HS2.out.r.cell 4
        have f4 := HS2.out.r.fz 4
        have lS := HS2.out.r.lt
        go_wp2_with fail
        go_roundg (gk - 1)
        case measure => omega
        case rel => exact ⟨k, _, by omega, by omega, HS4.out, HO4.out, HV.out⟩
end

end Go.Proofs.Ytkdpimifojjhaaa
