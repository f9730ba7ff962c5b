/- What Depth does, and the reference's deep, Right, Depth. -/
import Derived.Test.YtifbhlgingaahaaDoorNi
namespace Go.Proofs.YtifbhlgingaahaaDoor
open Go.RowKit

/-- How deep nodes are; -1 if they are no right expression. -/
def DepthIs (l : List Nd) (z : Int) : Prop := (∃ e : Ex, e.wf ∧ e.flat = l ∧ rightP l ∧ z = e.depth) ∨ (¬ rightP l ∧ z = -1)

theorem depthIs_of (l : List Nd) : ∃ z, DepthIs l z := by
  by_cases h : rightP l
  · obtain ⟨e, h1, h2, h3⟩ := h
    exact ⟨e.depth, .inl ⟨e, h1, h2, ⟨e, h1, h2, h3⟩, rfl⟩⟩
  · exact ⟨-1, .inr ⟨h, rfl⟩⟩

set_option maxHeartbeats 1000000 in
theorem depth_any (l : List Nd) (v : Value) (w : World) (hv : Nds w v l) (hn : l.length ≤ 100000) (hz : NmOK l) (z : Int) (hd : DepthIs l z) :
    Calls Tryd.prog 10 #[v] w fun e w' => e = .returned (.int .i64 z) ∧ Below w.heap.size w w' := by
  have HR := fun b hb => right_any l v w hv hn hz b hb
  rcases hd with ⟨e, h1, h2, h3, rfl⟩ | ⟨h1, rfl⟩
  · have HR := HR true (right_yes l h3)
    obtain ⟨_, _, _, h4, _⟩ := h3
    have HH : Hid (∀ w', Below w.heap.size w w' → Calls Tryd.prog 23 #[v] w' fun e' w'' => e' = .returned (.int .i64 e.depth) ∧ Below w'.heap.size w' w'') := fun w' h => height_any e v w' (by rw [h2]; exact hv.below h) h1 (by rw [h2]; omega) (by have := e.depth_le; rw [← e.flat_length, h2] at this; omega)
    clear hv h2
    go_enter Tryd.func10, Tryd.ntmps10
    go_wp2_with fail
    refine HR.mono ?_
    rintro e' w1 ⟨rfl, hb1⟩
    go_wp2_with fail
    refine (HH.out _ hb1).mono ?_
    rintro e' w2 ⟨rfl, hb2⟩
    go_wp2
    go_ret
    exact ⟨rfl, hb1.trans (hb2.mono hb1.size)⟩
  · have HR := HR false (right_no l h1)
    clear hv h1
    go_enter Tryd.func10, Tryd.ntmps10
    go_wp2_with fail
    refine HR.mono ?_
    rintro e' w1 ⟨rfl, hb1⟩
    go_wp2
    go_ret
    exact ⟨rfl, hb1⟩

def kidsL : Ex → List Ex
  | .leaf _ => []
  | .un _ a => [a]
  | .bin _ a b => [a, b]

def hdN : Ex → Nd
  | .leaf x => x
  | .un x _ => x
  | .bin x _ _ => x
theorem flat_kids (e : Ex) : e.flat = hdN e :: (kidsL e).flatMap Ex.flat := by cases e <;> simp [Ex.flat, kidsL, hdN]
theorem ar_kids (e : Ex) (h : e.wf) : ar (hdN e).op = ((kidsL e).length : Int) := by
  cases e with
  | leaf x => exact h
  | un x a => exact h.1
  | bin x a b => exact h.1
def dK : List Ex → Nat → Nat
  | [], g => g
  | a :: r, g => dK r (max g (1 + a.depth))
theorem dK_kids (e : Ex) : dK (kidsL e) 0 = e.depth := by cases e <;> simp [dK, kidsL, Ex.depth] <;> omega
theorem wf_kids (e : Ex) (h : e.wf) : ∀ a ∈ kidsL e, a.wf := by
  cases e with
  | leaf x => intro a ha; cases ha
  | un x b => intro a ha; rw [List.mem_singleton.1 ha]; exact h.2
  | bin x b c =>
    intro a ha
    rcases List.mem_cons.1 ha with rfl | ha
    · exact h.2.1
    · rw [List.mem_singleton.1 ha]; exact h.2.2
theorem size_kids (e : Ex) : ∀ a ∈ kidsL e, a.size < e.size := by
  cases e with
  | leaf x => intro a ha; cases ha
  | un x b => intro a ha; rw [List.mem_singleton.1 ha]; simp [Ex.size]
  | bin x b c =>
    intro a ha
    rcases List.mem_cons.1 ha with rfl | ha
    · simp [Ex.size]; omega
    · rw [List.mem_singleton.1 ha]; simp [Ex.size]; omega
theorem kids_len (e : Ex) : (kidsL e).length ≤ 2 := by cases e <;> simp [kidsL]

/-- The end of the expression that stands at a place. -/
theorem endL_at (l : List Nd) (e : Ex) (r : List Nd) (i : Nat) (hw : e.wf) (h : l.drop i = e.flat ++ r) : endL l i = ((i + e.size : Nat) : Int) := by
  rw [endL_nat, h]
  have := endF_flat e hw r 1 i (Nat.le_refl _)
  rw [if_pos rfl] at this
  rw [show (1 : Int) = ((1 : Nat) : Int) from rfl, this]; rfl

theorem dK_ge (cs : List Ex) (g : Nat) : g ≤ dK cs g := by
  induction cs generalizing g with
  | nil => exact Nat.le_refl _
  | cons a r ih => exact Nat.le_trans (Nat.le_max_left _ _) (ih _)

set_option maxHeartbeats 4000000 in
theorem deep_any (l : List Nd) (hn : l.length ≤ 1000) : ∀ (s : Nat) (e : Ex) (i : Nat) (r : List Nd) (v : Value) (w : World), e.size ≤ s → e.wf → l.drop i = e.flat ++ r → Nds w v l →
    Calls Tryd.prog 25 #[v, .int .i64 i] w fun e' w' => e' = .returned (.int .i64 e.depth) ∧ w = w' := by
  intro s
  induction s with
  | zero => intro e i r v w hs; have := e.size_pos'; omega
  | succ s ih =>
    intro e i r v w hs hw hd hv
    have hil : i < l.length := by
      have h1 := congrArg List.length hd
      have h2 := e.size_pos'
      rw [List.length_drop, List.length_append, e.flat_length] at h1
      omega
    have hx : l[i] = hdN e := by
      rw [List.drop_eq_getElem_cons hil, flat_kids] at hd
      exact (List.cons.inj hd).1
    have ht : l.drop (i + 1) = (kidsL e).flatMap Ex.flat ++ r := by
      rw [List.drop_eq_getElem_cons hil, flat_kids] at hd
      exact (List.cons.inj hd).2
    have hk := ar_kids e hw
    have hkl := kids_len e
    have hdep := e.depth_le
    have hsz : e.size ≤ 1000 := by
      have h1 := congrArg List.length hd
      rw [List.length_drop, List.length_append, e.flat_length] at h1
      omega
    have HIH : Hid (∀ a ∈ kidsL e, ∀ (j : Nat) (r : List Nd), l.drop j = a.flat ++ r → Calls Tryd.prog 25 #[v, .int .i64 j] w fun e' w' => e' = .returned (.int .i64 a.depth) ∧ w = w') := fun a ha j r hj => ih a j r v w (by have := size_kids e a ha; omega) (wf_kids e hw a ha) hj hv
    have HEND : Hid (∀ a ∈ kidsL e, ∀ (j : Nat) (r : List Nd), l.drop j = a.flat ++ r → Calls Tryd.prog 13 #[v, .int .i64 j] w fun e' w' => e' = .returned (.int .i64 ((j + a.size : Nat) : Int)) ∧ w = w') := fun a ha j r hj => by
      rw [← endL_at l a r j (wf_kids e hw a ha) hj]
      exact rend_any l v j w hv (by omega)
    obtain ⟨D, hD⟩ : ∃ D, D = e.depth := ⟨_, rfl⟩
    obtain ⟨cs, hcs⟩ : ∃ cs, cs = kidsL e := ⟨_, rfl⟩
    have HDK : Hid (dK cs 0 = D) := by rw [hcs, hD]; exact dK_kids e
    rw [← hD] at hdep ⊢
    rw [← hcs] at hk hkl ht HIH HEND
    obtain ⟨ad, cap, rfl, hc⟩ := hv.cases
    obtain ⟨b, off, rfl, _, x0, _⟩ := hc i hil
    rw [hx] at x0
    obtain ⟨o, ho⟩ : ∃ o, o = (hdN e).op := ⟨_, rfl⟩
    rw [← ho] at x0 hk
    have HAR : ∀ w, Calls Tryd.prog 27 #[.int .i64 o] w fun e w' => e = .returned (.int .i64 (cs.length : Int)) ∧ w = w' := fun w => hk ▸ kids_any o w
    obtain ⟨n, hN⟩ : ∃ n, n = l.length := ⟨_, rfl⟩
    obtain ⟨m, hm⟩ : ∃ m, m = cs.length := ⟨_, rfl⟩
    rw [← hN] at hil HIH HEND hn ⊢
    rw [← hm] at hkl HAR
    have HT := Lib.hid ht
    have HM := Lib.hid hm
    have HN := Lib.hid hN
    clear ih hd hv hc hx hk hs hw ho hcs hD ht hm hN
    have hd1000 : D ≤ 1000 := by omega
    go_enter Tryd.func25, Tryd.ntmps25
    go_wp2
    go_loopg [5, 6, 7] m (fun fuel g' at' k' wr => ∃ k g j : Nat, k' = .int .i64 k ∧ k ≤ m ∧ m - k ≤ fuel ∧ g' = .int .i64 g ∧ g ≤ D ∧ at' = .int .i64 j ∧ j ≤ n ∧ l.drop j = (cs.drop k).flatMap Ex.flat ++ r ∧ dK (cs.drop k) g = D ∧ w = wr)
    case atStart => exact ⟨0, 0, i + 1, rfl, Nat.zero_le _, Nat.le_refl _, rfl, Nat.zero_le _, by go_num, by omega, HT.out, HDK.out, rfl⟩
    case round =>
      obtain ⟨k, g, j, rfl, hk, hf, rfl, hg, rfl, hj, hl, hdk, rfl⟩ := hrel
      by_cases hlt : k < m
      · have hk' : k < cs.length := by have := HM.out; omega
        rw [List.drop_eq_getElem_cons hk', List.flatMap_cons, List.append_assoc] at hl
        rw [List.drop_eq_getElem_cons hk', dK] at hdk
        have HC1 := Lib.hid (HIH.out _ (List.getElem_mem hk') j _ hl)
        have HC2 := Lib.hid (HEND.out _ (List.getElem_mem hk') j _ hl)
        have hjs : j + cs[k].size ≤ n := by
          have h1 := congrArg List.length hl
          rw [List.length_drop, List.length_append, Ex.flat_length] at h1
          have := HN.out
          omega
        have hnext : l.drop (j + cs[k].size) = (cs.drop (k + 1)).flatMap Ex.flat ++ r := by
          rw [← List.drop_drop, hl, ← Ex.flat_length, List.drop_left]
        obtain ⟨a, haa⟩ : ∃ a, a = cs[k] := ⟨_, rfl⟩
        rw [← haa] at HC1 HC2 hjs hnext hdk
        obtain ⟨da, hda⟩ : ∃ d, d = a.depth := ⟨_, rfl⟩
        obtain ⟨sa, hsa⟩ : ∃ d, d = a.size := ⟨_, rfl⟩
        rw [← hda] at HC1 hdk
        rw [← hsa] at HC2 hjs hnext
        have hda2 : max g (1 + da) ≤ D := by rw [← hdk]; exact dK_ge _ _
        have HNX := Lib.hid hnext
        have HDK2 := Lib.hid hdk
        clear hl hnext hdk haa hda hsa
        go_wp2_with (first
          | (go_at_call 27; refine (HAR _).mono ?_; rintro e w2 ⟨rfl, rfl⟩)
          | (go_at_call 25; refine HC1.out.mono ?_; rintro e w2 ⟨rfl, rfl⟩)
          | (go_at_call 13; refine HC2.out.mono ?_; rintro e w2 ⟨rfl, rfl⟩))
        all_goals
          go_roundg (gk - 1)
          case measure => omega
          case rel => exact ⟨k + 1, max g (1 + da), j + sa, by go_num, by omega, by omega, by congr 1; omega, hda2, rfl, hjs, HNX.out, HDK2.out, rfl⟩
      · have HE := Lib.hid (drop_over cs k (by have := HM.out; omega))
        have hgD : g = D := by have := hdk; rw [HE.out] at this; exact this
        clear hl hdk
        subst hgD
        go_wp2_with (go_at_call 27; refine (HAR _).mono ?_; rintro e w2 ⟨rfl, rfl⟩)
        go_ret
        exact ⟨rfl, rfl⟩

end Go.Proofs.YtifbhlgingaahaaDoor
