/- What both Shows do. -/
import Derived.Test.YtifbhlgingaahaaDoorTc
import Derived.Test.YtifbhlgingaahaaDoorTe
import Derived.Test.YtifbhlgingaahaaDoorNk
namespace Go.Proofs.YtifbhlgingaahaaDoor
open Go.RowKit

theorem rshow_any (L : List Nd) (hL : L.length ≤ 100000) (e : Ex) : e.wf → (∀ x ∈ e.flat, okN x = true) → e.size ≤ 1000 → ∀ v i w, NdsC w v L → AtL L i e → Calls Tryd.prog 29 #[v, .int .i64 (i : Nat)] w (TextIs (showE e) w) := by
  induction e with
  | leaf x => intro hw hok _ v i w hv he; exact show_leaf L x v i w hv he hw (hok x (by simp [Ex.flat]))
  | un x a ih =>
    intro hw hok hs v i w hv he
    have hoa : ∀ y ∈ a.flat, okN y = true := fun y hy => hok y (by simp [Ex.flat, hy])
    have hsa : a.size ≤ 1000 := by simp only [Ex.size] at hs; omega
    have hl := showE_len a hoa
    have h5 : x.op = 5 := by
      have h : ar x.op = 1 := hw.1
      unfold ar at h
      repeat (split at h <;> try omega)
    exact show_un L x a v i w hv he hL h5 (by omega) fun w' hb => opd_any L a v (i + 1) w' (hv.below hb) he.un hw.2 (by omega) (ih hw.2 hoa hsa v (i + 1) w' (hv.below hb) he.un)
  | bin x a b iha ihb =>
    intro hw hok hs v i w hv he
    have hoa : ∀ y ∈ a.flat, okN y = true := fun y hy => hok y (by simp [Ex.flat, hy])
    have hob : ∀ y ∈ b.flat, okN y = true := fun y hy => hok y (by simp [Ex.flat, hy])
    have hsa : a.size ≤ 1000 := by simp only [Ex.size] at hs; omega
    have hsb : b.size ≤ 1000 := by simp only [Ex.size] at hs; omega
    have hla := showE_len a hoa
    have hlb := showE_len b hob
    exact show_bin L x a b v i w hv he hL hw (by omega) (by omega)
      (fun w' hb => opd_any L a v (i + 1) w' (hv.below hb) he.left hw.2.1 (by omega) (iha hw.2.1 hoa hsa v (i + 1) w' (hv.below hb) he.left))
      (fun w' hb => opd_any L b v (i + 1 + a.size) w' (hv.below hb) he.right hw.2.2 (by omega) (ihb hw.2.2 hob hsb v _ w' (hv.below hb) he.right))

open Classical in
/-- The text of nodes. -/
noncomputable def textOf (l : List Nd) : List UInt8 := if h : rightP l then showE h.choose else []
theorem textOf_no (l : List Nd) (h : ¬ rightP l) : textOf l = [] := dif_neg h
theorem textOf_tree (l : List Nd) (h : rightP l) (e : Ex) (hw : e.wf) (he : e.flat = l) : textOf l = showE e := by
  unfold textOf
  rw [dif_pos h]
  obtain ⟨h1, h2, _⟩ := h.choose_spec
  rw [Ex.flat_inj _ e h1 hw (h2.trans he.symm)]

theorem rightP_oks {e : Ex} (h : rightP e.flat) : (∀ x ∈ e.flat, okN x = true) ∧ e.size ≤ 200 := by
  obtain ⟨_, _, _, h2, h3, _⟩ := h
  rw [e.flat_length] at h2
  exact ⟨fun x hx => List.all_eq_true.1 h3 x hx, h2⟩

set_option maxHeartbeats 1000000 in
theorem shown_any (l : List Nd) (v : Value) (w : World) (hv : NdsC w v l) (hn : l.length ≤ 100000) (hz : NmOK l) (ht : Tabs w) :
    Calls Tryd.prog 14 #[v] w (TextIs (textOf l) w) := by
  by_cases h : rightP l
  · have HR := right_any l v w hv.nds hn hz true (right_yes l h)
    obtain ⟨e, hw, he, _⟩ := id h
    rw [textOf_tree l h e hw he]
    subst he
    obtain ⟨h1, h2⟩ := rightP_oks h
    have HT : Hid (∀ w', Below w.heap.size w w' → Calls Tryd.prog 28 #[v] w' (TextIs (showE e) w')) := fun w' hb => text_any e hw h1 (by omega) v w' (hv.below hb) (ht.below hb)
    obtain ⟨s, hs⟩ : ∃ s, s = showE e := ⟨_, rfl⟩
    rw [← hs] at HT ⊢
    unfold TextIs at HT
    clear hv ht hz hn h hw h1 h2 hs
    go_enter Tryd.func14, Tryd.ntmps14
    go_wp2_with fail
    refine HR.mono ?_
    rintro _ w1 ⟨rfl, hb1⟩
    go_wp2_with fail
    refine (HT.out w1 hb1).mono ?_
    rintro _ w2 ⟨rfl, hb2⟩
    go_wp2
    go_ret
    exact ⟨rfl, hb1.trans (hb2.mono hb1.size)⟩
  · have HR := right_any l v w hv.nds hn hz false (right_no l h)
    rw [textOf_no l h]
    clear hv ht hz hn h
    go_enter Tryd.func14, Tryd.ntmps14
    go_wp2_with fail
    refine HR.mono ?_
    rintro _ w1 ⟨rfl, hb1⟩
    go_wp2
    go_ret
    exact ⟨rfl, hb1⟩

set_option maxHeartbeats 1000000 in
theorem rshown_any (l : List Nd) (v : Value) (w : World) (hv : NdsC w v l) (hn : l.length ≤ 100000) (hz : NmOK l) :
    Calls Tryd.prog 15 #[v] w (TextIs (textOf l) w) := by
  by_cases h : rightP l
  · have HR := rright_any l v w hv.nds hn hz true (right_yes l h)
    obtain ⟨e, hw, he, _⟩ := id h
    rw [textOf_tree l h e hw he]
    subst he
    obtain ⟨h1, h2⟩ := rightP_oks h
    have HT : Hid (∀ w', Below w.heap.size w w' → Calls Tryd.prog 29 #[v, .int .i64 0] w' (TextIs (showE e) w')) := fun w' hb => rshow_any e.flat hn e hw h1 (by omega) v 0 w' (hv.below hb) ⟨[], by simp⟩
    obtain ⟨s, hs⟩ : ∃ s, s = showE e := ⟨_, rfl⟩
    rw [← hs] at HT ⊢
    unfold TextIs at HT
    clear hv hz hn h hw h1 h2 hs
    go_enter Tryd.func15, Tryd.ntmps15
    go_wp2_with fail
    refine HR.mono ?_
    rintro _ w1 ⟨rfl, hb1⟩
    go_wp2_with fail
    refine (HT.out w1 hb1).mono ?_
    rintro _ w2 ⟨rfl, hb2⟩
    go_wp2
    go_ret
    exact ⟨rfl, hb1.trans (hb2.mono hb1.size)⟩
  · have HR := rright_any l v w hv.nds hn hz false (right_no l h)
    rw [textOf_no l h]
    clear hv hz hn h
    go_enter Tryd.func15, Tryd.ntmps15
    go_wp2_with fail
    refine HR.mono ?_
    rintro _ w1 ⟨rfl, hb1⟩
    go_wp2
    go_ret
    exact ⟨rfl, hb1⟩

end Go.Proofs.YtifbhlgingaahaaDoor
