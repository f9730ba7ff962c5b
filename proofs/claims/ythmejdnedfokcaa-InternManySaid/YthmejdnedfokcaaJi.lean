/- The reference's table: Put. -/
import Derived.Test.YthmejdnedfokcaaJh
namespace Go.Proofs.Ythmejdnedfokcaa
set_option linter.unusedSimpArgs false
set_option linter.unusedVariables false
open Go.RowKit

theorem info_strs : (Try.prog.info? 9).map (fun i => (i.zero, i.size, i.bytes)) = some (some (.string ⟨#[]⟩), 1, 16) := by kernel_rfl
/-- What is left when one text was put. -/
theorem RT.grow {w wa w3 : World} {g g1 c1 : Nat} {v : Value} {L : List ByteArray} {n : Nat} {F : Nat → Prop} (s : ByteArray) (hb : Bk wa g 29 #[v]) (hn : n = L.length) (ho : wa.ownsRow 0 9 1 v n (strs L)) (hF : ∀ x, F x ↔ (x = g ∨ v.ownBlock = some x))
    (hw : Below w.heap.size w wa) (hh : hasT L s = false)
    (o3 : w3.ownsRow 0 9 1 (.slice (some ⟨g1, 0, none⟩) (n + 1) c1) (n + 1) (strs (L ++ [s]))) (b3 : Below 0 wa w3) (g3 : wa.grownBy w3 v.ownBlock) (h3 : v.ownBlock = some g1 ∨ g1 = wa.heap.size) :
    ∃ F', RT (w3.setCell ⟨g, 0, none⟩ (.slice (some ⟨g1, 0, none⟩) (n + 1) c1)) (.pointer (some ⟨g, 0, none⟩)) (putL L s) F' ∧ (∀ x, F' x → F x ∨ w.heap.size ≤ x) ∧ Oth F w (w3.setCell ⟨g, 0, none⟩ (.slice (some ⟨g1, 0, none⟩) (n + 1) c1)) := by
  have hb3 := bk_grown hb g3 (own_ne_bk ho hb (by decide))
  refine ⟨fun x => x = g ∨ (Value.slice (some ⟨g1, 0, none⟩) (n + 1) c1).ownBlock = some x, ⟨g, _, rfl, ?_, ?_, fun x => Iff.rfl⟩, ?_, ?_, ?_⟩
  · exact heap_setCell_same w3 g 0 _ _ _ hb3
  · have e : putL L s = L ++ [s] := by unfold putL; rw [hh]; rfl
    rw [e, List.length_append, ← hn]
    exact own_setT o3 hb3 (by decide)
  · rintro x (rfl | hx)
    · exact .inl ((hF _).2 (.inl rfl))
    · have e : g1 = x := by simpa [Value.ownBlock] using hx
      subst e
      rcases h3 with h3 | h3
      · exact .inl ((hF _).2 (.inr h3))
      · exact .inr (by rw [h3]; exact hw.size)
  · exact ((hw.mono (Nat.zero_le _)).trans b3).setCell (Nat.zero_le _) _
  · intro x hx hn
    have h1 : x ≠ g := fun e => hn ((hF x).2 (.inl e))
    have h2 : some x ≠ v.ownBlock := fun e => hn ((hF x).2 (.inr e.symm))
    exact ((Below.heap_setCell w3 ⟨g, 0, none⟩ _ x h1).trans (g3.block x (Nat.lt_of_lt_of_le hx hw.size) h2)).trans (hw.block x hx)

attribute [local go_sem ↓] Go.wp_at_zero Go.wp_at_succ
set_option maxRecDepth 100000 in
set_option maxHeartbeats 4000000 in
theorem rput_any {w : World} {t : Value} {L : List ByteArray} {F : Nat → Prop} (s : ByteArray) (ht : RT w t L F) (hfw : Few L) :
    Calls Try.prog 11 #[t, .string s] w fun e w' => e = .returned (.tuple #[.int .i64 (putN L s), .bool (!hasT L s)]) ∧ ∃ F' : Nat → Prop, RT w' t (putL L s) F' ∧ (∀ x, F' x → F x ∨ w.heap.size ≤ x) ∧ Oth F w w' := by
  have HG := Lib.hid (rget_any s ht hfw)
  have HT := Lib.hid ht
  obtain ⟨g, v, rfl, -, -, -⟩ := ht
  obtain ⟨q, hq⟩ : ∃ q, hasT L s = q := ⟨_, rfl⟩
  rw [hq] at HG ⊢
  have HQ := Lib.hid hq
  have hn3 := hfw.1
  have HN3 := Lib.hid hn3
  obtain ⟨gn, hgn⟩ : ∃ x, getN L s = x := ⟨_, rfl⟩
  rw [hgn] at HG
  have HGN := Lib.hid hgn
  clear hfw hq hgn hn3
  cases q
  · go_enter Try.func11, Try.ntmps11
    go_wp2_with fail
    refine HG.out.mono ?_
    rintro e w1 ⟨rfl, b1⟩
    have HB := Lib.hid b1
    clear b1 HG
    have HA := Lib.hid (HB.out.trans (((Below.refl w1.heap.size w1).alloc (Nat.le_refl _) (.cells #[.string s] 9)).mono HB.out.size))
    obtain ⟨g', v', hg', hb1, ho1, hF⟩ := HT.out.below HB.out
    have KN := Lib.hid (Bk.new w1 9 #[.string s])
    injection hg' with hg'
    injection hg' with hg'
    injection hg' with hg' _ _
    subst hg'
    obtain ⟨ad, cap, rfl⟩ := (strsD_of_own ho1).shape0
    have hb := bk_alloc hb1 (.cells #[.string s] 9)
    have ho := own_below ho1 ((Below.refl w1.heap.size w1).alloc (Nat.le_refl _) (.cells #[.string s] 9))
    have lb := hb1.lt
    have bb := hb1.cell 0
    have HBK := Lib.hid hb
    have HO := Lib.hid ho
    have HF := Lib.hid hF
    obtain ⟨n, hn⟩ : ∃ n, n = L.length := ⟨_, rfl⟩
    rw [← hn] at HO HBK bb HF
    have HN := Lib.hid hn
    have hne : n ≤ 1000000 := by have := HN3.out; omega
    have HNE := Lib.hid hne
    have HZ : Hid (strs L ++ [Value.string s] = strs (L ++ [s])) := Lib.hid (by unfold strs; rw [List.map_append]; rfl)
    have HSZ : Hid (0 ≤ (w1.alloc (.cells #[.string s] 9)).heap.size) := Lib.hid (Nat.zero_le _)
    clear hb ho hF hn hne hb1 ho1
    go_wp2_with (at_builtin; refine list_app1 rfl (.tmp 20) (.tmp 22) 22 9 (.string ⟨#[]⟩) 16 rfl Try.underlying22 info_strs rfl (by decide) 0 (.slice ad n cap) n _ rfl HO.out w1.heap.size (.string s) rfl KN.out rfl HNE.out HSZ.out _ HZ.out ?_)
    intro g1 c1 w3 O3 B3 G3 H3
    have HR := Lib.hid (RT.grow (w := w) (F := F) (c1 := c1) s HBK.out HN.out HO.out HF.out HA.out HQ.out O3.out B3.out G3.out (by rw [alloc_size]; exact H3.out))
    have K3 := Lib.hid (bk_grown HBK.out G3.out (own_ne_bk HO.out HBK.out (by decide)))
    have d0 : w3.cell? ⟨g, 0, none⟩ = some (.slice ad n cap) := K3.out.cell 0
    have g0 : w3.frozen? ⟨g, 0, none⟩ = false := K3.out.fz 0
    have l3 := K3.out.lt
    have hwn : IntKind.i64.wrap (((n + 1 : Nat) : Int) - 1) = (n : Int) := by rw [show ((n + 1 : Nat) : Int) - 1 = n by omega]; exact IntWalk.i64_in _ (by have := HNE.out; omega)
    have h64 : wrap64 (n : Int) = (n : Int) := IntWalk.wrap64_in _ (by have := HNE.out; omega)
    clear bb lb O3 B3 G3 H3 K3 HBK HO KN HA HB
    go_wp2_with fail
    go_ret2
    have e1 : putN L s = n := by unfold putN; rw [HQ.out, HN.out]; rfl
    exact ⟨by (show Ending.returned (.tuple #[.int .i64 (wrap64 n), .bool true]) = _); rw [h64, e1]; rfl, HR.out⟩
  · go_enter Try.func11, Try.ntmps11
    go_wp2_with fail
    refine HG.out.mono ?_
    rintro e w1 ⟨rfl, b1⟩
    have HB := Lib.hid b1
    clear b1
    go_wp2_with fail
    go_ret2
    have e1 : putN L s = gn := by rw [← HGN.out]; unfold putN getN; rw [HQ.out, if_pos rfl, if_pos rfl]
    have e2 : putL L s = L := by unfold putL; rw [HQ.out]; rfl
    exact ⟨by rw [e1]; rfl, F, by rw [e2]; exact HT.out.below HB.out, fun x hx => .inl hx, Oth.of HB.out⟩

end Go.Proofs.Ythmejdnedfokcaa
