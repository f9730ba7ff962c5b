/- Layer 17, the code: enter. -/
import Derived.Test.YtkdpimifojjhaaaQd
namespace Go.Proofs.Ytkdpimifojjhaaa
set_option linter.unusedSimpArgs false
set_option linter.unusedVariables false
open Go.RowKit

section
variable {w : World} {B n gS gO gL gD : Nat} {T : TT} {vo : Value}
set_option maxRecDepth 100000 in
set_option maxHeartbeats 8000000 in
theorem enter_any (h : SR w B n gS gO gL gD T vo) (i : Nat) (hi : i < n) (hn : n ≤ 1000) (hc : T.cnt ≤ 1000) (hl : T.opn.length ≤ 1000) :
    Calls Try.prog 43 #[.pointer (some ⟨gS, 0, none⟩), .int .i64 i] w fun e w' => e = .returned (.tuple #[]) ∧ ∃ vo', SR w' B n gS gO gL gD (T.ent i) vo' ∧ Oth (fun x => x = gS ∨ x = gO ∨ x = gL ∨ vo.ownBlock = some x) w w' ∧ (∀ x, vo'.ownBlock = some x → vo.ownBlock = some x ∨ w.heap.size ≤ x) := by
  have i1 : (0 : Int) ≤ (i : Int) := by omega
  have i2 : (i : Int) < (n : Int) := by omega
  have i3 : IntKind.i64.wrap ((T.cnt : Int) + 1) = (T.cnt : Int) + 1 := IntWalk.i64_in _ (by omega)
  have H := Lib.hid h
  have HL := Lib.hid hl
  have HI := Lib.hid hi
  have HC := Lib.hid hc
  have c0 := h.r.cell 0
  have f0 := h.r.fz 0
  have lS := h.r.lt
  have HS1 := Lib.hid (h.setC (T.cnt + 1))
  have HO1 := Lib.hid (Oth.set w gS 0 (.int .i64 ((T.cnt + 1 : Nat) : Int)))
  rw [Int.natCast_add, Int.natCast_one] at HS1 HO1
  clear h hi hl hc
  go_enter Try.func43, Try.ntmps43
  go_upto_region 1 with fail
  generalize World.setCell _ _ _ = w1 at HS1 HO1 ⊢
  clear c0 f0 lS i3
  have c0 := HS1.out.r.cell 0
  have c1 := HS1.out.r.cell 1
  have c2 := HS1.out.r.cell 2
  have xO := HS1.out.o.at (tab_at n _ i HI.out)
  have xL := HS1.out.l.at (tab_at n _ i HI.out)
  have fO := HS1.out.o.fz i
  have fL := HS1.out.l.fz i
  have lS := HS1.out.r.lt
  have lO := HS1.out.o.lt
  have lL := HS1.out.l.lt
  have n1 : ¬ gO = gL := HS1.out.nOL
  have n2 : ¬ gL = gO := Ne.symm HS1.out.nOL
  have n3 : ¬ gS = gO := HS1.out.ne.1
  have n4 : ¬ gO = gS := Ne.symm HS1.out.ne.1
  have n5 : ¬ gS = gL := HS1.out.ne.2.1
  have n6 : ¬ gL = gS := Ne.symm HS1.out.ne.2.1
  have HS2 := Lib.hid ((HS1.out.setO i (T.cnt + 1)).setL i (T.cnt + 1)).drew
  have HO2 := Lib.hid (oth_drew ((Oth.set w1 gO i (.int .i64 ((T.cnt + 1 : Nat) : Int))).trans (G := fun x => x = gO ∨ x = gL) (Oth.set _ gL i (.int .i64 ((T.cnt + 1 : Nat) : Int))) (fun _ h => .inl h) (fun _ _ h => .inr h)))
  rw [Int.natCast_add, Int.natCast_one] at HS2 HO2
  go_region
  generalize World.drew (World.setCell _ _ _) = w2 at HS2 HO2 ⊢
  clear c0 c1 c2 xO xL fO fL lS lO lL n1 n2 n3 n4 n5 n6
  have HO3 := Lib.hid (HO1.out.trans (G := fun x => x = gS ∨ x = gO ∨ x = gL ∨ vo.ownBlock = some x) HO2.out (fun _ h => .inl h) (fun _ _ h => by rcases h with h | h; exact .inr (.inl h); exact .inr (.inr (.inl h))))
  clear HO1 HO2 HS1
  obtain ⟨zo, zc, hvo, _⟩ := own_shape' HS2.out.ow
  subst hvo
  have c4 := HS2.out.r.cell 4
  have lS := HS2.out.r.lt
  have OW8 := Lib.hid (World.ownsRow.alloc HS2.out.ow (.cells #[.int .i64 i] 3))
  have KB8 := Lib.hid (Bk.new w2 3 #[.int .i64 i])
  have HL8 : Hid (T.opn.length ≤ 1000000) := Lib.hid (by have := HL.out; omega)
  have HS8 : Hid (B ≤ (w2.alloc (.cells #[.int .i64 i] 3)).heap.size) := Lib.hid (by rw [alloc_size]; have := HS2.out.bw; omega)
  have HB8 : Hid (Below B w2 (w2.alloc (.cells #[.int .i64 i] 3))) := Lib.hid ((Below.refl _ _).alloc HS2.out.bw _)
  have HP8 : Hid (Oth (fun x => False) w2 (w2.alloc (.cells #[.int .i64 i] 3))) := Lib.hid (Oth.of (bal (Below.refl _ _) _))
  have HZ8 : Hid (ints (T.opn.map Int.ofNat) ++ [.int .i64 i] = ints ((T.opn ++ [i]).map Int.ofNat)) := Lib.hid (by simp [ints])
  go_wp2_with (refine list_app1 rfl (.tmp 35) (.tmp 37) 22 3 (.int .i64 0) 8 rfl Try.underlying22 info_int rfl (by decide) B _ T.opn.length _ rfl OW8.out w2.heap.size (.int .i64 i) rfl KB8.out rfl HL8.out HS8.out _ HZ8.out ?_)
  intro g' cp w9 O9 B9 G9 E9
  have HB9 := Lib.hid (HB8.out.trans B9.out)
  have HO9 : Hid (w9.ownsRow B 3 1 (.slice (some ⟨g', 0, none⟩) (T.opn.length + 1) cp) (T.opn ++ [i]).length (ints ((T.opn ++ [i]).map Int.ofNat))) := Lib.hid (by rw [List.length_append, List.map_append]; exact O9.out)
  have HS9 := Lib.hid (HS2.out.setV HB9.out HO9.out)
  have K9 : Bk w9 gS _ _ := (HB9.out.block gS HS2.out.bS).trans HS2.out.r
  have c5 := K9.cell 4
  have f5 := K9.fz 4
  have l5 := K9.lt
  have HQ9 : Hid (Oth (fun x => (Value.slice zo T.opn.length zc).ownBlock = some x) (w2.alloc (.cells #[.int .i64 i] 3)) w9) := Lib.hid ⟨B9.out.mono (Nat.zero_le _), fun x hx hn => G9.out.block x hx fun e => hn e.symm⟩
  have HOA := Lib.hid (((HO3.out.trans (G := fun x => x = gS ∨ x = gO ∨ x = gL ∨ (Value.slice zo T.opn.length zc).ownBlock = some x) HP8.out (fun _ h => h) (fun _ _ h => h.elim)).trans (G := fun x => x = gS ∨ x = gO ∨ x = gL ∨ (Value.slice zo T.opn.length zc).ownBlock = some x) HQ9.out (fun _ h => h) (fun _ _ h => .inr (.inr (.inr h)))).trans (G := fun x => x = gS ∨ x = gO ∨ x = gL ∨ (Value.slice zo T.opn.length zc).ownBlock = some x) (Oth.set w9 gS 4 (.slice (some ⟨g', 0, none⟩) (T.opn.length + 1) cp)) (fun _ h => h) (fun _ _ h => .inl h))
  have HE : Hid (∀ x, (Value.slice (some ⟨g', 0, none⟩) (T.opn.length + 1) cp).ownBlock = some x → (Value.slice zo T.opn.length zc).ownBlock = some x ∨ w.heap.size ≤ x) := Lib.hid (fun x hx => by
    have e : g' = x := by simpa [Value.ownBlock] using hx
    subst e
    rcases E9.out with e | e
    · exact .inl e
    · right; rw [e]; have := HO3.out.b.size; omega)
  clear O9 B9 G9 E9 OW8 KB8 HL8 HS8 HB8 HZ8 K9 c4 lS HP8 HQ9 HO3 HS2
  go_wp2_with fail
  exact bodyPost_end (v := .tuple #[]) (by simp [results, Try.results43, go_sem]) rfl ⟨rfl, _, HS9.out, HOA.out, HE.out⟩
end

end Go.Proofs.Ytkdpimifojjhaaa
