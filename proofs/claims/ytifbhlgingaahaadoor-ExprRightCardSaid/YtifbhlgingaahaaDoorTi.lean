/- What known does. -/
import Derived.Test.YtifbhlgingaahaaDoorTf
import Derived.Test.YtifbhlgingaahaaDoorStrue
namespace Go.Proofs.YtifbhlgingaahaaDoor
open Go.RowKit

def TokAns (k : List UInt8) (w : World) (e : Ending) (w' : World) : Prop := ∃ v, e = .returned v ∧ w'.ownsRow w.heap.size 51 4 v (scanL k).1.length (rowOf (scanL k).1) ∧ Below w.heap.size w w'
theorem tok_k (k : List UInt8) (s : ByteArray) (w : World) (h : s = ⟨k.toArray⟩) (hk : k.length ≤ 20000) : Calls Tryd.prog 19 #[.string s] w (TokAns k w) := by
  subst h
  exact tokens_any ⟨k.toArray⟩ w (by rw [Lib.size_eq]; exact hk)

theorem par_ok (k : List UInt8) (t : List Tok) (x : Ex) (j : Nat) (h1 : (scanL k).1 = t) (h2 : parseR t 0 = .ok x j) (hk : k.length ≤ 20000) (B : Nat) (lv : Value) (w : World) (h : w.ownsRow B 51 4 lv (scanL k).1.length (rowOf (scanL k).1)) (hs : Tabs w) :
    Calls Tryd.prog 20 #[lv, .int .i64 0] w fun e w' => ∃ v, e = .returned (.tuple #[v, .int .i64 j, .int .i64 0, .int .i64 0]) ∧ NdsC w' v x.flat ∧ Below w.heap.size w w' := by
  have H := parse_scanned k B lv w h hk hs.1
  rw [h1, h2] at H
  refine H.mono ?_
  rintro e w' ⟨v, rfl, ho, hb⟩
  exact ⟨v, rfl, ndsC_of_own ho, hb⟩
theorem par_err (k : List UInt8) (t : List Tok) (c a : Nat) (h1 : (scanL k).1 = t) (h2 : parseR t 0 = .err c a) (hk : k.length ≤ 20000) (B : Nat) (lv : Value) (w : World) (h : w.ownsRow B 51 4 lv (scanL k).1.length (rowOf (scanL k).1)) (hs : Tabs w) :
    Calls Tryd.prog 20 #[lv, .int .i64 0] w fun e w' => e = .returned (.tuple #[.slice none 0 0, .int .i64 0, .int .i64 c, .int .i64 a]) ∧ Below w.heap.size w w' := by
  have H := parse_scanned k B lv w h hk hs.1
  rw [h1, h2] at H
  exact H

theorem nmOK_of (l : List Nd) (h : (l.all fun x => decide (x.nm.size ≤ 100000 ∧ x.inn.size ≤ 100000)) = true) : NmOK l := by
  intro i hi
  have := List.all_eq_true.1 h _ (List.getElem_mem hi)
  simpa using this

theorem alike_refl {p : Bool} (a : Nd) : alikeN p a a := ⟨rfl, rfl, rfl, rfl, fun _ => rfl⟩

theorem new5 (w : World) : NdsC (w.alloc (.cells #[.int .i64 6, .int .i64 0, .string ⟨#[]⟩, .string ⟨#[]⟩, .int .i64 2, .int .i64 2, .int .i64 0, .string ⟨#[97]⟩, .string ⟨#[]⟩, .int .i64 0, .int .i64 8, .int .i64 0, .string ⟨#[]⟩, .string ⟨#[]⟩, .int .i64 6,
    .int .i64 2, .int .i64 0, .string ⟨#[98]⟩, .string ⟨#[]⟩, .int .i64 4, .int .i64 1, .int .i64 2, .string ⟨#[]⟩, .string ⟨#[]⟩, .int .i64 8] 32)) (.slice (some ⟨w.heap.size, 0, none⟩) 5 5) e1.flat :=
  ndsC_of_own (B := w.heap.size) ⟨rfl, .inr ⟨w.heap.size, 5, _, rfl, Nat.le_refl _, heap_alloc_new w _, Nat.le_refl _, by unfold maxLen; decide, rfl, rfl⟩⟩

set_option maxRecDepth 100000 in
set_option maxHeartbeats 8000000 in
theorem known_any (w : World) (ht : Tabs w) : Calls Tryd.prog 7 #[] w fun e w' => e = .returned (.bool true) ∧ Below w.heap.size w w' := by
  have HT := Lib.hid ht
  clear ht
  go_enter Tryd.func7, Tryd.ntmps7
  go_wp2_with fail
  refine (tok_k k1 _ _ rfl (by decide)).mono ?_
  rintro e w1 ⟨v1, rfl, o1, b1⟩
  go_wp2_with fail
  refine (par_ok k1 t1 e1 5 s1 p1 (by decide) _ v1 w1 o1 (HT.out.below b1)).mono ?_
  rintro e w2 ⟨z1, rfl, N1, c1⟩
  have b2 : Below w.heap.size w w2 := b1.trans (c1.mono b1.size)
  clear b1 c1 o1
  go_wp2_with fail
  refine (tok_k k2 _ _ rfl (by decide)).mono ?_
  rintro e w3 ⟨v2, rfl, o1, b1⟩
  have b3 := b2.trans (b1.mono b2.size)
  have N1' := N1.below b1
  clear N1 b1 b2
  go_wp2_with fail
  refine (par_ok k2 t2 e2 8 s2 p2 (by decide) _ v2 w3 o1 (HT.out.below b3)).mono ?_
  rintro e w4 ⟨z2, rfl, N2, c1⟩
  have b4 := b3.trans (c1.mono b3.size)
  have N1 := N1'.below c1
  clear b3 c1 o1 N1'
  go_wp2_with fail
  refine (tok_k k3 _ _ rfl (by decide)).mono ?_
  rintro e w5 ⟨v3, rfl, o1, c1⟩
  have b5 := b4.trans (c1.mono b4.size)
  have N1' := N1.below c1
  have N2' := N2.below c1
  clear N1 N2 c1 b4
  go_wp2_with fail
  refine (par_err k3 t3 5 5 s3 p3 (by decide) _ v3 w5 o1 (HT.out.below b5)).mono ?_
  rintro e w6 ⟨rfl, c1⟩
  have b6 := b5.trans (c1.mono b5.size)
  have N1 := N1'.below c1
  have N2 := N2'.below c1
  clear N1' N2' c1 b5 o1
  go_wp2_with fail
  refine (tok_k k4 _ _ rfl (by decide)).mono ?_
  rintro e w7 ⟨v4, rfl, o1, c1⟩
  have b7 := b6.trans (c1.mono b6.size)
  have N1' := N1.below c1
  have N2' := N2.below c1
  clear N1 N2 c1 b6
  go_wp2_with fail
  refine (par_err k4 t4 6 3 s4 p4 (by decide) _ v4 w7 o1 (HT.out.below b7)).mono ?_
  rintro e w8 ⟨rfl, c1⟩
  have b8 := b7.trans (c1.mono b7.size)
  have N1 := N1'.below c1
  have N2 := N2'.below c1
  clear N1' N2' c1 b7 o1
  obtain ⟨ad, cap, rfl, h1, h2, hc⟩ := id N1
  obtain ⟨g, off, rfl, hg, _⟩ := hc 0 (by decide)
  rw [show e1.flat.length = 5 from rfl] at h1
  clear hc
  rw [show e1.flat.length = 5 from rfl] at N1 ⊢
  have hd := (show NdsC w8 (.slice (some ⟨g, off, none⟩) e1.flat.length cap) e1.flat from N1).drop 1 (by decide)
  rw [show e1.flat.length - 1 = 4 from rfl] at hd
  have M1 := nmOK_of e1.flat (by decide +kernel)
  have M1' := nmOK_of (e1.flat.drop 1) (by decide +kernel)
  have M2 := nmOK_of e2.flat (by decide +kernel)
  have hc1 : ¬ cap = 1 := by omega
  have hc2 : 1 ≤ cap := by omega
  go_wp2_with fail
  have n5 := new5 w8
  have c0 : Below w8.heap.size w8 (w8.alloc (.cells #[.int .i64 6, .int .i64 0, .string ⟨#[]⟩, .string ⟨#[]⟩, .int .i64 2, .int .i64 2, .int .i64 0, .string ⟨#[97]⟩, .string ⟨#[]⟩, .int .i64 0, .int .i64 8, .int .i64 0, .string ⟨#[]⟩, .string ⟨#[]⟩, .int .i64 6,
    .int .i64 2, .int .i64 0, .string ⟨#[98]⟩, .string ⟨#[]⟩, .int .i64 4, .int .i64 1, .int .i64 2, .string ⟨#[]⟩, .string ⟨#[]⟩, .int .i64 8] 32)) := (Below.refl _ _).alloc (Nat.le_refl _) _
  refine (same_true e1.flat e1.flat _ _ _ (N1.below c0).nds n5.nds (by decide) rfl (fun i hi => alike_refl _)).mono ?_
  rintro e w9 ⟨rfl, c1⟩
  have b9 := b8.trans ((c0.trans (c1.mono c0.size)).mono b8.size)
  have A1 := (N1.below c0).below c1
  have A2 := (N2.below c0).below c1
  have A3 := (hd.below c0).below c1
  clear N1 N2 hd n5 c0 c1 b8
  go_wp2_with fail
  have H := shown_any e1.flat _ w9 A1 (by decide) M1 (HT.out.below b9)
  unfold TextIs at H; rw [x1] at H
  refine H.mono ?_
  clear H
  rintro e w10 ⟨rfl, c1⟩
  have b10 := b9.trans (c1.mono b9.size)
  replace A1 := A1.below c1
  replace A2 := A2.below c1
  replace A3 := A3.below c1
  clear c1 b9
  go_wp2_with fail
  have H := shown_any e2.flat _ w10 A2 (by decide) M2 (HT.out.below b10)
  unfold TextIs at H; rw [x2] at H
  refine H.mono ?_
  clear H
  rintro e w11 ⟨rfl, c1⟩
  have b11 := b10.trans (c1.mono b10.size)
  replace A1 := A1.below c1
  replace A2 := A2.below c1
  replace A3 := A3.below c1
  clear c1 b10
  go_wp2_with fail
  have H := right_any e1.flat _ w11 A1.nds (by decide) M1 true (right_yes _ r1)
  skip
  refine H.mono ?_
  clear H
  rintro e w12 ⟨rfl, c1⟩
  have b12 := b11.trans (c1.mono b11.size)
  replace A1 := A1.below c1
  replace A2 := A2.below c1
  replace A3 := A3.below c1
  clear c1 b11
  go_wp2_with fail
  have H := right_any (e1.flat.drop 1) _ w12 A3.nds (by decide) M1' false (right_no _ r1')
  skip
  refine H.mono ?_
  clear H
  rintro e w13 ⟨rfl, c1⟩
  have b13 := b12.trans (c1.mono b12.size)
  replace A1 := A1.below c1
  replace A2 := A2.below c1
  replace A3 := A3.below c1
  clear c1 b12
  go_wp2_with fail
  have H := depth_any e1.flat _ w13 A1.nds (by decide) M1 2 d1
  skip
  refine H.mono ?_
  clear H
  rintro e w14 ⟨rfl, c1⟩
  have b14 := b13.trans (c1.mono b13.size)
  replace A1 := A1.below c1
  replace A2 := A2.below c1
  replace A3 := A3.below c1
  clear c1 b13
  go_wp2_with fail
  have H := end_any e1.flat _ 2 w14 A1.nds (by decide)
  rw [n1] at H
  refine H.mono ?_
  clear H
  rintro e w' ⟨rfl, rfl⟩
  go_wp2_with fail
  refine (names_any e2.flat _ w14 A2.nds (by decide)).mono ?_
  rintro e w15 ⟨u, rfl, ho, c1⟩
  obtain ⟨ad3, cap3, rfl, _⟩ := own_shape ho
  rw [m2]
  have b15 := b14.trans (c1.mono b14.size)
  go_wp2
  go_ret
  exact ⟨rfl, b15⟩

end Go.Proofs.YtifbhlgingaahaaDoor
