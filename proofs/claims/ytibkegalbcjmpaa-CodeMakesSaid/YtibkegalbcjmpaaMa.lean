/- Layer 6: the law's fixed calls. -/
import Derived.Test.YtibkegalbcjmpaaOz
namespace Go.Proofs.Ytibkegalbcjmpaa
open Go.RowKit

abbrev bA : ByteArray := ⟨#[97]⟩
abbrev bB : ByteArray := ⟨#[98]⟩
abbrev bC : ByteArray := ⟨#[99]⟩
abbrev bX : ByteArray := ⟨#[120]⟩
abbrev bT : ByteArray := ⟨#[116]⟩
abbrev bE : ByteArray := ⟨#[]⟩

def kn1 : List Nd := [⟨6, 0, bE, bE, 0⟩, ⟨2, 0, bA, bE, 0⟩, ⟨1, 1, bE, bE, 0⟩]
def ke1 : Ex := .bin ⟨6, 0, bE, bE, 0⟩ (.leaf ⟨2, 0, bA, bE, 0⟩) (.leaf ⟨1, 1, bE, bE, 0⟩)
def kn2 : List Nd := [⟨2, 0, bC, bE, 0⟩]
def ke2 : Ex := .leaf ⟨2, 0, bC, bE, 0⟩
def kn3 : List Nd := [⟨9, 0, bE, bE, 0⟩, ⟨3, 0, bX, bE, 0⟩, ⟨4, 0, bA, bT, 0⟩]
def ke3 : Ex := .bin ⟨9, 0, bE, bE, 0⟩ (.leaf ⟨3, 0, bX, bE, 0⟩) (.leaf ⟨4, 0, bA, bT, 0⟩)
def kc1 : List Opn := [⟨2, 1, 0⟩, ⟨1, 1, 0⟩, ⟨6, 0, 0⟩]
def kc3 : List Opn := [⟨3, 0, 0⟩, ⟨4, 0, 0⟩, ⟨9, 0, 0⟩]
def kts (rv : Value) : List TN := [⟨bT, [bA], rv, none, 0, 0, 0⟩]

theorem kr1 : rightP kn1 := ⟨ke1, by simp [ke1, Ex.wf, ar], rfl, by decide +kernel, by decide +kernel, by decide +kernel⟩
theorem kr2 : rightP kn2 := ⟨ke2, by simp [ke2, Ex.wf, ar], rfl, by decide +kernel, by decide +kernel, by decide +kernel⟩
theorem kr3 : rightP kn3 := ⟨ke3, by simp [ke3, Ex.wf, ar], rfl, by decide +kernel, by decide +kernel, by decide +kernel⟩
theorem ki1 : CodIs (rsvT [bB, bA]) kn1 kc1 true := .inl ⟨ke1, by simp [ke1, Ex.wf, ar], rfl, kr1, by kernel_rfl, by kernel_rfl⟩
theorem ki2 : CodIs (rsvT [bB, bA]) kn2 [] false := .inl ⟨ke2, by simp [ke2, Ex.wf, ar], rfl, kr2, by kernel_rfl, by kernel_rfl⟩
theorem ki3 (rv : Value) : CodIs (rsvC [bX] (kts rv)) kn3 kc3 true := .inl ⟨ke3, by simp [ke3, Ex.wf, ar], rfl, kr3, by kernel_rfl, by kernel_rfl⟩

theorem kv1 : valO kc1 ⟨4, [0, 3], [], []⟩ = (0, true) := by kernel_rfl
theorem kv2 : valO kc1 ⟨4, [0], [], []⟩ = (0, false) := by kernel_rfl
theorem kv3 : valO kc3 ⟨2, [], [[1]], [1]⟩ = (1, true) := by kernel_rfl
theorem kt1 : rightO kc1 [] 2 0 = true := by kernel_rfl
theorem kt2 : rightO (kc1.take 2) [] 2 0 = false := by kernel_rfl
theorem kd1 : (htsL kc1 0 0).1 = 2 := by kernel_rfl
theorem kd2 : (htsL (kc1.drop 2) 0 0).1 = -1 := by kernel_rfl

theorem nmOK_of {l : List Nd} (h : (l.all fun x => decide (x.nm.size ≤ 100000 ∧ x.inn.size ≤ 100000)) = true) : NmOK l := fun _ hi => of_decide_eq_true (List.all_eq_true.1 h _ (List.getElem_mem hi))
theorem kz1 : NmOK kn1 := nmOK_of (by decide)
theorem kz2 : NmOK kn2 := nmOK_of (by decide)
theorem kz3 : NmOK kn3 := nmOK_of (by decide)

theorem five_new (w : World) (t1 t2 t3 t4 t5 : Nat) (c1 c2 c3 c4 c5 : Array Value) (V : World) (hV : V = ((((w.alloc (.cells c1 t1)).alloc (.cells c2 t2)).alloc (.cells c3 t3)).alloc (.cells c4 t4)).alloc (.cells c5 t5)) :
    Below w.heap.size w V ∧ Bk V w.heap.size t1 c1 ∧ Bk V (w.heap.size + 1) t2 c2 ∧ Bk V (w.heap.size + 1 + 1) t3 c3 ∧ Bk V (w.heap.size + 1 + 1 + 1) t4 c4 ∧ Bk V (w.heap.size + 1 + 1 + 1 + 1) t5 c5 := by
  subst hV
  obtain ⟨a, b, c, d⟩ := three_new w t1 t2 t3 c1 c2 c3
  have s : (((w.alloc (.cells c1 t1)).alloc (.cells c2 t2)).alloc (.cells c3 t3)).heap.size = w.heap.size + 1 + 1 + 1 := by rw [alloc_size, alloc_size, alloc_size]
  generalize ((w.alloc (.cells c1 t1)).alloc (.cells c2 t2)).alloc (.cells c3 t3) = w3 at a b c d s ⊢
  obtain ⟨e, f, g⟩ := two_new w3 t4 t5 c4 c5
  rw [s] at f g
  exact ⟨a.trans (e.mono a.size), b.below e, c.below e, d.below e, f, g⟩

theorem vnsD_one {w : World} {g T : Nat} {a : ByteArray} {b c : Int} (h : Bk w g T #[.string a, .int .i64 b, .int .i64 c]) : VnsD w (.slice (some ⟨g, 0, none⟩) 1 1) [(a, b, c)] :=
  slD_of_bk (fun x : ByteArray × Int × Int => [Value.string x.1, .int .i64 x.2.1, .int .i64 x.2.2]) 3 (fun _ => rfl) (xs := [(a, b, c)]) h rfl (show 1 ≤ 1000000 by decide) fun _ _ hk => ⟨hk 0 (by decide), hk 1 (by decide), hk 2 (by decide)⟩
theorem tnsD_one {w : World} {g T : Nat} {x : TN} (h : Bk w g T #[.string x.nm, x.rv, .slice x.ba x.bl x.bc, .int .i64 x.pl]) (hs : StrsD w x.rv x.regs) : TnsD w (.slice (some ⟨g, 0, none⟩) 1 1) [x] :=
  slD_of_bk (fun x : TN => [Value.string x.nm, x.rv, .slice x.ba x.bl x.bc, .int .i64 x.pl]) 4 (fun _ => rfl) (xs := [x]) h rfl (show 1 ≤ 1000000 by decide) fun i hi hk => by
    have hi0 : i = 0 := by simpa using hi
    subst hi0
    exact ⟨⟨hk 0 (by decide), hk 1 (by decide), hk 2 (by decide), hk 3 (by decide)⟩, hs⟩
theorem allD_one {w : World} {g T : Nat} {l : List Int} {v : Value} (h : Bk w g T #[v]) (hs : IntsD w v l) : AllD w (.slice (some ⟨g, 0, none⟩) 1 1) [(l, v)] :=
  slD_of_bk (fun x : List Int × Value => [x.2]) 1 (fun _ => rfl) (xs := [(l, v)]) h rfl (show 1 ≤ 1000000 by decide) fun i hi hk => by
    have hi0 : i = 0 := by simpa using hi
    subst hi0
    exact ⟨hk 0 (by decide), hs⟩

theorem intsD_nil {w : World} : IntsD w (.slice none 0 0) [] := SlD.nil
theorem allD_nil {w : World} : AllD w (.slice none 0 0) [] := SlD.nil

set_option maxRecDepth 100000 in
set_option maxHeartbeats 8000000 in
theorem known_any (w : World) : Calls Try.prog 10 #[] w fun e w' => e = .returned (.bool true) ∧ Below w.heap.size w w' := by
  have H1 := Lib.hid (two_new w 57 9 #[.int .i64 6, .int .i64 0, .string bE, .string bE, .int .i64 0, .int .i64 2, .int .i64 0, .string bA, .string bE, .int .i64 0, .int .i64 1, .int .i64 1, .string bE, .string bE, .int .i64 0] #[.string bB, .string bA])
  go_enter Try.func10, Try.ntmps10
  go_wp2_with fail
  generalize ((w.alloc _).alloc _) = w1 at H1 ⊢
  refine (thread_any kn1 _ [bB, bA] _ w1 (ndsC_of_bk H1.out.2.1 rfl (by decide)) (by decide) kz1 (strsD_of_bk H1.out.2.2 rfl (by decide)) (by decide) kc1 true ki1).mono ?_
  rintro e w2 ⟨sv, rfl, o2, b2⟩
  have B2 := Lib.hid (H1.out.1.trans (b2.mono H1.out.1.size))
  have D2 := Lib.hid (opsD_of_own o2)
  rcases o2.2 with ⟨_, h0⟩ | ⟨g, cap, cur, rfl, _, _, hcap, _⟩
  · cases h0
  have hl3 : kc1.length = 3 := rfl
  rw [hl3] at hcap D2 ⊢
  have H2 := Lib.hid (two_new w2 57 9 #[.int .i64 2, .int .i64 0, .string bC, .string bE, .int .i64 0] #[.string bB, .string bA])
  clear o2 b2 H1 hl3
  go_wp2_with fail
  generalize ((w2.alloc _).alloc _) = w3 at H2 ⊢
  refine (thread_any kn2 _ [bB, bA] _ w3 (ndsC_of_bk H2.out.2.1 rfl (by decide)) (by decide) kz2 (strsD_of_bk H2.out.2.2 rfl (by decide)) (by decide) [] false ki2).mono ?_
  rintro e w4 ⟨sv, rfl, o4, b4⟩
  obtain ⟨ad4, cap4, rfl, _⟩ := own_shape' o4
  have B4' := H2.out.1.trans (b4.mono H2.out.1.size)
  have B4 := Lib.hid (B2.out.trans (B4'.mono B2.out.size))
  have D4 := Lib.hid (OpsD.below D2.out B4')
  have hl0 : ([] : List Opn).length = 0 := rfl
  rw [hl0]
  clear o4 b4 B4' H2 B2 D2 hl0
  have K5 := Lib.hid (Bk.new w4 3 #[.int .i64 0, .int .i64 3])
  have L5 : Hid (Below w4.heap.size w4 (w4.alloc (.cells #[.int .i64 0, .int .i64 3] 3))) := (Below.refl _ _).alloc (Nat.le_refl _) _
  go_wp2_with fail
  generalize w4.alloc _ = w5 at K5 L5 ⊢
  refine (value_code kc1 ⟨4, [0, 3], [], []⟩ [] _ _ _ _ w5 ⟨intsD_of_bk K5.out rfl (by decide), allD_nil, rfl, intsD_nil, by decide, by decide, (fun x hx => by cases hx), by decide⟩ (OpsD.below D4.out L5.out) (by decide) 0 true kv1).mono ?_
  rintro e w6 ⟨rfl, b6⟩
  have B6' := L5.out.trans (b6.mono L5.out.size)
  have B6 := Lib.hid (B4.out.trans (B6'.mono B4.out.size))
  have D6 := Lib.hid (OpsD.below D4.out B6')
  clear b6 B6' L5 K5 B4 D4
  have K7 := Lib.hid (Bk.new w6 3 #[.int .i64 0])
  have L7 : Hid (Below w6.heap.size w6 (w6.alloc (.cells #[.int .i64 0] 3))) := (Below.refl _ _).alloc (Nat.le_refl _) _
  go_wp2_with fail
  generalize w6.alloc _ = w7 at K7 L7 ⊢
  refine (value_code kc1 ⟨4, [0], [], []⟩ [] _ _ _ _ w7 ⟨intsD_of_bk K7.out rfl (by decide), allD_nil, rfl, intsD_nil, by decide, by decide, (fun x hx => by cases hx), by decide⟩ (OpsD.below D6.out L7.out) (by decide) 0 false kv2).mono ?_
  rintro e w8 ⟨rfl, b8⟩
  have B8' := L7.out.trans (b8.mono L7.out.size)
  have B8 := Lib.hid (B6.out.trans (B8'.mono B6.out.size))
  have D8 := Lib.hid (OpsD.below D6.out B8')
  clear b8 B8' L7 K7 B6 D6
  have H9 := Lib.hid (five_new w8 59 9 62 28 57 #[.string bX, .int .i64 0, .int .i64 0] #[.string bA] #[.string bT, .slice (some ⟨w8.heap.size + 1, 0, none⟩) 1 1, .slice none 0 0, .int .i64 0]
    #[.int .i64 2, .slice (some ⟨w8.heap.size, 0, none⟩) 1 1, .slice (some ⟨w8.heap.size + 1 + 1, 0, none⟩) 1 1, .slice none 0 0]
    #[.int .i64 9, .int .i64 0, .string bE, .string bE, .int .i64 0, .int .i64 3, .int .i64 0, .string bX, .string bE, .int .i64 0, .int .i64 4, .int .i64 0, .string bA, .string bT, .int .i64 0] _ rfl)
  go_wp2_with fail
  generalize (((((w8.alloc _).alloc _).alloc _).alloc _).alloc _) = w9 at H9 ⊢
  refine (claim_any kn3 _ 2 _ _ _ [(bX, 0, 0)] (kts (.slice (some ⟨w8.heap.size + 1, 0, none⟩) 1 1)) w9 (ndsC_of_bk H9.out.2.2.2.2.2 rfl (by decide)) (by decide) kz3 (vnsD_one H9.out.2.1) (tnsD_one H9.out.2.2.2.1 (strsD_of_bk (xs := [bA]) H9.out.2.2.1 rfl (by decide))) ⟨_, _, _, rfl⟩ (by decide) (show 1 ≤ 100000 by decide) (fun x hx => by rw [List.mem_singleton.1 hx]; show 1 ≤ 100000; decide) kc3 true (ki3 _)).mono ?_
  rintro e w10 ⟨sv, rfl, o10, b10⟩
  have B10' := H9.out.1.trans (b10.mono H9.out.1.size)
  have B10 := Lib.hid (B8.out.trans (B10'.mono B8.out.size))
  have D10 := Lib.hid (OpsD.below D8.out B10')
  have E10 := Lib.hid (opsD_of_own o10)
  rcases o10.2 with ⟨_, h0⟩ | ⟨g2, cap2, cur2, rfl, _, _, hcap2, _⟩
  · cases h0
  have hl4 : kc3.length = 3 := rfl
  rw [hl4] at hcap2 E10 ⊢
  clear b10 B10' H9 B8 D8 o10 hl4
  have H11 := Lib.hid (three_new w10 3 38 3 #[.int .i64 1] #[.slice (some ⟨w10.heap.size, 0, none⟩) 1 1] #[.int .i64 1])
  go_wp2_with fail
  generalize ((w10.alloc _).alloc _).alloc _ = w11 at H11 ⊢
  refine (value_code kc3 ⟨2, [], [[1]], [1]⟩ [([1], .slice (some ⟨w10.heap.size, 0, none⟩) 1 1)] _ _ _ _ w11 ⟨intsD_nil, allD_one H11.out.2.2.1 (intsD_of_bk (xs := [1]) H11.out.2.1 rfl (by decide)), rfl, intsD_of_bk (xs := [1]) H11.out.2.2.2 rfl (by decide), by decide, (show 1 ≤ 100000 by decide), (fun x hx => by rw [List.mem_singleton.1 hx]; show 1 ≤ 100000; decide), by decide⟩ (OpsD.below E10.out H11.out.1) (by decide) 1 true kv3).mono ?_
  rintro e w12 ⟨rfl, b12⟩
  have B12' := H11.out.1.trans (b12.mono H11.out.1.size)
  have B12 := Lib.hid (B10.out.trans (B12'.mono B10.out.size))
  have D12 := Lib.hid (OpsD.below D10.out B12')
  have E12 := Lib.hid (OpsD.below E10.out B12')
  clear b12 B12' H11 B10 D10 E10
  have K13 := Lib.hid (Bk.new w12 53 #[.int .i64 2, .int .i64 1, .int .i64 0, .int .i64 1, .int .i64 1, .int .i64 0, .int .i64 6, .int .i64 0, .int .i64 0])
  have L13 : Hid (Below w12.heap.size w12 (w12.alloc (.cells #[.int .i64 2, .int .i64 1, .int .i64 0, .int .i64 1, .int .i64 1, .int .i64 0, .int .i64 6, .int .i64 0, .int .i64 0] 53))) := (Below.refl _ _).alloc (Nat.le_refl _) _
  go_wp2_with fail
  generalize w12.alloc _ = w13 at K13 L13 ⊢
  refine (sameO_any kc1 _ _ w13 (OpsD.below D12.out L13.out) (opsD_of_bk K13.out rfl (by decide)) (by decide)).mono ?_
  rintro e w14 ⟨rfl, b14⟩
  have B14' := L13.out.trans (b14.mono L13.out.size)
  have B14 := Lib.hid (B12.out.trans (B14'.mono B12.out.size))
  have D14 := Lib.hid (OpsD.below D12.out B14')
  have E14 := Lib.hid (OpsD.below E12.out B14')
  clear b14 B14' K13 L13 B12 D12 E12
  have K15 := Lib.hid (Bk.new w14 53 #[.int .i64 3, .int .i64 0, .int .i64 0, .int .i64 4, .int .i64 0, .int .i64 0, .int .i64 9, .int .i64 0, .int .i64 0])
  have L15 : Hid (Below w14.heap.size w14 (w14.alloc (.cells #[.int .i64 3, .int .i64 0, .int .i64 0, .int .i64 4, .int .i64 0, .int .i64 0, .int .i64 9, .int .i64 0, .int .i64 0] 53))) := (Below.refl _ _).alloc (Nat.le_refl _) _
  go_wp2_with fail
  generalize w14.alloc _ = w15 at K15 L15 ⊢
  refine (sameO_any kc3 _ _ w15 (OpsD.below E14.out L15.out) (opsD_of_bk K15.out rfl (by decide)) (by decide)).mono ?_
  rintro e w16 ⟨rfl, b16⟩
  have B16' := L15.out.trans (b16.mono L15.out.size)
  have B16 := Lib.hid (B14.out.trans (B16'.mono B14.out.size))
  have D16 := Lib.hid (OpsD.below D14.out B16')
  clear b16 B16' K15 L15 B14 D14 E14
  go_wp2_with fail
  refine (right_code kc1 [] _ _ 2 0 w16 D16.out intsD_nil (by decide) true kt1).mono ?_
  rintro e w17 ⟨rfl, b17⟩
  have B17 := Lib.hid (B16.out.trans (b17.mono B16.out.size))
  have D17 := Lib.hid (OpsD.below D16.out b17)
  clear b17 B16 D16
  have hc2 : 2 ≤ cap := by omega
  have hc3 : ¬ cap = 2 := by omega
  go_wp2_with fail
  refine (right_code (kc1.take 2) [] _ _ 2 0 w17 (OpsD.take D17.out 2 (by decide)) intsD_nil (by decide) false kt2).mono ?_
  rintro e w18 ⟨rfl, b18⟩
  have B18 := Lib.hid (B17.out.trans (b18.mono B17.out.size))
  have D18 := Lib.hid (OpsD.below D17.out b18)
  clear b18 B17 D17
  go_wp2_with fail
  refine (depth_code kc1 _ w18 D18.out (by decide) 2 kd1).mono ?_
  rintro e w19 ⟨rfl, b19⟩
  have B19 := Lib.hid (B18.out.trans (b19.mono B18.out.size))
  have D19 := Lib.hid (OpsD.below D18.out b19)
  clear b19 B18 D18
  go_wp2_with fail
  refine (depth_code (kc1.drop 2) _ w19 (OpsD.drop D19.out 2 (by decide)) (by decide) (-1) kd2).mono ?_
  rintro e w20 ⟨rfl, b20⟩
  go_wp2
  go_ret
  exact ⟨rfl, B19.out.trans (b20.mono B19.out.size)⟩

end Go.Proofs.Ytibkegalbcjmpaa
