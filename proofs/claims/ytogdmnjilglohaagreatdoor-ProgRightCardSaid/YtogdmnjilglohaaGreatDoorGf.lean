/- ProgRight: the law's walk. -/
import Derived.Test.YtogdmnjilglohaaGreatDoorPz
import Derived.Test.YtogdmnjilglohaaGreatDoorPw
import Derived.Deep.RegionHeld3
set_option maxRecDepth 100000
set_option maxHeartbeats 32000000
namespace Go.Proofs.YtogdmnjilglohaaGreatDoor
open Go.RowKit
theorem pright_big (s : ByteArray) (w : World) (h : 3000 < s.size) (hl : s.size ≤ maxLen) (hf : Flds w) (ht : Tabs w) (hw : Wds w) :
  Calls Tryz.prog 6 #[.string s] w fun e w' => e = .returned (.bool true) ∧ Below w.heap.size w w' := by
 have HK := Lib.hid (pknown_any w hf ht hw)
 clear hf ht hw
 unfold maxLen at hl
 go_enter Tryz.func6, Tryz.ntmps6
 go_wp2_with fail
 refine HK.out.mono ?_
 rintro e w1 ⟨rfl, b1⟩
 go_wp2
 go_ret
 exact ⟨rfl, b1⟩
theorem pright_err (s : ByteArray) (w : World) (h : s.size ≤ 3000) (hf : Flds w) (ht : Tabs w) (hw : Wds w) (k a : Nat) (hp : parseG s.data.toList = (⟨0, [], [], []⟩, k, a)) (hk : k ≠ 0) (ha : a ≤ s.size) :
  Calls Tryz.prog 6 #[.string s] w fun e w' => e = .returned (.bool true) ∧ Below w.heap.size w w' := by
 have HF := Lib.hid hf
 have HT := Lib.hid ht
 have HW := Lib.hid hw
 have HP1 := Lib.hid (gparse_any s w ht.1 hw (by unfold maxLen; omega))
 rw [hp] at HP1
 have q1 : decide ((3000 : Int) < (s.size : Int)) = false := decide_eq_false (by omega)
 have q2 : decide (3000 < s.size) = false := decide_eq_false (by omega)
 have q3 : ((k : Int) != 0) = true := by simpa using hk
 have q4 : decide ((a : Int) ≤ (s.size : Int)) = true := decide_eq_true (by omega)
 have q5 : decide ((0 : Int) ≤ (a : Int)) = true := decide_eq_true (by omega)
 have HH := Lib.hid h
 clear hf ht hw hp hk
 go_enter Tryz.func6, Tryz.ntmps6
 go_wp2_with fail
 refine HP1.out.mono ?_
 rintro e w1 ⟨a', b', c', rfl, p1, b1⟩
 obtain ⟨aa, ca, rfl⟩ : ∃ x y, a' = .slice x 0 y := by obtain ⟨x, y, h, _⟩ := own_shape p1.l; exact ⟨x, y, h⟩
 obtain ⟨ab, cb, rfl⟩ : ∃ x y, b' = .slice x 0 y := by obtain ⟨x, y, h⟩ := p1.t.shape; exact ⟨x, y, h⟩
 obtain ⟨ac, cc, rfl⟩ : ∃ x y, c' = .slice x 0 y := by obtain ⟨x, y, h⟩ := p1.c.shape; exact ⟨x, y, h⟩
 have B1a : Hid (Below w.heap.size w (w1.alloc (.cells #[.int .i64 0, .slice aa 0 ca, .slice ab 0 cb, .slice ac 0 cc] 27))) := b1.alloc b1.size _
 clear p1 b1 HP1
 simp only []
 go_wp2_with fail
 refine (pknown_any _ (HF.out.below B1a.out) (HT.out.below B1a.out) (HW.out.below B1a.out)).mono ?_
 rintro e w4 ⟨rfl, b4⟩
 go_wp2
 go_ret
 exact ⟨rfl, B1a.out.trans (b4.mono B1a.out.size)⟩
theorem pright_ok (s : ByteArray) (w : World) (h : s.size ≤ 3000) (hf : Flds w) (ht : Tabs w) (hw : Wds w) (g : Pg) (hp : parseG s.data.toList = (g, 0, 0)) (ho : okP g) (hb : BdP g) (hcnt : g.locs.length ≤ 3100 ∧ g.ths.length ≤ 3100 ∧ g.cls.length ≤ 3100) :
  Calls Tryz.prog 6 #[.string s] w fun e w' => e = .returned (.bool true) ∧ Below w.heap.size w w' := by
 have HF := Lib.hid hf
 have HT := Lib.hid ht
 have HW := Lib.hid hw
 have hz := pmOK_of hb ho
 have hr := (rightPB_ok g).2 ho
 have hz2 := pmOK_of (bd_er hb) (okP_er ho)
 have hr2 := (rightPB_ok g.er).2 (okP_er ho)
 have htl := text_le hb ho
 have HP1 := Lib.hid (gparse_any s w ht.1 hw (by unfold maxLen; omega))
 rw [hp] at HP1
 obtain ⟨T, hT⟩ : ∃ T, T = (⟨(textP g).toArray⟩ : ByteArray) := ⟨_, rfl⟩
 have hTd : T.data.toList = textP g := by rw [hT]
 have hTs : T.size = (textP g).length := by rw [Lib.size_eq, hTd]
 -- what is read of the text
 obtain ⟨⟨g2, k2, a2⟩, hR2⟩ : ∃ R, R = parseG (textP g) := ⟨_, rfl⟩
 have hbd2 : BdP g2 ∧ PmOK g2 ∧ (T.size ≤ 20000 → k2 = 0 ∧ g2.er = g.er) := by
  by_cases hlong : 20000 < (textP g).length
  ·rw [parse_long _ hlong] at hR2
   cases hR2
   exact ⟨⟨Nat.zero_le _, Nat.zero_le _, Nat.zero_le _, (fun x hx => by cases hx), fun x hx => by cases hx⟩, ⟨⟨Nat.zero_le _, fun x hx => by cases hx⟩, ⟨Nat.zero_le _, fun x hx => by cases hx⟩, ⟨Nat.zero_le _, fun x hx => by cases hx⟩⟩, fun h => by omega⟩
  ·obtain ⟨g', h1, h2⟩ := prog_back ho (by omega)
   rw [h1] at hR2
   have hb2 := parse_few (textP g) (by omega)
   have ho2 := (parse_good (textP g)).1 (by rw [h1])
   rw [h1] at hb2 ho2
   cases hR2
   exact ⟨hb2, pmOK_of hb2 ho2.1, fun _ => ⟨rfl, h2⟩⟩
 obtain ⟨hb2, hzz, hback⟩ := hbd2
 have HP2 := Lib.hid (fun (W : World) (h : Below w.heap.size w W) => gparse_any T W (ht.below h).1 (hw.below h) (by rw [hTs]; unfold maxLen; omega))
 rw [hTd, ← hR2] at HP2
 have HSHOW := Lib.hid (fun (W : World) (x y z : Value) (hd : PgD W x y z g) (h : Below w.heap.size w W) => pshow_yes g x y z W hd hz (hf.below h) (ht.below h) (hw.below h) hr hcnt)
 rw [← hT] at HSHOW
 have HRI := Lib.hid (fun (W : World) (x y z : Value) (hd : PgD W x y z g) (h : Below w.heap.size w W) => pright_any g x y z W hd hz (hf.below h))
 rw [hr] at HRI
 have HRB := Lib.hid (fun (W : World) (x y z : Value) (hd : PgD W x y z (bareP g)) (h : Below w.heap.size w W) => pright_any (bareP g) x y z W hd hz2 (hf.below h))
 rw [show rightPB (bareP g) = true from hr2] at HRB
 have HBA := Lib.hid (fun (W : World) (x y z : Value) (hd : PgD W x y z g) => pbare_any g x y z W hd hz)
 have HBB := Lib.hid (fun (W : World) (x y z : Value) (hd : PgD W x y z g2) => pbare_any g2 x y z W hd hzz)
 have HSM := Lib.hid (fun (W : World) (x1 y1 z1 x2 y2 z2 : Value) (hd : PgD W x1 y1 z1 (bareP g)) (hd2 : PgD W x2 y2 z2 (bareP g2)) (he : g2.er = g.er) => rpsame_any true (bareP g) (bareP g2) x1 y1 z1 x2 y2 z2 W hd hd2 (by rw [bareP_er, bareP_er, he]; exact alike_self (bd_er hb)))
 have q1 : decide ((3000 : Int) < (s.size : Int)) = false := decide_eq_false (by omega)
 have q2 : decide (3000 < s.size) = false := decide_eq_false (by omega)
 have HBK := Lib.hid hback
 obtain ⟨n, hn⟩ : ∃ n, n = T.size := ⟨_, rfl⟩
 have hnl : n ≤ 1000000000000000000 := by omega
 obtain ⟨m0, hm0⟩ : ∃ m, m = g.mod := ⟨_, rfl⟩
 obtain ⟨m2, hm2⟩ : ∃ m, m = g2.mod := ⟨_, rfl⟩
 have hmb : (bareP g).mod = m0 := by rw [hm0]; rfl
 have hmb2 : (bareP g2).mod = m2 := by rw [hm2]; rfl
 rw [← hm0] at HSHOW HRI HBA
 rw [← hm2] at HBB
 rw [hmb] at HRB HBA HSM
 rw [hmb2] at HBB HSM
 have HM0 := Lib.hid hm0
 have HM2 := Lib.hid hm2
 have HN := Lib.hid hn
 clear hf ht hw hz hr hz2 hr2 htl hT hTd hTs hR2 hb2 hzz hback hp ho hb hcnt hm0 hm2 hmb hmb2 hn
 go_enter Tryz.func6, Tryz.ntmps6
 go_wp2_with fail
 refine HP1.out.mono ?_
 rintro e w1 ⟨a, b, c, rfl, p1, b1⟩
 have D1 := Lib.hid (pgD_of_own p1)
 obtain ⟨aa, na, ca, rfl⟩ : ∃ x n y, a = .slice x n y := by obtain ⟨x, y, h, _⟩ := own_shape p1.l; exact ⟨x, _, y, h⟩
 obtain ⟨ab, nb, cb, rfl⟩ : ∃ x n y, b = .slice x n y := by obtain ⟨x, y, h⟩ := p1.t.shape; exact ⟨x, _, y, h⟩
 obtain ⟨ac, nc, cc, rfl⟩ : ∃ x n y, c = .slice x n y := by obtain ⟨x, y, h⟩ := p1.c.shape; exact ⟨x, _, y, h⟩
 simp only [] at p1 ⊢
 rw [← HM0.out]
 have K1 := Lib.hid (Bk.new w1 27 #[.int .i64 m0, .slice aa na ca, .slice ab nb cb, .slice ac nc cc])
 have A1 : Hid (Below w1.heap.size w1 (w1.alloc (.cells #[.int .i64 m0, .slice aa na ca, .slice ab nb cb, .slice ac nc cc] 27))) := (Below.refl _ _).alloc (Nat.le_refl _) _
 have B1 := Lib.hid (b1.trans (A1.out.mono b1.size))
 have D1a := Lib.hid (D1.out.below A1.out)
 clear p1 b1 HP1 D1
 obtain ⟨wx, hwx⟩ : ∃ wx, wx = w1.alloc (.cells #[.int .i64 m0, .slice aa na ca, .slice ab nb cb, .slice ac nc cc] 27) := ⟨_, rfl⟩
 rw [← hwx] at K1 A1 B1 D1a
 have HWX := Lib.hid hwx
 clear hwx
 go_wp2_with fail
 rw [← HWX.out]
 refine (HSHOW.out _ _ _ _ D1a.out B1.out).mono ?_
 rintro e w2 ⟨rfl, b2⟩
 have B2 := Lib.hid (B1.out.trans (b2.mono B1.out.size))
 have K2 := Lib.hid (K1.out.below b2)
 have D2 := Lib.hid (D1a.out.below b2)
 clear b2 K1 D1a A1 HSHOW
 go_wp2_with fail
 refine (HP2.out _ B2.out).mono ?_
 rintro e w3 ⟨a', b', c', rfl, p3, b3⟩
 have E3 := Lib.hid (pgD_of_own p3)
 obtain ⟨da, ma, ea, rfl⟩ : ∃ x n y, a' = .slice x n y := by obtain ⟨x, y, h, _⟩ := own_shape p3.l; exact ⟨x, _, y, h⟩
 obtain ⟨db, mb, eb, rfl⟩ : ∃ x n y, b' = .slice x n y := by obtain ⟨x, y, h⟩ := p3.t.shape; exact ⟨x, _, y, h⟩
 obtain ⟨dc, mc, ec, rfl⟩ : ∃ x n y, c' = .slice x n y := by obtain ⟨x, y, h⟩ := p3.c.shape; exact ⟨x, _, y, h⟩
 simp only [] at p3 ⊢
 rw [← HM2.out]
 have A3 : Below w3.heap.size w3 (w3.alloc (.cells #[.int .i64 m2, .slice da ma ea, .slice db mb eb, .slice dc mc ec] 27)) := (Below.refl _ _).alloc (Nat.le_refl _) _
 have K3 := Lib.hid (Bk.new w3 27 #[.int .i64 m2, .slice da ma ea, .slice db mb eb, .slice dc mc ec])
 have B3 := Lib.hid ((B2.out.trans (b3.mono B2.out.size)).trans (A3.mono (B2.out.trans (b3.mono B2.out.size)).size))
 have K4 := Lib.hid ((K2.out.below b3).below A3)
 have D3 := Lib.hid ((D2.out.below b3).below A3)
 have E4 := Lib.hid (E3.out.below A3)
 obtain ⟨wy, hwy⟩ : ∃ wy, wy = w3.alloc (.cells #[.int .i64 m2, .slice da ma ea, .slice db mb eb, .slice dc mc ec] 27) := ⟨_, rfl⟩
 rw [← hwy] at K3 B3 K4 D3 E4
 have HWY := Lib.hid hwy
 have hlt3 : w3.heap.size < wy.heap.size := K3.out.lt
 have hlt1 : w1.heap.size < wy.heap.size := K4.out.lt
 clear hwy p3 b3 A3 K2 D2 E3 HP2
 have KK := Lib.hid (fun (W : World) (h : Below wy.heap.size wy W) => (⟨(K4.out.below h).cell 0, (K4.out.below h).cell 1, (K4.out.below h).cell 2, (K4.out.below h).cell 3, (K3.out.below h).cell 0, (K3.out.below h).cell 1, (K3.out.below h).cell 2, (K3.out.below h).cell 3⟩ : W.cell? ⟨w1.heap.size, 0, none⟩ = some (.int .i64 m0) ∧ W.cell? ⟨w1.heap.size, 1, none⟩ = some (.slice aa na ca) ∧ W.cell? ⟨w1.heap.size, 2, none⟩ = some (.slice ab nb cb) ∧ W.cell? ⟨w1.heap.size, 3, none⟩ = some (.slice ac nc cc) ∧ W.cell? ⟨w3.heap.size, 0, none⟩ = some (.int .i64 m2) ∧ W.cell? ⟨w3.heap.size, 1, none⟩ = some (.slice da ma ea) ∧ W.cell? ⟨w3.heap.size, 2, none⟩ = some (.slice db mb eb) ∧ W.cell? ⟨w3.heap.size, 3, none⟩ = some (.slice dc mc ec)))
 have k0 := K4.out.cell 0
 have k1 := K4.out.cell 1
 have k2 := K4.out.cell 2
 have k3 := K4.out.cell 3
 have k4 := K3.out.cell 0
 have k5 := K3.out.cell 1
 have k6 := K3.out.cell 2
 have k7 := K3.out.cell 3
 have bb : Below wy.heap.size wy wy := Below.refl _ _
 have HLT1 := Lib.hid hlt1
 clear K3 K4
 by_cases hl : 20000 < n
 ·have q7 : decide ((20000 : Int) < (T.size : Int)) = true := decide_eq_true (by rw [← HN.out]; omega)
  have q8 : decide (20000 < T.size) = true := decide_eq_true (by rw [← HN.out]; omega)
  have q9 : 20000 < T.size := by rw [← HN.out]; omega
  go_wp2_with fail
  rw [← HWY.out]
  refine wp_region_noPanic ?_
  refine wp_region_held_drew (S := fun w' => w'.cell? ⟨w1.heap.size, 0, none⟩ = some (.int .i64 m0) ∧ w'.cell? ⟨w1.heap.size, 1, none⟩ = some (.slice aa na ca) ∧ w'.cell? ⟨w1.heap.size, 2, none⟩ = some (.slice ab nb cb) ∧ w'.cell? ⟨w1.heap.size, 3, none⟩ = some (.slice ac nc cc) ∧ w'.cell? ⟨w3.heap.size, 0, none⟩ = some (.int .i64 m2) ∧ w'.cell? ⟨w3.heap.size, 1, none⟩ = some (.slice da ma ea) ∧ w'.cell? ⟨w3.heap.size, 2, none⟩ = some (.slice db mb eb) ∧ w'.cell? ⟨w3.heap.size, 3, none⟩ = some (.slice dc mc ec) ∧ Below wy.heap.size wy w') (by kernel_rfl) ⟨k0, k1, k2, k3, k4, k5, k6, k7, (Below.refl _ _).drew⟩ (fun hHeld => ?_)
  refine wpAnyH_take (i := 0) (oi := { dst := some 60, op := Op.load 27 (Operand.tmp 3), type := 27, pos := "law.go:82", after := #[], guard := none }) (v := ?v0) rfl (by kernel_rfl) (by kernel_rfl) (by kernel_rfl) (fun _ _ _ h => h) (Or.inl ⟨by rfl, ?hy0⟩) hHeld ?rest0
  case hy0 => (intro w9 hSw; (try dsimp only at hSw); go_simp; (try with_reducible rfl))
  (try simp only [Act.put, List.setIfInBounds_toArray, List.set_cons_zero, List.set_cons_succ])
  refine wpAnyH_ready (rs := [1]) (by kernel_rfl) (by simp) ?_
  refine AllReadyH.cons (o := { dst := some 61, op := Op.call { callee := Callee.value (Operand.func 14), args := #[Operand.tmp 60], argTypes := #[27] }, type := 4, pos := "law.go:82", after := #[{ on := 0, ground := Ground.data }], guard := none }) rfl (fun K hK => ?_) AllReadyH.nil
  have b1 : Below wy.heap.size wy _ := hHeld.2.2.2.2.2.2.2.2
  go_simp
  refine Calls.mono (HRI.out _ _ _ _ (D3.out.below b1) (B3.out.trans (b1.mono B3.out.size))) ?_
  rintro e wn ⟨rfl, bn⟩
  have b2 : Below wy.heap.size wy wn := b1.trans (bn.mono b1.size)
  (try go_wp2_with fail)
  refine hK.out _ _ ⟨(KK.out _ b2).1, (KK.out _ b2).2.1, (KK.out _ b2).2.2.1, (KK.out _ b2).2.2.2.1, (KK.out _ b2).2.2.2.2.1, (KK.out _ b2).2.2.2.2.2.1, (KK.out _ b2).2.2.2.2.2.2.1, (KK.out _ b2).2.2.2.2.2.2.2, b2⟩ (fun hHeld => ?_)
  clear hK K
  (try simp only [Act.put, List.setIfInBounds_toArray, List.set_cons_zero, List.set_cons_succ])
  refine wpAnyH_take (i := 2) (oi := { dst := some 62, op := Op.move (Operand.tmp 61), type := 4, pos := "law.go:82", after := #[{ on := 1, ground := Ground.data }, { on := 1, ground := Ground.chain }], guard := none }) (v := ?v2) rfl (by kernel_rfl) (by kernel_rfl) (by kernel_rfl) (fun _ _ _ h => h) (Or.inl ⟨by rfl, ?hy2⟩) hHeld ?rest2
  case hy2 => (intro w9 hSw; (try dsimp only at hSw); go_simp; (try with_reducible rfl))
  (try simp only [Act.put, List.setIfInBounds_toArray, List.set_cons_zero, List.set_cons_succ])
  refine wpAnyH_take (i := 3) (oi := { dst := some 63, op := Op.load 27 (Operand.tmp 3), type := 27, pos := "law.go:82", after := #[{ on := 2, ground := Ground.guard }], guard := some (2, true) }) (v := ?v3) rfl (by kernel_rfl) (by kernel_rfl) (by kernel_rfl) (fun _ _ _ h => h) (Or.inl ⟨by rfl, ?hy3⟩) hHeld ?rest3
  case hy3 => (intro w9 hSw; (try dsimp only at hSw); go_simp; (try with_reducible rfl))
  (try simp only [Act.put, List.setIfInBounds_toArray, List.set_cons_zero, List.set_cons_succ])
  refine wpAnyH_ready (rs := [4]) (by kernel_rfl) (by simp) ?_
  refine AllReadyH.cons (o := { dst := some 64, op := Op.call { callee := Callee.value (Operand.func 13), args := #[Operand.tmp 63], argTypes := #[27] }, type := 27, pos := "law.go:82", after := #[{ on := 3, ground := Ground.data }, { on := 2, ground := Ground.chain }, { on := 2, ground := Ground.guard }], guard := some (2, true) }) rfl (fun K hK => ?_) AllReadyH.nil
  have b1 : Below wy.heap.size wy _ := hHeld.2.2.2.2.2.2.2.2
  go_simp
  refine Calls.mono (HBA.out _ _ _ _ (D3.out.below b1)) ?_
  rintro e wn ⟨xa, xb, xc, rfl, pn, bn⟩
  have e1 := pgD_of_own pn
  have b2 : Below wy.heap.size wy wn := b1.trans (bn.mono b1.size)
  (try go_wp2_with fail)
  refine hK.out _ _ ⟨(KK.out _ b2).1, (KK.out _ b2).2.1, (KK.out _ b2).2.2.1, (KK.out _ b2).2.2.2.1, (KK.out _ b2).2.2.2.2.1, (KK.out _ b2).2.2.2.2.2.1, (KK.out _ b2).2.2.2.2.2.2.1, (KK.out _ b2).2.2.2.2.2.2.2, b2⟩ (fun hHeld => ?_)
  clear hK K
  (try simp only [Act.put, List.setIfInBounds_toArray, List.set_cons_zero, List.set_cons_succ])
  refine wpAnyH_ready (rs := [5]) (by kernel_rfl) (by simp) ?_
  refine AllReadyH.cons (o := { dst := some 65, op := Op.call { callee := Callee.value (Operand.func 14), args := #[Operand.tmp 64], argTypes := #[27] }, type := 4, pos := "law.go:82", after := #[{ on := 4, ground := Ground.data }, { on := 4, ground := Ground.chain }, { on := 2, ground := Ground.guard }], guard := some (2, true) }) rfl (fun K hK => ?_) AllReadyH.nil
  have b1 : Below wy.heap.size wy _ := hHeld.2.2.2.2.2.2.2.2
  go_simp
  refine Calls.mono (HRB.out _ _ _ _ e1 (B3.out.trans (b1.mono B3.out.size))) ?_
  rintro e wn ⟨rfl, bn⟩
  have b2 : Below wy.heap.size wy wn := b1.trans (bn.mono b1.size)
  (try go_wp2_with fail)
  refine hK.out _ _ ⟨(KK.out _ b2).1, (KK.out _ b2).2.1, (KK.out _ b2).2.2.1, (KK.out _ b2).2.2.2.1, (KK.out _ b2).2.2.2.2.1, (KK.out _ b2).2.2.2.2.2.1, (KK.out _ b2).2.2.2.2.2.2.1, (KK.out _ b2).2.2.2.2.2.2.2, b2⟩ (fun hHeld => ?_)
  clear hK K
  (try simp only [Act.put, List.setIfInBounds_toArray, List.set_cons_zero, List.set_cons_succ])
  refine wpAnyH_take (i := 6) (oi := { dst := some 66, op := Op.pick (Operand.tmp 62) (Operand.tmp 65) (Operand.const (Value.bool false)), type := 4, pos := "law.go:82", after := #[{ on := 2, ground := Ground.data }, { on := 5, ground := Ground.data }], guard := none }) (v := ?v6) rfl (by kernel_rfl) (by kernel_rfl) (by kernel_rfl) (fun _ _ _ h => h) (Or.inl ⟨by rfl, ?hy6⟩) hHeld ?rest6
  case hy6 => (intro w9 hSw; (try dsimp only at hSw); go_simp; (try with_reducible rfl))
  (try simp only [Act.put, List.setIfInBounds_toArray, List.set_cons_zero, List.set_cons_succ])
  refine wpAnyH_take (i := 7) (oi := { dst := some 67, op := Op.move (Operand.tmp 66), type := 4, pos := "law.go:82", after := #[{ on := 6, ground := Ground.data }, { on := 5, ground := Ground.chain }], guard := none }) (v := ?v7) rfl (by kernel_rfl) (by kernel_rfl) (by kernel_rfl) (fun _ _ _ h => h) (Or.inl ⟨by rfl, ?hy7⟩) hHeld ?rest7
  case hy7 => (intro w9 hSw; (try dsimp only at hSw); go_simp; (try with_reducible rfl))
  (try simp only [Act.put, List.setIfInBounds_toArray, List.set_cons_zero, List.set_cons_succ])
  refine wpAnyH_take (i := 8) (oi := { dst := some 68, op := Op.move (Operand.tmp 6), type := 9, pos := "law.go:82", after := #[{ on := 7, ground := Ground.guard }], guard := some (7, true) }) (v := ?v8) rfl (by kernel_rfl) (by kernel_rfl) (by kernel_rfl) (fun _ _ _ h => h) (Or.inl ⟨by rfl, ?hy8⟩) hHeld ?rest8
  case hy8 => (intro w9 hSw; (try dsimp only at hSw); go_simp; (try with_reducible rfl))
  (try simp only [Act.put, List.setIfInBounds_toArray, List.set_cons_zero, List.set_cons_succ])
  refine wpAnyH_take (i := 9) (oi := { dst := some 69, op := Op.call { callee := Callee.builtin Builtin.len, args := #[Operand.tmp 68], argTypes := #[9] }, type := 3, pos := "law.go:82", after := #[{ on := 8, ground := Ground.data }, { on := 7, ground := Ground.guard }], guard := some (7, true) }) (v := ?v9) rfl (by kernel_rfl) (by kernel_rfl) (by kernel_rfl) (fun _ _ _ h => h) (Or.inl ⟨by rfl, ?hy9⟩) hHeld ?rest9
  case hy9 => (intro w9 hSw; (try dsimp only at hSw); go_simp; (try with_reducible rfl))
  (try simp only [Act.put, List.setIfInBounds_toArray, List.set_cons_zero, List.set_cons_succ])
  refine wpAnyH_take (i := 10) (oi := { dst := some 70, op := Op.binOp BinOp.gtr 3 (Operand.tmp 69) (Operand.const (Value.int IntKind.i64 20000)) 3, type := 4, pos := "law.go:82", after := #[{ on := 9, ground := Ground.data }, { on := 7, ground := Ground.guard }], guard := some (7, true) }) (v := ?v10) rfl (by kernel_rfl) (by kernel_rfl) (by kernel_rfl) (fun _ _ _ h => h) (Or.inl ⟨by rfl, ?hy10⟩) hHeld ?rest10
  case hy10 => (intro w9 hSw; (try dsimp only at hSw); go_simp; (try with_reducible rfl))
  (try simp only [Act.put, List.setIfInBounds_toArray, List.set_cons_zero, List.set_cons_succ])
  refine wpAnyH_take (i := 11) (oi := { dst := some 71, op := Op.move (Operand.tmp 70), type := 4, pos := "law.go:82", after := #[{ on := 10, ground := Ground.data }, { on := 7, ground := Ground.chain }, { on := 7, ground := Ground.guard }], guard := some (7, true) }) (v := ?v11) rfl (by kernel_rfl) (by kernel_rfl) (by kernel_rfl) (fun _ _ _ h => h) (Or.inl ⟨by rfl, ?hy11⟩) hHeld ?rest11
  case hy11 => (intro w9 hSw; (try dsimp only at hSw); go_simp; (try with_reducible rfl))
  (try simp only [Act.put, List.setIfInBounds_toArray, List.set_cons_zero, List.set_cons_succ])
  refine wpAnyH_take (i := 12) (oi := { dst := some 72, op := Op.move (Operand.tmp 8), type := 28, pos := "law.go:82", after := #[{ on := 11, ground := Ground.guard }], guard := some (11, false) }) (v := undef) rfl (by kernel_rfl) (by kernel_rfl) (by kernel_rfl) (fun _ _ _ h => h) (Or.inr ⟨by rfl, rfl⟩) hHeld ?_
  (try simp only [Act.put, List.setIfInBounds_toArray, List.set_cons_zero, List.set_cons_succ])
  refine wpAnyH_take (i := 13) (oi := { dst := some 73, op := Op.binOp BinOp.eql 28 (Operand.tmp 72) (Operand.const (Value.int IntKind.i64 0)) 28, type := 4, pos := "law.go:82", after := #[{ on := 12, ground := Ground.data }, { on := 11, ground := Ground.guard }], guard := some (11, false) }) (v := undef) rfl (by kernel_rfl) (by kernel_rfl) (by kernel_rfl) (fun _ _ _ h => h) (Or.inr ⟨by rfl, rfl⟩) hHeld ?_
  (try simp only [Act.put, List.setIfInBounds_toArray, List.set_cons_zero, List.set_cons_succ])
  refine wpAnyH_take (i := 14) (oi := { dst := some 74, op := Op.move (Operand.tmp 73), type := 4, pos := "law.go:82", after := #[{ on := 13, ground := Ground.data }, { on := 11, ground := Ground.chain }, { on := 11, ground := Ground.guard }], guard := some (11, false) }) (v := undef) rfl (by kernel_rfl) (by kernel_rfl) (by kernel_rfl) (fun _ _ _ h => h) (Or.inr ⟨by rfl, rfl⟩) hHeld ?_
  (try simp only [Act.put, List.setIfInBounds_toArray, List.set_cons_zero, List.set_cons_succ])
  refine wpAnyH_take (i := 15) (oi := { dst := some 75, op := Op.load 27 (Operand.tmp 3), type := 27, pos := "law.go:82", after := #[{ on := 14, ground := Ground.guard }], guard := some (14, true) }) (v := undef) rfl (by kernel_rfl) (by kernel_rfl) (by kernel_rfl) (fun _ _ _ h => h) (Or.inr ⟨by rfl, rfl⟩) hHeld ?_
  (try simp only [Act.put, List.setIfInBounds_toArray, List.set_cons_zero, List.set_cons_succ])
  refine wpAnyH_take (i := 16) (oi := { dst := some 76, op := Op.call { callee := Callee.value (Operand.func 13), args := #[Operand.tmp 75], argTypes := #[27] }, type := 27, pos := "law.go:82", after := #[{ on := 15, ground := Ground.data }, { on := 14, ground := Ground.chain }, { on := 14, ground := Ground.guard }], guard := some (14, true) }) (v := undef) rfl (by kernel_rfl) (by kernel_rfl) (by kernel_rfl) (fun _ _ _ h => h) (Or.inr ⟨by rfl, rfl⟩) hHeld ?_
  (try simp only [Act.put, List.setIfInBounds_toArray, List.set_cons_zero, List.set_cons_succ])
  refine wpAnyH_take (i := 17) (oi := { dst := some 77, op := Op.load 27 (Operand.tmp 7), type := 27, pos := "law.go:82", after := #[{ on := 14, ground := Ground.guard }], guard := some (14, true) }) (v := undef) rfl (by kernel_rfl) (by kernel_rfl) (by kernel_rfl) (fun _ _ _ h => h) (Or.inr ⟨by rfl, rfl⟩) hHeld ?_
  (try simp only [Act.put, List.setIfInBounds_toArray, List.set_cons_zero, List.set_cons_succ])
  refine wpAnyH_take (i := 18) (oi := { dst := some 78, op := Op.call { callee := Callee.value (Operand.func 13), args := #[Operand.tmp 77], argTypes := #[27] }, type := 27, pos := "law.go:82", after := #[{ on := 17, ground := Ground.data }, { on := 16, ground := Ground.chain }, { on := 14, ground := Ground.guard }], guard := some (14, true) }) (v := undef) rfl (by kernel_rfl) (by kernel_rfl) (by kernel_rfl) (fun _ _ _ h => h) (Or.inr ⟨by rfl, rfl⟩) hHeld ?_
  (try simp only [Act.put, List.setIfInBounds_toArray, List.set_cons_zero, List.set_cons_succ])
  refine wpAnyH_take (i := 19) (oi := { dst := some 79, op := Op.call { callee := Callee.value (Operand.func 11), args := #[Operand.tmp 76, Operand.tmp 78, Operand.const (Value.bool true)], argTypes := #[27, 27, 4] }, type := 4, pos := "law.go:82", after := #[{ on := 16, ground := Ground.data }, { on := 18, ground := Ground.data }, { on := 18, ground := Ground.chain }, { on := 14, ground := Ground.guard }], guard := some (14, true) }) (v := undef) rfl (by kernel_rfl) (by kernel_rfl) (by kernel_rfl) (fun _ _ _ h => h) (Or.inr ⟨by rfl, rfl⟩) hHeld ?_
  (try simp only [Act.put, List.setIfInBounds_toArray, List.set_cons_zero, List.set_cons_succ])
  refine wpAnyH_take (i := 20) (oi := { dst := some 80, op := Op.pick (Operand.tmp 74) (Operand.tmp 79) (Operand.const (Value.bool false)), type := 4, pos := "law.go:82", after := #[{ on := 14, ground := Ground.data }, { on := 19, ground := Ground.data }, { on := 11, ground := Ground.guard }], guard := some (11, false) }) (v := undef) rfl (by kernel_rfl) (by kernel_rfl) (by kernel_rfl) (fun _ _ _ h => h) (Or.inr ⟨by rfl, rfl⟩) hHeld ?_
  (try simp only [Act.put, List.setIfInBounds_toArray, List.set_cons_zero, List.set_cons_succ])
  refine wpAnyH_take (i := 21) (oi := { dst := some 81, op := Op.pick (Operand.tmp 71) (Operand.const (Value.bool true)) (Operand.tmp 80), type := 4, pos := "law.go:82", after := #[{ on := 11, ground := Ground.data }, { on := 20, ground := Ground.data }, { on := 7, ground := Ground.guard }], guard := some (7, true) }) (v := ?v21) rfl (by kernel_rfl) (by kernel_rfl) (by kernel_rfl) (fun _ _ _ h => h) (Or.inl ⟨by rfl, ?hy21⟩) hHeld ?rest21
  case hy21 => (intro w9 hSw; (try dsimp only at hSw); go_simp; (try with_reducible rfl))
  (try simp only [Act.put, List.setIfInBounds_toArray, List.set_cons_zero, List.set_cons_succ])
  refine wpAnyH_take (i := 22) (oi := { dst := some 82, op := Op.pick (Operand.tmp 67) (Operand.tmp 81) (Operand.const (Value.bool false)), type := 4, pos := "law.go:82", after := #[{ on := 7, ground := Ground.data }, { on := 21, ground := Ground.data }], guard := none }) (v := ?v22) rfl (by kernel_rfl) (by kernel_rfl) (by kernel_rfl) (fun _ _ _ h => h) (Or.inl ⟨by rfl, ?hy22⟩) hHeld ?rest22
  case hy22 => (intro w9 hSw; (try dsimp only at hSw); go_simp; (try with_reducible rfl))
  (try simp only [Act.put, List.setIfInBounds_toArray, List.set_cons_zero, List.set_cons_succ])
  refine wpAnyH_take (i := 23) (oi := { dst := some 83, op := Op.move (Operand.tmp 82), type := 4, pos := "law.go:82", after := #[{ on := 22, ground := Ground.data }, { on := 19, ground := Ground.chain }], guard := none }) (v := ?v23) rfl (by kernel_rfl) (by kernel_rfl) (by kernel_rfl) (fun _ _ _ h => h) (Or.inl ⟨by rfl, ?hy23⟩) hHeld ?rest23
  case hy23 => (intro w9 hSw; (try dsimp only at hSw); go_simp; (try with_reducible rfl))
  (try simp only [Act.put, List.setIfInBounds_toArray, List.set_cons_zero, List.set_cons_succ])
  refine wpAnyH_ready (rs := [24]) (by kernel_rfl) (by simp) ?_
  refine AllReadyH.cons (o := { dst := some 84, op := Op.call { callee := Callee.value (Operand.func 8), args := #[], argTypes := #[] }, type := 4, pos := "law.go:82", after := #[{ on := 23, ground := Ground.chain }, { on := 23, ground := Ground.guard }], guard := some (23, true) }) rfl (fun K hK => ?_) AllReadyH.nil
  have b1 : Below wy.heap.size wy _ := hHeld.2.2.2.2.2.2.2.2
  go_simp
  refine Calls.mono (pknown_any _ (HF.out.below (B3.out.trans (b1.mono B3.out.size))) (HT.out.below (B3.out.trans (b1.mono B3.out.size))) (HW.out.below (B3.out.trans (b1.mono B3.out.size)))) ?_
  rintro e wn ⟨rfl, bn⟩
  have b2 : Below wy.heap.size wy wn := b1.trans (bn.mono b1.size)
  (try go_wp2_with fail)
  refine hK.out _ _ ⟨(KK.out _ b2).1, (KK.out _ b2).2.1, (KK.out _ b2).2.2.1, (KK.out _ b2).2.2.2.1, (KK.out _ b2).2.2.2.2.1, (KK.out _ b2).2.2.2.2.2.1, (KK.out _ b2).2.2.2.2.2.2.1, (KK.out _ b2).2.2.2.2.2.2.2, b2⟩ (fun hHeld => ?_)
  clear hK K
  (try simp only [Act.put, List.setIfInBounds_toArray, List.set_cons_zero, List.set_cons_succ])
  refine wpAnyH_take (i := 25) (oi := { dst := some 85, op := Op.pick (Operand.tmp 83) (Operand.tmp 84) (Operand.const (Value.bool false)), type := 4, pos := "law.go:82", after := #[{ on := 23, ground := Ground.data }, { on := 24, ground := Ground.data }], guard := none }) (v := ?v25) rfl (by kernel_rfl) (by kernel_rfl) (by kernel_rfl) (fun _ _ _ h => h) (Or.inl ⟨by rfl, ?hy25⟩) hHeld ?rest25
  case hy25 => (intro w9 hSw; (try dsimp only at hSw); go_simp; (try with_reducible rfl))
  (try simp only [Act.put, List.setIfInBounds_toArray, List.set_cons_zero, List.set_cons_succ])
  refine wpAnyH_take (i := 26) (oi := { dst := some 2, op := Op.assign (Operand.tmp 85), type := 4, pos := "law.go:82", after := #[{ on := 25, ground := Ground.data }, { on := 24, ground := Ground.chain }, { on := 0, ground := Ground.phase }, { on := 1, ground := Ground.phase }, { on := 2, ground := Ground.phase }, { on := 3, ground := Ground.phase }, { on := 4, ground := Ground.phase }, { on := 5, ground := Ground.phase }, { on := 6, ground := Ground.phase }, { on := 7, ground := Ground.phase }, { on := 8, ground := Ground.phase }, { on := 9, ground := Ground.phase }, { on := 10, ground := Ground.phase }, { on := 11, ground := Ground.phase }, { on := 12, ground := Ground.phase }, { on := 13, ground := Ground.phase }, { on := 14, ground := Ground.phase }, { on := 15, ground := Ground.phase }, { on := 16, ground := Ground.phase }, { on := 17, ground := Ground.phase }, { on := 18, ground := Ground.phase }, { on := 19, ground := Ground.phase }, { on := 20, ground := Ground.phase }, { on := 21, ground := Ground.phase }, { on := 22, ground := Ground.phase }, { on := 23, ground := Ground.phase }, { on := 24, ground := Ground.phase }, { on := 25, ground := Ground.phase }], guard := none }) (v := ?v26) rfl (by kernel_rfl) (by kernel_rfl) (by kernel_rfl) (fun _ _ _ h => h) (Or.inl ⟨by rfl, ?hy26⟩) hHeld ?rest26
  case hy26 => (intro w9 hSw; (try dsimp only at hSw); go_simp; (try with_reducible rfl))
  (try simp only [Act.put, List.setIfInBounds_toArray, List.set_cons_zero, List.set_cons_succ])
  refine wpAnyH_done (by kernel_rfl) (NoPanic.normal ?_) _
  have b1 : Below wy.heap.size wy _ := hHeld.2.2.2.2.2.2.2.2
  go_wp2
  go_ret
  exact ⟨rfl, B3.out.trans (b1.mono B3.out.size)⟩
 ·obtain ⟨rfl, her⟩ := HBK.out (by rw [← HN.out]; omega)
  have q7 : decide ((20000 : Int) < (T.size : Int)) = false := decide_eq_false (by rw [← HN.out]; omega)
  have q8 : decide (20000 < T.size) = false := decide_eq_false (by rw [← HN.out]; omega)
  have q9 : ¬ 20000 < T.size := by rw [← HN.out]; omega
  have q10 : ¬ (20000 : Int) < (T.size : Int) := by omega
  go_wp2_with fail
  rw [← HWY.out]
  ·have hz0 : True := trivial
   go_region_held3 (fun w' => w'.cell? ⟨w1.heap.size, 0, none⟩ = some (.int .i64 m0) ∧ w'.cell? ⟨w1.heap.size, 1, none⟩ = some (.slice aa na ca) ∧ w'.cell? ⟨w1.heap.size, 2, none⟩ = some (.slice ab nb cb) ∧ w'.cell? ⟨w1.heap.size, 3, none⟩ = some (.slice ac nc cc) ∧ w'.cell? ⟨w3.heap.size, 0, none⟩ = some (.int .i64 m2) ∧ w'.cell? ⟨w3.heap.size, 1, none⟩ = some (.slice da ma ea) ∧ w'.cell? ⟨w3.heap.size, 2, none⟩ = some (.slice db mb eb) ∧ w'.cell? ⟨w3.heap.size, 3, none⟩ = some (.slice dc mc ec) ∧ Below wy.heap.size wy w')
    (first | exact ⟨k0, k1, k2, k3, k4, k5, k6, k7, Below.refl _ _⟩ | exact ⟨k0, k1, k2, k3, k4, k5, k6, k7, (Below.refl _ _).drew⟩ | assumption | (go_split_ands; exact ⟨(KK.out _ bb).1, (KK.out _ bb).2.1, (KK.out _ bb).2.2.1, (KK.out _ bb).2.2.2.1, (KK.out _ bb).2.2.2.2.1, (KK.out _ bb).2.2.2.2.2.1, (KK.out _ bb).2.2.2.2.2.2.1, (KK.out _ bb).2.2.2.2.2.2.2, bb⟩))
    ((first
     | (go_split_ands; (with_reducible refine Calls.mono (HRI.out _ _ _ _ (D3.out.below (by assumption)) (B3.out.trans (Below.mono (by assumption) B3.out.size))) ?_); rintro e wn ⟨rfl, bn⟩; have bb : Below wy.heap.size wy wn := Below.trans (by assumption) (bn.mono (Below.size (by assumption))))
     | (go_split_ands; (with_reducible refine Calls.mono (HBA.out _ _ _ _ (D3.out.below (by assumption))) ?_); rintro e wn ⟨xa, xb, xc, rfl, pn, bn⟩; (try have e2 := PgD.below e1 bn); have e1 := pgD_of_own pn; have bb : Below wy.heap.size wy wn := Below.trans (by assumption) (bn.mono (Below.size (by assumption))))
     | (go_split_ands; (with_reducible refine Calls.mono (HBB.out _ _ _ _ (E4.out.below (by assumption))) ?_); rintro e wn ⟨ya, yb, yc, rfl, pn, bn⟩; (try have e2 := PgD.below e1 bn); have e1 := pgD_of_own pn; have bb : Below wy.heap.size wy wn := Below.trans (by assumption) (bn.mono (Below.size (by assumption))))
     | (go_split_ands; (with_reducible refine Calls.mono (HRB.out _ _ _ _ e1 (B3.out.trans (Below.mono (by assumption) B3.out.size))) ?_); rintro e wn ⟨rfl, bn⟩; have bb : Below wy.heap.size wy wn := Below.trans (by assumption) (bn.mono (Below.size (by assumption))))
     | (go_split_ands; (with_reducible refine Calls.mono (HSM.out _ _ _ _ _ _ _ e2 e1 her) ?_); rintro e wn ⟨rfl, bn⟩; have bb : Below wy.heap.size wy wn := Below.trans (by assumption) (bn.mono (Below.size (by assumption))))
     | (go_split_ands; (with_reducible refine Calls.mono (pknown_any _ (HF.out.below (B3.out.trans (Below.mono (by assumption) B3.out.size))) (HT.out.below (B3.out.trans (Below.mono (by assumption) B3.out.size))) (HW.out.below (B3.out.trans (Below.mono (by assumption) B3.out.size)))) ?_); rintro e wn ⟨rfl, bn⟩; have bb : Below wy.heap.size wy wn := Below.trans (by assumption) (bn.mono (Below.size (by assumption))))))
   all_goals
    go_split_ands
    go_wp2
    go_ret
    exact ⟨rfl, B3.out.trans (Below.mono (by assumption) B3.out.size)⟩
end Go.Proofs.YtogdmnjilglohaaGreatDoor
