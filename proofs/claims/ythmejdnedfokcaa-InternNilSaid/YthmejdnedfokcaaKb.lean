/- Layer 13: the landed table's hash. -/
import Derived.Test.YthmejdnedfokcaaKa
namespace Go.Proofs.Ythmejdnedfokcaa
set_option linter.unusedSimpArgs false
set_option linter.unusedVariables false
open Go.RowKit

def byteAt (s : ByteArray) (j : Nat) : Int := ((s.data.toList.getD j 0).toNat : Int)
theorem cells8_of (l : List UInt8) : (((cells8 fun _ => 0).toList.take 0 ++ (l.map fun b => Value.int IntKind.u8 (b.toNat : Int)).take (Nat.min l.length 8)) ++ (cells8 fun _ => 0).toList.drop (Nat.min l.length 8)).toArray = cells8 fun j => ((l.getD j 0).toNat : Int) := by
  rcases l with _ | ⟨a, _ | ⟨b, _ | ⟨c, _ | ⟨d, _ | ⟨e, _ | ⟨f, _ | ⟨g, _ | ⟨h, l⟩⟩⟩⟩⟩⟩⟩⟩
  · rfl
  · rfl
  · rfl
  · rfl
  · rfl
  · rfl
  · rfl
  · rfl
  · have : Nat.min (a :: b :: c :: d :: e :: f :: g :: h :: l).length 8 = 8 := Nat.min_eq_right (by simp only [List.length_cons]; omega)
    rw [this]
    rfl

theorem run_copy_str8 (w : World) (ty : TypeId) (g : Nat) (s : ByteArray) (t : TypeId) (hg : w.heap[g]? = some (.cells (cells8 fun _ => 0) t (0, 0))) :
    (Builtin.copy_ #[39, 9] ty #[.slice (some ⟨g, 0, none⟩) 8 8, .string s]).run Try.prog w = .ok (goInt (Nat.min s.size 8)) (w.setRow g (cells8 (byteAt s))) := by
  have hu := Try.underlying39
  have hs : (Try.prog.info? 5).map (·.size) = some 1 := by kernel_rfl
  have hz : s.size = s.data.toList.length := Array.length_toList.symm
  have hlen : ((s.data.toList.map fun b => Value.int IntKind.u8 (b.toNat : Int)).take (Nat.min s.data.toList.length 8)).length = Nat.min s.data.toList.length 8 := by
    rw [List.length_take, List.length_map]
    exact Nat.min_eq_left (Nat.min_le_left _ _)
  have hst := run_storeCells_at Try.prog g 0 t ((s.data.toList.map fun b => Value.int IntKind.u8 (b.toNat : Int)).take (Nat.min s.data.toList.length 8)) 0 (cells8 fun _ => 0) w hg (by
    rw [hlen]
    generalize s.data.toList.length = m
    have h1 : Nat.min m 8 ≤ 8 := Nat.min_le_right m 8
    have h2 : (cells8 fun _ => 0).size = 8 := rfl
    rw [h2]
    simpa using h1) (by
    intro v hv
    obtain ⟨b, _, rfl⟩ := List.mem_map.1 (List.mem_of_mem_take hv)
    rfl)
  rw [hlen] at hst
  simp only [Nat.add_zero, Nat.zero_add] at hst
  rw [cells8_of] at hst
  cases hq : Try.prog.info? 5 with
  | none => simp [hq] at hs
  | some i =>
    simp [Builtin.copy_, run_underlying hu, Builtin.lenOf, Builtin.firstCells, sizeOf, typeInfo, hq]
    rw [hz, hst]
    rfl

theorem copy_str8 {w : World} {ops : Array Oper} {rest : List Oper} {o : Oper} {a : Act} {Q : Exit → Act → World → Prop} (hgd : o.guard = none) (d s : Operand)
    (ho : o.op = .call { callee := .builtin .copy, args := #[d, s], argTypes := #[39, 9] }) (g : Nat) (x : ByteArray) (hd : a.eval d = .slice (some ⟨g, 0, none⟩) 8 8) (hs : a.eval s = .string x)
    (t : TypeId) (hg : w.heap[g]? = some (.cells (cells8 fun _ => 0) t (0, 0))) (B : Nat) (w0 : World) (hb : Below B w0 w) (hBg : B ≤ g)
    (h : ∀ w', Hid (Bk w' g t (cells8 (byteAt x))) → Hid (Below B w0 w') → wpList Try.prog ops Q rest (a.put o.dst (goInt (Nat.min x.size 8))) w') :
    wpList Try.prog ops Q (o :: rest) a w := by
  have hrun := run_copy_str8 w o.type g x t hg
  refine wpList_plain hgd fun K hK => ?_
  unfold Oper.wp
  simp [execOp, ho, resolve, invoke, builtin, hd, hs, hrun, Result.andThen]
  exact hK _ _ (h _ (setRow_heap w g _ _ t _ hg) (below_setRow hb hBg _))

def hashS : Nat → ByteArray → Int → Int
  | 0, _, h => h
  | f + 1, s, h => if s.size = 0 then h else hashS f (s.extract (Nat.min s.size 8) s.size) (mixS 2 (bits .xor .u64 h (wordS (byteAt s) 8)))
def hashP (s : ByteArray) : Int := hashS s.size s (mixS 2 (IntKind.u64.wrap (s.size : Int)))

attribute [local go_sem ↓] Go.wp_at_zero Go.wp_at_succ
set_option maxRecDepth 100000 in
set_option maxHeartbeats 4000000 in
theorem hash_any (s : ByteArray) (hs : s.size ≤ 300) (w : World) :
    Calls Try.prog 23 #[.string s] w fun e w' => e = .returned (.int .u64 (hashP s)) ∧ Below w.heap.size w w' := by
  have HM := fun h => Lib.hid fun w => mix_any h w
  have HW := fun b => Lib.hid fun w => word_any b w
  have h64 : IntKind.u64.wrap (s.size : Int) = (s.size : Int) := IntWalk.u64_in _ (by omega)
  have HP : Hid (hashS s.size s (mixS 2 (IntKind.u64.wrap (s.size : Int))) = hashP s) := Lib.hid rfl
  rw [h64] at HP
  generalize hashP s = R at HP ⊢
  go_enter Try.func23, Try.ntmps23
  go_wp2_with fail
  refine ((HM _).out _).mono ?_
  rintro e w1 ⟨rfl, b1⟩
  have HB1 := Lib.hid b1
  clear b1
  go_wp2_with fail
  go_loopg [0, 3] s.size (fun fuel s' h' wr => ∃ (y : ByteArray) (x : Int), s' = .string y ∧ h' = .int .u64 x ∧ y.size ≤ fuel ∧ y.size ≤ 300 ∧ hashS fuel y x = R ∧ Below w.heap.size w wr)
  case atStart => exact ⟨s, _, rfl, rfl, Nat.le_refl _, hs, HP.out, HB1.out⟩
  case round =>
    obtain ⟨y, x, rfl, rfl, hf, hy, hh, hb⟩ := hrel
    have HB := Lib.hid hb
    have HH := Lib.hid hh
    clear hb hh HP h64 HB1
    by_cases h0 : y.size = 0
    · have hy0 : y = ⟨#[]⟩ := by
        cases y with | mk d => exact congrArg ByteArray.mk (Array.eq_empty_of_size_eq_zero h0)
      subst hy0
      go_wp2_with fail
      go_ret
      refine ⟨?_, HB.out⟩
      rw [← HH.out]
      cases gk <;> rfl
    · have hz : y.toList.length = y.size := by rw [ByteArray.toList_eq]; exact Array.length_toList
      have hne : y.toList.isEmpty = false := by
        rw [Bool.eq_false_iff]
        intro h
        rw [List.isEmpty_iff] at h
        rw [h] at hz
        exact h0 hz.symm
      clear hz
      have KN := Lib.hid (Bk.new wr 49 (cells8 fun _ => 0))
      have HBN := Lib.hid (HB.out.trans (((Below.refl wr.heap.size wr).alloc (Nat.le_refl _) (.cells (cells8 fun _ => 0) 49)).mono HB.out.size))
      obtain ⟨n, hn⟩ : ∃ n, Nat.min y.size 8 = n := ⟨_, rfl⟩
      have hn1 : n ≤ y.size := hn ▸ Nat.min_le_left _ _
      have hn2 : n ≤ 8 := hn ▸ Nat.min_le_right _ _
      have hn3 : 1 ≤ n := by rw [← hn]; exact Nat.le_min.2 ⟨by omega, by omega⟩
      have HNN := Lib.hid hn
      clear hn
      go_wp2_with (refine copy_str8 rfl (.tmp 12) (.tmp 13) rfl wr.heap.size y rfl rfl 49 KN.out w.heap.size w HBN.out HB.out.size ?_; intro w2 K2 B2; rw [HNN.out]; have c0 : w2.cell? ⟨wr.heap.size, 0, none⟩ = some (.int .u8 (byteAt y 0)) := K2.out.cell 0; have c1 : w2.cell? ⟨wr.heap.size, 1, none⟩ = some (.int .u8 (byteAt y 1)) := K2.out.cell 1; have c2 : w2.cell? ⟨wr.heap.size, 2, none⟩ = some (.int .u8 (byteAt y 2)) := K2.out.cell 2; have c3 : w2.cell? ⟨wr.heap.size, 3, none⟩ = some (.int .u8 (byteAt y 3)) := K2.out.cell 3; have c4 : w2.cell? ⟨wr.heap.size, 4, none⟩ = some (.int .u8 (byteAt y 4)) := K2.out.cell 4; have c5 : w2.cell? ⟨wr.heap.size, 5, none⟩ = some (.int .u8 (byteAt y 5)) := K2.out.cell 5; have c6 : w2.cell? ⟨wr.heap.size, 6, none⟩ = some (.int .u8 (byteAt y 6)) := K2.out.cell 6; have c7 : w2.cell? ⟨wr.heap.size, 7, none⟩ = some (.int .u8 (byteAt y 7)) := K2.out.cell 7; clear K2)
      refine ((HW (byteAt y)).out _).mono ?_
      rintro e w3 ⟨rfl, b3⟩
      have B3 := Lib.hid (B2.out.trans (b3.mono B2.out.size))
      clear b3 c0 c1 c2 c3 c4 c5 c6 c7 B2 HW
      go_wp2_with fail
      refine ((HM _).out _).mono ?_
      rintro e w4 ⟨rfl, b4⟩
      have B4 := Lib.hid (B3.out.trans (b4.mono B3.out.size))
      clear b4 B3 HM
      go_wp2_with fail
      have hz2 : (y.extract n y.size).size = y.size - n := by rw [ByteArray.size_extract]; omega
      go_roundg (gk - 1)
      case measure => omega
      case rel =>
        refine ⟨_, _, rfl, rfl, by rw [hz2]; omega, by rw [hz2]; omega, ?_, B4.out⟩
        rw [← HH.out]
        obtain ⟨g, rfl⟩ : ∃ g, gk = g + 1 := ⟨gk - 1, by omega⟩
        rw [Nat.add_sub_cancel]
        conv => rhs; unfold hashS
        rw [if_neg h0, HNN.out]

end Go.Proofs.Ythmejdnedfokcaa
