/- Layer 10: the kinds of instructions, a map that is made anew. Code's operators; ContainsFunc over steps. -/
import Derived.Test.YtacbanfnakgecaaGreatUa
import Derived.MapKept
namespace Go.Proofs.YtacbanfnakgecaaGreat
set_option linter.unusedSimpArgs false
set_option linter.unusedVariables false
open Go.RowKit
theorem u_kinds : Tryz.prog.underlying 97 = some (.map 3 61) := by kernel_rfl
theorem u_intk : Tryz.prog.underlying 3 = some (.int .i64) := by kernel_rfl
theorem alloc_set (w : World) (o o' : Obj) : { w.alloc o with heap := (w.alloc o).heap.setIfInBounds w.heap.size o' } = w.alloc o' := by
  have e : (w.alloc o).heap.setIfInBounds w.heap.size o' = (w.alloc o').heap := by
    show (w.heap.push o).setIfInBounds w.heap.size o' = w.heap.push o'
    apply Array.ext'
    simp
  rw [e]; rfl
theorem map_put (w : World) (es : Array MapEntry) (clock : Nat) (k : Int) (v : Value) (hf : Instr.findNow (.int .i64) (.int .i64 k) es.toList 0 = some none) :
    Sem.run Tryz.prog (Instr.mapUpdate 97 (.map (some w.heap.size)) (.int .i64 k) v) (w.alloc (.map es clock)) = .ok () (w.alloc (.map (es.push ⟨.int .i64 k, v, clock⟩) (clock + 1))) := by
  have hb : (w.alloc (.map es clock)).heap[w.heap.size]? = some (.map es clock) := (MapKept.heap_alloc w _).1
  have hk : MapKept.IsKey (.int .i64) (.int .i64 k) := by simp [MapKept.IsKey]
  simp [Instr.mapUpdate, run_underlying u_kinds, MapKept.run_getObj_map hb, MapKept.run_checkKey u_intk hk, MapKept.run_findKey u_intk hf, MapKept.run_setObj_map _ hb, Result.andThen]
  exact alloc_set w _ _
theorem map_look (w : World) (b : Nat) (es : Array MapEntry) (clock : Nat) (k : Int) (i : Nat) (v : Value) (hb : w.heap[b]? = some (.map es clock)) (hf : Instr.findNow (.int .i64) (.int .i64 k) es.toList 0 = some (some (i, v))) :
    Sem.run Tryz.prog (Instr.lookup 97 (.map (some b)) (.int .i64 k) true) w = .ok (.tuple #[v, .bool true]) w := by
  have hk : MapKept.IsKey (.int .i64) (.int .i64 k) := by simp [MapKept.IsKey]
  simp [Instr.lookup, run_underlying u_kinds, MapKept.run_getObj_map hb, MapKept.run_checkKey u_intk hk, MapKept.run_findKey u_intk hf, Result.andThen]
def kindV (a b : Nat) : Value := .agg #[.func (.func a) #[] #[], .func (.func b) #[] #[]]
def kindOf (op : Int) : Value :=
  if op = 2 then kindV 76 77
  else if op = 3 then kindV 76 78
  else if op = 4 then kindV 79 80
  else if op = 5 then kindV 81 82
  else if op = 6 then kindV 81 83
  else if op = 7 then kindV 81 84
  else if op = 8 then kindV 81 85
  else if op = 9 then kindV 86 85
  else if op = 20 then kindV 76 87
  else kindV 76 88
def kindsA : Array MapEntry := #[⟨.int .i64 2, kindOf 2, 0⟩, ⟨.int .i64 3, kindOf 3, 1⟩, ⟨.int .i64 4, kindOf 4, 2⟩, ⟨.int .i64 5, kindOf 5, 3⟩, ⟨.int .i64 6, kindOf 6, 4⟩, ⟨.int .i64 7, kindOf 7, 5⟩, ⟨.int .i64 8, kindOf 8, 6⟩, ⟨.int .i64 9, kindOf 9, 7⟩, ⟨.int .i64 20, kindOf 20, 8⟩, ⟨.int .i64 21, kindOf 21, 9⟩]
set_option maxRecDepth 100000 in
set_option maxHeartbeats 4000000 in
theorem kinds_any (w : World) :
    Calls Tryz.prog 59 #[] w fun e w' => e = .returned (.map (some w.heap.size)) ∧ w' = w.alloc (.map kindsA 10) := by
  have hmm := @run_makeMap Tryz.prog
  go_enter Tryz.func59, Tryz.ntmps59
  go_wp2_with fail
  rw [map_put _ _ _ _ _ (by rfl)]
  go_wp2_with fail
  rw [map_put _ _ _ _ _ (by rfl)]
  go_wp2_with fail
  rw [map_put _ _ _ _ _ (by rfl)]
  go_wp2_with fail
  rw [map_put _ _ _ _ _ (by rfl)]
  go_wp2_with fail
  rw [map_put _ _ _ _ _ (by rfl)]
  go_wp2_with fail
  rw [map_put _ _ _ _ _ (by rfl)]
  go_wp2_with fail
  rw [map_put _ _ _ _ _ (by rfl)]
  go_wp2_with fail
  rw [map_put _ _ _ _ _ (by rfl)]
  go_wp2_with fail
  rw [map_put _ _ _ _ _ (by rfl)]
  go_wp2_with fail
  rw [map_put _ _ _ _ _ (by rfl)]
  go_wp2
  go_ret
  exact ⟨rfl, rfl⟩
def hasKind (op : Int) : Bool := decide ((2 ≤ op ∧ op ≤ 9) ∨ op = 20 ∨ op = 21)
theorem kinds_look (w : World) (b : Nat) (op : Int) (hb : w.heap[b]? = some (.map kindsA 10)) (h : hasKind op = true) :
    Sem.run Tryz.prog (Instr.lookup 97 (.map (some b)) (.int .i64 op) true) w = .ok (.tuple #[kindOf op, .bool true]) w := by
  have h := of_decide_eq_true h
  have h2 : op = 2 ∨ op = 3 ∨ op = 4 ∨ op = 5 ∨ op = 6 ∨ op = 7 ∨ op = 8 ∨ op = 9 ∨ op = 20 ∨ op = 21 := by omega
  rcases h2 with rfl | rfl | rfl | rfl | rfl | rfl | rfl | rfl | rfl | rfl
  · exact map_look w b _ 10 2 0 _ hb rfl
  · exact map_look w b _ 10 3 1 _ hb rfl
  · exact map_look w b _ 10 4 2 _ hb rfl
  · exact map_look w b _ 10 5 3 _ hb rfl
  · exact map_look w b _ 10 6 4 _ hb rfl
  · exact map_look w b _ 10 7 5 _ hb rfl
  · exact map_look w b _ 10 8 6 _ hb rfl
  · exact map_look w b _ 10 9 7 _ hb rfl
  · exact map_look w b _ 10 20 8 _ hb rfl
  · exact map_look w b _ 10 21 9 _ hb rfl
theorem z_kind (w : World) : (zeroValue 61).run Tryz.prog w = .ok (.agg #[.nilFunc, .nilFunc]) w := by kernel_rfl
theorem kinds_none (w : World) (b : Nat) (hb : w.heap[b]? = some (.map kindsA 10)) :
    Sem.run Tryz.prog (Instr.lookup 97 (.map (some b)) (.int .i64 22) true) w = .ok (.tuple #[.agg #[.nilFunc, .nilFunc], .bool false]) w := by
  have hk : MapKept.IsKey (.int .i64) (.int .i64 22) := by simp [MapKept.IsKey]
  have hf : Instr.findNow (.int .i64) (.int .i64 22) kindsA.toList 0 = some none := rfl
  simp [Instr.lookup, run_underlying u_kinds, MapKept.run_getObj_map hb, MapKept.run_checkKey u_intk hk, MapKept.run_findKey u_intk hf, Result.andThen, z_kind]
end Go.Proofs.YtacbanfnakgecaaGreat

namespace Go.Proofs.YtacbanfnakgecaaGreat
set_option linter.unusedSimpArgs false
set_option linter.unusedVariables false
open Go.RowKit
theorem below_any (i n : Int) (w : World) : Calls Tryz.prog 131 #[.int .i64 i, .int .i64 n] w fun e w' => e = .returned (.bool (inB i n)) ∧ w = w' := by
  go_enter Tryz.func131, Tryz.ntmps131
  go_wp2
  all_goals
    go_ret
    exact ⟨ret_bool (by simp_all [inB] <;> omega), rfl⟩
theorem rin_any (i n : Int) (w : World) : Calls Tryz.prog 72 #[.int .i64 i, .int .i64 n] w fun e w' => e = .returned (.bool (inB i n)) ∧ w = w' := by
  go_enter Tryz.func72, Tryz.ntmps72
  go_wp2
  all_goals
    go_ret
    exact ⟨ret_bool (by simp_all [inB] <;> omega), rfl⟩
def fnO (op : Int) : Value :=
  if op = 5 then .func (.func 141) #[] #[] else if op = 6 then .func (.func 143) #[] #[]
  else if op = 7 then .func (.func 144) #[] #[] else if op = 8 then .func (.func 145) #[] #[]
  else if op = 9 then .func (.func 146) #[] #[] else if op = 10 then .func (.func 147) #[] #[]
  else if op = 11 then .func (.func 148) #[] #[] else if op = 12 then .func (.func 149) #[] #[]
  else if op = 13 then .func (.func 150) #[] #[] else if op = 14 then .func (.func 151) #[] #[] else .nilFunc
set_option maxRecDepth 100000 in
set_option maxHeartbeats 2000000 in
theorem opOf_any (op : Int) (w : World) : Calls Tryz.prog 137 #[.int .i64 op] w fun e w' => e = .returned (.agg #[.int .i64 (ar op), fnO op]) ∧ Below w.heap.size w w' := by
  go_enter Tryz.func137, Tryz.ntmps137
  go_wp2
  all_goals
    refine bodyPost_ret (by simp [results, Tryz.results137, go_sem]; rfl) rfl ⟨?_, (Below.refl _ _).alloc (Nat.le_refl _) _⟩
    refine congrArg Ending.returned (congrArg Value.agg ?_)
    first | (have ho := eq_of_beq (by assumption : (op == _) = true); subst ho; rfl) | skip
  all_goals
    have hn : ¬ op = 1 ∧ ¬ op = 2 ∧ ¬ op = 3 ∧ ¬ op = 4 ∧ ¬ op = 5 ∧ ¬ op = 6 ∧ ¬ op = 7 ∧ ¬ op = 8 ∧ ¬ op = 9 ∧ ¬ op = 10 ∧ ¬ op = 11 ∧ ¬ op = 12 ∧ ¬ op = 13 ∧ ¬ op = 14 := by simp_all
    have h1 : ar op = -1 := by unfold ar; rw [if_neg (by omega), if_neg (by omega), if_neg (by omega)]
    have h2 : fnO op = .nilFunc := by
      unfold fnO
      rw [if_neg (by omega), if_neg (by omega), if_neg (by omega), if_neg (by omega), if_neg (by omega), if_neg (by omega), if_neg (by omega), if_neg (by omega), if_neg (by omega), if_neg (by omega)]
    rw [h1, h2]
theorem opOf_n (op a : Int) (h : ar op = a) (w : World) : Calls Tryz.prog 137 #[.int .i64 op] w fun e w' => (∃ f, e = .returned (.agg #[.int .i64 a, f])) ∧ Below w.heap.size w w' := by
  subst h
  exact (opOf_any op w).mono fun _ _ ⟨h, k⟩ => ⟨⟨_, h⟩, k⟩
set_option maxRecDepth 100000 in
set_option maxHeartbeats 2000000 in
theorem heights_any (l : List Opn) (v : Value) (w : World) (hv : OpsD w v l) (hn : l.length ≤ 100000) (m0 k0 : Int) (hR : htsL l 0 0 = (m0, k0)) :
    Calls Tryz.prog 135 #[v] w fun e w' => e = .returned (.tuple #[.int .i64 m0, .int .i64 k0]) ∧ Below w.heap.size w w' := by
  obtain ⟨ad, cap, rfl, hcap1, hcap2, hc⟩ := hv
  have HC := Lib.hid hc
  have HR0 : Hid (htsL (l.drop 0) 0 0 = (m0, k0)) := Lib.hid hR
  obtain ⟨n, hN⟩ : ∃ n, n = l.length := ⟨_, rfl⟩
  rw [← hN] at hn ⊢
  have HN := Lib.hid hN
  clear hN hc hcap1 hcap2 hR
  go_enter Tryz.func135, Tryz.ntmps135
  go_wp2_with fail
  go_loopg [2, 3, 9] n (fun fuel m' h' i' wr => ∃ (k : Nat) (m z : Int), i' = .int .i64 k ∧ m' = .int .i64 m ∧ h' = .int .i64 z ∧ k ≤ n ∧ n - k ≤ fuel ∧ 0 ≤ m ∧ m ≤ k ∧ 0 ≤ z ∧ z ≤ k ∧ htsL (l.drop k) m z = (m0, k0) ∧ Below w.heap.size w wr)
  case atStart => exact ⟨0, 0, 0, rfl, rfl, rfl, Nat.zero_le _, Nat.le_refl _, by omega, by omega, by omega, by omega, HR0.out, Below.refl _ _⟩
  case round =>
    obtain ⟨k, m, z, rfl, rfl, rfl, hk, hf, hm0, hm1, hh0, hh1, ha, hb⟩ := hrel
    have HA := Lib.hid ha
    have HB := Lib.hid hb
    have hww := hb.size
    clear ha hb
    by_cases hlt : k < n
    · have hk' : k < l.length := by have := HN.out; omega
      have HE := Lib.hid (htsL_at l k hk' m z)
      obtain ⟨b, off, rfl, hbl, x0, x1, x2⟩ := HC.out k hk'
      obtain ⟨⟨xo, xn, xt⟩, hx⟩ : ∃ x, x = l[k] := ⟨_, rfl⟩
      rw [← hx] at x0 x1 x2 HE
      simp only [] at x0 x1 x2 HE
      obtain ⟨a, har⟩ : ∃ a, a = ar xo := ⟨_, rfl⟩
      have hac := ar_cases xo
      rw [← har] at HE hac
      have hac1 : -1 ≤ a ∧ a ≤ 2 := by omega
      obtain ⟨hac2, hac3⟩ := hac1
      have HOP := Lib.hid (opOf_n xo a har.symm)
      have c0 : wr.cell? ⟨b, off + k * 3, none⟩ = some (.int .i64 xo) := (HB.out.cell (p := ⟨b, _, none⟩) hbl).trans x0
      have c1 : wr.cell? ⟨b, off + k * 3 + 1, none⟩ = some (.int .i64 xn) := (HB.out.cell (p := ⟨b, _, none⟩) hbl).trans x1
      have c2 : wr.cell? ⟨b, off + k * 3 + 2, none⟩ = some (.int .i64 xt) := (HB.out.cell (p := ⟨b, _, none⟩) hbl).trans x2
      clear x0 x1 x2 hx har hac
      by_cases h1 : a < 0
      · go_wp2_with fail
        refine (HOP.out _).mono ?_
        rintro e w2 ⟨⟨fv, rfl⟩, hb2⟩
        have hfl : ∀ W, (Instr.field 155 (.agg #[.int .i64 a, fv]) 0).run Tryz.prog W = .ok (.int .i64 a) W := fun W => by kernel_rfl
        have HB2 := Lib.hid ((HB.out.alloc hww _).trans (hb2.mono (by simp; omega)))
        clear hb2 c0 c1 c2
        go_wp2
        have h2 := HA.out
        rw [HE.out, if_pos (.inl h1)] at h2
        obtain ⟨rfl, rfl⟩ := Prod.mk.inj h2
        go_ret2
        exact ⟨rfl, HB2.out⟩
      · by_cases h3 : z < a
        · go_wp2_with fail
          refine (HOP.out _).mono ?_
          rintro e w2 ⟨⟨fv, rfl⟩, hb2⟩
          have hfl : ∀ W, (Instr.field 155 (.agg #[.int .i64 a, fv]) 0).run Tryz.prog W = .ok (.int .i64 a) W := fun W => by kernel_rfl
          have HB2 := Lib.hid ((HB.out.alloc hww _).trans (hb2.mono (by simp; omega)))
          clear hb2 c0 c1 c2
          go_wp2
          have h2 := HA.out
          rw [HE.out, if_pos (.inr h3)] at h2
          obtain ⟨rfl, rfl⟩ := Prod.mk.inj h2
          go_ret2
          exact ⟨rfl, HB2.out⟩
        · go_wp2_with fail
          refine (HOP.out _).mono ?_
          rintro e w2 ⟨⟨fv, rfl⟩, hb2⟩
          have hfl : ∀ W, (Instr.field 155 (.agg #[.int .i64 a, fv]) 0).run Tryz.prog W = .ok (.int .i64 a) W := fun W => by kernel_rfl
          have HB2 := Lib.hid ((HB.out.alloc hww _).trans (hb2.mono (by simp; omega)))
          clear hb2 c0 c1 c2
          go_wp2
          all_goals
            go_roundg (gk - 1)
            case measure => omega
            case rel =>
              have h2 := HA.out
              rw [HE.out, if_neg (by omega)] at h2
              refine ⟨k + 1, max m (z + 1 - a), z + 1 - a, by go_num, ?_, ?_, by omega, by omega, by omega, by omega, by omega, by omega, h2, HB2.out⟩
              · congr 1; omega
              · congr 1; omega
    · have HE := Lib.hid (htsL_over l k (by have := HN.out; omega) m z)
      have h2 := HA.out
      rw [HE.out] at h2
      obtain ⟨rfl, rfl⟩ := Prod.mk.inj h2
      go_wp2
      go_ret2
      exact ⟨rfl, HB.out⟩
def IdxAns (b : Bool) (w : World) (e : Ending) (w' : World) : Prop := ∃ z : Int, e = .returned (.int .i64 z) ∧ decide (0 ≤ z) = b ∧ Below w.heap.size w w'
set_option maxRecDepth 100000 in
set_option maxHeartbeats 2000000 in
theorem opidx_any (xs : List Opn) (v : Value) (w : World) (hv : OpsD w v xs) (hn : xs.length ≤ 100000) (FL : Opn → Bool) (p1 p2 p3 : Nat)
    (hF : ∀ w' i, (hi : i < xs.length) → Below w.heap.size w w' → Calls Tryz.prog 134 #[.agg #[.int .i64 xs[i].op, .int .i64 xs[i].n, .int .i64 xs[i].t], .pointer (some ⟨p1, 0, none⟩), .pointer (some ⟨p2, 0, none⟩), .pointer (some ⟨p3, 0, none⟩)] w' fun e w'' => e = .returned (.bool (FL xs[i])) ∧ Below w'.heap.size w' w'') :
    Calls Tryz.prog 140 #[v, .func (.func 134) #[] #[.pointer (some ⟨p1, 0, none⟩), .pointer (some ⟨p2, 0, none⟩), .pointer (some ⟨p3, 0, none⟩)]] w (IdxAns (!(xs.all fun x => !FL x)) w) := by
  obtain ⟨B, hB⟩ : ∃ B, ((xs.drop 0).all fun x => !FL x) = B := ⟨_, rfl⟩
  rw [show (xs.all fun x => !FL x) = B from hB]
  have HB0 := Lib.hid hB
  obtain ⟨ad, cap, rfl, hcap1, hcap2, hc⟩ := hv
  have HC := Lib.hid hc
  have HF := Lib.hid hF
  obtain ⟨n, hN⟩ : ∃ n, n = xs.length := ⟨_, rfl⟩
  rw [← hN] at hn ⊢
  have HN := Lib.hid hN
  clear hN hB hc hF hcap1 hcap2
  go_enter Tryz.func140, Tryz.ntmps140
  go_wp2_with fail
  go_loopg [8] n (fun fuel i' wr => ∃ k : Nat, i' = .int .i64 k ∧ k ≤ n ∧ n - k ≤ fuel ∧ ((xs.drop k).all fun x => !FL x) = B ∧ Below w.heap.size w wr)
  case atStart => exact ⟨0, rfl, Nat.zero_le _, Nat.le_refl _, HB0.out, Below.refl _ _⟩
  case round =>
    obtain ⟨k, rfl, hk, hf, ha, hb⟩ := hrel
    have HA := Lib.hid ha
    have HB := Lib.hid hb
    have hww := hb.size
    clear ha hb
    by_cases hlt : k < n
    · have hk' : k < xs.length := by have := HN.out; omega
      have HD := Lib.hid (List.drop_eq_getElem_cons hk')
      obtain ⟨b, off, rfl, hbl, x0, x1, x2⟩ := HC.out k hk'
      have HFL := Lib.hid (HF.out wr k hk' HB.out)
      obtain ⟨q, hq⟩ : ∃ q, FL xs[k] = q := ⟨_, rfl⟩
      rw [hq] at HFL
      have HQ := Lib.hid hq
      obtain ⟨⟨xo, xn, xt⟩, hx⟩ : ∃ x, x = xs[k] := ⟨_, rfl⟩
      rw [← hx] at x0 x1 x2 HFL
      simp only [] at x0 x1 x2 HFL
      have c0 : wr.cell? ⟨b, off + k * 3, none⟩ = some (.int .i64 xo) := (HB.out.cell (p := ⟨b, _, none⟩) hbl).trans x0
      have c1 : wr.cell? ⟨b, off + k * 3 + 1, none⟩ = some (.int .i64 xn) := (HB.out.cell (p := ⟨b, _, none⟩) hbl).trans x1
      have c2 : wr.cell? ⟨b, off + k * 3 + 2, none⟩ = some (.int .i64 xt) := (HB.out.cell (p := ⟨b, _, none⟩) hbl).trans x2
      clear x0 x1 x2 hx hq
      go_wp2_with fail
      refine HFL.out.mono ?_
      rintro e w2 ⟨rfl, hb2⟩
      have HB2 := Lib.hid (HB.out.trans (hb2.mono hww))
      clear hb2 c0 c1 c2
      cases q with
      | false =>
        go_wp2
        go_roundg (gk - 1)
        case measure => omega
        case rel =>
          refine ⟨k + 1, by go_num, by omega, by omega, ?_, HB2.out⟩
          have h2 := HA.out
          rw [HD.out, List.all_cons, HQ.out] at h2
          simpa using h2
      | true =>
        go_wp2
        go_ret
        refine ⟨k, rfl, ?_, HB2.out⟩
        have h2 := HA.out
        rw [HD.out, List.all_cons, HQ.out] at h2
        rw [← h2]; simp
    · have HE := Lib.hid (drop_over xs k (by have := HN.out; omega))
      go_wp2
      go_ret
      refine ⟨-1, rfl, ?_, HB.out⟩
      have := HA.out
      rw [HE.out] at this
      rw [← this]; rfl
set_option maxRecDepth 100000 in
set_option maxHeartbeats 400000 in
theorem opcont_any (xs : List Opn) (v : Value) (w : World) (hv : OpsD w v xs) (hn : xs.length ≤ 100000) (FL : Opn → Bool) (p1 p2 p3 : Nat)
    (hF : ∀ w' i, (hi : i < xs.length) → Below w.heap.size w w' → Calls Tryz.prog 134 #[.agg #[.int .i64 xs[i].op, .int .i64 xs[i].n, .int .i64 xs[i].t], .pointer (some ⟨p1, 0, none⟩), .pointer (some ⟨p2, 0, none⟩), .pointer (some ⟨p3, 0, none⟩)] w' fun e w'' => e = .returned (.bool (FL xs[i])) ∧ Below w'.heap.size w' w'') (b : Bool) (hb : (xs.all fun x => !FL x) = b) :
    Calls Tryz.prog 136 #[v, .func (.func 134) #[] #[.pointer (some ⟨p1, 0, none⟩), .pointer (some ⟨p2, 0, none⟩), .pointer (some ⟨p3, 0, none⟩)]] w fun e w' => e = .returned (.bool (!b)) ∧ Below w.heap.size w w' := by
  have H := opidx_any xs v w hv hn FL p1 p2 p3 hF
  rw [hb] at H
  clear hv hn hb hF
  go_enter Tryz.func136, Tryz.ntmps136
  go_wp2_with fail
  refine H.mono ?_
  rintro e w2 ⟨z, rfl, hz, hb2⟩
  have HZ := Lib.hid hz
  clear hz
  go_wp2
  go_ret
  exact ⟨ret_bool HZ.out, hb2⟩
end Go.Proofs.YtacbanfnakgecaaGreat
