/- legal: the table of registers; what is wrong of threads, plainly. legal: threads. -/
import Derived.Test.YtlpgafgiljffhaaGreatDoorIc
import Derived.Deep.DeepCutAuto
namespace Go.Proofs.YtlpgafgiljffhaaGreatDoor
open Go.RowKit
open Go.Maps (Keyed IsMap Tidy setOf)
set_option linter.unusedSimpArgs false
set_option linter.unusedVariables false
/-- A thread that is known: its name, its registers, the block of their set. -/
abbrev TE := ByteArray × List ByteArray × Nat
def mapElem : Value → Option (DataW Unit × List MemPlace)
  | .map (some b) => some (.lit (.int .i64 b), [])
  | .map none => some (.lit (.int .i64 (-1)), [])
  | _ => none
theorem mapElem_inv {v : Value} {z : DataW Unit × List MemPlace} (h : mapElem v = some z) : (∃ b : Nat, v = .map (some b) ∧ z = (.lit (.int .i64 b), [])) ∨ (v = .map none ∧ z = (.lit (.int .i64 (-1)), [])) := by
  unfold mapElem at h
  split at h
  · left; exact ⟨_, rfl, (Option.some.inj h).symm⟩
  · right; exact ⟨rfl, (Option.some.inj h).symm⟩
  · cases h
/-- The newest first. -/
def mapOf : List TE → DataW Unit
  | [] => .map []
  | p :: T => (mapOf T).put (kyL p.1) (.lit (.int .i64 p.2.2))
def lookT : List TE → ByteArray → Option (List ByteArray × Nat)
  | [], _ => none
  | p :: T, s => if p.1 = s then some p.2 else lookT T s
theorem mapOf_is : ∀ T, IsMap (mapOf T)
  | [] => Maps.isMap_empty
  | p :: T => (mapOf_is T).put _ _
theorem mapOf_at (s : ByteArray) (z : DataW Unit) : ∀ T, (mapOf T).atKey (kyL s) z = match lookT T s with | some q => .lit (.int .i64 q.2) | none => z
  | [] => rfl
  | p :: T => by
    unfold mapOf lookT
    by_cases h : p.1 = s
    · rw [if_pos h, ← h]; exact Maps.atKey_put_same (mapOf_is T) (kyL_is _) _ _
    · rw [if_neg h, Maps.atKey_put_other (fun e => h (kyL_inj e).symm)]; exact mapOf_at s z T
theorem mapOf_has (s : ByteArray) : ∀ T, Maps.has (mapOf T) (kyL s) = (lookT T s).isSome
  | [] => rfl
  | p :: T => by
    unfold mapOf lookT
    by_cases h : p.1 = s
    · rw [if_pos h, ← h]; exact Maps.has_put_same (mapOf_is T) (kyL_is _) _
    · rw [if_neg h, Maps.has_put_other (fun e => h (kyL_inj e).symm)]; exact mapOf_has s T
theorem lookT_mem : ∀ {T : List TE} {s : ByteArray} {q}, lookT T s = some q → (s, q) ∈ T
  | p :: T, s, q, h => by
    unfold lookT at h
    by_cases hp : p.1 = s
    · rw [if_pos hp] at h; cases h; rw [← hp]; exact List.mem_cons_self ..
    · rw [if_neg hp] at h; exact List.mem_cons_of_mem _ (lookT_mem h)
/-- Block RB is the table of those threads; each one's set lies in its block. -/
structure TabR (w : World) (RB LB : Nat) (T : List TE) : Prop where
  mp : w.ownsMap Tryz.prog 9 mapElem RB T.length (mapOf T)
  st : ∀ p ∈ T, SetB w p.2.2 p.2.1
  n1 : ∀ p ∈ T, p.2.2 ≠ RB
section
variable {w0 w w' : World} {cb LB RB B : Nat} {m : Int} {LL : List ByteArray} {T : List TE}
theorem TabR.below (h : TabR w RB LB T) (hb : Below w.heap.size w w') : TabR w' RB LB T := by
  refine ⟨?_, fun p hp => (h.st p hp).below hb, h.n1⟩
  have hl : RB < w.heap.size := World.ownsMap.lt h.mp
  obtain ⟨es, clock, hB, r⟩ := h.mp
  exact ⟨es, clock, by rw [hb.block RB hl]; exact hB, r⟩
theorem lawR : Tryz.prog.underlying 52 = some (.map 9 51) := Tryz.underlying52
theorem zeroN (w : World) : (zeroValue 51).run Tryz.prog w = .ok (.map none) w := by kernel_rfl
/-- The value that stands at a name. -/
def valT (T : List TE) (s : ByteArray) : Value := match lookT T s with | some q => .map (some q.2) | none => .map none
theorem TabR.look (h : TabR w RB LB T) (s : ByteArray) (hs : s.size ≤ maxLen) : (Instr.lookup 52 (.map (some RB)) (.string s) false).run Tryz.prog w = .ok (valT T s) w := by
  have hkey : keyOf Tryz.prog 9 (.string s) = some (kyL s) := WideMaps.keyOf_string_mk Tryz.underlying9 hs
  obtain ⟨v, ps, h1, h2⟩ := h.mp.lookup lawS lawR (zeroN w) (R := mapElem) (zd := .lit (.int .i64 (-1))) (zp := []) rfl hkey
  rw [h1]
  rw [mapOf_at] at h2
  unfold valT
  rcases mapElem_inv h2 with ⟨b, rfl, h3⟩ | ⟨rfl, h3⟩
  · cases hl : lookT T s with
    | none => rw [hl] at h3; simp at h3
    | some q =>
      rw [hl] at h3; simp at h3
      have : q.2 = b := by omega
      show Result.ok (Value.map (some b)) w = Result.ok (Value.map (some q.2)) w
      rw [this]
  · cases hl : lookT T s with
    | none => rfl
    | some q => rw [hl] at h3; simp at h3
theorem TabR.look_ok (h : TabR w RB LB T) (s : ByteArray) (hs : s.size ≤ maxLen) : (Instr.lookup 52 (.map (some RB)) (.string s) true).run Tryz.prog w = .ok (.tuple #[valT T s, .bool (lookT T s).isSome]) w := by
  have hkey : keyOf Tryz.prog 9 (.string s) = some (kyL s) := WideMaps.keyOf_string_mk Tryz.underlying9 hs
  obtain ⟨v, ps, h1, h2⟩ := h.mp.look_ok lawS lawR (zeroN w) (R := mapElem) (zd := .lit (.int .i64 (-1))) (zp := []) rfl hkey
  rw [h1, mapOf_has]
  rw [mapOf_at] at h2
  unfold valT
  rcases mapElem_inv h2 with ⟨b, rfl, h3⟩ | ⟨rfl, h3⟩
  · cases hl : lookT T s with
    | none => rw [hl] at h3; simp at h3
    | some q =>
      rw [hl] at h3; simp at h3
      have : q.2 = b := by omega
      show Result.ok (Value.tuple #[Value.map (some b), _]) w = Result.ok (Value.tuple #[Value.map (some q.2), _]) w
      rw [this]
  · cases hl : lookT T s with
    | none => rfl
    | some q => rw [hl] at h3; simp at h3
theorem TabR.store (h : TabR w RB LB T) (s : ByteArray) (rs : List ByteArray) (hs : SetB w B rs) (hB : B ≠ RB) (hz : s.size ≤ maxLen) (hT : T.length < maxLen) :
    ∃ w', (Instr.mapUpdate 52 (.map (some RB)) (.string s) (.map (some B))).run Tryz.prog w = .ok () w' ∧ TabR w' RB LB ((s, rs, B) :: T) ∧ w.mapTurned w' RB := by
  have hkey : keyOf Tryz.prog 9 (.string s) = some (kyL s) := WideMaps.keyOf_string_mk Tryz.underlying9 hz
  obtain ⟨w', h1, h2, h3⟩ := h.mp.store lawS lawR hT (d := .lit (.int .i64 B)) (ps := []) hkey (val := .map (some B)) rfl
  refine ⟨w', h1, ⟨h2, ?_, ?_⟩, h3⟩
  · intro p hp
    rcases List.mem_cons.1 hp with rfl | hp
    · exact hs.grown h3.grown (fun e => hB (Option.some.inj e))
    · exact (h.st p hp).grown h3.grown (fun e => h.n1 p hp (Option.some.inj e))
  · intro p hp
    rcases List.mem_cons.1 hp with rfl | hp
    · exact hB
    · exact h.n1 p hp
end

end Go.Proofs.YtlpgafgiljffhaaGreatDoor

namespace Go.Proofs.YtlpgafgiljffhaaGreatDoor
open Go.RowKit
open Go.Maps (Keyed IsMap Tidy setOf)
set_option linter.unusedSimpArgs false
set_option linter.unusedVariables false
abbrev NR := ByteArray × List ByteArray
def nrT (t : Th) : NR := (t.nm, t.regs)
def nrE (p : TE) : NR := (p.1, p.2.1)
def lookN : List NR → ByteArray → Option (List ByteArray)
  | [], _ => none
  | p :: a, s => if p.1 = s then some p.2 else lookN a s
theorem lookN_map (s : ByteArray) : ∀ T : List TE, lookN (T.map nrE) s = (lookT T s).map (·.1)
  | [] => rfl
  | p :: T => by
    rw [List.map_cons]
    unfold lookN lookT
    by_cases h : p.1 = s
    · rw [if_pos h, if_pos (show (nrE p).1 = s from h)]; rfl
    · rw [if_neg h, if_neg (show ¬ (nrE p).1 = s from h)]; exact lookN_map s T
theorem lookN_some (s : ByteArray) (T : List TE) : (lookT T s).isSome = (lookN (T.map nrE) s).isSome := by rw [lookN_map]; cases lookT T s <;> rfl
def thsC (m : Int) (LL : List ByteArray) : List Th → List NR → Nat × Int
  | [], _ => (0, 0)
  | t :: l, a => if a.length = 4 then (12, t.pl) else if (lookN a t.nm).isSome = true then (10, t.pl) else if rgC LL t.regs ≠ 0 then (rgC LL t.regs, t.pl)
    else if (stsC m LL t.regs t.body 0 0).1 ≠ 0 then stsC m LL t.regs t.body 0 0 else thsC m LL l (nrT t :: a)
theorem thsC_cons (m : Int) (LL : List ByteArray) (t : Th) (l : List Th) (a : List NR) : thsC m LL (t :: l) a = if a.length = 4 then (12, t.pl) else if (lookN a t.nm).isSome = true then (10, t.pl) else if rgC LL t.regs ≠ 0 then (rgC LL t.regs, t.pl)
    else if (stsC m LL t.regs t.body 0 0).1 ≠ 0 then stsC m LL t.regs t.body 0 0 else thsC m LL l (nrT t :: a) := rfl
def thtC (m : Int) (LL : List ByteArray) (ths : List Th) : Nat × Int := if ths.length = 0 then (12, 0) else thsC m LL ths []
section
variable {w0 w w' : World} {cb LB RB B : Nat} {m : Int} {LL : List ByteArray} {T : List TE}
theorem turned_keep (h : w.mapTurned w' RB) : Keep RB w w' := grown_keep h.grown
set_option maxRecDepth 100000 in
set_option maxHeartbeats 8000000 in
theorem threads_any (ts : List TI) (v : Value) (hc : CK w0 w cb LB RB m) (hs : SetB w LB LL) (ht : TabR w RB LB []) (hv : ThsD w0 v ts) (hn : ts.length ≤ 100000) (hz : ∀ t ∈ ts, TmOK t.1)
    (hbd : ∀ t ∈ ts, ∀ x ∈ t.1.body, 0 ≤ x.body ∧ x.body ≤ 1000000) (r : Nat × Int) (hrr : thtC m LL (ts.map (·.1)) = r) :
    Calls Tryz.prog 23 #[.pointer (some ⟨cb, 0, none⟩), v] w fun e w' => e = .returned (.tuple #[.int .i64 (r.1 : Nat), .int .i64 r.2]) ∧ CK w0 w' cb LB RB m ∧ SetB w' LB LL ∧ Keep RB w w' ∧ (r.1 = 0 → ∃ T, TabR w' RB LB T ∧ T.map nrE = ((ts.map (·.1)).map nrT).reverse) := by
  have HV := Lib.hid hv
  obtain ⟨ad, cap, rfl⟩ := SlD.shape hv
  obtain ⟨n, hnn⟩ : ∃ n, n = ts.length := ⟨_, rfl⟩
  have hR : r = if n = 0 then (12, 0) else thsC m LL (ts.map (·.1)) [] := by rw [← hrr, hnn]; unfold thtC; rw [List.length_map]
  rw [← hnn] at hn ⊢
  have HN := Lib.hid hnn
  have HZ := Lib.hid hz
  have HBD := Lib.hid hbd
  have HC := Lib.hid hc
  have HS := Lib.hid hs
  have HT := Lib.hid ht
  clear hv hz hc hs ht hrr hnn hbd
  by_cases hn0 : n = 0
  · have e0 : ((n : Int) == 0) = true := by rw [hn0]; rfl
    rw [if_pos hn0] at hR
    subst hR
    clear hn0
    go_enter Tryz.func23, Tryz.ntmps23
    go_wp2_with fail
    exact bodyPost_ret (v := .tuple #[.int .i64 12, .int .i64 0]) (by simp [results, Tryz.results23, go_sem]) rfl ⟨rfl, HC.out, HS.out, Keep.refl _ _, fun h => absurd h (by decide)⟩
  · have e0 : ((n : Int) == 0) = false := by rw [beq_eq_false_iff_ne]; omega
    rw [if_neg hn0] at hR
    have HR := Lib.hid hR.symm
    clear hn0 hR
    go_enter Tryz.func23, Tryz.ntmps23
    go_wp2_with fail
    go_loopg [19] n (fun fuel i' wr => ∃ (k : Nat) (T : List TE), i' = .int .i64 k ∧ k ≤ n ∧ n - k ≤ fuel ∧ thsC m LL ((ts.drop k).map (·.1)) (T.map nrE) = r ∧ T.map nrE = (((ts.take k).map (·.1)).map nrT).reverse ∧ Hid (TabR wr RB LB T) ∧ Hid (CK w0 wr cb LB RB m) ∧ Hid (SetB wr LB LL) ∧ Hid (Keep RB w wr))
    case atStart => exact ⟨0, [], rfl, Nat.zero_le _, Nat.le_refl _, HR.out, rfl, HT, HC, HS, Lib.hid (Keep.refl _ _)⟩
    case round =>
      obtain ⟨k, T, rfl, hk, hf, ha, hT, ht, hc, hs, hkp⟩ := hrel
      clear HR HC HS HT e0
      by_cases hlt : k < n
      · have hky : k < ts.length := by have := HN.out; omega
        obtain ⟨ad', cap', hve, _, _, hcc⟩ := HV.out
        obtain ⟨bb, off, hba, hbl, hst⟩ := hcc k hky
        have he1 : ad = ad' := by injection hve
        rw [← he1] at hba
        subst hba
        obtain ⟨t, htt⟩ : ∃ t, t = ts[k] := ⟨_, rfl⟩
        rw [← htt] at hst
        have hmem : t ∈ ts := by rw [htt]; exact List.getElem_mem hky
        have hzt := HZ.out t hmem
        have hbt := HBD.out t hmem
        have hdr : (ts.drop k).map (·.1) = t.1 :: (ts.drop (k + 1)).map (·.1) := by rw [htt, List.drop_eq_getElem_cons hky]; rfl
        have htk : (((ts.take (k + 1)).map (·.1)).map nrT).reverse = nrT t.1 :: (((ts.take k).map (·.1)).map nrT).reverse := by
          rw [htt, List.take_succ_eq_append_getElem hky, List.map_append, List.map_append, List.reverse_append]; rfl
        have hTl : T.length = k := by
          have := congrArg List.length hT
          simp only [List.length_map, List.length_reverse, List.length_take] at this
          omega
        rw [hdr, thsC_cons, List.length_map, hTl] at ha
        obtain ⟨hcl, hrg, ss, hss, hsd⟩ := hst
        obtain ⟨x0, x1, x2, x3⟩ := hcl
        have y0 := (hc.out.bl.cell (p := ⟨bb, off + k * 4, none⟩) hbl).trans x0
        have y1 := (hc.out.bl.cell (p := ⟨bb, off + k * 4 + 1, none⟩) hbl).trans x1
        have y2 := (hc.out.bl.cell (p := ⟨bb, off + k * 4 + 2, none⟩) hbl).trans x2
        have y3 := (hc.out.bl.cell (p := ⟨bb, off + k * 4 + 3, none⟩) hbl).trans x3
        obtain ⟨x, vr, vb⟩ := t
        simp only [] at y0 y1 y2 y3 hrg hss hsd hzt hbt ha htk
        obtain ⟨z1, z2, z3, z4, z5⟩ := hzt
        obtain ⟨ar, cr, rfl, _⟩ := id hrg
        obtain ⟨ab, cbb, rfl, _⟩ := id hsd
        obtain ⟨nb, hnb⟩ : ∃ n, n = ss.length := ⟨_, rfl⟩
        rw [← hnb] at y2 hsd
        have HRG := Lib.hid hrg
        have HSS := Lib.hid hss
        have HSD := Lib.hid hsd
        have HNB := Lib.hid hnb
        have HBT := Lib.hid hbt
        have HZ1 := Lib.hid z1
        have HZ2 := Lib.hid z2
        have HZ3 := Lib.hid z3
        have HZ4 := Lib.hid z4
        have HZ5 := Lib.hid z5
        have HTK := Lib.hid htk
        have HTL := Lib.hid hTl
        have HTT := Lib.hid hT
        have HA := Lib.hid ha
        clear htt hdr hcc hve he1 hmem hrg hss hsd hnb hbt z1 z2 z3 z4 z5 htk hTl hT x0 x1 x2 x3 ha
        have hal := bel_al wr (.cells #[.string x.nm, .slice ar x.regs.length cr, .slice ab nb cbb, .int .i64 x.pl] 43)
        have HC1 := Lib.hid (hc.out.below hal)
        have HS1 := Lib.hid (hs.out.below hal)
        have HT1 := Lib.hid (ht.out.below hal)
        have HK1 := Lib.hid (hkp.out.below hal)
        have HBK := Lib.hid (Bk.new wr 43 #[.string x.nm, .slice ar x.regs.length cr, .slice ab nb cbb, .int .i64 x.pl])
        clear hal hc hs ht hkp
        go_upto_region 6 with fail
        clear y0 y1 y2 y3
        generalize World.alloc _ _ = w1 at HC1 HS1 HT1 HK1 HBK ⊢
        have ha := HA.out
        clear HA
        by_cases h4 : k = 4
        · have e4 : ((k : Int) == 4) = true := by rw [h4]; rfl
          rw [if_pos h4] at ha
          subst ha
          clear h4
          have y3 : w1.cell? ⟨wr.heap.size, 3, none⟩ = some (.int .i64 x.pl) := HBK.out.cell 3
          go_wp2_with fail
          go_quiet (fail)
          go_wp2_with fail
          exact bodyPost_ret (v := .tuple #[.int .i64 12, .int .i64 x.pl]) (by simp [results, Tryz.results23, go_sem]) rfl ⟨rfl, HC1.out.below (below_drewN (Below.refl _ _) nq), HS1.out.below (below_drewN (Below.refl _ _) nq), HK1.out.below (below_drewN (Below.refl _ _) nq)⟩
        · have e4 : ((k : Int) == 4) = false := by rw [beq_eq_false_iff_ne]; omega
          rw [if_neg h4] at ha
          clear h4
          have y0 : w1.cell? ⟨wr.heap.size, 0, none⟩ = some (.string x.nm) := HBK.out.cell 0
          have c2 : w1.cell? ⟨cb, 2, none⟩ = some (.map (some RB)) := HC1.out.bk.cell 2
          have l1 := HC1.out.bk.lt
          have l2 := HBK.out.lt
          have hlk : ∀ n, (Instr.lookup 52 (.map (some RB)) (.string x.nm) true).run Tryz.prog (w1.drewN n) = .ok (.tuple #[valT T x.nm, .bool (lookT T x.nm).isSome]) (w1.drewN n) := fun n => (HT1.out.below (below_drewN (Below.refl _ _) n)).look_ok x.nm (by have := HZ1.out; unfold maxLen; omega)
          rw [← lookN_some] at ha
          obtain ⟨t1, ht1⟩ : ∃ t, t = (lookT T x.nm).isSome := ⟨_, rfl⟩
          rw [← ht1] at ha hlk
          clear ht1
          go_wp2_with fail
          go_quiet (fail)
          have HC2 := Lib.hid (HC1.out.below (below_drewN (Below.refl _ _) nq))
          have HS2 := Lib.hid (HS1.out.below (below_drewN (Below.refl _ _) nq))
          have HT2 := Lib.hid (HT1.out.below (below_drewN (Below.refl _ _) nq))
          have HK2 := Lib.hid (HK1.out.below (below_drewN (Below.refl _ _) nq))
          have HBK2 := Lib.hid (HBK.out.below (below_drewN (Below.refl _ _) nq))
          generalize w1.drewN nq = w2 at HC2 HS2 HT2 HK2 HBK2 ⊢
          clear y0 c2 l1 l2 hlk HC1 HS1 HT1 HK1 HBK
          have y3 : w2.cell? ⟨wr.heap.size, 3, none⟩ = some (.int .i64 x.pl) := HBK2.out.cell 3
          have y1 : w2.cell? ⟨wr.heap.size, 1, none⟩ = some (.slice ar x.regs.length cr) := HBK2.out.cell 1
          have l2 := HBK2.out.lt
          cases t1
          · rw [if_neg (by decide)] at ha
            clear y3
            have HREG := Lib.hid (registers_any x.regs (.slice ar x.regs.length cr) HC2.out HS2.out HRG.out HZ2.out HZ3.out)
            obtain ⟨g, hg⟩ : ∃ g, g = rgC LL x.regs := ⟨_, rfl⟩
            rw [← hg] at HREG ha
            clear hg
            go_wp2_with fail
            refine HREG.out.mono ?_
            rintro e w3 ⟨mv, rfl, b3, hmv⟩
            have HC3 := Lib.hid (HC2.out.below b3)
            have HS3 := Lib.hid (HS2.out.below b3)
            have HT3 := Lib.hid (HT2.out.below b3)
            have HK3 := Lib.hid (HK2.out.below b3)
            have HBK3 := Lib.hid (HBK2.out.below b3)
            have HLR : Hid (RB < w2.heap.size ∧ LB < w2.heap.size) := Lib.hid ⟨World.ownsMap.lt HT2.out.mp, HS2.out.lt⟩
            clear b3 y1 l2 HC2 HS2 HT2 HK2 HBK2 HREG
            by_cases hg0 : g = 0
            · obtain ⟨B, rfl, hB, hsb⟩ := hmv hg0
              have e1 : ((g : Int) != 0) = false := by simp; omega
              rw [if_neg (fun h => h hg0)] at ha
              have HSB := Lib.hid hsb
              have HBN : Hid (B ≠ RB ∧ B ≠ LB) := Lib.hid (by have := HLR.out; omega)
              clear hmv hg0 hB hsb
              have y0 : w3.cell? ⟨wr.heap.size, 0, none⟩ = some (.string x.nm) := HBK3.out.cell 0
              have c2 : w3.cell? ⟨cb, 2, none⟩ = some (.map (some RB)) := HC3.out.bk.cell 2
              have l1 := HC3.out.bk.lt
              have l2 := HBK3.out.lt
              obtain ⟨w4, hst4, ht4, hmt4⟩ := (HT3.out.below (bel_drew w3)).store x.nm x.regs (HSB.out.below (bel_drew w3)) HBN.out.1 (by have := HZ1.out; unfold maxLen; omega) (by have := HTL.out; unfold maxLen; omega)
              have HT4 := Lib.hid ht4
              have HK34 := Lib.hid (turned_keep hmt4)
              clear ht4 hmt4
              go_upto_region 14 with fail
              go_cut [] (fun wx => wx = w4)
              case first =>
                go_region
                all_goals
                  go_wp2_with fail
                  go_meet
                  rfl
              case rest =>
                subst hcut
                obtain ⟨w4, rfl⟩ : ∃ z, z = wc := ⟨_, rfl⟩
                have HC4 := Lib.hid ((HC3.out.below (bel_drew w3)).keep HK34.out HC3.out.g3 HC3.out.n2)
                have HS4 := Lib.hid ((HS3.out.below (bel_drew w3)).keep HK34.out HC3.out.n3)
                have HK4 := Lib.hid ((HK3.out.below (bel_drew w3)).trans HK34.out)
                have HSB4 := Lib.hid ((HSB.out.below (bel_drew w3)).keep HK34.out HBN.out.1)
                have HBK4 : Hid (Bk w4 wr.heap.size 43 #[.string x.nm, .slice ar x.regs.length cr, .slice ab nb cbb, .int .i64 x.pl]) := Lib.hid ((HBK3.out.below (bel_drew w3)).keep HK34.out (fun e => by
                  have h1 := World.ownsMap.lt HT3.out.mp
                  obtain ⟨es, clock, h2, _⟩ := HT3.out.mp
                  have h3 := HBK3.out
                  unfold Bk at h3
                  rw [e, h2] at h3
                  cases h3))
                clear hst4 y0 c2 l1 l2 HC3 HS3 HT3 HK3 HBK3 HK34 HSB HLR e1 e4
                have y2 : w4.cell? ⟨wr.heap.size, 2, none⟩ = some (.slice ab nb cbb) := HBK4.out.cell 2
                have l2 := HBK4.out.lt
                obtain ⟨q, hq⟩ : ∃ q, stsC m LL x.regs x.body 0 0 = q := ⟨_, rfl⟩
                rw [hq] at ha
                have HST := Lib.hid (statements_any ss (.slice ab nb cbb) B x.regs HC4.out HS4.out HSB4.out HSD.out (by rw [← List.length_map (f := (·.1)), HSS.out]; exact HZ4.out) (by rw [HSS.out]; exact HZ5.out) (fun t ht => HBT.out t.1 (by rw [← HSS.out]; exact List.mem_map_of_mem ht)) q (by rw [HSS.out]; exact hq))
                clear hq
                go_wp2_with fail
                refine HST.out.mono ?_
                rintro e w5 ⟨rfl, b5⟩
                have HC5 := Lib.hid (HC4.out.below b5)
                have HS5 := Lib.hid (HS4.out.below b5)
                have HT5 := Lib.hid (HT4.out.below b5)
                have HK5 := Lib.hid (HK4.out.below b5)
                clear b5 y2 l2 HC4 HS4 HT4 HK4 HSB4 HBK4 HST
                by_cases hq0 : q.1 = 0
                · have e1 : ((q.1 : Int) != 0) = false := by simp; omega
                  rw [if_neg (fun h => h hq0)] at ha
                  clear hq0
                  go_wp2_with fail
                  go_roundg (gk - 1)
                  case measure => omega
                  case rel => exact ⟨k + 1, (x.nm, x.regs, B) :: T, by go_num, by omega, by omega, ha, by rw [HTK.out, ← HTT.out]; rfl, HT5, HC5, HS5, HK5⟩
                · have e1 : ((q.1 : Int) != 0) = true := by simp; omega
                  rw [if_pos hq0] at ha
                  subst ha
                  go_wp2_with fail
                  exact bodyPost_ret (v := .tuple #[.int .i64 (q.1 : Nat), .int .i64 q.2]) (by simp [results, Tryz.results23, go_sem]) rfl ⟨rfl, HC5.out, HS5.out, HK5.out, fun h => absurd h hq0⟩
            · have e1 : ((g : Int) != 0) = true := by simp; omega
              rw [if_pos hg0] at ha
              subst ha
              have y3 : w3.cell? ⟨wr.heap.size, 3, none⟩ = some (.int .i64 x.pl) := HBK3.out.cell 3
              go_wp2_with fail
              go_quiet (fail)
              go_wp2_with fail
              exact bodyPost_ret (v := .tuple #[.int .i64 (g : Nat), .int .i64 x.pl]) (by simp [results, Tryz.results23, go_sem]) rfl ⟨rfl, HC3.out.below (below_drewN (Below.refl _ _) nq), HS3.out.below (below_drewN (Below.refl _ _) nq), HK3.out.below (below_drewN (Below.refl _ _) nq)⟩
          · rw [if_pos rfl] at ha
            subst ha
            go_wp2_with fail
            go_quiet (fail)
            go_wp2_with fail
            exact bodyPost_ret (v := .tuple #[.int .i64 10, .int .i64 x.pl]) (by simp [results, Tryz.results23, go_sem]) rfl ⟨rfl, HC2.out.below (below_drewN (Below.refl _ _) nq), HS2.out.below (below_drewN (Below.refl _ _) nq), HK2.out.below (below_drewN (Below.refl _ _) nq)⟩
      · obtain rfl : k = n := by omega
        rw [show ts.drop k = [] by rw [HN.out]; exact List.drop_length] at ha
        rw [show ts.take k = ts by rw [HN.out]; exact List.take_length] at hT
        have ha : ((0, 0) : Nat × Int) = r := ha
        subst ha
        go_wp2_with fail
        exact bodyPost_ret (v := .tuple #[.int .i64 0, .int .i64 0]) (by simp [results, Tryz.results23, go_sem]) rfl ⟨rfl, hc.out, hs.out, hkp.out, T, ht.out, by simpa using hT⟩
end

end Go.Proofs.YtlpgafgiljffhaaGreatDoor
