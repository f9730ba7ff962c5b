/- The reference's parser of programs at fixed texts. parsed; sets of names (legal.names). legal: what is wrong of a program, plainly; the checker's block; locations. -/
import Derived.Test.YtlpgafgiljffhaaGreatDoorHh
import Derived.Maps.OwnSet
import Derived.Deep.RegionHeld3
import Derived.Test.YtlpgafgiljffhaaGreatDoorPo
import Derived.Deep.RegionLaw
import Derived.BigQuiet
namespace Go.Proofs.YtlpgafgiljffhaaGreatDoor
open Go.RowKit
set_option maxRecDepth 100000
def pg1 : Pg := ⟨2, [⟨⟨#[120]⟩, 0, 7⟩], [⟨⟨#[116]⟩, [], [⟨3, ⟨#[97]⟩, ⟨#[120]⟩, [], [], false, 0, 0, 29⟩], 18⟩], []⟩
theorem prs1 : rparseG [109, 111, 100, 32, 50, 59, 32, 108, 111, 99, 32, 120, 32, 61, 32, 48, 59, 32, 116, 104, 114, 101, 97, 100, 32, 116, 32, 123, 32, 108, 111, 97, 100, 32, 97, 32, 61, 32, 120, 59, 32, 125] = (pg1, 0, 0) := by kernel_rfl
def pg2 : Pg := ⟨2, [], [⟨⟨#[116]⟩, [⟨#[97]⟩], [⟨2, ⟨#[97]⟩, ⟨#[]⟩, [⟨1, 2, ⟨#[]⟩, ⟨#[]⟩, 33⟩], [], false, 0, 0, 25⟩], 7⟩], []⟩
theorem prs2 : rparseG [109, 111, 100, 32, 50, 59, 32, 116, 104, 114, 101, 97, 100, 32, 116, 32, 123, 32, 114, 101, 103, 32, 97, 59, 32, 115, 101, 116, 32, 97, 32, 61, 32, 50, 59, 32, 125] = (pg2, 0, 0) := by kernel_rfl
def pg3 : Pg := ⟨2, [], [⟨⟨#[116]⟩, [], [⟨10, ⟨#[]⟩, ⟨#[]⟩, [⟨1, 1, ⟨#[]⟩, ⟨#[]⟩, 21⟩], [], false, 1, 0, 18⟩, ⟨13, ⟨#[]⟩, ⟨#[]⟩, [], [], false, 0, 0, 25⟩], 7⟩], []⟩
theorem prs3 : rparseG [109, 111, 100, 32, 50, 59, 32, 116, 104, 114, 101, 97, 100, 32, 116, 32, 123, 32, 105, 102, 32, 49, 32, 123, 32, 98, 114, 101, 97, 107, 59, 32, 125, 32, 125] = (pg3, 0, 0) := by kernel_rfl
def pg4 : Pg := ⟨2, [⟨⟨#[120]⟩, 0, 7⟩], [⟨⟨#[116]⟩, [⟨#[97]⟩], [⟨12, ⟨#[]⟩, ⟨#[]⟩, [], [], false, 2, 0, 36⟩, ⟨3, ⟨#[97]⟩, ⟨#[120]⟩, [], [], false, 0, 0, 43⟩, ⟨13, ⟨#[]⟩, ⟨#[]⟩, [], [], false, 0, 0, 55⟩], 18⟩], [⟨3, [⟨9, 0, ⟨#[]⟩, ⟨#[]⟩, 77⟩, ⟨4, 0, ⟨#[97]⟩, ⟨#[116]⟩, 73⟩, ⟨3, 0, ⟨#[120]⟩, ⟨#[]⟩, 80⟩], 66⟩]⟩
theorem prs4 : rparseG [109, 111, 100, 32, 50, 59, 32, 108, 111, 99, 32, 120, 32, 61, 32, 48, 59, 32, 116, 104, 114, 101, 97, 100, 32, 116, 32, 123, 32, 114, 101, 103, 32, 97, 59, 32, 108, 111, 111, 112, 32, 123, 32, 108, 111, 97, 100, 32, 97, 32, 61, 32, 120, 59, 32, 98, 114, 101, 97, 107, 59, 32, 125, 32, 125, 32, 97, 108, 119, 97, 121, 115, 32, 116, 46, 97, 32, 61, 61, 32, 120, 59] = (pg4, 0, 0) := by kernel_rfl
def pg5 : Pg := ⟨2, [⟨⟨#[120]⟩, 0, 7⟩], [], []⟩
theorem prs5 : rparseG [109, 111, 100, 32, 50, 59, 32, 108, 111, 99, 32, 120, 32, 61, 32, 48, 59] = (pg5, 0, 0) := by kernel_rfl

end Go.Proofs.YtlpgafgiljffhaaGreatDoor

namespace Go.Proofs.YtlpgafgiljffhaaGreatDoor
open Go.RowKit
open Go.Maps (Keyed IsMap Tidy setOf)
set_option linter.unusedSimpArgs false
set_option linter.unusedVariables false
theorem results_th2 {fn : Func} {p : Tmp} (h : fn.results = #[.cell p 26]) (tmps : Array Value) (w : World) (b : Nat) (u0 u1 u2 u3 : Value) (hp : tmps.getD p undef = .pointer (some ⟨b, 0, none⟩)) (hb : Bk w b 26 #[u0, u1, u2, u3]) :
    (results fn tmps).run Tryz.prog w = .ok (.agg #[u0, u1, u2, u3]) w := by
  have y0 := hb.cell 0
  have y1 := hb.cell 1
  have y2 := hb.cell 2
  have y3 := hb.cell 3
  have hp2 : tmps[p]?.getD undef = .pointer (some ⟨b, 0, none⟩) := by simpa using hp
  simp only [results, h]
  simp [hp2, go_sem, y0, y1, y2, y3]
set_option maxRecDepth 100000 in
set_option maxHeartbeats 4000000 in
theorem parsed_any (s : ByteArray) (g : Pg) (k a : Nat) (hp : rparseG s.data.toList = (g, k, a)) (w : World) (hl : s.size ≤ maxLen) :
    Calls Tryz.prog 12 #[.string s] w fun e w' => ∃ a b c, e = .returned (.agg #[.int .i64 g.mod, a, b, c]) ∧ POwn w' w.heap.size a b c g ∧ Below w.heap.size w w' := by
  have HP := Lib.hid (fun W => rprog_any s W hl)
  rw [hp] at HP
  have HB := Lib.hid (Bk.new w 26 #[.int .i64 0, .slice none 0 0, .slice none 0 0, .slice none 0 0])
  clear hp hl
  go_enter Tryz.func12, Tryz.ntmps12
  go_wp2_with fail
  refine (HP.out _).mono ?_
  rintro e w3 ⟨a9, b9, c9, rfl, p3, b3⟩
  obtain ⟨a1, n1, d1, rfl⟩ : ∃ x n y, a9 = .slice x n y := by obtain ⟨x, y, h, _⟩ := own_shape p3.l; exact ⟨x, _, y, h⟩
  obtain ⟨a2, n2, d2, rfl⟩ : ∃ x n y, b9 = .slice x n y := by obtain ⟨x, y, h⟩ := p3.t.shape; exact ⟨x, _, y, h⟩
  obtain ⟨a3, n3, d3, rfl⟩ : ∃ x n y, c9 = .slice x n y := by obtain ⟨x, y, h⟩ := p3.c.shape; exact ⟨x, _, y, h⟩
  have hb3 := HB.out.below b3
  have KB := Lib.hid (below_a b3)
  have HX1 := Lib.hid (pown_mono p3 (B' := w.heap.size) (by rw [alloc_size]; omega))
  have HX3 := Lib.hid hb3
  have e0 := hb3.cell 0
  have e1 := hb3.cell 1
  have e2 := hb3.cell 2
  have e3 := hb3.cell 3
  have g0 := hb3.fz 0
  have g1 := hb3.fz 1
  have g2 := hb3.fz 2
  have g3 := hb3.fz 3
  have rl := hb3.lt
  clear p3 b3 hb3 HP
  go_wp2
  have j0 := HX3.out
  have j1 := j0.set 0 (.int .i64 g.mod)
  have j2 := j1.set 1 (.slice a1 n1 d1)
  have j3 := j2.set 2 (.slice a2 n2 d2)
  have j4 := j3.set 3 (.slice a3 n3 d3)
  have hal := (Below.refl (((((w3.setCell ⟨w.heap.size, 0, none⟩ (.int .i64 g.mod)).setCell ⟨w.heap.size, 1, none⟩ (.slice a1 n1 d1)).setCell ⟨w.heap.size, 2, none⟩ (.slice a2 n2 d2)).setCell ⟨w.heap.size, 3, none⟩ (.slice a3 n3 d3))).heap.size _).alloc (Nat.le_refl _) (.cells #[.int .i64 g.mod, .slice a1 n1 d1, .slice a2 n2 d2, .slice a3 n3 d3] 26)
  refine bodyPost_ret (v := .agg #[.int .i64 g.mod, .slice a1 n1 d1, .slice a2 n2 d2, .slice a3 n3 d3]) (results_th2 rfl _ _ _ _ _ _ _ rfl (j4.below hal)) rfl ?_
  refine ⟨_, _, _, rfl, ((((HX1.out.setBk j0).setBk j1).setBk j2).setBk j3).below hal, ?_⟩
  exact (below_setq KB.out (Nat.le_refl _) _ _ _ _).trans (hal.mono (by have := j0.lt; simp only [World.setCell, Array.size_modify]; omega))

/-! ### sets -/
theorem lawS : Keyed Tryz.prog 9 := Maps.string_keyed Tryz.underlying9
theorem zeroU (w : World) : (zeroValue 102).run Tryz.prog w = .ok (.agg #[]) w := by kernel_rfl
def kyL (s : ByteArray) : Lit := .string s.data.toList
def inB (L : List ByteArray) (s : ByteArray) : Bool := L.any fun y => decide (y = s)
theorem kyL_is (s : ByteArray) : WideAt.IsKeyLit (kyL s) := trivial
theorem kyL_inj {a b : ByteArray} (h : kyL a = kyL b) : a = b := by
  unfold kyL at h
  injection h with h
  exact ByteArray.ext (Array.toList_inj.1 h)
theorem kyL_same (a b : ByteArray) : (kyL a).sameKey (kyL b) = decide (a = b) := by
  by_cases h : a = b
  · subst h; rw [WideAt.sameKey_self (kyL_is a)]; simp
  · rw [Maps.sameKey_ne (fun e => h (kyL_inj e))]; simp [h]
/-- Block B is the set of the names L. -/
def SetB (w : World) (B : Nat) (L : List ByteArray) : Prop := w.ownsMap Tryz.prog 9 (unitElem (H := Unit)) B L.length (setOf (.agg []) (L.map kyL))
section
variable {w w' : World} {B : Nat} {L : List ByteArray}
theorem SetB.has (h : SetB w B L) (s : ByteArray) : Maps.has (setOf (H := Unit) (.agg []) (L.map kyL)) (kyL s) = inB L s := by
  rw [Maps.has_setOf _ _ _ (by intro x hx; obtain ⟨y, _, rfl⟩ := List.mem_map.1 hx; exact kyL_is y)]
  unfold inB
  rw [List.any_map]
  congr 1
  funext y
  exact kyL_same y s
theorem SetB.lt (h : SetB w B L) : B < w.heap.size := World.ownsMap.lt h
theorem SetB.below (h : SetB w B L) (hb : Below w.heap.size w w') : SetB w' B L := by
  have hl := h.lt
  obtain ⟨es, clock, hB, r⟩ := h
  exact ⟨es, clock, by rw [hb.block B hl]; exact hB, r⟩
theorem SetB.grown {row : Option Nat} (h : SetB w B L) (hg : w.grownBy w' row) (hne : some B ≠ row) : SetB w' B L := World.ownsMap.kept h hg hne
theorem SetB.new (w : World) : SetB (w.alloc (.map #[] 0)) w.heap.size [] := World.ownsMap_made _ _ _ _
set_option maxRecDepth 100000 in
set_option maxHeartbeats 1000000 in
theorem has_any (h : SetB w B L) (s : ByteArray) (hs : s.size ≤ maxLen) :
    Calls Tryz.prog 42 #[.map (some B), .string s] w fun e w' => e = .returned (.bool (inB L s)) ∧ Below w.heap.size w w' := by
  have hkey : keyOf Tryz.prog 9 (.string s) = some (kyL s) := WideMaps.keyOf_string_mk Tryz.underlying9 hs
  have hh := h.has s
  have hz := zeroU w
  have h : w.ownsMap Tryz.prog 9 (unitElem (H := Unit)) B L.length (setOf (.agg []) (L.map kyL)) := h
  go_enter Tryz.func42, Tryz.ntmps42
  go_wp2_with (at_lookup; refine wpList_lookup_own_unit _ rfl _ _ 51 rfl 9 102 lawS Tryz.underlying51 hz B _ _ rfl h _ _ rfl hkey ?_)
  go_ret
  exact ⟨rfl, (Below.refl _ _).alloc (Nat.le_refl _) _⟩
set_option maxRecDepth 100000 in
set_option maxHeartbeats 1000000 in
theorem has_nil (w : World) (s : ByteArray) (hs : s.size ≤ maxLen) :
    Calls Tryz.prog 42 #[.map none, .string s] w fun e w' => e = .returned (.bool false) ∧ Below w.heap.size w w' := by
  have hkey : keyOf Tryz.prog 9 (.string s) = some (kyL s) := WideMaps.keyOf_string_mk Tryz.underlying9 hs
  have hz := zeroU w
  have hl := Maps.look_nil (w := w) true lawS Tryz.underlying51 hz hkey
  go_enter Tryz.func42, Tryz.ntmps42
  go_wp2
  go_ret
  exact ⟨rfl, (Below.refl _ _).alloc (Nat.le_refl _) _⟩
set_option maxRecDepth 100000 in
set_option maxHeartbeats 1000000 in
theorem add_any (h : SetB w B L) (s : ByteArray) (hs : s.size ≤ maxLen) (hL : L.length < maxLen) :
    Calls Tryz.prog 43 #[.map (some B), .string s] w fun e w' => e = .returned (.tuple #[]) ∧ SetB w' B (L ++ [s]) ∧ w.grownBy w' (some B) := by
  have hkey : keyOf Tryz.prog 9 (.string s) = some (kyL s) := WideMaps.keyOf_string_mk Tryz.underlying9 hs
  have h : w.ownsMap Tryz.prog 9 (unitElem (H := Unit)) B L.length (setOf (.agg []) (L.map kyL)) := h
  go_enter Tryz.func43, Tryz.ntmps43
  go_wp2_with (at_mapUpdate; refine wpList_mapUpdate_own _ rfl _ _ _ 51 rfl 9 102 lawS Tryz.underlying51 (unitElem (H := Unit)) B L.length _ rfl h hL _ _ _ rfl rfl hkey _ [] unitElem_mk ?_; intro w1 hown1 hgrow1)
  refine bodyPost_end (v := .tuple #[]) (by simp [results, Tryz.results43, go_sem]) rfl ⟨rfl, ?_, hgrow1⟩
  unfold SetB
  rw [List.length_append, List.map_append]
  simp only [List.map_cons, List.map_nil, List.length_cons, List.length_nil, Nat.zero_add]
  rw [Maps.setOf_snoc]
  exact hown1
end

end Go.Proofs.YtlpgafgiljffhaaGreatDoor

namespace Go.Proofs.YtlpgafgiljffhaaGreatDoor
open Go.RowKit
open Go.Maps (Keyed IsMap Tidy setOf)
set_option linter.unusedSimpArgs false
set_option linter.unusedVariables false
/-- Locations, behind those whose names are a. -/
def locsC (m : Int) : List Vr → List ByteArray → Nat × Int
  | [], _ => (0, 0)
  | x :: l, a => if a.length = 6 then (12, x.pl) else if inB a x.nm = true then (10, x.pl) else if m ≤ x.n then (11, x.pl) else locsC m l (a ++ [x.nm])
/-- The checker lies there; of what there was at first nothing has turned. -/
structure CK (w0 w : World) (cb LB RB : Nat) (m : Int) : Prop where
  bk : Bk w cb 54 #[.int .i64 m, .map (some LB), .map (some RB)]
  bl : Below w0.heap.size w0 w
  g1 : w0.heap.size ≤ cb
  g2 : w0.heap.size ≤ LB
  g3 : w0.heap.size ≤ RB
  n1 : cb ≠ LB
  n2 : cb ≠ RB
  n3 : LB ≠ RB
section
variable {w0 w w' : World} {cb LB RB : Nat} {m : Int} {B : Nat} {L : List ByteArray}
theorem CK.below (h : CK w0 w cb LB RB m) (hb : Below w.heap.size w w') : CK w0 w' cb LB RB m :=
  ⟨h.bk.below hb, h.bl.trans (hb.mono h.bl.size), h.g1, h.g2, h.g3, h.n1, h.n2, h.n3⟩
theorem keep_low {N : Nat} (h : Keep B w w') (hB : N ≤ B) (hw : N ≤ w.heap.size) : Below N w w' := ⟨h.os, h.tape, h.output, h.size, fun k hk => h.block k (by omega) (by omega)⟩
theorem grown_keep (h : w.grownBy w' (some B)) : Keep B w w' := ⟨h.os, h.tape, h.output, h.size, fun k hk hne => h.block k hk (fun e => hne (by injection e))⟩
theorem CK.keep (h : CK w0 w cb LB RB m) (hk : Keep B w w') (hB : w0.heap.size ≤ B) (hc : cb ≠ B) : CK w0 w' cb LB RB m :=
  ⟨h.bk.keep hk hc, h.bl.trans (keep_low hk hB h.bl.size), h.g1, h.g2, h.g3, h.n1, h.n2, h.n3⟩
theorem SetB.keep {C : Nat} (h : SetB w C L) (hk : Keep B w w') (hne : C ≠ B) : SetB w' C L := by
  have hl := h.lt
  obtain ⟨es, clock, hB, r⟩ := h
  exact ⟨es, clock, by rw [hk.block C hl hne]; exact hB, r⟩
theorem locsC_cons (m : Int) (x : Vr) (l : List Vr) (a : List ByteArray) : locsC m (x :: l) a = if a.length = 6 then (12, x.pl) else if inB a x.nm = true then (10, x.pl) else if m ≤ x.n then (11, x.pl) else locsC m l (a ++ [x.nm]) := rfl
def nms (xs : List Vr) : List ByteArray := xs.map (·.nm)
set_option maxRecDepth 100000 in
set_option maxHeartbeats 4000000 in
theorem locations_any (xs : List Vr) (v : Value) (hc : CK w0 w cb LB RB m) (hs : SetB w LB []) (hv : VrsD w0 v xs) (hn : xs.length ≤ 100000) (hz : ∀ x ∈ xs, x.nm.size ≤ 100000) (r : Nat × Int) (hr : locsC m xs [] = r) :
    Calls Tryz.prog 22 #[.pointer (some ⟨cb, 0, none⟩), v] w fun e w' => e = .returned (.tuple #[.int .i64 (r.1 : Nat), .int .i64 r.2]) ∧ (r.1 = 0 → SetB w' LB (nms xs)) ∧ Keep LB w w' := by
  have HV := Lib.hid hv
  obtain ⟨ad, cap, rfl⟩ := SlD.shape hv
  obtain ⟨n, hnn⟩ : ∃ n, n = xs.length := ⟨_, rfl⟩
  rw [← hnn] at hn ⊢
  have HN := Lib.hid hnn
  have HZ := Lib.hid hz
  have HC := Lib.hid hc
  have HS := Lib.hid hs
  have HR := Lib.hid hr
  clear hv hz hc hs hr hnn
  go_enter Tryz.func22, Tryz.ntmps22
  go_wp2_with fail
  go_loopg [10] n (fun fuel i' wr => ∃ k : Nat, i' = .int .i64 k ∧ k ≤ n ∧ n - k ≤ fuel ∧ locsC m (xs.drop k) (nms (xs.take k)) = r ∧ Hid (CK w0 wr cb LB RB m) ∧ Hid (SetB wr LB (nms (xs.take k))) ∧ Hid (Keep LB w wr))
  case atStart => exact ⟨0, rfl, Nat.zero_le _, Nat.le_refl _, HR.out, HC, HS, Lib.hid (Keep.refl _ _)⟩
  case round =>
    obtain ⟨k, rfl, hk, hf, ha, hc, hs, hkp⟩ := hrel
    clear HR HC HS
    by_cases hlt : k < n
    · have hky : k < xs.length := by have := HN.out; omega
      have hvd := VrsD.below HV.out hc.out.bl
      obtain ⟨ad', cap', hve, _, _, hcc⟩ := hvd
      obtain ⟨bb, off, hba, hbl, x0, x1, x2⟩ := hcc k hky
      have he1 : ad = ad' := by injection hve
      rw [← he1] at hba
      subst hba
      obtain ⟨x, hx⟩ : ∃ x, x = xs[k] := ⟨_, rfl⟩
      rw [← hx] at x0 x1 x2
      have hxz := HZ.out x (by rw [hx]; exact List.getElem_mem hky)
      have hdr : xs.drop k = x :: xs.drop (k + 1) := by rw [hx]; exact List.drop_eq_getElem_cons hky
      have htk : nms (xs.take (k + 1)) = nms (xs.take k) ++ [x.nm] := by unfold nms; rw [hx, List.take_succ_eq_append_getElem hky, List.map_append]; rfl
      have hlen : (nms (xs.take k)).length = k := by unfold nms; rw [List.length_map, List.length_take]; omega
      rw [hdr, locsC_cons, hlen] at ha
      have HTK := Lib.hid htk
      have HLEN := Lib.hid hlen
      obtain ⟨Lk, hLk⟩ : ∃ L, L = nms (xs.take k) := ⟨_, rfl⟩
      rw [← hLk] at ha hs HTK HLEN
      obtain ⟨xn, xv, xp⟩ := x
      simp only [] at x0 x1 x2 ha hxz HTK
      have HKP := Lib.hid ((hkp.out).below (bel_al wr (.cells #[.string xn, .int .i64 xv, .int .i64 xp] 40)))
      have HC1 := Lib.hid (hc.out.below (bel_al wr (.cells #[.string xn, .int .i64 xv, .int .i64 xp] 40)))
      have HS1 := Lib.hid (hs.out.below (bel_al wr (.cells #[.string xn, .int .i64 xv, .int .i64 xp] 40)))
      have HB1 := Lib.hid (Bk.new wr 40 #[.string xn, .int .i64 xv, .int .i64 xp])
      clear hx hdr htk hlen hLk hkp hc hs hcc
      by_cases h6 : k = 6
      · have e6 : ((k : Int) == 6) = true := by subst h6; rfl
        rw [if_pos h6] at ha
        subst ha
        clear h6
        go_wp2_with fail
        go_quiet (fail)
        go_wp2_with fail
        exact bodyPost_ret (v := .tuple #[.int .i64 12, .int .i64 xp]) (by simp [results, Tryz.results22, go_sem]) rfl ⟨rfl, HKP.out.below (below_drewN (Below.refl _ _) _)⟩
      · have e6 : ((k : Int) == 6) = false := by rw [beq_eq_false_iff_ne]; omega
        rw [if_neg h6] at ha
        go_upto_region 6 with fail
        clear x0 x1 x2
        generalize World.alloc _ _ = w1 at HKP HC1 HS1 HB1 ⊢
        have x0 : w1.cell? ⟨wr.heap.size, 0, none⟩ = some (.string xn) := HB1.out.cell 0
        have c1 : w1.cell? ⟨cb, 1, none⟩ = some (.map (some LB)) := HC1.out.bk.cell 1
        have l1 := HC1.out.bk.lt
        have l2 := HB1.out.lt
        obtain ⟨t, ht⟩ : ∃ t, inB Lk xn = t := ⟨_, rfl⟩
        have HH := Lib.hid (fun (W : World) (hb : Below w1.heap.size w1 W) => has_any (HS1.out.below hb) xn (by unfold maxLen; omega))
        rw [ht] at HH ha
        clear ht
        go_region_held3 (fun w' => w'.cell? ⟨cb, 1, none⟩ = some (.map (some LB)) ∧ w'.cell? ⟨wr.heap.size, 0, none⟩ = some (.string xn) ∧ Below w1.heap.size w1 w')
          (first | exact ⟨c1, x0, Below.refl _ _⟩ | exact ⟨c1, x0, (Below.refl _ _).drew⟩ | assumption | (go_split_ands; exact ⟨(hb3.cell (p := ⟨cb, 1, none⟩) l1).trans c1, (hb3.cell (p := ⟨wr.heap.size, 0, none⟩) l2).trans x0, hb3⟩))
          ((go_split_ands; with_reducible refine Calls.mono (HH.out _ (by assumption)) ?_; rintro e w8 ⟨rfl, hb2⟩; have hb3 : Below w1.heap.size w1 w8 := Below.trans (by assumption) (hb2.mono (Below.size (by assumption)))))
        have HC2 := Lib.hid (HC1.out.below hb3)
        have HS2 := Lib.hid (HS1.out.below hb3)
        have HB2 := Lib.hid (HB1.out.below hb3)
        have HK2 := Lib.hid (HKP.out.below hb3)
        go_split_ands
        clear x0 c1 l1 l2 hb3 HH HC1 HS1 HB1 HKP
        cases t
        · rw [if_neg (by decide)] at ha
          have x1 : w8.cell? ⟨wr.heap.size, 1, none⟩ = some (.int .i64 xv) := HB2.out.cell 1
          have c0 : w8.cell? ⟨cb, 0, none⟩ = some (.int .i64 m) := HC2.out.bk.cell 0
          have l1 := HC2.out.bk.lt
          have l2 := HB2.out.lt
          by_cases hm : m ≤ xv
          · rw [if_pos hm] at ha
            subst ha
            go_wp2_with fail
            go_quiet (fail)
            have HC3 := Lib.hid (HC2.out.below (below_drewN (Below.refl _ _) nq))
            have HK3 := Lib.hid (HK2.out.below (below_drewN (Below.refl _ _) nq))
            have HB3 := Lib.hid (HB2.out.below (below_drewN (Below.refl _ _) nq))
            generalize w8.drewN nq = w9 at HC3 HK3 HB3 ⊢
            have x2 : w9.cell? ⟨wr.heap.size, 2, none⟩ = some (.int .i64 xp) := HB3.out.cell 2
            go_wp2_with fail
            go_quiet (fail)
            go_wp2_with fail
            exact bodyPost_ret (v := .tuple #[.int .i64 11, .int .i64 xp]) (by simp [results, Tryz.results22, go_sem]) rfl ⟨rfl, HK3.out.below (below_drewN (Below.refl _ _) _)⟩
          · rw [if_neg hm] at ha
            go_wp2_with fail
            go_quiet (fail)
            have HC3 := Lib.hid (HC2.out.below (below_drewN (Below.refl _ _) nq))
            have HK3 := Lib.hid (HK2.out.below (below_drewN (Below.refl _ _) nq))
            have HB3 := Lib.hid (HB2.out.below (below_drewN (Below.refl _ _) nq))
            have HS3 := Lib.hid (HS2.out.below (below_drewN (Below.refl _ _) nq))
            generalize w8.drewN nq = w9 at HC3 HK3 HB3 HS3 ⊢
            clear x1 c0 l1 l2
            have x0 : w9.cell? ⟨wr.heap.size, 0, none⟩ = some (.string xn) := HB3.out.cell 0
            have c1 : w9.cell? ⟨cb, 1, none⟩ = some (.map (some LB)) := HC3.out.bk.cell 1
            have l1 := HC3.out.bk.lt
            have l2 := HB3.out.lt
            have HA := Lib.hid (fun (W : World) (hb : Below w9.heap.size w9 W) => add_any (HS3.out.below hb) xn (by unfold maxLen; omega) (by have := HLEN.out; unfold maxLen; omega))
            go_upto_region 10 with fail
            go_region_law (go_simp; go_at_call 43; (refine Calls.mono (HA.out _ (below_drewN (Below.refl _ _) 1)) ?_); rintro e wn ⟨rfl, hs9, hg9⟩)
            all_goals
              have HK9 := Lib.hid (grown_keep hg9)
              have HC9 := Lib.hid ((HC3.out.below (below_drewN (Below.refl _ _) 1)).keep HK9.out HC3.out.g2 HC3.out.n1)
              have HL9 := Lib.hid ((HK3.out.below (below_drewN (Below.refl _ _) 1)).trans HK9.out)
              have HS9 := Lib.hid hs9
              clear hs9 hg9
              go_wp2_with fail
              go_roundg (gk - 1)
              case measure => omega
              case rel => exact ⟨k + 1, by go_num, by omega, by omega, by rw [HTK.out]; exact ha, HC9, by rw [HTK.out]; exact HS9, HL9⟩
        · rw [if_pos rfl] at ha
          subst ha
          have x2 : w8.cell? ⟨wr.heap.size, 2, none⟩ = some (.int .i64 xp) := HB2.out.cell 2
          go_wp2_with fail
          go_quiet (fail)
          go_wp2_with fail
          exact bodyPost_ret (v := .tuple #[.int .i64 10, .int .i64 xp]) (by simp [results, Tryz.results22, go_sem]) rfl ⟨rfl, HK2.out.below (below_drewN (Below.refl _ _) _)⟩
    · obtain rfl : k = n := by omega
      rw [show xs.drop k = [] by rw [HN.out]; exact List.drop_length, show xs.take k = xs by rw [HN.out]; exact List.take_length] at *
      subst ha
      go_wp2_with fail
      exact bodyPost_ret (v := .tuple #[.int .i64 0, .int .i64 0]) (by simp [results, Tryz.results22, go_sem]) rfl ⟨rfl, fun _ => hs.out, hkp.out⟩
end

end Go.Proofs.YtlpgafgiljffhaaGreatDoor
