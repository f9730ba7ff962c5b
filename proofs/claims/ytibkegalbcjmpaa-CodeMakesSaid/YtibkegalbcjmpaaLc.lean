/- A program as it lies in memory: statements, threads, claims; what Light tells of statements. -/
import Derived.Test.YtibkegalbcjmpaaLa
namespace Go.Proofs.Ytibkegalbcjmpaa
open Go.RowKit

/-- A statement. -/
structure St where
  kind : Int
  reg : ByteArray
  loc : ByteArray
  e : List Nd
  f : List Nd
  ne : Bool
  body : Int
  els : Int
  pl : Int
/-- A statement, and where its expressions lie. -/
abbrev SI := St × Value × Value

/-- A statement's cells. -/
def StAt (w : World) (b off : Nat) (t : SI) : Prop :=
  w.cell? ⟨b, off, none⟩ = some (.int .i64 t.1.kind) ∧ w.cell? ⟨b, off + 1, none⟩ = some (.string t.1.reg) ∧ w.cell? ⟨b, off + 2, none⟩ = some (.string t.1.loc) ∧ w.cell? ⟨b, off + 3, none⟩ = some t.2.1 ∧ w.cell? ⟨b, off + 4, none⟩ = some t.2.2 ∧
  w.cell? ⟨b, off + 5, none⟩ = some (.bool t.1.ne) ∧ w.cell? ⟨b, off + 6, none⟩ = some (.int .i64 t.1.body) ∧ w.cell? ⟨b, off + 7, none⟩ = some (.int .i64 t.1.els) ∧ w.cell? ⟨b, off + 8, none⟩ = some (.int .i64 t.1.pl)

/-- A slice of statements. -/
def StsD (w : World) (v : Value) (ts : List SI) : Prop :=
  ∃ ad cap, v = .slice ad ts.length cap ∧ ts.length ≤ cap ∧ cap ≤ 9223372036854775807 ∧ ∀ i, (hi : i < ts.length) → ∃ b off, ad = some ⟨b, off, none⟩ ∧ b < w.heap.size ∧ StAt w b (off + i * 9) ts[i] ∧ NdsC w ts[i].2.1 ts[i].1.e ∧ NdsC w ts[i].2.2 ts[i].1.f

theorem StAt.below {w w' : World} {b off : Nat} {t : SI} (h : StAt w b off t) (hb : Below w.heap.size w w') (hl : b < w.heap.size) : StAt w' b off t := by
  obtain ⟨h0, h1, h2, h3, h4, h5, h6, h7, h8⟩ := h
  exact ⟨(hb.cell (p := ⟨b, _, none⟩) hl).trans h0, (hb.cell (p := ⟨b, _, none⟩) hl).trans h1, (hb.cell (p := ⟨b, _, none⟩) hl).trans h2, (hb.cell (p := ⟨b, _, none⟩) hl).trans h3, (hb.cell (p := ⟨b, _, none⟩) hl).trans h4, (hb.cell (p := ⟨b, _, none⟩) hl).trans h5, (hb.cell (p := ⟨b, _, none⟩) hl).trans h6, (hb.cell (p := ⟨b, _, none⟩) hl).trans h7, (hb.cell (p := ⟨b, _, none⟩) hl).trans h8⟩
theorem StsD.below {w w' : World} {v : Value} {ts : List SI} (h : StsD w v ts) (hb : Below w.heap.size w w') : StsD w' v ts := by
  obtain ⟨ad, cap, hv, h1, h2, hc⟩ := h
  refine ⟨ad, cap, hv, h1, h2, fun i hi => ?_⟩
  obtain ⟨b, off, ha, hl, g1, g2, g3⟩ := hc i hi
  exact ⟨b, off, ha, Nat.lt_of_lt_of_le hl hb.size, g1.below hb hl, g2.below hb, g3.below hb⟩


/-- Statements whose fields' lengths are a slice's. -/
def BigOK (ts : List SI) : Prop := ts.length ≤ maxLen ∧ ∀ t ∈ ts, t.1.e.length ≤ maxLen ∧ t.1.f.length ≤ maxLen

def lightSt (x : St) : Bool := decide (x.reg.size ≤ 100 ∧ x.loc.size ≤ 100) && (lightB x.e && lightB x.f)
def lightS (l : List SI) : Bool := decide (l.length ≤ 60) && l.all fun t => lightSt t.1

theorem all_atS (p : SI → Bool) (l : List SI) (k : Nat) (h : k < l.length) : (l.drop k).all p = (p l[k] && (l.drop (k + 1)).all p) := by
  rw [List.drop_eq_getElem_cons h, List.all_cons]
theorem all_overS (p : SI → Bool) (l : List SI) (k : Nat) (h : ¬ k < l.length) : (l.drop k).all p = true := by
  rw [List.drop_eq_nil_of_le (by omega)]; rfl

set_option maxRecDepth 100000 in
set_option maxHeartbeats 400000 in
theorem lightS_big (ts : List SI) (v : Value) (w : World) (hv : StsD w v ts) (hn : BigOK ts) (h : 60 < ts.length) :
    Calls Try.prog 25 #[v] w fun e w' => e = .returned (.bool (lightS ts)) ∧ w = w' := by
  have hb : lightS ts = false := by simp [lightS]; omega
  rw [hb]
  obtain ⟨ad, cap, rfl, _⟩ := hv
  obtain ⟨hn, _⟩ := hn
  unfold maxLen at hn
  clear hb
  go_enter Try.func25, Try.ntmps25
  go_wp2
  go_ret
  exact ⟨rfl, rfl⟩

set_option maxRecDepth 100000 in
set_option maxHeartbeats 2000000 in
theorem lightS_small (ts : List SI) (v : Value) (w : World) (hv : StsD w v ts) (hn : BigOK ts) (h : ts.length ≤ 60) :
    Calls Try.prog 25 #[v] w fun e w' => e = .returned (.bool (lightS ts)) ∧ w = w' := by
  have hb : lightS ts = (ts.drop 0).all fun t => lightSt t.1 := by simp [lightS, h]
  rw [hb]
  obtain ⟨R, hR⟩ : ∃ R, ((ts.drop 0).all fun t => lightSt t.1) = R := ⟨_, rfl⟩
  rw [hR]
  have HR := Lib.hid hR
  have HM := Lib.hid hn.2
  clear hR hn
  obtain ⟨ad, cap, rfl, _, _, hc⟩ := hv
  obtain ⟨n, hN⟩ : ∃ n, n = ts.length := ⟨_, rfl⟩
  rw [← hN] at h ⊢
  have HC := Lib.hid hc
  have HN := Lib.hid hN
  clear hc hN hb
  go_enter Try.func25, Try.ntmps25
  go_wp2
  go_loopg [3] n (fun fuel i' wr => ∃ k : Nat, i' = .int .i64 k ∧ k ≤ n ∧ n - k ≤ fuel ∧ R = ((ts.drop k).all fun t => lightSt t.1) ∧ w = wr)
  case atStart => exact ⟨0, rfl, Nat.zero_le _, Nat.le_refl _, HR.out.symm, rfl⟩
  case round =>
    obtain ⟨k, rfl, hk, hf, ha, rfl⟩ := hrel
    have HA := Lib.hid ha; clear ha
    by_cases hlt : k < n
    · have hk' : k < ts.length := by have := HN.out; omega
      have HE := Lib.hid (all_atS (fun t => lightSt t.1) ts k hk')
      obtain ⟨b, off, rfl, hbl, ⟨c0, c1, c2, c3, c4, c5, c6, c7, c8⟩, hE, hF⟩ := HC.out k hk'
      have hmm := HM.out _ (List.getElem_mem hk')
      obtain ⟨t, ht⟩ : ∃ t, t = ts[k] := ⟨_, rfl⟩
      have HT := Lib.hid ht
      rw [← ht] at c1 c2 c3 c4 hE hF hmm
      clear ht c0 c5 c6 c7 c8
      have HCE := Lib.hid (fun w' (hw : w = w') => light_any t.1.e t.2.1 w (hE.nds) hmm.1 _ rfl)
      have HCF := Lib.hid (fun w' (hw : w = w') => light_any t.1.f t.2.2 w (hF.nds) hmm.2 _ rfl)
      obtain ⟨x, ve, vf⟩ := t
      obtain ⟨xk, xr, xl, xe, xf, xn, xb, xq, xp⟩ := x
      simp only [] at c1 c2 c3 c4 HCE HCF hE hF
      obtain ⟨a1, p1, rfl, _⟩ := hE
      obtain ⟨a2, p2, rfl, _⟩ := hF
      clear hmm
      by_cases h1 : 100 < xr.size
      · go_wp2
        go_ret
        exact ⟨ret_bool (by rw [HA.out, HE.out, ← HT.out]; simp [lightSt]; omega), rfl⟩
      · by_cases h2 : 100 < xl.size
        · go_wp2
          go_ret
          exact ⟨ret_bool (by rw [HA.out, HE.out, ← HT.out]; simp [lightSt]; omega), rfl⟩
        · obtain ⟨bE, hbE⟩ : ∃ bE, bE = lightB xe := ⟨_, rfl⟩
          obtain ⟨bF, hbF⟩ : ∃ bF, bF = lightB xf := ⟨_, rfl⟩
          rw [← hbE] at HCE
          rw [← hbF] at HCF
          have HRS : Hid (lightSt ⟨xk, xr, xl, xe, xf, xn, xb, xq, xp⟩ = (bE && bF)) := by
            refine Lib.hid ?_
            rw [hbE, hbF]
            unfold lightSt
            simp only []
            rw [show decide (xr.size ≤ 100 ∧ xl.size ≤ 100) = true by simp; omega, Bool.true_and]
          clear hbE hbF
          cases bE with
          | false =>
            go_wp2_with fail
            refine (HCE.out _ rfl).mono ?_
            rintro e w2 ⟨rfl, rfl⟩
            go_wp2
            go_ret
            exact ⟨ret_bool (by rw [HA.out, HE.out, ← HT.out]; simp only []; rw [HRS.out]; rfl), rfl⟩
          | true =>
            cases bF with
            | false =>
              go_wp2_with fail
              refine (HCE.out _ rfl).mono ?_
              rintro e w2 ⟨rfl, rfl⟩
              go_wp2_with fail
              refine (HCF.out _ rfl).mono ?_
              rintro e w2 ⟨rfl, rfl⟩
              go_wp2
              go_ret
              exact ⟨ret_bool (by rw [HA.out, HE.out, ← HT.out]; simp only []; rw [HRS.out]; rfl), rfl⟩
            | true =>
              go_wp2_with fail
              refine (HCE.out _ rfl).mono ?_
              rintro e w2 ⟨rfl, rfl⟩
              go_wp2_with fail
              refine (HCF.out _ rfl).mono ?_
              rintro e w2 ⟨rfl, rfl⟩
              go_wp2
              go_roundg (gk - 1)
              case measure => omega
              case rel => exact ⟨k + 1, by go_num, by omega, by omega, by rw [HA.out, HE.out, ← HT.out]; simp only []; rw [HRS.out]; rfl, rfl⟩
    · have HE := Lib.hid (all_overS (fun t => lightSt t.1) ts k (by have := HN.out; omega))
      go_wp2
      go_ret
      exact ⟨ret_bool (by rw [HA.out, HE.out]), rfl⟩

theorem lightS_any (ts : List SI) (v : Value) (w : World) (hv : StsD w v ts) (hn : BigOK ts) (b : Bool) (hb : lightS ts = b) :
    Calls Try.prog 25 #[v] w fun e w' => e = .returned (.bool b) ∧ Below w.heap.size w w' := by
  subst hb
  have h : Calls Try.prog 25 #[v] w fun e w' => e = .returned (.bool (lightS ts)) ∧ w = w' := by
    by_cases h : 60 < ts.length
    · exact lightS_big ts v w hv hn h
    · exact lightS_small ts v w hv hn (by omega)
  refine h.mono ?_
  rintro e w' ⟨h1, rfl⟩
  exact ⟨h1, Below.refl _ _⟩


/-- A thread with its statements. -/
abbrev TB := TN × List SI
def TbAt (w : World) (b off : Nat) (x : TB) : Prop := TnAt w b off x.1 ∧ StsD w (.slice x.1.ba x.1.bl x.1.bc) x.2
abbrev TbsD := SlD 4 TbAt
/-- A claim, and where its expression lies. -/
structure Cl where
  kind : Int
  e : List Nd
  ev : Value
  pl : Int
def ClAt (w : World) (b off : Nat) (x : Cl) : Prop := (w.cell? ⟨b, off, none⟩ = some (.int .i64 x.kind) ∧ w.cell? ⟨b, off + 1, none⟩ = some x.ev ∧ w.cell? ⟨b, off + 2, none⟩ = some (.int .i64 x.pl)) ∧ NdsC w x.ev x.e
abbrev ClsD := SlD 3 ClAt
section
variable {w w' : World} {v : Value}
theorem TbsD.below {xs : List TB} (h : TbsD w v xs) (hb : Below w.heap.size w w') : TbsD w' v xs := h.mono hb.size fun _ _ _ hl h => ⟨⟨⟨(hb.cell (p := ⟨_, _, none⟩) hl).trans h.1.1.1, (hb.cell (p := ⟨_, _, none⟩) hl).trans h.1.1.2.1, (hb.cell (p := ⟨_, _, none⟩) hl).trans h.1.1.2.2.1, (hb.cell (p := ⟨_, _, none⟩) hl).trans h.1.1.2.2.2⟩, StrsD.below h.1.2 hb⟩, StsD.below h.2 hb⟩
theorem ClsD.below {xs : List Cl} (h : ClsD w v xs) (hb : Below w.heap.size w w') : ClsD w' v xs := h.mono hb.size fun _ _ _ hl h => ⟨⟨(hb.cell (p := ⟨_, _, none⟩) hl).trans h.1.1, (hb.cell (p := ⟨_, _, none⟩) hl).trans h.1.2.1, (hb.cell (p := ⟨_, _, none⟩) hl).trans h.1.2.2⟩, NdsC.below h.2 hb⟩
theorem TbsD.tns {xs : List TB} (h : TbsD w v xs) : TnsD w v (xs.map (·.1)) := by
  obtain ⟨ad, cap, hv, h1, h2, hc⟩ := h
  refine ⟨ad, cap, by rw [List.length_map]; exact hv, by rw [List.length_map]; exact h1, h2, fun i hi => ?_⟩
  rw [List.length_map] at hi
  obtain ⟨b, off, g1, g2, g3⟩ := hc i hi
  exact ⟨b, off, g1, g2, by rw [List.getElem_map]; exact g3.1⟩
end

/-- What Light asks of a thread, and of a program. -/
def lightT (x : TB) : Bool := decide (x.1.nm.size ≤ 100) && (decide (x.1.regs.length ≤ 20) && (lightS x.2 && x.1.regs.all fun s => decide (s.size ≤ 100)))
def lightP (vs : List (ByteArray × Int × Int)) (ts : List TB) (cs : List Cl) : Bool :=
  decide (vs.length ≤ 20 ∧ ts.length ≤ 8 ∧ cs.length ≤ 12) && (vs.all (fun x => decide (x.1.size ≤ 100)) && (ts.all lightT && cs.all fun c => lightB c.e))

/-- A thread whose lists' lengths are a slice's. -/
def BigT (x : TB) : Prop := x.1.regs.length ≤ maxLen ∧ BigOK x.2
/-- A program that lies there. -/
structure PgD (w : World) (pv : Value) (m : Int) (vs : List (ByteArray × Int × Int)) (ts : List TB) (cs : List Cl) : Prop where
  v : ∃ lv tv cv, pv = .agg #[.int .i64 m, lv, tv, cv] ∧ VnsD w lv vs ∧ TbsD w tv ts ∧ ClsD w cv cs
  n1 : vs.length ≤ maxLen
  n2 : ts.length ≤ maxLen
  n3 : cs.length ≤ maxLen
  n4 : ∀ x ∈ ts, BigT x
  n5 : ∀ c ∈ cs, c.e.length ≤ maxLen
theorem PgD.below {w w' : World} {pv : Value} {m : Int} {vs : List (ByteArray × Int × Int)} {ts : List TB} {cs : List Cl} (h : PgD w pv m vs ts cs) (hb : Below w.heap.size w w') : PgD w' pv m vs ts cs := by
  obtain ⟨lv, tv, cv, h0, h1, h2, h3⟩ := h.v
  exact ⟨⟨lv, tv, cv, h0, VnsD.below h1 hb, TbsD.below h2 hb, ClsD.below h3 hb⟩, h.n1, h.n2, h.n3, h.n4, h.n5⟩

end Go.Proofs.Ytibkegalbcjmpaa
