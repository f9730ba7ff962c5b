/- What the reference's Parse of statements does. What the parser's parts read, against the plain reader. The readers of statements that have blocks, and of those without fields. A statement stored in a row of statements. A statement is read. A statement: each kind's reader. The parser of programs: its block; fail, refuse, token, take, expect, name, number. The parser of programs: token, take, expect, name, number. The parser of programs: is, kind, claims, sequence. The parser of programs: resume, statements, expression. The parser of programs: expression. The parser of programs: registers. The parser of programs: location, claim. The parser of programs: registers, whole. The parser of programs: thread. The parser of programs: rows of locations, threads and claims; the frame in which they are read. What the reference's Same tells of statements that are alike. Statements as trees; what is shown of them; their tokens; these are read back. -/
import Derived.Test.YtlpgafgiljffhaaGreatDoorVl
import Derived.Test.YtlpgafgiljffhaaGreatDoorVg
import Derived.Shelf.Abstract
import Derived.WideMake
import Derived.Laws.OwnMore
import Derived.Deep.RegionLaw
import Derived.Deep.AppendLies
import Derived.Test.YtlpgafgiljffhaaGreatDoorNa
import Derived.Test.YtlpgafgiljffhaaGreatDoorUa
import Derived.Test.YtlpgafgiljffhaaGreatDoorNk
import Derived.Test.YtlpgafgiljffhaaGreatDoorYb
namespace Go.Proofs.YtlpgafgiljffhaaGreatDoor
open Go.RowKit
theorem lst_fit (l : List Tok) (hp : ∀ i, (tokO l i).2.2.2 + (tokO l i).2.1.length ≤ 200000) : ∀ (f inn i : Nat) (r : SRes), i ≤ l.length → lst l f inn i = some r → SFit l.length i r := by
  intro f
  induction f with
  | zero => intro inn i r _ h; cases h
  | succ f ih =>
    intro inn i r hi h
    rw [lst] at h
    by_cases h0 : i < l.length ∧ sgAt l i [125] = false
    · rw [if_pos h0] at h
      by_cases hk : kindL l i = 0
      · rw [if_pos hk] at h; cases h; show 5 ≠ 0; decide
      · rw [if_neg hk] at h
        have hff := fld_fit l hp (formL (kindL l i)) (i + 1) (st0 (kindL l i : Nat) (plc l i : Nat)) (by omega)
        cases h1 : fld l (formL (kindL l i)) (i + 1) (st0 (kindL l i : Nat) (plc l i : Nat)) with
        | err k a => rw [h1] at h hff; cases h; exact hff
        | ok x j =>
          rw [h1] at h hff
          obtain ⟨g1, g2⟩ := hff
          have hb : ∀ q r, q ≤ l.length → brc (lst l f) l inn q = some r → SFit l.length q r := fun q r hq hb => brc_fit l (lst l f) inn q r hq (fun inn' i' r' h1 h2 => ih inn' i' r' h1 h2) hb
          cases h2 : (if blkB (kindL l i) then brc (lst l f) l inn j else some (.ok [] j)) with
          | none => simp only [h2] at h; cases h
          | some r2 =>
            simp only [h2] at h
            have f2 : SFit l.length j r2 := by
              by_cases hc : blkB (kindL l i) = true
              · rw [if_pos hc] at h2; exact hb j r2 g2 h2
              · rw [if_neg hc] at h2; cases h2; exact ⟨Nat.le_refl _, g2, Nat.zero_le _⟩
            cases r2 with
            | err k a => cases h; exact f2
            | ok b j2 =>
              obtain ⟨p1, p2, p3⟩ := f2
              simp only [] at h
              cases h3 : (if kindL l i = 10 ∧ elseAt l j2 = true then brc (lst l f) l inn (j2 + 1) else some (.ok [] j2)) with
              | none => rw [h3] at h; cases h
              | some r3 =>
                rw [h3] at h
                have f3 : (∃ k a, r3 = .err k a ∧ k ≠ 0) ∨ ∃ o j3, r3 = .ok o j3 ∧ j2 ≤ j3 ∧ j3 ≤ l.length ∧ o.length ≤ j3 - j2 := by
                  by_cases hc : kindL l i = 10 ∧ elseAt l j2 = true
                  · rw [if_pos hc] at h3
                    have hlt : j2 < l.length := by
                      have h := hc.2
                      unfold elseAt tokO at h
                      by_cases h1 : j2 < l.length
                      · exact h1
                      · rw [List.getElem?_eq_none (by omega)] at h; simp at h
                    have := hb (j2 + 1) r3 (by omega) h3
                    cases r3 with
                    | err k a => exact .inl ⟨k, a, rfl, this⟩
                    | ok o j3 => obtain ⟨t1, t2, t3⟩ := this; exact .inr ⟨o, j3, rfl, by omega, t2, by omega⟩
                  · rw [if_neg hc] at h3; cases h3; exact .inr ⟨[], j2, rfl, Nat.le_refl _, p2, Nat.zero_le _⟩
                rcases f3 with ⟨k, a, rfl, hk2⟩ | ⟨o, j3, rfl, q1, q2, q3⟩
                · cases h; exact hk2
                · simp only [] at h
                  cases h4 : lst l f inn j3 with
                  | none => rw [h4] at h; cases h
                  | some r4 =>
                    rw [h4] at h
                    have f4 := ih inn j3 r4 q2 h4
                    cases r4 with
                    | err k a => cases h; exact f4
                    | ok xs j4 =>
                      cases h
                      obtain ⟨s1, s2, s3⟩ := f4
                      refine ⟨by omega, s2, ?_⟩
                      simp only [List.length_cons, List.length_append]
                      omega
    · rw [if_neg h0] at h; cases h; exact ⟨Nat.le_refl _, hi, Nat.zero_le _⟩
theorem rlist_any (l : List Tok) (v : Value) : ∀ (f inn i : Nat) (r : SRes), inn ≤ 30 → i ≤ l.length → lst l f inn i = some r → ∀ w, RCtx l v w → Calls Tryz.prog 113 #[v, .int .i64 i, .int .i64 inn] w (LAns r w) := by
  intro f
  induction f using Nat.strongRecOn with
  | _ f ih =>
    intro inn i r hinn hi hr w hx
    exact rlist_step l v f inn i r w hx hinn hi hr fun f' inn' i' r' hf h1 h2 h3 => ⟨lst_fit l hx.plOK f' inn' i' r' h2 h3, fun W hW => ih f' hf inn' i' r' h1 h2 h3 W hW⟩
theorem lst_total (l : List Tok) (hp : ∀ i, (tokO l i).2.2.2 + (tokO l i).2.1.length ≤ 200000) : ∀ (f inn i : Nat), i ≤ l.length → l.length - i + 1 ≤ f → ∃ r, lst l f inn i = some r := by
  intro f
  induction f with
  | zero => intro inn i _ h; omega
  | succ f ih =>
    intro inn i hi hf
    rw [lst]
    by_cases h0 : i < l.length ∧ sgAt l i [125] = false
    · rw [if_pos h0]
      by_cases hk : kindL l i = 0
      · rw [if_pos hk]; exact ⟨_, rfl⟩
      · rw [if_neg hk]
        have hff := fld_fit l hp (formL (kindL l i)) (i + 1) (st0 (kindL l i : Nat) (plc l i : Nat)) (by omega)
        cases h1 : fld l (formL (kindL l i)) (i + 1) (st0 (kindL l i : Nat) (plc l i : Nat)) with
        | err k a => exact ⟨_, rfl⟩
        | ok x j =>
          rw [h1] at hff
          obtain ⟨g1, g2⟩ := hff
          have hb : ∀ q, i + 1 ≤ q → q ≤ l.length → ∃ r, brc (lst l f) l inn q = some r := by
            intro q hq1 hq2
            unfold brc
            by_cases h2 : sgAt l q [123] = true
            · have := sgAt_lt h2
              rw [if_pos h2]
              by_cases h3 : 30 ≤ inn
              · rw [if_pos h3]; exact ⟨_, rfl⟩
              · rw [if_neg h3]
                obtain ⟨r, hr⟩ := ih (inn + 1) (q + 1) (by omega) (by omega)
                rw [hr]
                cases r with
                | err k a => exact ⟨_, rfl⟩
                | ok b j => simp only []; split <;> exact ⟨_, rfl⟩
            · rw [if_neg h2]; exact ⟨_, rfl⟩
          have hbf : ∀ q r, q ≤ l.length → brc (lst l f) l inn q = some r → SFit l.length q r := fun q r hq hb => brc_fit l (lst l f) inn q r hq (fun inn' i' r' h1 h2 => lst_fit l hp f inn' i' r' h1 h2) hb
          obtain ⟨r2, h2⟩ : ∃ r2, (if blkB (kindL l i) then brc (lst l f) l inn j else some (.ok [] j)) = some r2 ∧ SFit l.length j r2 := by
            by_cases hc : blkB (kindL l i) = true
            · rw [if_pos hc]; obtain ⟨r, hr⟩ := hb j g1 g2; exact ⟨r, hr, hbf j r g2 hr⟩
            · rw [if_neg hc]; exact ⟨_, rfl, Nat.le_refl _, g2, Nat.zero_le _⟩
          simp only [h2.1]
          cases r2 with
          | err k a => exact ⟨_, rfl⟩
          | ok b j2 =>
            obtain ⟨p1, p2, p3⟩ := h2.2
            simp only []
            obtain ⟨r3, h3, f3⟩ : ∃ r3, (if kindL l i = 10 ∧ elseAt l j2 = true then brc (lst l f) l inn (j2 + 1) else some (.ok [] j2)) = some r3 ∧ ∀ o j3, r3 = .ok o j3 → j2 ≤ j3 ∧ j3 ≤ l.length := by
              by_cases hc : kindL l i = 10 ∧ elseAt l j2 = true
              · rw [if_pos hc]
                have hlt : j2 < l.length := by
                  have h := hc.2
                  unfold elseAt tokO at h
                  by_cases h1 : j2 < l.length
                  · exact h1
                  · rw [List.getElem?_eq_none (by omega)] at h; simp at h
                obtain ⟨r, hr⟩ := hb (j2 + 1) (by omega) (by omega)
                refine ⟨r, hr, fun o j3 h => ?_⟩
                subst h
                have := hbf (j2 + 1) _ (by omega) hr
                exact ⟨by have := this.1; omega, this.2.1⟩
              · rw [if_neg hc]; exact ⟨_, rfl, fun o j3 h => by cases h; exact ⟨Nat.le_refl _, p2⟩⟩
            rw [h3]
            cases r3 with
            | err k a => exact ⟨_, rfl⟩
            | ok o j3 =>
              obtain ⟨q1, q2⟩ := f3 o j3 rfl
              simp only []
              obtain ⟨r4, h4⟩ := ih inn j3 q2 (by omega)
              rw [h4]
              cases r4 <;> exact ⟨_, rfl⟩
    · rw [if_neg h0]; exact ⟨_, rfl⟩
def finS (l : List Tok) (i : Nat) : SRes → SRes
  | .err k a => .err k a
  | .ok xs j => if 200 < xs.length then .err 2 (refK l i).2 else .ok xs j
noncomputable def stmtR (l : List Tok) (i : Int) : SRes :=
  if i < 0 ∨ (l.length : Int) < i then .err 1 0 else finS l i.toNat ((lst l (l.length + 1) 0 i.toNat).getD (.err 0 0))
theorem stmtR_of (l : List Tok) (i : Nat) (r : SRes) (hi : i ≤ l.length) (h : lst l (l.length + 1) 0 i = some r) : stmtR l i = finS l i r := by
  unfold stmtR
  rw [if_neg (by omega), show (i : Int).toNat = i from rfl, h]
  rfl
set_option maxRecDepth 100000 in
set_option maxHeartbeats 2000000 in
theorem rstmt_out (l : List Tok) (v : Value) (i : Int) (w : World) (hx : RCtx l v w) (hi : i < 0 ∨ (l.length : Int) < i) :
    Calls Tryz.prog 85 #[v, .int .i64 i] w (LAns (.err 1 0) w) := by
  have hlen := hx.hn
  obtain ⟨ad0, cap0, rfl, hj0⟩ := hx.ht
  clear hj0
  obtain ⟨N, hN⟩ : ∃ N, N = l.length := ⟨_, rfl⟩
  rw [← hN] at hi hlen ⊢
  clear hx hN
  by_cases h0 : i < 0
  · go_enter Tryz.func85, Tryz.ntmps85
    go_wp2
    refine bodyPost_ret (v := .tuple #[.slice none 0 0, .int .i64 0, .int .i64 1, .int .i64 0]) (by simp [results, Tryz.results85, go_sem]) rfl ⟨rfl, Below.refl _ _⟩
  · have h1 : (N : Int) < i := by omega
    go_enter Tryz.func85, Tryz.ntmps85
    go_wp2
    refine bodyPost_ret (v := .tuple #[.slice none 0 0, .int .i64 0, .int .i64 1, .int .i64 0]) (by simp [results, Tryz.results85, go_sem]) rfl ⟨rfl, Below.refl _ _⟩
set_option maxRecDepth 100000 in
set_option maxHeartbeats 2000000 in
theorem rstmt_in (l : List Tok) (v : Value) (i : Nat) (w : World) (hx : RCtx l v w) (hi : i ≤ l.length) :
    Calls Tryz.prog 85 #[v, .int .i64 i] w (LAns (stmtR l i) w) := by
  obtain ⟨r, hr⟩ := lst_total l hx.plOK (l.length + 1) 0 i hi (by omega)
  have hfit := lst_fit l hx.plOK _ 0 i r hi hr
  have HC : Hid (Calls Tryz.prog 113 #[v, .int .i64 i, .int .i64 0] w (LAns r w)) := rlist_any l v _ 0 i r (by omega) hi hr w hx
  obtain ⟨R, hR⟩ : ∃ R, R = stmtR l i := ⟨_, rfl⟩
  rw [← hR]
  rw [stmtR_of l i r hi hr] at hR
  have HX := Lib.hid hx
  have hlen := hx.hn
  obtain ⟨ad0, cap0, rfl, hj0⟩ := hx.ht
  clear hj0
  obtain ⟨N, hN⟩ : ∃ N, N = l.length := ⟨_, rfl⟩
  have HN := Lib.hid hN
  rw [← hN] at hi hlen HC HX ⊢
  clear hx hN hr
  cases r with
  | err k a =>
    have hre : R = .err k a := hR
    subst hre
    have hk : k ≠ 0 := hfit
    have q1 : ((k : Int) != 0) = true := by simp; omega
    clear hR hfit hk
    go_enter Tryz.func85, Tryz.ntmps85
    go_wp2_with fail
    refine HC.out.mono ?_
    rintro e w2 ⟨rfl, hb⟩
    go_wp2
    refine bodyPost_ret (v := .tuple #[.slice none 0 0, .int .i64 0, .int .i64 k, .int .i64 a]) (by simp [results, Tryz.results85, go_sem]) rfl ⟨rfl, hb⟩
  | ok xs j =>
    obtain ⟨f1, f2, f3⟩ := hfit
    have hxs : xs.length ≤ 100000 := by have := HN.out; omega
    replace hR : R = if 200 < xs.length then .err 2 (refK l i).2 else .ok xs j := hR
    have HRR := Lib.hid hR
    clear hR f1 f2 f3
    go_enter Tryz.func85, Tryz.ntmps85
    go_wp2_with fail
    refine HC.out.mono ?_
    rintro e w2 ⟨vx, rfl, hs, hb⟩
    have HS := Lib.hid hs
    obtain ⟨adx, capx, rfl⟩ := sown_shape hs
    obtain ⟨m, hm⟩ : ∃ m, m = xs.length := ⟨_, rfl⟩
    rw [← hm] at HS HRR hxs ⊢
    have HX2 := Lib.hid (HX.out.below hb)
    clear hs hm
    by_cases h2 : 200 < m
    · have hre : R = .err 2 (refK l i).2 := by rw [HRR.out, if_pos h2]
      subst hre
      go_wp2_with (go_at_call 112; refine (rplace_any l _ i _ HX2.out.ht HX2.out.hn HX2.out.hok).mono ?_; rintro e w3 ⟨rfl, hb3⟩)
      refine bodyPost_ret (v := .tuple #[.slice none 0 0, .int .i64 0, .int .i64 2, .int .i64 (refK l i).2]) (by simp [results, Tryz.results85, go_sem]) rfl ⟨rfl, hb.trans (hb3.mono hb.size)⟩
    · have hre : R = .ok xs j := by rw [HRR.out, if_neg h2]
      subst hre
      go_wp2
      refine bodyPost_ret (v := .tuple #[.slice adx m capx, .int .i64 j, .int .i64 0, .int .i64 0]) (by simp [results, Tryz.results85, go_sem]) rfl ⟨_, rfl, HS.out, hb⟩
theorem rstmt_any (l : List Tok) (v : Value) (i : Int) (w : World) (hx : RCtx l v w) : Calls Tryz.prog 85 #[v, .int .i64 i] w (LAns (stmtR l i) w) := by
  by_cases h : i < 0 ∨ (l.length : Int) < i
  · have e : stmtR l i = .err 1 0 := by unfold stmtR; rw [if_pos h]
    rw [e]
    exact rstmt_out l v i w hx h
  · obtain ⟨n, rfl⟩ : ∃ n : Nat, i = n := ⟨i.toNat, by omega⟩
    exact rstmt_in l v n w hx (by omega)
end Go.Proofs.YtlpgafgiljffhaaGreatDoor

namespace Go.Proofs.YtlpgafgiljffhaaGreatDoor
open Go.RowKit
def RS (l : List Tok) (xs : List St) (res : SRes) (q' : Pq) (xs' : List St) : Prop := match res with
  | .ok ys j => q' = ⟨j, 0, 0⟩ ∧ xs' = xs ++ ys
  | .err k a => q' = ⟨l.length, k, a⟩ ∧ k ≠ 0 ∧ xs.length ≤ xs'.length
def BlkRel (l : List Tok) (f o : Nat) (q : Pq) (xs : List St) (q' : Pq) (xs' : List St) : Prop := (q.k ≠ 0 → q' = q ∧ xs' = xs) ∧ (q.k = 0 → ∃ res, brc (lst l f) l o q.n = some res ∧ RS l xs res q' xs')
def AltRel (l : List Tok) (f o : Nat) (q : Pq) (xs : List St) (q' : Pq) (xs' : List St) : Prop := (q.k ≠ 0 → q' = q ∧ xs' = xs) ∧ (q.k = 0 → ∃ res, (if elseAt l q.n = true then brc (lst l f) l o (q.n + 1) else some (.ok [] q.n)) = some res ∧ RS l xs res q' xs')
section
variable {l : List Tok} {cs : List UInt8} {i : Nat} {x0 x : St} {q : Pq}
end
end Go.Proofs.YtlpgafgiljffhaaGreatDoor

namespace Go.Proofs.YtlpgafgiljffhaaGreatDoor
open Go.RowKit
theorem SOwn.blk {w : World} {B : Nat} {v : Value} {xs : List St} (h : SOwn w B v xs) : ∀ g, v.ownBlock = some g → B ≤ g ∧ g < w.heap.size ∧ ∃ cur, w.heap[g]? = some (.cells cur 61 (0, 0)) := by
  obtain ⟨ts, _, h2, _⟩ := h
  intro g hg
  rcases h2.2 with ⟨rfl, _⟩ | ⟨g', cap, cur, rfl, hb, hh, _⟩
  · cases hg
  · have e : g' = g := Option.some.inj hg
    subst e
    exact ⟨hb, (Array.getElem?_eq_some_iff.1 hh).1, cur, hh⟩
end Go.Proofs.YtlpgafgiljffhaaGreatDoor

namespace Go.Proofs.YtlpgafgiljffhaaGreatDoor
open Go.RowKit
theorem SOwn.cells {w : World} {B g n cap : Nat} {xs : List St} (h : SOwn w B (.slice (some ⟨g, 0, none⟩) n cap) xs) (i : Nat) (hi : i < xs.length) : (∀ k, k < 9 → (w.cell? ⟨g, i * 9 + k, none⟩).isSome = true) ∧ ∀ k, w.frozen? ⟨g, k, none⟩ = false := by
  obtain ⟨ts, e1, ⟨g1, g2⟩, _⟩ := h
  have hil : i < ts.length := by rw [← e1, List.length_map] at hi; exact hi
  rcases g2 with ⟨hv, _⟩ | ⟨g', cap', cur, hv, hB, hh, hn1, hn2, hn3, hn4⟩
  · cases hv
  · cases hv
    refine ⟨fun k hk => ?_, fun k => by simp [World.frozen?, hh]⟩
    have hlt : i * 9 + k < cur.size := by rw [hn3]; omega
    simp [World.cell?, hh, hlt]
end Go.Proofs.YtlpgafgiljffhaaGreatDoor

namespace Go.Proofs.YtlpgafgiljffhaaGreatDoor
open Go.RowKit
set_option maxRecDepth 100000 in
set_option maxHeartbeats 1000000 in
theorem nests_any (k : Nat) (w : World) : Calls Tryz.prog 122 #[.int .i64 k] w fun e w' => e = .returned (.bool (blkB k)) ∧ w = w' := by
  by_cases h0 : k = 10
  · subst h0
    go_enter Tryz.func122, Tryz.ntmps122
    go_wp2
    go_ret
    exact ⟨rfl, rfl⟩
  · by_cases h1 : k = 11
    · subst h1
      go_enter Tryz.func122, Tryz.ntmps122
      go_wp2
      go_ret
      exact ⟨rfl, rfl⟩
    · by_cases h2 : k = 12
      · subst h2
        go_enter Tryz.func122, Tryz.ntmps122
        go_wp2
        go_ret
        exact ⟨rfl, rfl⟩
      · have hb : blkB k = false := by simp [blkB, h0, h1, h2]
        rw [hb]
        have q0 : ((k : Int) == 10) = false := by simp; omega
        have q1 : ((k : Int) == 11) = false := by simp; omega
        have q2 : ((k : Int) == 12) = false := by simp; omega
        clear hb h0 h1 h2
        go_enter Tryz.func122, Tryz.ntmps122
        go_wp2
        go_ret
        exact ⟨rfl, rfl⟩
end Go.Proofs.YtlpgafgiljffhaaGreatDoor

namespace Go.Proofs.YtlpgafgiljffhaaGreatDoor
open Go.RowKit
theorem BlkRel.len {l : List Tok} {f o : Nat} {q q' : Pq} {xs xs' : List St} (h : BlkRel l f o q xs q' xs') : xs.length ≤ xs'.length := by
  by_cases hk : q.k = 0
  · obtain ⟨res, _, h2⟩ := h.2 hk
    cases res with
    | err k a => exact h2.2.2
    | ok ys j => rw [h2.2, List.length_append]; omega
  · rw [(h.1 hk).2]; exact Nat.le_refl _
theorem AltRel.len {l : List Tok} {f o : Nat} {q q' : Pq} {xs xs' : List St} (h : AltRel l f o q xs q' xs') : xs.length ≤ xs'.length := by
  by_cases hk : q.k = 0
  · obtain ⟨res, _, h2⟩ := h.2 hk
    cases res with
    | err k a => exact h2.2.2
    | ok ys j => rw [h2.2, List.length_append]; omega
  · rw [(h.1 hk).2]; exact Nat.le_refl _
section
variable {w0 : World} {l : List Tok} {lv : Value} {r bx m f o i : Nat} {xs : List St}
end
end Go.Proofs.YtlpgafgiljffhaaGreatDoor

namespace Go.Proofs.YtlpgafgiljffhaaGreatDoor
open Go.RowKit
section
variable {w w' : World} {r g : Nat} {lv : Value} {n k a : Int}
end
structure Tg (w0 : World) (l : List Tok) (lv : Value) : Prop where
  ht : TokC w0 lv l
  hn : l.length ≤ 100000
  ok : TokOK l
section
variable {w0 w w' : World} {r : Nat} {l : List Tok} {lv : Value} {q : Pq}
end
theorem Blk4.set4 {w : World} {b : Nat} {y0 y1 y2 y3 : Value} (h : Blk4 w b y0 y1 y2 y3) (x0 x1 x2 x3 : Value) : Blk4 ((((w.setCell ⟨b, 0, none⟩ x0).setCell ⟨b, 1, none⟩ x1).setCell ⟨b, 2, none⟩ x2).setCell ⟨b, 3, none⟩ x3) b x0 x1 x2 x3 := by
  unfold Blk4 at h
  have hlt := (Array.getElem?_eq_some_iff.1 h).1
  have hg := (Array.getElem?_eq_some_iff.1 h).2
  simp [Blk4, World.setCell, Array.getElem?_modify, h]
section
variable {w0 : World} {l : List Tok} {lv : Value} {r : Nat} {q : Pq}
end
end Go.Proofs.YtlpgafgiljffhaaGreatDoor

namespace Go.Proofs.YtlpgafgiljffhaaGreatDoor
open Go.RowKit
section
variable {w0 : World} {l : List Tok} {lv : Value} {r : Nat} {q : Pq}
def txB (l : List Tok) (n : Nat) (s : List UInt8) : Bool := (tokO l n).2.1 == s
def gexP (l : List Tok) (q : Pq) (s : List UInt8) : Pq := if txB l q.n s = true then ⟨q.n + 1, q.k, q.a⟩ else refP l q
def gnmP (l : List Tok) (q : Pq) : ByteArray × Pq := if nameB (txt l q.n) = true then (txt l q.n, ⟨q.n + 1, q.k, q.a⟩) else (⟨#[]⟩, refP l q)
def gnuP (l : List Tok) (q : Pq) : Nat × Pq := if (tokO l q.n).1 = 2 then ((tokO l q.n).2.2.1, ⟨q.n + 1, q.k, q.a⟩) else (0, refP l q)
end
end Go.Proofs.YtlpgafgiljffhaaGreatDoor

namespace Go.Proofs.YtlpgafgiljffhaaGreatDoor
open Go.RowKit
section
variable {w0 : World} {l : List Tok} {lv : Value} {r : Nat} {q : Pq}
def seqP {α : Type} (l : List Tok) (bg : List UInt8 → Bool) (stp : Nat → Pq → α → Pq × α) : Nat → Pq → α → Pq × α
  | 0, q, a => (q, a)
  | f + 1, q, a => if bg (tokO l q.n).2.1 = true then seqP l bg stp f (stp q.n ⟨q.n + 1, q.k, q.a⟩ a).1 (stp q.n ⟨q.n + 1, q.k, q.a⟩ a).2 else (q, a)
end
end Go.Proofs.YtlpgafgiljffhaaGreatDoor

namespace Go.Proofs.YtlpgafgiljffhaaGreatDoor
open Go.RowKit
def gresP (l : List Tok) (q : Pq) (j k a : Nat) : Pq := if k = 0 then ⟨j, q.k, q.a⟩ else failP l.length q k a
section
variable {w0 : World} {l : List Tok} {lv : Value} {r : Nat} {q : Pq}
noncomputable def gstP (l : List Tok) (q : Pq) : List St × Pq := match stmtR l q.n with
  | .err k a => ([], gresP l q 0 k a)
  | .ok xs j => (xs, gresP l q j 0 0)
end
end Go.Proofs.YtlpgafgiljffhaaGreatDoor

namespace Go.Proofs.YtlpgafgiljffhaaGreatDoor
open Go.RowKit
def clm (x : Nd) : Nd := if x.op = 2 then { x with op := 3 } else x
noncomputable def gexrP (l : List Tok) (q : Pq) : List Nd × Pq := match parseR l q.n with
  | .err k a => ([], gresP l q 0 k a)
  | .ok y j => (y.flat.map clm, gresP l q j 0 0)
theorem rowN_cons (x : Nd) (l : List Nd) : rowN (x :: l) = x.cells ++ rowN l := by simp [rowN]
theorem rowN_app (a b : List Nd) : rowN (a ++ b) = rowN a ++ rowN b := by simp [rowN]
theorem rowN_len (l : List Nd) : (rowN l).length = l.length * 5 := by
  induction l with
  | nil => rfl
  | cons x l ih => rw [rowN_cons, List.length_append, ih, List.length_cons]; simp [Nd.cells]; omega
theorem rowN_set (a b : List Nd) (x : Nd) (o : Int) : (rowN (a ++ x :: b)).set (a.length * 5) (.int .i64 o) = rowN (a ++ { x with op := o } :: b) := by
  rw [rowN_app, rowN_app, rowN_cons, rowN_cons, List.set_append_right _ _ (by rw [rowN_len]; omega), rowN_len, Nat.sub_self]
  rfl
theorem rowN_get (a b : List Nd) (x : Nd) : (rowN (a ++ x :: b))[a.length * 5]? = some (.int .i64 x.op) := by
  rw [rowN_app, rowN_cons, List.getElem?_append_right (by rw [rowN_len]; omega), rowN_len, Nat.sub_self]
  rfl
section
variable {w0 : World} {l : List Tok} {lv : Value} {r : Nat} {q : Pq}
end
end Go.Proofs.YtlpgafgiljffhaaGreatDoor

namespace Go.Proofs.YtlpgafgiljffhaaGreatDoor
open Go.RowKit
def Cel (w : World) (b T : Nat) (v : Value) : Prop := w.heap[b]? = some (.cells #[v] T (0, 0))
section
variable {w w' : World} {b T r : Nat} {v : Value}
theorem Cel.lt (h : Cel w b T v) : b < w.heap.size := (Array.getElem?_eq_some_iff.1 h).1
theorem Cel.below (h : Cel w b T v) (hb : Below w.heap.size w w') : Cel w' b T v := by
  have := Cel.lt h
  unfold Cel at *; rw [hb.block b this]; exact h
theorem Cel.keep (h : Cel w b T v) (hk : Keep r w w') (hne : b ≠ r) : Cel w' b T v := by
  have := Cel.lt h
  unfold Cel at *; rw [hk.block b this hne]; exact h
theorem Cel.cell (h : Cel w b T v) : w.cell? ⟨b, 0, none⟩ = some v := by
  unfold Cel at h
  simp [World.cell?, h]
theorem Cel.fz (h : Cel w b T v) : w.frozen? ⟨b, 0, none⟩ = false := by
  unfold Cel at h
  simp [World.frozen?, h]
theorem Cel.set (h : Cel w b T v) (u : Value) : Cel (w.setCell ⟨b, 0, none⟩ u) b T u := by
  unfold Cel at h
  have hlt := (Array.getElem?_eq_some_iff.1 h).1
  have hg := (Array.getElem?_eq_some_iff.1 h).2
  simp [Cel, World.setCell, Array.getElem?_modify, h]
theorem Cel.other (h : Cel w b T v) {g o : Nat} (hg : b ≠ g) (u : Value) : Cel (w.setCell ⟨g, o, none⟩ u) b T v := by
  unfold Cel at *; rw [Below.heap_setCell _ _ _ _ (by exact hg)]; exact h
theorem Cel.new (w : World) (T : Nat) (v : Value) : Cel (w.alloc (.cells #[v] T)) w.heap.size T v := heap_alloc_new w _
end
theorem append_oneG {w : World} {ops : Array Oper} {rest : List Oper} {o : Oper} {a : Act} {Q : Exit → Act → World → Prop} (T e S by8 : Nat) (z : Value) (hT : Tryz.prog.underlying T = some (.slice e)) (hi0 : (Tryz.prog.info? e).map (fun i => (i.zero, i.size, i.bytes)) = some (some z, S, by8)) (hzs : z.cells.size = S) (hS : 0 < S) (hby : by8 ≤ 1000)
    (hgd : o.guard = none) (s x : Operand) (ho : o.op = .call { callee := .builtin .append, args := #[s, x], argTypes := #[T, T] }) (base n : Nat) (v : Value) (xs news : List Value) (hs : a.eval s = v) (g : Nat) (hx : a.eval x = .slice (some ⟨g, 0, none⟩) 1 1)
    (hown : w.ownsRow base e S v n xs) (hl : news.length = S) (hc : ∀ j, j < S → w.cell? ⟨g, j, none⟩ = news[j]?) (h1 : ∀ u ∈ news, u.oneCell' = true) (hn : n ≤ 1000000) (hbase : base ≤ w.heap.size)
    (h : ∀ v' w', w'.ownsRow base e S v' (n + 1) (xs ++ news) → Below base w w' → w.grownBy w' v.ownBlock → wpList Tryz.prog ops Q rest (a.put o.dst v') w') : wpList Tryz.prog ops Q (o :: rest) a w := by
  obtain ⟨i0, hi, hz0, hz1, hz2⟩ := info_parts hi0
  have hb : (n + 1) * by8 ≤ 140737488355328 := by
    have : (n + 1) * by8 ≤ 1000001 * 1000 := Nat.mul_le_mul (by omega) hby
    omega
  refine wpList_append_own _ hgd s x T ho base e i0 z S by8 hT hi hz0 hz1 hz2 hzs hS v n xs hs hown ⟨g, 0, none⟩ 1 1 news hx (by rw [hl, Nat.one_mul]) ?_ h1 (by unfold maxLen; omega) hb hbase ?_
  · intro j u hj
    have hj2 : j < S := by rw [← hl]; exact (List.getElem?_eq_some_iff.1 hj).1
    rw [addr_add, hc j hj2, hj]
  · intro v' w' q1 q2 _
    exact h v' w' q1 ((Below.refl base w).grown q2 hbase (fun k hk => (hown.lt k hk).1)) q2
theorem keep_grown {r : Nat} {wb w w3 : World} {row : Option Nat} (h : Keep r wb w) (hg : w.grownBy w3 row) (hr : ∀ k, row = some k → wb.heap.size ≤ k) : Keep r wb w3 :=
  ⟨hg.os.trans h.os, hg.tape.trans h.tape, hg.output.trans h.output, Nat.le_trans h.size hg.size, fun k hk hne => (hg.block k (Nat.lt_of_lt_of_le hk h.size) (fun e => by have := hr k e.symm; omega)).trans (h.block k hk hne)⟩
theorem info_str : (Tryz.prog.info? 9).map (fun i => (i.zero, i.size, i.bytes)) = some (some (.string ⟨#[]⟩), 1, 16) := by kernel_rfl
def rowB (l : List ByteArray) : List Value := l.map Value.string
section
variable {w0 : World} {l : List Tok} {lv : Value} {r : Nat}
variable {q : Pq}
theorem own_noCel {w : World} {B e n T b : Nat} {v u : Value} {xs : List Value} (h : w.ownsRow B e 1 v n xs) (hc : Cel w b T u) (hT : e ≠ T) : v.ownBlock ≠ some b := by
  intro he
  rcases h.2 with ⟨rfl, _⟩ | ⟨g, cap, cur, rfl, _, hh, _⟩
  · cases he
  · injection he with he
    have he2 : g = b := he
    subst he2
    unfold Cel at hc
    rw [hh] at hc
    simp at hc
    exact hT hc.2
end
end Go.Proofs.YtlpgafgiljffhaaGreatDoor

namespace Go.Proofs.YtlpgafgiljffhaaGreatDoor
open Go.RowKit
structure Vr where
  nm : ByteArray
  n : Int
  pl : Int
structure Th where
  nm : ByteArray
  regs : List ByteArray
  body : List St
  pl : Int
structure Cl where
  kind : Int
  e : List Nd
  pl : Int
structure Pg where
  mod : Int
  locs : List Vr
  ths : List Th
  cls : List Cl
theorem alloc_size (w : World) (o : Obj) : (w.alloc o).heap.size = w.heap.size + 1 := Array.size_push ..
def Bk (w : World) (b T : Nat) (cs : Array Value) : Prop := w.heap[b]? = some (.cells cs T (0, 0))
section
variable {w w' : World} {b T r : Nat} {cs : Array Value}
theorem Bk.lt (h : Bk w b T cs) : b < w.heap.size := (Array.getElem?_eq_some_iff.1 h).1
theorem Bk.below (h : Bk w b T cs) (hb : Below w.heap.size w w') : Bk w' b T cs := by
  have := Bk.lt h
  unfold Bk at *; rw [hb.block b this]; exact h
theorem Bk.keep (h : Bk w b T cs) (hk : Keep r w w') (hne : b ≠ r) : Bk w' b T cs := by
  have := Bk.lt h
  unfold Bk at *; rw [hk.block b this hne]; exact h
theorem Bk.cell (h : Bk w b T cs) (j : Nat) : w.cell? ⟨b, j, none⟩ = cs[j]? := by
  unfold Bk at h
  simp [World.cell?, h]
theorem Bk.fz (h : Bk w b T cs) (j : Nat) : w.frozen? ⟨b, j, none⟩ = false := by
  unfold Bk at h
  simp [World.frozen?, h]
theorem Bk.set (h : Bk w b T cs) (j : Nat) (u : Value) : Bk (w.setCell ⟨b, j, none⟩ u) b T (cs.setIfInBounds j u) := by
  unfold Bk at h
  have hlt := (Array.getElem?_eq_some_iff.1 h).1
  have hg := (Array.getElem?_eq_some_iff.1 h).2
  simp [Bk, World.setCell, Array.getElem?_modify, h]
theorem Bk.new (w : World) (T : Nat) (cs : Array Value) : Bk (w.alloc (.cells cs T)) w.heap.size T cs := heap_alloc_new w _
end
theorem Bk.set3 {w : World} {b T : Nat} {y0 y1 y2 : Value} (h : Bk w b T #[y0, y1, y2]) (x0 x1 x2 : Value) : Bk (((w.setCell ⟨b, 0, none⟩ x0).setCell ⟨b, 1, none⟩ x1).setCell ⟨b, 2, none⟩ x2) b T #[x0, x1, x2] := by
  have := ((h.set 0 x0).set 1 x1).set 2 x2
  simpa using this
theorem results_var {fn : Func} {p : Tmp} (h : fn.results = #[.cell p 40]) (tmps : Array Value) (w : World) (b : Nat) (u0 u1 u2 : Value) (hp : tmps.getD p undef = .pointer (some ⟨b, 0, none⟩)) (hb : Bk w b 40 #[u0, u1, u2]) :
    (results fn tmps).run Tryz.prog w = .ok (.agg #[u0, u1, u2]) w := by
  have y0 := hb.cell 0
  have y1 := hb.cell 1
  have y2 := hb.cell 2
  have hp2 : tmps[p]?.getD undef = .pointer (some ⟨b, 0, none⟩) := by simpa using hp
  simp only [results, h]
  simp [hp2, go_sem, y0, y1, y2]
def glocP (l : List Tok) (q : Pq) (pl : Int) : Vr × Pq :=
  let q2 := gexP l (gnmP l q).2 [61]
  (⟨(gnmP l q).1, (gnuP l q2).1, pl⟩, gexP l (gnuP l q2).2 [59])
section
variable {w0 : World} {l : List Tok} {lv : Value} {r : Nat} {q : Pq}
noncomputable def gclP (l : List Tok) (q : Pq) (kd pl : Int) : Cl × Pq := (⟨kd, (gexrP l q).1, pl⟩, gexP l (gexrP l q).2 [59])
theorem results_cl {fn : Func} {p : Tmp} (h : fn.results = #[.cell p 49]) (tmps : Array Value) (w : World) (b : Nat) (u0 u1 u2 : Value) (hp : tmps.getD p undef = .pointer (some ⟨b, 0, none⟩)) (hb : Bk w b 49 #[u0, u1, u2]) :
    (results fn tmps).run Tryz.prog w = .ok (.agg #[u0, u1, u2]) w := by
  have y0 := hb.cell 0
  have y1 := hb.cell 1
  have y2 := hb.cell 2
  have hp2 : tmps[p]?.getD undef = .pointer (some ⟨b, 0, none⟩) := by simpa using hp
  simp only [results, h]
  simp [hp2, go_sem, y0, y1, y2]
theorem own_set3 {w : World} {B e size n b : Nat} {v : Value} {xs : List Value} (h : w.ownsRow B e size v n xs) (hb : b < B) (x0 x1 x2 : Value) : (((w.setCell ⟨b, 0, none⟩ x0).setCell ⟨b, 1, none⟩ x1).setCell ⟨b, 2, none⟩ x2).ownsRow B e size v n xs :=
  ownsRow_setCell_below (ownsRow_setCell_below (ownsRow_setCell_below h hb _) hb _) hb _
end
end Go.Proofs.YtlpgafgiljffhaaGreatDoor

namespace Go.Proofs.YtlpgafgiljffhaaGreatDoor
open Go.RowKit
def gregS (l : List Tok) (_i : Nat) (q : Pq) (a : List ByteArray) : Pq × List ByteArray := ((gnmP l q).2, a ++ [(gnmP l q).1])
def comB (s : List UInt8) : Bool := s == [44]
def gregP (l : List Tok) (q : Pq) : List ByteArray × Pq :=
  if txB l q.n [114, 101, 103] = true then
    let R := seqP l comB (gregS l) (l.length + 1) (gnmP l ⟨q.n + 1, q.k, q.a⟩).2 [(gnmP l ⟨q.n + 1, q.k, q.a⟩).1]
    (R.2, gexP l R.1 [59])
  else ([], q)
section
variable {w0 : World} {l : List Tok} {lv : Value} {r : Nat} {q : Pq}
end
end Go.Proofs.YtlpgafgiljffhaaGreatDoor

namespace Go.Proofs.YtlpgafgiljffhaaGreatDoor
open Go.RowKit
noncomputable def gthP (l : List Tok) (q : Pq) (pl : Int) : Th × Pq :=
  let C := gregP l (gexP l (gnmP l q).2 [123])
  let D := gstP l C.2
  (⟨(gnmP l q).1, C.1, D.1, pl⟩, gexP l D.2 [125])
theorem results_th {fn : Func} {p : Tmp} (h : fn.results = #[.cell p 43]) (tmps : Array Value) (w : World) (b : Nat) (u0 u1 u2 u3 : Value) (hp : tmps.getD p undef = .pointer (some ⟨b, 0, none⟩)) (hb : Bk w b 43 #[u0, u1, u2, u3]) :
    (results fn tmps).run Tryz.prog w = .ok (.agg #[u0, u1, u2, u3]) w := by
  have y0 := hb.cell 0
  have y1 := hb.cell 1
  have y2 := hb.cell 2
  have y3 := hb.cell 3
  have hp2 : tmps[p]?.getD undef = .pointer (some ⟨b, 0, none⟩) := by simpa using hp
  simp only [results, h]
  simp [hp2, go_sem, y0, y1, y2, y3]
theorem Bk.set4 {w : World} {b T : Nat} {y0 y1 y2 y3 : Value} (h : Bk w b T #[y0, y1, y2, y3]) (x0 x1 x2 x3 : Value) : Bk ((((w.setCell ⟨b, 0, none⟩ x0).setCell ⟨b, 1, none⟩ x1).setCell ⟨b, 2, none⟩ x2).setCell ⟨b, 3, none⟩ x3) b T #[x0, x1, x2, x3] := by
  have := (((h.set 0 x0).set 1 x1).set 2 x2).set 3 x3
  simpa using this
theorem Bk.other {w : World} {b T : Nat} {cs : Array Value} (h : Bk w b T cs) {g : Nat} (hg : b ≠ g) (o : Nat) (u : Value) : Bk (w.setCell ⟨g, o, none⟩ u) b T cs := by
  unfold Bk at *; rw [Below.heap_setCell _ _ _ _ (by exact hg)]; exact h
theorem own_noBk {w : World} {B e size n T b : Nat} {v : Value} {cs : Array Value} {xs : List Value} (h : w.ownsRow B e size v n xs) (hc : Bk w b T cs) (hT : e ≠ T) : v.ownBlock ≠ some b := by
  intro he
  rcases h.2 with ⟨rfl, _⟩ | ⟨g, cap, cur, rfl, _, hh, _⟩
  · cases he
  · injection he with he
    have he2 : g = b := he
    subst he2
    unfold Bk at hc
    rw [hh] at hc
    simp at hc
    exact hT hc.2
theorem own_setBk {w : World} {B e size n T b o : Nat} {v u : Value} {cs : Array Value} {xs : List Value} (h : w.ownsRow B e size v n xs) (hc : Bk w b T cs) (hT : e ≠ T) : (w.setCell ⟨b, o, none⟩ u).ownsRow B e size v n xs :=
  ownsRow_setCell_other h (own_noBk h hc hT) _
theorem SOwn.setBk {w : World} {B T b o : Nat} {v u : Value} {cs : Array Value} {xs : List St} (h : SOwn w B v xs) (hc : Bk w b T cs) (h1 : 61 ≠ T) (h2 : 65 ≠ T) : SOwn (w.setCell ⟨b, o, none⟩ u) B v xs := by
  obtain ⟨ts, e1, e2, e3⟩ := h
  exact ⟨ts, e1, own_setBk e2 hc h1, fun t ht => ⟨own_setBk (e3 t ht).1 hc h2, own_setBk (e3 t ht).2 hc h2⟩⟩
section
variable {w0 : World} {l : List Tok} {lv : Value} {r : Nat} {q : Pq}
end
end Go.Proofs.YtlpgafgiljffhaaGreatDoor

namespace Go.Proofs.YtlpgafgiljffhaaGreatDoor
open Go.RowKit
def cellsV (x : Vr) : List Value := [.string x.nm, .int .i64 x.n, .int .i64 x.pl]
def rowV (l : List Vr) : List Value := l.flatMap cellsV
abbrev TI := Th × Value × Value
abbrev CI := Cl × Value
def cellsT (t : TI) : List Value := [.string t.1.nm, t.2.1, t.2.2, .int .i64 t.1.pl]
def rowT (l : List TI) : List Value := l.flatMap cellsT
def cellsC (t : CI) : List Value := [.int .i64 t.1.kind, t.2, .int .i64 t.1.pl]
def rowC (l : List CI) : List Value := l.flatMap cellsC
theorem rowV_append (a b : List Vr) : rowV (a ++ b) = rowV a ++ rowV b := by simp [rowV]
theorem rowT_append (a b : List TI) : rowT (a ++ b) = rowT a ++ rowT b := by simp [rowT]
theorem rowC_append (a b : List CI) : rowC (a ++ b) = rowC a ++ rowC b := by simp [rowC]
theorem rowV_length (l : List Vr) : (rowV l).length = l.length * 3 := by
  unfold rowV
  induction l with
  | nil => rfl
  | cons a l ih => simp only [List.flatMap_cons, List.length_append, ih, List.length_cons, cellsV, List.length_nil]; omega
theorem rowT_length (l : List TI) : (rowT l).length = l.length * 4 := by
  unfold rowT
  induction l with
  | nil => rfl
  | cons a l ih => simp only [List.flatMap_cons, List.length_append, ih, List.length_cons, cellsT, List.length_nil]; omega
theorem rowC_length (l : List CI) : (rowC l).length = l.length * 3 := by
  unfold rowC
  induction l with
  | nil => rfl
  | cons a l ih => simp only [List.flatMap_cons, List.length_append, ih, List.length_cons, cellsC, List.length_nil]; omega
def TIn (w : World) (ts : List TI) : Prop := ∀ t ∈ ts, w.ownsRow 0 9 1 t.2.1 t.1.regs.length (rowB t.1.regs) ∧ SOwn w 0 t.2.2 t.1.body
def CIn (w : World) (ts : List CI) : Prop := ∀ t ∈ ts, w.ownsRow 0 65 5 t.2 t.1.e.length (rowN t.1.e)
def VOwn (w : World) (B : Nat) (v : Value) (xs : List Vr) : Prop := w.ownsRow B 40 3 v xs.length (rowV xs)
def TOwn (w : World) (B : Nat) (v : Value) (xs : List Th) : Prop := ∃ ts : List TI, ts.map (·.1) = xs ∧ w.ownsRow B 43 4 v ts.length (rowT ts) ∧ TIn w ts
def COwn (w : World) (B : Nat) (v : Value) (xs : List Cl) : Prop := ∃ ts : List CI, ts.map (·.1) = xs ∧ w.ownsRow B 49 3 v ts.length (rowC ts) ∧ CIn w ts
section
variable {w w' : World} {B : Nat} {v : Value}
theorem own_apartE {B' n n' e e' size size' : Nat} {u v : Value} {xs ys : List Value} (h : w.ownsRow B e size u n xs) (h' : w.ownsRow B' e' size' v n' ys) (he : e ≠ e') : u.ownBlock = none ∨ u.ownBlock ≠ v.ownBlock := by
  rcases h.2 with ⟨rfl, _⟩ | ⟨g, cap, cur, rfl, _, hg, _⟩
  · exact .inl rfl
  · right
    rcases h'.2 with ⟨rfl, _⟩ | ⟨g', cap', cur', rfl, _, hg', _⟩
    · intro h0; cases h0
    · intro h0
      have e0 : g = g' := Option.some.inj h0
      rw [e0, hg'] at hg
      simp at hg
      exact he hg.2.symm
theorem SOwn.apart {B' n' e' size' : Nat} {u v : Value} {xs : List St} {ys : List Value} (h : SOwn w B u xs) (h' : w.ownsRow B' e' size' v n' ys) (h1 : 61 ≠ e') (h2 : 65 ≠ e') (hg : w.grownBy w' v.ownBlock) : SOwn w' B u xs := by
  obtain ⟨ts, e1, e2, e3⟩ := h
  exact ⟨ts, e1, e2.kept hg (own_apartE e2 h' h1), fun t ht => ⟨(e3 t ht).1.kept hg (own_apartE (e3 t ht).1 h' h2), (e3 t ht).2.kept hg (own_apartE (e3 t ht).2 h' h2)⟩⟩
theorem TIn.below {ts : List TI} (h : TIn w ts) (hb : Below w.heap.size w w') : TIn w' ts := fun t ht => ⟨own_below (h t ht).1 hb, (h t ht).2.below hb⟩
theorem CIn.below {ts : List CI} (h : CIn w ts) (hb : Below w.heap.size w w') : CIn w' ts := fun t ht => own_below (h t ht) hb
theorem TIn.apart {ts : List TI} {B' n' e' size' : Nat} {v : Value} {ys : List Value} (h : TIn w ts) (h' : w.ownsRow B' e' size' v n' ys) (h0 : 9 ≠ e') (h1 : 61 ≠ e') (h2 : 65 ≠ e') (hg : w.grownBy w' v.ownBlock) : TIn w' ts :=
  fun t ht => ⟨(h t ht).1.kept hg (own_apartE (h t ht).1 h' h0), (h t ht).2.apart h' h1 h2 hg⟩
theorem CIn.apart {ts : List CI} {B' n' e' size' : Nat} {v : Value} {ys : List Value} (h : CIn w ts) (h' : w.ownsRow B' e' size' v n' ys) (h2 : 65 ≠ e') (hg : w.grownBy w' v.ownBlock) : CIn w' ts :=
  fun t ht => (h t ht).kept hg (own_apartE (h t ht) h' h2)
theorem TIn.setBk {ts : List TI} {T b o : Nat} {u : Value} {cs : Array Value} (h : TIn w ts) (hc : Bk w b T cs) (h0 : 9 ≠ T) (h1 : 61 ≠ T) (h2 : 65 ≠ T) : TIn (w.setCell ⟨b, o, none⟩ u) ts :=
  fun t ht => ⟨own_setBk (h t ht).1 hc h0, (h t ht).2.setBk hc h1 h2⟩
theorem CIn.setBk {ts : List CI} {T b o : Nat} {u : Value} {cs : Array Value} (h : CIn w ts) (hc : Bk w b T cs) (h2 : 65 ≠ T) : CIn (w.setCell ⟨b, o, none⟩ u) ts :=
  fun t ht => own_setBk (h t ht) hc h2
theorem TIn.snoc {ts : List TI} {t : TI} (h : TIn w ts) (h1 : w.ownsRow 0 9 1 t.2.1 t.1.regs.length (rowB t.1.regs)) (h2 : SOwn w 0 t.2.2 t.1.body) : TIn w (ts ++ [t]) := fun s hs => by
  rcases List.mem_append.1 hs with h0 | h0
  · exact h s h0
  · obtain rfl := List.mem_singleton.1 h0; exact ⟨h1, h2⟩
theorem CIn.snoc {ts : List CI} {t : CI} (h : CIn w ts) (h1 : w.ownsRow 0 65 5 t.2 t.1.e.length (rowN t.1.e)) : CIn w (ts ++ [t]) := fun s hs => by
  rcases List.mem_append.1 hs with h0 | h0
  · exact h s h0
  · obtain rfl := List.mem_singleton.1 h0; exact h1
theorem TOwn.below {xs : List Th} (h : TOwn w B v xs) (hb : Below w.heap.size w w') : TOwn w' B v xs := by
  obtain ⟨ts, e1, e2, e3⟩ := h; exact ⟨ts, e1, own_below e2 hb, e3.below hb⟩
theorem COwn.below {xs : List Cl} (h : COwn w B v xs) (hb : Below w.heap.size w w') : COwn w' B v xs := by
  obtain ⟨ts, e1, e2, e3⟩ := h; exact ⟨ts, e1, own_below e2 hb, e3.below hb⟩
theorem TOwn.apart {xs : List Th} {B' n' e' size' : Nat} {u : Value} {ys : List Value} (h : TOwn w B v xs) (h' : w.ownsRow B' e' size' u n' ys) (h9 : 43 ≠ e') (h0 : 9 ≠ e') (h1 : 61 ≠ e') (h2 : 65 ≠ e') (hg : w.grownBy w' u.ownBlock) : TOwn w' B v xs := by
  obtain ⟨ts, e1, e2, e3⟩ := h; exact ⟨ts, e1, e2.kept hg (own_apartE e2 h' h9), e3.apart h' h0 h1 h2 hg⟩
theorem COwn.apart {xs : List Cl} {B' n' e' size' : Nat} {u : Value} {ys : List Value} (h : COwn w B v xs) (h' : w.ownsRow B' e' size' u n' ys) (h9 : 49 ≠ e') (h2 : 65 ≠ e') (hg : w.grownBy w' u.ownBlock) : COwn w' B v xs := by
  obtain ⟨ts, e1, e2, e3⟩ := h; exact ⟨ts, e1, e2.kept hg (own_apartE e2 h' h9), e3.apart h' h2 hg⟩
theorem TOwn.setBk {xs : List Th} {T b o : Nat} {u : Value} {cs : Array Value} (h : TOwn w B v xs) (hc : Bk w b T cs) (h9 : 43 ≠ T) (h0 : 9 ≠ T) (h1 : 61 ≠ T) (h2 : 65 ≠ T) : TOwn (w.setCell ⟨b, o, none⟩ u) B v xs := by
  obtain ⟨ts, e1, e2, e3⟩ := h; exact ⟨ts, e1, own_setBk e2 hc h9, e3.setBk hc h0 h1 h2⟩
theorem COwn.setBk {xs : List Cl} {T b o : Nat} {u : Value} {cs : Array Value} (h : COwn w B v xs) (hc : Bk w b T cs) (h9 : 49 ≠ T) (h2 : 65 ≠ T) : COwn (w.setCell ⟨b, o, none⟩ u) B v xs := by
  obtain ⟨ts, e1, e2, e3⟩ := h; exact ⟨ts, e1, own_setBk e2 hc h9, e3.setBk hc h2⟩
theorem TOwn.mono {B' : Nat} {xs : List Th} (h : TOwn w B v xs) (hB : B' ≤ B) : TOwn w B' v xs := by
  obtain ⟨ts, e1, e2, e3⟩ := h; exact ⟨ts, e1, own_mono e2 hB, e3⟩
theorem COwn.mono {B' : Nat} {xs : List Cl} (h : COwn w B v xs) (hB : B' ≤ B) : COwn w B' v xs := by
  obtain ⟨ts, e1, e2, e3⟩ := h; exact ⟨ts, e1, own_mono e2 hB, e3⟩
theorem TOwn.shape {xs : List Th} (h : TOwn w B v xs) : ∃ ad cap, v = .slice ad xs.length cap := by
  obtain ⟨ts, h1, h2, _⟩ := h
  obtain ⟨ad, cap, h3, _⟩ := own_shape h2
  exact ⟨ad, cap, by rw [h3, ← h1, List.length_map]⟩
theorem COwn.shape {xs : List Cl} (h : COwn w B v xs) : ∃ ad cap, v = .slice ad xs.length cap := by
  obtain ⟨ts, h1, h2, _⟩ := h
  obtain ⟨ad, cap, h3, _⟩ := own_shape h2
  exact ⟨ad, cap, by rw [h3, ← h1, List.length_map]⟩
end
structure POwn (w : World) (B : Nat) (a b c : Value) (g : Pg) : Prop where
  l : VOwn w B a g.locs
  t : TOwn w B b g.ths
  c : COwn w B c g.cls
section
variable {w w' : World} {B : Nat} {x y z : Value} {g : Pg}
theorem POwn.below (h : POwn w B x y z g) (hb : Below w.heap.size w w') : POwn w' B x y z g := ⟨own_below h.l hb, h.t.below hb, h.c.below hb⟩
theorem POwn.setBk {b o : Nat} {u : Value} {cs : Array Value} (h : POwn w B x y z g) (hc : Bk w b 26 cs) : POwn (w.setCell ⟨b, o, none⟩ u) B x y z g :=
  ⟨own_setBk h.l hc (by decide), h.t.setBk hc (by decide) (by decide) (by decide) (by decide), h.c.setBk hc (by decide) (by decide)⟩
theorem POwn.nil (w : World) (B : Nat) (m : Int) : POwn w B (.slice none 0 0) (.slice none 0 0) (.slice none 0 0) ⟨m, [], [], []⟩ :=
  ⟨World.ownsRow_nil _ _ _ _, ⟨[], rfl, World.ownsRow_nil _ _ _ _, fun t ht => by cases ht⟩, ⟨[], rfl, World.ownsRow_nil _ _ _ _, fun t ht => by cases ht⟩⟩
end
theorem bk_grown {W W' : World} {B e size n b T : Nat} {v : Value} {xs : List Value} {cs : Array Value} (hv : W.ownsRow B e size v n xs) (h : Bk W b T cs) (hT : e ≠ T) (hg : W.grownBy W' v.ownBlock) : Bk W' b T cs := by
  have hx : v.ownBlock ≠ some b := own_noBk hv h hT
  have hl := h.lt
  unfold Bk at *
  rw [hg.block b hl (fun e => hx e.symm)]
  exact h
section
variable {w0 wb W W' : World} {r pb rb xb ib : Nat} {s : ByteArray} {l : List Tok} {lv : Value} {q q2 : Pq} {cs : Array Value}
end
theorem sown_one {w : World} {B : Nat} {v : Value} {xs : List St} (h : SOwn w B v xs) : v.oneCell' = true := by
  obtain ⟨ad, cap, rfl⟩ := sown_shape h; rfl
theorem below_a {w w' : World} {o : Obj} (h : Below (w.alloc o).heap.size (w.alloc o) w') : Below w.heap.size w w' := ((Below.refl _ _).alloc (Nat.le_refl _) _).trans (h.mono (by rw [alloc_size]; omega))
theorem below_t {B : Nat} {w w1 w2 : World} (h : Below B w w1) (h2 : Below w1.heap.size w1 w2) (hB : B ≤ w.heap.size) : Below B w w2 := h.trans (h2.mono (Nat.le_trans hB h.size))
theorem info_var : (Tryz.prog.info? 40).map (fun i => (i.zero, i.size, i.bytes)) = some (some (.agg #[.string ⟨#[]⟩, .int .i64 0, .int .i64 0]), 3, 32) := by kernel_rfl
theorem info_thr : (Tryz.prog.info? 43).map (fun i => (i.zero, i.size, i.bytes)) = some (some (.agg #[.string ⟨#[]⟩, .slice none 0 0, .slice none 0 0, .int .i64 0]), 4, 72) := by kernel_rfl
theorem info_clm : (Tryz.prog.info? 49).map (fun i => (i.zero, i.size, i.bytes)) = some (some (.agg #[.int .i64 0, .slice none 0 0, .int .i64 0]), 3, 40) := by kernel_rfl
theorem refP_ge (l : List Tok) (q : Pq) (h : q.n ≤ l.length) : q.n ≤ (refP l q).n := by unfold refP failP; split <;> exact h
theorem gexP_ge (l : List Tok) (q : Pq) (s : List UInt8) (h : q.n ≤ l.length) : q.n ≤ (gexP l q s).n := by
  unfold gexP; split
  · show q.n ≤ q.n + 1; omega
  · exact refP_ge l q h
end Go.Proofs.YtlpgafgiljffhaaGreatDoor

namespace Go.Proofs.YtlpgafgiljffhaaGreatDoor
open Go.RowKit
def NodesAlike (p : Bool) (a b : List Nd) : Prop := b.length = a.length ∧ ∀ i, (h1 : i < a.length) → (h2 : i < b.length) → alikeN p a[i] b[i]
def alikeS (p : Bool) (a b : St) : Prop := a.kind = b.kind ∧ a.reg = b.reg ∧ a.loc = b.loc ∧ NodesAlike p a.e b.e ∧ NodesAlike p a.f b.f ∧ a.ne = b.ne ∧ a.body = b.body ∧ a.els = b.els ∧ (p = true → a.pl = b.pl) ∧ a.e.length ≤ 100000 ∧ a.f.length ≤ 100000
def StsC (w : World) (v : Value) (ts : List SI) : Prop :=
  ∃ ad cap, v = .slice ad ts.length cap ∧ ∀ i, (hi : i < ts.length) → ∃ b off, ad = some ⟨b, off, none⟩ ∧ b < w.heap.size ∧ (∀ k, (hk : k < 9) → w.cell? ⟨b, off + i * 9 + k, none⟩ = some ((cellsI ts[i])[k]'(by simpa [cellsI] using hk))) ∧ NdsC w ts[i].2.1 ts[i].1.e ∧ NdsC w ts[i].2.2 ts[i].1.f
theorem StsC.at {w wr : World} {ad : Option Addr} {n cap : Nat} {ts : List SI} (h : StsC w (.slice ad n cap) ts) (hb : Below w.heap.size w wr) (i : Nat) (hi : i < ts.length) :
    ∃ b off, ad = some ⟨b, off, none⟩ ∧ b < wr.heap.size ∧ (wr.cell? ⟨b, off + i * 9, none⟩ = some (.int .i64 ts[i].1.kind) ∧ wr.cell? ⟨b, off + i * 9 + 1, none⟩ = some (.string ts[i].1.reg) ∧ wr.cell? ⟨b, off + i * 9 + 2, none⟩ = some (.string ts[i].1.loc) ∧ wr.cell? ⟨b, off + i * 9 + 3, none⟩ = some ts[i].2.1 ∧ wr.cell? ⟨b, off + i * 9 + 4, none⟩ = some ts[i].2.2 ∧
      wr.cell? ⟨b, off + i * 9 + 5, none⟩ = some (.bool ts[i].1.ne) ∧ wr.cell? ⟨b, off + i * 9 + 6, none⟩ = some (.int .i64 ts[i].1.body) ∧ wr.cell? ⟨b, off + i * 9 + 7, none⟩ = some (.int .i64 ts[i].1.els) ∧ wr.cell? ⟨b, off + i * 9 + 8, none⟩ = some (.int .i64 ts[i].1.pl)) ∧ NdsC wr ts[i].2.1 ts[i].1.e ∧ NdsC wr ts[i].2.2 ts[i].1.f := by
  obtain ⟨ad', cap', hv, hc⟩ := h
  obtain ⟨b, off, ha, hlt, hk, h1, h2⟩ := hc i hi
  cases hv
  have hcell : ∀ k, (hk9 : k < 9) → wr.cell? ⟨b, off + i * 9 + k, none⟩ = some ((cellsI ts[i])[k]'(by simpa [cellsI] using hk9)) := fun k hk9 => (hb.cell (p := ⟨b, _, none⟩) hlt).trans (hk k hk9)
  exact ⟨b, off, ha, Nat.lt_of_lt_of_le hlt hb.size, ⟨hcell 0 (by decide), hcell 1 (by decide), hcell 2 (by decide), hcell 3 (by decide), hcell 4 (by decide), hcell 5 (by decide), hcell 6 (by decide), hcell 7 (by decide), hcell 8 (by decide)⟩, h1.below hb, h2.below hb⟩
end Go.Proofs.YtlpgafgiljffhaaGreatDoor

namespace Go.Proofs.YtlpgafgiljffhaaGreatDoor
open Go.RowKit
inductive Tr where
  | nil
  | node (s : St) (b o r : Tr)
def Tr.flat : Tr → List St
  | .nil => []
  | .node s b o r => { s with body := (b.flat.length : Nat), els := (o.flat.length : Nat) } :: (b.flat ++ o.flat ++ r.flat)
def nestK (k : Int) : Bool := decide (k = 10 ∨ k = 11 ∨ k = 12)
def Tr.hgt : Tr → Nat
  | .nil => 0
  | .node s b o r => max (if nestK s.kind = true then 1 + max b.hgt o.hgt else 0) r.hgt
def hasR (k : Int) : Bool := decide (k = 2 ∨ k = 3 ∨ k = 5 ∨ k = 6 ∨ k = 7)
def hasL (k : Int) : Bool := decide (k = 3 ∨ k = 4 ∨ k = 5 ∨ k = 6 ∨ k = 7 ∨ k = 9)
def hasE (k : Int) : Bool := decide (k = 2 ∨ k = 4 ∨ k = 5 ∨ k = 6 ∨ k = 7 ∨ k = 9 ∨ k = 10 ∨ k = 11)
def hasF (k : Int) : Bool := decide (k = 5)
structure okSt (x : St) : Prop where
  k1 : 1 ≤ x.kind
  k13 : x.kind ≤ 13
  pl : 0 ≤ x.pl
  reg : if hasR x.kind = true then nameB x.reg = true else x.reg.size = 0
  loc : if hasL x.kind = true then nameB x.loc = true else x.loc.size = 0
  e : if hasE x.kind = true then rightP x.e ∧ regsO x.e = true else x.e = []
  f : if hasF x.kind = true then rightP x.f ∧ regsO x.f = true else x.f = []
  ne : x.ne = true → x.kind = 9
  body : x.body ≠ 0 → nestK x.kind = true
  els : x.els ≠ 0 → x.kind = 10
def rightS (l : List St) : Prop := l.length ≤ 200 ∧ ∃ t : Tr, t.flat = l ∧ (∀ x ∈ l, okSt x) ∧ t.hgt ≤ 30
noncomputable def tokN (l : List Nd) : List Tri := open Classical in if h : rightP l then tokE h.choose else []
noncomputable def fieldB (x : St) : List UInt8 → List UInt8
  | [] => []
  | c :: cs => (if c = 114 then 32 :: x.reg.data.toList else if c = 108 then 32 :: x.loc.data.toList else if c = 101 then 32 :: textOf x.e else if c = 102 then 32 :: textOf x.f
      else if c = 113 then (if x.ne = true then [32, 33, 61] else [32, 61, 61]) else if c = 61 then [32, 61] else [c]) ++ fieldB x cs
noncomputable def lineB (x : St) : List UInt8 := kwds.getD x.kind.toNat [] ++ (fieldB x (formL x.kind.toNat) ++ (if nestK x.kind = true then [32, 123] else []))
noncomputable def fieldT (x : St) : List UInt8 → List Tri
  | [] => []
  | c :: cs => (if c = 114 then [(1, x.reg.data.toList, 0)] else if c = 108 then [(1, x.loc.data.toList, 0)] else if c = 101 then tokN x.e else if c = 102 then tokN x.f
      else if c = 113 then (if x.ne = true then [(3, [33, 61], 0)] else [(3, [61, 61], 0)]) else [(3, [c], 0)]) ++ fieldT x cs
noncomputable def lineT (x : St) : List Tri := (1, kwds.getD x.kind.toNat [], 0) :: (fieldT x (formL x.kind.toNat) ++ (if nestK x.kind = true then [(3, [123], 0)] else []))
def ind (d : Nat) : List UInt8 := List.replicate (2 * d) 32
def elseB : List UInt8 := [125, 32, 101, 108, 115, 101, 32, 123]
def elseT : List Tri := [(3, [125], 0), (1, [101, 108, 115, 101], 0), (3, [123], 0)]
noncomputable def Tr.text : Tr → Nat → List UInt8
  | .nil, _ => []
  | .node s b o r, d => (ind d ++ lineB s ++ [10]) ++ (if nestK s.kind = true then b.text (d + 1) ++ (if o.flat.length = 0 then [] else (ind d ++ elseB ++ [10]) ++ o.text (d + 1)) ++ (ind d ++ [125] ++ [10]) else []) ++ r.text d
noncomputable def Tr.tok : Tr → List Tri
  | .nil => []
  | .node s b o r => lineT s ++ (if nestK s.kind = true then b.tok ++ (if o.flat.length = 0 then [] else elseT ++ o.tok) ++ [(3, [125], 0)] else []) ++ r.tok
def Lf (s : List UInt8) (ts : List Tri) : Prop := ∀ rest p acc, ∃ m q, m.map strip = ts ∧ sc (s ++ rest).length (s ++ rest) p acc = sc rest.length rest q (acc ++ m)
theorem Lf.nil : Lf [] [] := fun rest p acc => ⟨[], p, rfl, by simp⟩
theorem bareS (s : St) (b o : Int) : lineB { s with body := b, els := o } = lineB s ∧ lineT { s with body := b, els := o } = lineT s := by
  have hb : ∀ cs, fieldB { s with body := b, els := o } cs = fieldB s cs := by
    intro cs; induction cs with
    | nil => rfl
    | cons c cs ih => rw [fieldB, fieldB, ih]
  have ht : ∀ cs, fieldT { s with body := b, els := o } cs = fieldT s cs := by
    intro cs; induction cs with
    | nil => rfl
    | cons c cs ih => rw [fieldT, fieldT, ih]
  constructor
  · unfold lineB; rw [hb]
  · unfold lineT; rw [ht]
end Go.Proofs.YtlpgafgiljffhaaGreatDoor
