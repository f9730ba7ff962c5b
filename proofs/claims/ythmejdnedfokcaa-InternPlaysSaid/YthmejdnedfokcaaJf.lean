/- InternApart: its walk, by what a table's methods do. -/
import Derived.Test.YthmejdnedfokcaaJe
namespace Go.Proofs.Ythmejdnedfokcaa
set_option linter.unusedSimpArgs false
set_option linter.unusedVariables false
open Go.RowKit

/-- The texts of the first k that were put. -/
def allL (l : List ByteArray) (k : Nat) : List ByteArray := (l.take k).foldl putL []
theorem all_zero (l : List ByteArray) : allL l 0 = [] := rfl
theorem all_next (l : List ByteArray) (k : Nat) (hk : k < l.length) : allL l (k + 1) = putL (allL l k) l[k] := by
  unfold allL
  rw [List.take_add_one, List.getElem?_eq_getElem hk, List.foldl_append]
  rfl
theorem all_len (l : List ByteArray) : ∀ k, k ≤ l.length → (allL l k).length ≤ k
  | 0, _ => Nat.le_refl _
  | k + 1, h => by
    rw [all_next l k (by omega)]
    have h1 := all_len l k (by omega)
    have h2 := (put_len_le (allL l k) l[k]).2
    omega
theorem all_mem (l : List ByteArray) : ∀ k, k ≤ l.length → ∀ x ∈ allL l k, x ∈ l
  | 0, _, x, hx => by cases hx
  | k + 1, h, x, hx => by
    rw [all_next l k (by omega)] at hx
    unfold putL at hx
    split at hx
    · exact all_mem l k (by omega) x hx
    · rcases List.mem_append.1 hx with hx | hx
      · exact all_mem l k (by omega) x hx
      · rw [List.mem_singleton.1 hx]; exact List.getElem_mem _
theorem all_few {l : List ByteArray} (h : lightT l = true) (k : Nat) (hk : k ≤ l.length) : Few (allL l k) := by
  have hf := light_few h
  exact ⟨by have := all_len l k hk; have := hf.1; omega, fun x hx => hf.2 x (all_mem l k hk x hx)⟩
theorem light_len {l : List ByteArray} (h : lightT l = true) : l.length ≤ 200 := by
  unfold lightT at h
  simp only [Bool.and_eq_true, decide_eq_true_eq] at h
  exact h.1
theorem put_few {L : List ByteArray} {s : ByteArray} (h : Few L) (hl : L.length < 3000) (hs : s.size ≤ 300) : Few (putL L s) := by
  refine ⟨by have := (put_len_le L s).2; omega, fun x hx => ?_⟩
  unfold putL at hx
  split at hx
  · exact h.2 x hx
  · rcases List.mem_append.1 hx with hx | hx
    · exact h.2 x hx
    · rw [List.mem_singleton.1 hx]; exact hs
theorem at_get {L : List ByteArray} {s : ByteArray} (h : hasT L s = true) : atB L (getN L s : Int) = true ∧ atS L (getN L s : Int) = s := by
  have hl := pos_lt h
  have h1 : atB L (getN L s : Int) = true := by
    unfold atB getN
    rw [if_pos h]
    exact decide_eq_true (by omega)
  refine ⟨h1, ?_⟩
  unfold atS
  rw [if_pos h1]
  unfold getN
  rw [if_pos h, Int.toNat_natCast]
  exact pos_at h

/-- Two tables with the same texts, apart from one another. -/
structure Twos (TB : World → Value → List ByteArray → (Nat → Prop) → Prop) (w wr : World) (ta tb : Value) (La Lb : List ByteArray) (F G : Nat → Prop) : Prop where
  a : TB wr ta La F
  b : TB wr tb Lb G
  fa : ∀ g, F g → w.heap.size ≤ g
  fb : ∀ g, G g → w.heap.size ≤ g
  dj : ∀ g, F g → ¬ G g
  bel : Below w.heap.size w wr
theorem Twos.quiet {TB : World → Value → List ByteArray → (Nat → Prop) → Prop} (H : TabOK TB) {w wr w' : World} {ta tb : Value} {La Lb : List ByteArray} {F G : Nat → Prop} (h : Twos TB w wr ta tb La Lb F G) (hb : Below wr.heap.size wr w') : Twos TB w w' ta tb La Lb F G :=
  ⟨H.below h.a hb, H.below h.b hb, h.fa, h.fb, h.dj, h.bel.trans (hb.mono h.bel.size)⟩
theorem Twos.putA {TB : World → Value → List ByteArray → (Nat → Prop) → Prop} (H : TabOK TB) {w wr w' : World} {ta tb : Value} {La Lb La' : List ByteArray} {F G F' : Nat → Prop} (h : Twos TB w wr ta tb La Lb F G) (ht : TB w' ta La' F') (hF : ∀ g, F' g → F g ∨ wr.heap.size ≤ g) (ho : Oth F wr w') : Twos TB w w' ta tb La' Lb F' G :=
  ⟨ht, H.frame h.b ho.b.size fun g hg => ho.k g (H.lt h.b g hg) fun hf => h.dj g hf hg, fun g hg => (hF g hg).elim (h.fa g) (fun k => Nat.le_trans h.bel.size k), h.fb,
    fun g hg hG => (hF g hg).elim (fun k => h.dj g k hG) (fun k => by have := H.lt h.b g hG; omega), h.bel.trans (ho.below h.fa h.bel.size)⟩
theorem Twos.swap {TB : World → Value → List ByteArray → (Nat → Prop) → Prop} {w wr : World} {ta tb : Value} {La Lb : List ByteArray} {F G : Nat → Prop} (h : Twos TB w wr ta tb La Lb F G) : Twos TB w wr tb ta Lb La G F :=
  ⟨h.b, h.a, h.fb, h.fa, fun g h1 h2 => h.dj g h2 h1, h.bel⟩

attribute [local go_sem ↓] Go.wp_at_zero Go.wp_at_succ
set_option maxRecDepth 100000 in
set_option maxHeartbeats 8000000 in
theorem apart_in {TB : World → Value → List ByteArray → (Nat → Prop) → Prop} (H0 : TabOK TB) (l : List ByteArray) (s : ByteArray) (v : Value) (w : World) (hv : StrsD w v l) :
    Calls Try.prog 6 #[v, .string s] w fun e w' => e = .returned (.bool true) ∧ Below w.heap.size w w' := by
  have H := Lib.hid H0
  have HKN := Lib.hid (known13_in H0)
  have HV := Lib.hid hv
  clear H0
  obtain ⟨q, hq⟩ : ∃ q, lightT l = q := ⟨_, rfl⟩
  have HL := Lib.hid (light13_any l v w hv q hq)
  have HQ := Lib.hid hq
  obtain ⟨ad, cap, rfl⟩ := hv.shape0
  obtain ⟨n, hn⟩ : ∃ n, n = l.length := ⟨_, rfl⟩
  rw [← hn] at HL HV ⊢
  have HN := Lib.hid hn
  clear hv hq hn
  go_enter Try.func6, Try.ntmps6
  go_wp2_with fail
  refine HL.out.mono ?_
  rintro e w1 ⟨rfl, b1⟩
  have B := Lib.hid b1
  clear b1 HL
  by_cases hl : q = true ∧ s.size ≤ 200
  · obtain ⟨rfl, hs⟩ := hl
    have HS := Lib.hid hs
    have hs2 : ¬ (200 : Int) < (s.size : Int) := by omega
    clear hs
    go_wp2_with fail
    refine (H.out.new w1).mono ?_
    rintro e w2 ⟨a1, F0, rfl, t1, hF0, b1⟩
    have T1 := Lib.hid t1
    have HF := Lib.hid hF0
    have HB1 := Lib.hid B.out.size
    replace B := Lib.hid (B.out.trans (b1.mono B.out.size))
    have HB2 := Lib.hid b1.size
    clear t1 hF0 b1
    go_wp2_with fail
    refine (H.out.new w2).mono ?_
    rintro e w3 ⟨a2, G0, rfl, t2, hG0, b2⟩
    have TW : Hid (Twos TB w w3 (.pointer (some a1)) (.pointer (some a2)) (allL l 0) (allL l 0) F0 G0) := Lib.hid
      ⟨H.out.below T1.out b2, t2, fun g hg => Nat.le_trans HB1.out (HF.out g hg), fun g hg => Nat.le_trans B.out.size (hG0 g hg), fun g h1 h2 => by have := hG0 g h2; have := H.out.lt T1.out g h1; omega, B.out.trans (b2.mono B.out.size)⟩
    clear t2 hG0 b2 T1 HF B HB1 HB2
    go_wp2_with fail
    go_loopg [7] n (fun fuel i' wr => ∃ (k : Nat) (F G : Nat → Prop), i' = .int .i64 k ∧ k ≤ n ∧ n - k ≤ fuel ∧ Twos TB w wr (.pointer (some a1)) (.pointer (some a2)) (allL l k) (allL l k) F G)
    case atStart => exact ⟨0, F0, G0, rfl, Nat.zero_le _, Nat.le_refl _, TW.out⟩
    case round =>
      obtain ⟨k, F, G, rfl, hk, hf, htw⟩ := hrel
      replace TW := Lib.hid htw
      clear htw
      by_cases hlt : k < n
      · have hk' : k < l.length := by rw [← HN.out]; exact hlt
        have HLT := Lib.hid hlt
        have HFW := Lib.hid (all_few HQ.out k (by rw [← HN.out]; exact hk))
        have HAN := Lib.hid (all_next l k hk')
        have HXS : Hid ((l[k]).size ≤ 300) := Lib.hid ((light_few HQ.out).2 _ (List.getElem_mem hk'))
        have HN200 : Hid (n ≤ 200) := Lib.hid (by rw [HN.out]; exact light_len HQ.out)
        have HYY := Lib.hid (fun (W : World) (h : Below w.heap.size w W) => StrsD.at2 (StrsD.below HV.out h) k hk')
        generalize l[k] = x at HAN HXS HYY
        generalize hL : allL l k = L at TW HFW HAN
        clear hL hk'
        obtain ⟨b, off, rfl, hbl, y⟩ := HYY.out wr TW.out.bel
        have e1 : (0 : Int) ≤ (k : Int) := by omega
        have e2 : (k : Int) < (n : Int) := by omega
        go_wp2_with fail
        refine (H.out.put x TW.out.a HFW.out HXS.out).mono ?_
        rintro e w4 ⟨rfl, F', t1, h1, o1⟩
        replace TW := Lib.hid (TW.out.putA H.out t1 h1 o1)
        clear t1 h1 o1 y hbl
        obtain ⟨b', off', hbe, hbl, y⟩ := HYY.out w4 TW.out.bel
        injection hbe with hbe
        injection hbe with hb1 hb2
        subst hb1 hb2
        go_wp2_with fail
        refine (H.out.put x TW.out.b HFW.out HXS.out).mono ?_
        rintro e w5 ⟨rfl, G', t1, h1, o1⟩
        replace TW := Lib.hid (TW.out.swap.putA H.out t1 h1 o1).swap
        clear t1 h1 o1 y hbl
        have ene : ((putN L x : Int) != (putN L x : Int)) = false := by simp
        have hwk : IntKind.i64.wrap ((k : Int) + 1) = (k : Int) + 1 := IntWalk.i64_in _ (by have := HLT.out; have := HN200.out; omega)
        generalize (putN L x : Int) = pn at ene ⊢
        go_wp2_with fail
        have hlt := HLT.out
        go_roundg (gk - 1)
        case measure => omega
        case rel => exact ⟨k + 1, F', G', by go_num, by omega, by omega, by rw [HAN.out]; exact TW.out⟩
      · obtain rfl : k = n := by omega
        have HFW := Lib.hid (all_few HQ.out k (by rw [← HN.out]; exact Nat.le_refl _))
        have hlen : (allL l k).length < 3000 := by have := all_len l k (by rw [← HN.out]; exact Nat.le_refl _); have := light_len HQ.out; rw [← HN.out] at this; omega
        generalize allL l k = L at TW HFW hlen
        have HS3 : Hid (s.size ≤ 300) := Lib.hid (by have := HS.out; omega)
        have HFP := Lib.hid (put_few HFW.out hlen HS3.out)
        have HHP := Lib.hid (has_put L s)
        have HAG := Lib.hid (at_get HHP.out)
        obtain ⟨hd, hhd⟩ : ∃ h, h = hasT L s := ⟨_, rfl⟩
        clear hlen
        go_wp2_with fail
        refine (H.out.get s TW.out.b HFW.out HS3.out).mono ?_
        rw [← hhd]
        generalize (getN L s : Int) = g1
        rintro e w4 ⟨rfl, b⟩
        replace TW := Lib.hid (TW.out.quiet H.out b)
        clear b
        go_wp2_with fail
        refine (H.out.put s TW.out.a HFW.out HS3.out).mono ?_
        rw [← hhd]
        generalize (putN L s : Int) = g2
        rintro e w5 ⟨rfl, F', t1, h1, o1⟩
        replace TW := Lib.hid (TW.out.putA H.out t1 h1 o1)
        clear t1 h1 o1
        go_wp2_with fail
        refine (H.out.get s TW.out.b HFW.out HS3.out).mono ?_
        rw [← hhd]
        generalize (getN L s : Int) = g3
        rintro e w6 ⟨rfl, b⟩
        replace TW := Lib.hid (TW.out.quiet H.out b)
        clear b
        go_wp2_with fail
        refine (H.out.get s TW.out.a HFP.out HS3.out).mono ?_
        rw [HHP.out]
        obtain ⟨g4, hg4⟩ : ∃ g, g = (getN (putL L s) s : Int) := ⟨_, rfl⟩
        rw [← hg4]
        have HG4 := Lib.hid hg4
        clear hg4
        rintro e w7 ⟨rfl, b⟩
        replace TW := Lib.hid (TW.out.quiet H.out b)
        clear b
        go_wp2_with fail
        refine (H.out.at' g4 TW.out.a HFP.out).mono ?_
        rw [HG4.out, HAG.out.1, HAG.out.2, ← HG4.out]
        rintro e w8 ⟨rfl, b⟩
        replace TW := Lib.hid (TW.out.quiet H.out b)
        clear b
        have ess : (s.toList == s.toList) = true := by simp
        have BW := Lib.hid TW.out.bel
        have HHD := Lib.hid hhd
        clear hhd
        cases hd <;>
          (go_wp2_with fail
           refine (HKN.out w8).mono ?_
           rintro e w9 ⟨rfl, b⟩
           replace BW := Lib.hid (BW.out.trans (b.mono BW.out.size))
           clear b
           go_wp2_with fail
           go_ret
           exact ⟨rfl, BW.out⟩)
  · cases q with
    | false =>
      go_wp2_with fail
      refine (HKN.out w1).mono ?_
      rintro e w2 ⟨rfl, b⟩
      replace B := Lib.hid (B.out.trans (b.mono B.out.size))
      go_wp2_with fail
      go_ret
      exact ⟨rfl, B.out⟩
    | true =>
      have hs2 : (200 : Int) < (s.size : Int) := by
        have : ¬ s.size ≤ 200 := fun h => hl ⟨rfl, h⟩
        omega
      clear hl
      go_wp2_with fail
      refine (HKN.out w1).mono ?_
      rintro e w2 ⟨rfl, b⟩
      replace B := Lib.hid (B.out.trans (b.mono B.out.size))
      go_wp2_with fail
      go_ret
      exact ⟨rfl, B.out⟩

end Go.Proofs.Ythmejdnedfokcaa
