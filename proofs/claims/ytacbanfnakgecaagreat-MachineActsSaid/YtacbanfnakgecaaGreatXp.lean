/- Layer 8: the reference's Room. -/
import Derived.Test.YtacbanfnakgecaaGreatXn
import Derived.Test.YtacbanfnakgecaaGreatUv
namespace Go.Proofs.YtacbanfnakgecaaGreat
set_option linter.unusedSimpArgs false
set_option linter.unusedVariables false
open Go.RowKit
set_option maxRecDepth 100000 in
set_option maxHeartbeats 2000000 in
theorem rroom_any (l : List Ent) (v : Value) (model room loc : Int) (w : World) (hv : EntsD w v l) (hn : l.length ≤ 100000) (b : Bool) (hb : roomL l model room loc = b) :
    Calls Tryz.prog 37 #[v, .int .i64 model, .int .i64 room, .int .i64 loc] w fun e w' => e = .returned (.bool b) ∧ Below w.heap.size w w' := by
  have H := Lib.hid (rcount_any l v loc w hv hn _ rfl)
  have HB := Lib.hid hb
  obtain ⟨ad, cap, rfl, _⟩ := hv.shape
  unfold roomL at HB
  generalize l.length = n at HB H hn
  generalize cntL l loc = z at HB H
  clear hv hb
  by_cases h2 : model = 2
  · subst h2
    go_enter Tryz.func37, Tryz.ntmps37
    go_wp2
    go_ret
    exact ⟨ret_bool (by rw [← HB.out]; simp), Below.refl _ _⟩
  · by_cases h3 : model = 3
    · subst h3
      go_enter Tryz.func37, Tryz.ntmps37
      go_wp2_with fail
      refine H.out.mono ?_
      rintro e w2 ⟨rfl, rfl⟩
      go_wp2
      go_ret
      exact ⟨ret_bool (by rw [← HB.out]; simp), Below.refl _ _⟩
    · have q2 : (model == 2) = false := by simpa using h2
      have q3 : (model == 3) = false := by simpa using h3
      go_enter Tryz.func37, Tryz.ntmps37
      go_wp2
      go_ret
      exact ⟨ret_bool (by rw [← HB.out]; simp [h2, h3]), Below.refl _ _⟩
end Go.Proofs.YtacbanfnakgecaaGreat
