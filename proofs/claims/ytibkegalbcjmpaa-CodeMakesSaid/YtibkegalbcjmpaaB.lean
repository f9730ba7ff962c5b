/- What sign and Keyword do. -/
import Derived.Test.YtibkegalbcjmpaaA
namespace Go.Proofs.Ytibkegalbcjmpaa
open Go.RowKit

def sgn2 (s : ByteArray) : Bool := ((s.extract 0 2).toList == [61, 61]) || ((s.extract 0 2).toList == [33, 61]) || ((s.extract 0 2).toList == [60, 61]) || ((s.extract 0 2).toList == [38, 38]) || ((s.extract 0 2).toList == [124, 124])
def sgn1 (c : Int) : Bool := (c == 59) || (c == 44) || (c == 123) || (c == 125) || (c == 40) || (c == 41) || (c == 46) || (c == 61) || (c == 43) || (c == 45) || (c == 42) || (c == 33) || (c == 60)
def kw (s : ByteArray) : Bool := (s.toList == [109, 111, 100]) || (s.toList == [108, 111, 99]) || (s.toList == [116, 104, 114, 101, 97, 100]) || (s.toList == [114, 101, 103]) || (s.toList == [115, 107, 105, 112]) || (s.toList == [115, 101, 116]) || (s.toList == [108, 111, 97, 100]) || (s.toList == [115, 116, 111, 114, 101]) || (s.toList == [99, 97, 115]) || (s.toList == [102, 97, 100, 100]) || (s.toList == [120, 99, 104, 103]) || (s.toList == [102, 101, 110, 99, 101]) || (s.toList == [97, 119, 97, 105, 116]) || (s.toList == [105, 102]) || (s.toList == [101, 108, 115, 101]) || (s.toList == [119, 104, 105, 108, 101]) || (s.toList == [108, 111, 111, 112]) || (s.toList == [98, 114, 101, 97, 107]) || (s.toList == [102, 111, 114, 97, 108, 108]) || (s.toList == [101, 120, 105, 115, 116, 115]) || (s.toList == [97, 108, 119, 97, 121, 115])

set_option maxHeartbeats 4000000 in
theorem keyword_yes (s : ByteArray) (w : World) (h1 : kw s = true) :
    Calls Try.prog 89 #[.string s] w fun e w' => e = .returned (.bool true) ∧ w = w' := by
  unfold kw at h1
  rcases q0 : (s.toList == [109, 111, 100]) with _ | _
  rotate_left
  · clear h1
    go_enter Try.func89, Try.ntmps89
    go_wp2
    go_ret
    exact ⟨rfl, rfl⟩
  rcases q1 : (s.toList == [108, 111, 99]) with _ | _
  rotate_left
  · clear h1
    go_enter Try.func89, Try.ntmps89
    go_wp2
    go_ret
    exact ⟨rfl, rfl⟩
  rcases q2 : (s.toList == [116, 104, 114, 101, 97, 100]) with _ | _
  rotate_left
  · clear h1
    go_enter Try.func89, Try.ntmps89
    go_wp2
    go_ret
    exact ⟨rfl, rfl⟩
  rcases q3 : (s.toList == [114, 101, 103]) with _ | _
  rotate_left
  · clear h1
    go_enter Try.func89, Try.ntmps89
    go_wp2
    go_ret
    exact ⟨rfl, rfl⟩
  rcases q4 : (s.toList == [115, 107, 105, 112]) with _ | _
  rotate_left
  · clear h1
    go_enter Try.func89, Try.ntmps89
    go_wp2
    go_ret
    exact ⟨rfl, rfl⟩
  rcases q5 : (s.toList == [115, 101, 116]) with _ | _
  rotate_left
  · clear h1
    go_enter Try.func89, Try.ntmps89
    go_wp2
    go_ret
    exact ⟨rfl, rfl⟩
  rcases q6 : (s.toList == [108, 111, 97, 100]) with _ | _
  rotate_left
  · clear h1
    go_enter Try.func89, Try.ntmps89
    go_wp2
    go_ret
    exact ⟨rfl, rfl⟩
  rcases q7 : (s.toList == [115, 116, 111, 114, 101]) with _ | _
  rotate_left
  · clear h1
    go_enter Try.func89, Try.ntmps89
    go_wp2
    go_ret
    exact ⟨rfl, rfl⟩
  rcases q8 : (s.toList == [99, 97, 115]) with _ | _
  rotate_left
  · clear h1
    go_enter Try.func89, Try.ntmps89
    go_wp2
    go_ret
    exact ⟨rfl, rfl⟩
  rcases q9 : (s.toList == [102, 97, 100, 100]) with _ | _
  rotate_left
  · clear h1
    go_enter Try.func89, Try.ntmps89
    go_wp2
    go_ret
    exact ⟨rfl, rfl⟩
  rcases q10 : (s.toList == [120, 99, 104, 103]) with _ | _
  rotate_left
  · clear h1
    go_enter Try.func89, Try.ntmps89
    go_wp2
    go_ret
    exact ⟨rfl, rfl⟩
  rcases q11 : (s.toList == [102, 101, 110, 99, 101]) with _ | _
  rotate_left
  · clear h1
    go_enter Try.func89, Try.ntmps89
    go_wp2
    go_ret
    exact ⟨rfl, rfl⟩
  rcases q12 : (s.toList == [97, 119, 97, 105, 116]) with _ | _
  rotate_left
  · clear h1
    go_enter Try.func89, Try.ntmps89
    go_wp2
    go_ret
    exact ⟨rfl, rfl⟩
  rcases q13 : (s.toList == [105, 102]) with _ | _
  rotate_left
  · clear h1
    go_enter Try.func89, Try.ntmps89
    go_wp2
    go_ret
    exact ⟨rfl, rfl⟩
  rcases q14 : (s.toList == [101, 108, 115, 101]) with _ | _
  rotate_left
  · clear h1
    go_enter Try.func89, Try.ntmps89
    go_wp2
    go_ret
    exact ⟨rfl, rfl⟩
  rcases q15 : (s.toList == [119, 104, 105, 108, 101]) with _ | _
  rotate_left
  · clear h1
    go_enter Try.func89, Try.ntmps89
    go_wp2
    go_ret
    exact ⟨rfl, rfl⟩
  rcases q16 : (s.toList == [108, 111, 111, 112]) with _ | _
  rotate_left
  · clear h1
    go_enter Try.func89, Try.ntmps89
    go_wp2
    go_ret
    exact ⟨rfl, rfl⟩
  rcases q17 : (s.toList == [98, 114, 101, 97, 107]) with _ | _
  rotate_left
  · clear h1
    go_enter Try.func89, Try.ntmps89
    go_wp2
    go_ret
    exact ⟨rfl, rfl⟩
  rcases q18 : (s.toList == [102, 111, 114, 97, 108, 108]) with _ | _
  rotate_left
  · clear h1
    go_enter Try.func89, Try.ntmps89
    go_wp2
    go_ret
    exact ⟨rfl, rfl⟩
  rcases q19 : (s.toList == [101, 120, 105, 115, 116, 115]) with _ | _
  rotate_left
  · clear h1
    go_enter Try.func89, Try.ntmps89
    go_wp2
    go_ret
    exact ⟨rfl, rfl⟩
  rcases q20 : (s.toList == [97, 108, 119, 97, 121, 115]) with _ | _
  rotate_left
  · clear h1
    go_enter Try.func89, Try.ntmps89
    go_wp2
    go_ret
    exact ⟨rfl, rfl⟩
  exfalso
  simp only [q0, q1, q2, q3, q4, q5, q6, q7, q8, q9, q10, q11, q12, q13, q14, q15, q16, q17, q18, q19, q20, Bool.or_self, Bool.false_eq_true] at h1

set_option maxHeartbeats 2000000 in
theorem keyword_no (s : ByteArray) (w : World) (h1 : kw s = false) :
    Calls Try.prog 89 #[.string s] w fun e w' => e = .returned (.bool false) ∧ w = w' := by
  simp only [kw, Bool.or_eq_false_iff] at h1
  obtain ⟨⟨⟨⟨⟨⟨⟨⟨⟨⟨⟨⟨⟨⟨⟨⟨⟨⟨⟨⟨q0, q1⟩, q2⟩, q3⟩, q4⟩, q5⟩, q6⟩, q7⟩, q8⟩, q9⟩, q10⟩, q11⟩, q12⟩, q13⟩, q14⟩, q15⟩, q16⟩, q17⟩, q18⟩, q19⟩, q20⟩ := h1
  go_enter Try.func89, Try.ntmps89
  go_wp2
  go_ret
  exact ⟨rfl, rfl⟩

end Go.Proofs.Ytibkegalbcjmpaa
