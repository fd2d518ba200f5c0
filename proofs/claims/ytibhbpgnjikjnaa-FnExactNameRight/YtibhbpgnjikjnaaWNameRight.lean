/- The walk of the law FnExactNameRight. -/
import Derived.Test.YtibhbpgnjikjnaaNames
namespace Go.Proofs.Ytibhbpgnjikjnaa.nameRight
open Go.RowKit

set_option maxHeartbeats 400000 in
theorem walk (s : ByteArray) (w : World) (hs : s.size ≤ maxLen) :
    Calls Try.prog 3 #[.string s] w fun e w' => e = .returned (.bool true) ∧ Below w.heap.size w w' := by
  have hI := fun w => impl_NameRight s w hs
  have hS := fun w => spec_NameRight s w hs
  unfold maxLen at hs
  generalize nameB s = b at *
  by_cases h : 1048576 < s.size
  · go_enter Try.func3, Try.ntmps3
    go_wp2
    go_ret
    exact ⟨rfl, Below.refl _ _⟩
  · go_enter Try.func3, Try.ntmps3
    go_wp2_with (first | (go_at_call 7; refine (hI _).mono ?_; rintro e w' ⟨rfl, rfl⟩) | (go_at_call 6; refine (hS _).mono ?_; rintro e w' ⟨rfl, rfl⟩))
    go_ret
    exact ⟨rfl, Below.refl _ _⟩
end Go.Proofs.Ytibhbpgnjikjnaa.nameRight
