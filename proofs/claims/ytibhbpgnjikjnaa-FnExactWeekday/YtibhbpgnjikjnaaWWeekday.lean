/- The walk of the law FnExactWeekday. -/
import Derived.Test.YtibhbpgnjikjnaaWd
namespace Go.Proofs.Ytibhbpgnjikjnaa.weekday
open Go.RowKit

set_option maxHeartbeats 400000 in
theorem walk (n : Int) (w : World) :
    Calls Try.prog 4 #[.int .i64 n] w fun e w' => e = .returned (.bool true) ∧ Below w.heap.size w w' := by
  go_enter Try.func4, Try.ntmps4
  go_wp2_with (first | (go_at_call 9; refine (impl_Weekday _ _).mono ?_; rintro e w' ⟨rfl, rfl⟩) | (go_at_call 8; refine (spec_Weekday _ _).mono ?_; rintro e w' ⟨rfl, rfl⟩))
  go_ret
  exact ⟨rfl, Below.refl _ _⟩
end Go.Proofs.Ytibhbpgnjikjnaa.weekday
