/- The walk of the law FnExactMonthDays. -/
import Derived.Test.YtibhbpgnjikjnaaDoorDates
namespace Go.Proofs.YtibhbpgnjikjnaaDoor.monthDays
open Go.RowKit

set_option maxHeartbeats 400000 in
theorem walk (y m : Int) (w : World) (hT : Tab w) :
    Calls Tryd.prog 9 #[.int .i64 y, .int .i64 m] w fun e w' => e = .returned (.bool true) ∧ Below w.heap.size w w' := by
  go_enter Tryd.func9, Tryd.ntmps9
  go_wp2_with (first | (go_at_call 22; refine (impl_MonthDays _ _ _ hT).mono ?_; rintro e w' ⟨rfl, rfl⟩) | (go_at_call 23; refine (spec_MonthDays _ _ _).mono ?_; rintro e w' ⟨rfl, rfl⟩))
  go_ret
  exact ⟨rfl, Below.refl _ _⟩
end Go.Proofs.YtibhbpgnjikjnaaDoor.monthDays
