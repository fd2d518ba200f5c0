/- The walk of the law FnExactOffsetText. -/
import Derived.Test.YtibhbpgnjikjnaaDoorOffText
namespace Go.Proofs.YtibhbpgnjikjnaaDoor.offsetText
open Go.RowKit

set_option maxHeartbeats 400000 in
theorem walk (n : Int) (w : World) (hP : Pow w) :
    Calls Tryd.prog 12 #[.int .i64 n] w fun e w' => e = .returned (.bool true) ∧ Below w.heap.size w w' := by
  have hI := fun w h => impl_OffsetText n w h
  have hS := fun w => spec_OffsetText n w
  generalize offV n = t at *
  go_enter Tryd.func12, Tryd.ntmps12
  go_wp2_with fail
  refine (hS _).mono ?_
  rintro e w1 ⟨rfl, hb1⟩
  go_wp2_with fail
  refine (hI _ (hP.of_below hb1)).mono ?_
  rintro e w2 ⟨rfl, hb2⟩
  go_wp2
  go_ret
  exact ⟨rfl, hb1.trans (hb2.mono hb1.size)⟩
end Go.Proofs.YtibhbpgnjikjnaaDoor.offsetText
