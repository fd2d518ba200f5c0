/- The walk of the law FnExactTimeText. -/
import Derived.Test.YtibhbpgnjikjnaaDoorTimeText
namespace Go.Proofs.YtibhbpgnjikjnaaDoor.timeText
open Go.RowKit

set_option maxHeartbeats 400000 in
theorem walk (n : Int) (w : World) (hT : Tab w) (hP : Pow w) :
    Calls Tryd.prog 10 #[.int .i64 n] w fun e w' => e = .returned (.bool true) ∧ Below w.heap.size w w' := by
  have hI := fun w h h2 => impl_TimeText n w h h2
  have hS := fun w => spec_TimeText n w
  generalize timeV n = t at *
  go_enter Tryd.func10, Tryd.ntmps10
  go_wp2_with fail
  refine (hS _).mono ?_
  rintro e w1 ⟨rfl, hb1⟩
  go_wp2_with fail
  refine (hI _ (hT.of_below hb1) (hP.of_below hb1)).mono ?_
  rintro e w2 ⟨rfl, hb2⟩
  go_wp2
  go_ret
  exact ⟨rfl, hb1.trans (hb2.mono hb1.size)⟩
end Go.Proofs.YtibhbpgnjikjnaaDoor.timeText
