/- The walk of the law FnExactAbbrOf. -/
import Derived.Test.YtibhbpgnjikjnaaDoorAbbr2
namespace Go.Proofs.YtibhbpgnjikjnaaDoor.abbrOf
open Go.RowKit

set_option maxHeartbeats 1000000 in
theorem walk (f l : ByteArray) (save : Int) (w : World) (hf : f.size ≤ maxLen) (hl : l.size ≤ maxLen) (hM : MxA w) :
    Calls Tryd.prog 13 #[.string f, .string l, .int .i64 save] w fun e w' => e = .returned (.bool true) ∧ Below w.heap.size w w' := by
  unfold maxLen at hf hl
  by_cases h1 : 1048576 < f.size
  · go_enter Tryd.func13, Tryd.ntmps13
    go_wp2
    go_ret
    exact ⟨rfl, Below.refl _ _⟩
  by_cases h2 : 1048576 < l.size
  · go_enter Tryd.func13, Tryd.ntmps13
    go_wp2
    go_ret
    exact ⟨rfl, Below.refl _ _⟩
  have hS := fun w => spec_AbbrOf f l save w (by omega) (by omega)
  have hI := fun w h => impl_AbbrOf f l save w h (by omega) (by omega)
  generalize abbrD f l save = x at *
  go_enter Tryd.func13, Tryd.ntmps13
  go_wp2_with fail
  refine (hS _).mono ?_
  rintro e w1 ⟨rfl, hb1⟩
  go_wp2_with fail
  refine (hI _ (hM.of_below hb1)).mono ?_
  rintro e w2 ⟨rfl, hb2⟩
  go_wp2
  go_ret
  exact ⟨rfl, hb1.trans (hb2.mono hb1.size)⟩
end Go.Proofs.YtibhbpgnjikjnaaDoor.abbrOf
