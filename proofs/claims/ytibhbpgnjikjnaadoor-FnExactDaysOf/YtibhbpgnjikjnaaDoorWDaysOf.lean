/- The walk of the law FnExactDaysOf. -/
import Derived.Test.YtibhbpgnjikjnaaDoorDays
namespace Go.Proofs.YtibhbpgnjikjnaaDoor.daysOf
open Go.RowKit

set_option maxHeartbeats 1000000 in
theorem walk (y m d : Int) (w : World) (hT : Tab w) :
    Calls Tryd.prog 7 #[.agg #[.int .i64 y, .int .i64 m, .int .i64 d]] w fun e w' => e = .returned (.bool true) ∧ Below w.heap.size w w' := by
  go_enter Tryd.func7, Tryd.ntmps7
  go_wp2_with fail
  refine (laws_toDate y m d _).mono ?_
  rintro e w1 ⟨rfl, hb1⟩
  have hc1 := (bcell hb1).1
  have hz1 : w.heap.size < w1.heap.size := by have := hb1.size; simp at this; omega
  go_wp2_with fail
  refine (spec_DaysOf y m d _).mono ?_
  rintro e w2 ⟨rfl, hb2⟩
  have hc2 := (bcell hb2).1
  have hz2 := hb2.size
  go_wp2_with fail
  refine (laws_toDate y m d _).mono ?_
  rintro e w3 ⟨rfl, hb3⟩
  have hB : Below w.heap.size w w3 := (((Below.refl _ _).alloc (Nat.le_refl _) _).trans (hb1.mono (by simp))).trans ((hb2.mono (by omega)).trans (hb3.mono (by omega)))
  go_wp2_with fail
  refine (impl_DaysOf y m d _ (hT.of_below hB)).mono ?_
  rintro e w4 ⟨rfl, hb4⟩
  go_wp2
  go_ret
  exact ⟨rfl, hB.trans (hb4.mono hB.size)⟩
end Go.Proofs.YtibhbpgnjikjnaaDoor.daysOf
