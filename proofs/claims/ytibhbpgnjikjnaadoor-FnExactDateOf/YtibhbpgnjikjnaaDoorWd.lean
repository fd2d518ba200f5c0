/- Contracts of the weekdays, the program's and the model's. -/
import Derived.Test.YtibhbpgnjikjnaaDoorBasic
namespace Go.Proofs.YtibhbpgnjikjnaaDoor
open Go.RowKit

/-- the weekday of a day's number, -1 outside. -/
def wdv (n : Int) : Int := if isB n (-719162) 2932896 = true then (n + 719163) % 7 else -1
theorem wdv_ok {n : Int} (h1 : -719162 ≤ n) (h2 : n ≤ 2932896) : wdv n = (n + 719163) % 7 := by unfold wdv; rw [if_pos (isB_t h1 h2)]
theorem wdv_no {n : Int} (h : ¬ (-719162 ≤ n ∧ n ≤ 2932896)) : wdv n = -1 := by unfold wdv; rw [isB_f h]; rfl

set_option maxHeartbeats 400000 in
theorem impl_Weekday (n : Int) (w : World) :
    Calls Tryd.prog 24 #[.int .i64 n] w fun e w' => e = .returned (.int .i64 (wdv n)) ∧ w' = w := by
  by_cases h1 : n < -719162
  · rw [wdv_no (by omega)]
    go_enter Tryd.func24, Tryd.ntmps24
    go_wp2
    go_ret
    exact ⟨rfl, rfl⟩
  by_cases h2 : 2932896 < n
  · rw [wdv_no (by omega)]
    go_enter Tryd.func24, Tryd.ntmps24
    go_wp2
    go_ret
    exact ⟨rfl, rfl⟩
  · rw [wdv_ok (by omega) (by omega)]
    go_enter Tryd.func24, Tryd.ntmps24
    go_wp2
    go_ret
    exact ⟨ret_int (by omega), rfl⟩
set_option maxHeartbeats 400000 in
theorem spec_l01Day (n : Int) (w : World) :
    Calls Tryd.prog 51 #[.int .i64 n] w fun e w' => e = .returned (.bool (isB n (-719162) 2932896)) ∧ w' = w := by
  go_enter Tryd.func51, Tryd.ntmps51
  go_wp2_with (go_at_call 55; refine (spec_l01Is _ _ _ _).mono ?_; rintro e w' ⟨rfl, rfl⟩)
  go_ret
  exact ⟨rfl, rfl⟩
theorem spec_l01Day_v {n : Int} {b : Bool} (h : isB n (-719162) 2932896 = b) (w : World) :
    Calls Tryd.prog 51 #[.int .i64 n] w fun e w' => e = .returned (.bool b) ∧ w' = w := h ▸ spec_l01Day n w
set_option maxHeartbeats 400000 in
theorem spec_l01Weekday (n : Int) (w : World) (h1 : -800000 ≤ n) (h2 : n ≤ 3000000) :
    Calls Tryd.prog 58 #[.int .i64 n] w fun e w' => e = .returned (.int .i64 ((n + 719163) % 7)) ∧ w' = w := by
  go_enter Tryd.func58, Tryd.ntmps58
  go_wp2
  go_ret
  exact ⟨ret_int (by omega), rfl⟩
set_option maxHeartbeats 400000 in
theorem spec_Weekday (n : Int) (w : World) :
    Calls Tryd.prog 25 #[.int .i64 n] w fun e w' => e = .returned (.int .i64 (wdv n)) ∧ w' = w := by
  cases h : isB n (-719162) 2932896
  · rw [wdv_no (isB_of_f h)]
    have hD := fun w => spec_l01Day_v h w
    clear h
    go_enter Tryd.func25, Tryd.ntmps25
    go_wp2_with (go_at_call 51; refine (hD _).mono ?_; rintro e w' ⟨rfl, rfl⟩)
    go_ret
    exact ⟨rfl, rfl⟩
  · have ⟨h1, h2⟩ := isB_of_t h
    rw [wdv_ok h1 h2]
    have hD := fun w => spec_l01Day_v h w
    clear h
    go_enter Tryd.func25, Tryd.ntmps25
    go_wp2_with (first | (go_at_call 51; refine (hD _).mono ?_; rintro e w' ⟨rfl, rfl⟩) | (go_at_call 58; refine (spec_l01Weekday _ _ (by omega) (by omega)).mono ?_; rintro e w' ⟨rfl, rfl⟩))
    go_ret
    exact ⟨rfl, rfl⟩

end Go.Proofs.YtibhbpgnjikjnaaDoor
