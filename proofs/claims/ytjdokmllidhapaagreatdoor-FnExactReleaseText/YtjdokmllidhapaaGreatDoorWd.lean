/- Contracts of the weekdays, the program's and the model's. -/
import Derived.Test.YtjdokmllidhapaaGreatDoorBasic
namespace Go.Proofs.YtjdokmllidhapaaGreatDoor
open Go.RowKit

/-- the weekday of a day's number, -1 outside. -/
def wdv (n : Int) : Int := if isB n (-719162) 2932896 = true then (n + 719163) % 7 else -1
theorem wdv_ok {n : Int} (h1 : -719162 ≤ n) (h2 : n ≤ 2932896) : wdv n = (n + 719163) % 7 := by unfold wdv; rw [if_pos (isB_t h1 h2)]
theorem wdv_no {n : Int} (h : ¬ (-719162 ≤ n ∧ n ≤ 2932896)) : wdv n = -1 := by unfold wdv; rw [isB_f h]; rfl

set_option maxHeartbeats 400000 in
theorem impl_Weekday (n : Int) (w : World) :
    Calls Tryz.prog 304 #[.int .i64 n] w fun e w' => e = .returned (.int .i64 (wdv n)) ∧ w' = w := by
  by_cases h1 : n < -719162
  · rw [wdv_no (by omega)]
    go_enter Tryz.func304, Tryz.ntmps304
    go_wp2
    go_ret
    exact ⟨rfl, rfl⟩
  by_cases h2 : 2932896 < n
  · rw [wdv_no (by omega)]
    go_enter Tryz.func304, Tryz.ntmps304
    go_wp2
    go_ret
    exact ⟨rfl, rfl⟩
  · rw [wdv_ok (by omega) (by omega)]
    go_enter Tryz.func304, Tryz.ntmps304
    go_wp2
    go_ret
    exact ⟨ret_int (by omega), rfl⟩
set_option maxHeartbeats 400000 in
theorem spec_l01Weekday (n : Int) (w : World) (h1 : -800000 ≤ n) (h2 : n ≤ 3000000) :
    Calls Tryz.prog 230 #[.int .i64 n] w fun e w' => e = .returned (.int .i64 ((n + 719163) % 7)) ∧ w' = w := by
  go_enter Tryz.func230, Tryz.ntmps230
  go_wp2
  go_ret
  exact ⟨ret_int (by omega), rfl⟩
end Go.Proofs.YtjdokmllidhapaaGreatDoor
