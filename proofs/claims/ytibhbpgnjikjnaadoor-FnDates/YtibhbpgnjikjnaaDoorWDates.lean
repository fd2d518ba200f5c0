/- The walk of the law FnDates. -/
import Derived.Test.YtibhbpgnjikjnaaDoorDatesLaw
namespace Go.Proofs.YtibhbpgnjikjnaaDoor.dates
open Go.RowKit

set_option maxRecDepth 100000 in
set_option maxHeartbeats 1000000 in
theorem walk (a0 : Option Addr) (len0 cap0 : Nat) (a1 : Option Addr) (len1 cap1 : Nat) (w : World) (r0 : RowOf w a0 len0) (r1 : RowOf w a1 len1) (hT : Tab w) :
    Calls Tryd.prog 3 #[.slice a0 len0 cap0, .slice a1 len1 cap1] w fun e w' => e = .returned (.bool true) ∧ Below w.heap.size w w' := by
  by_cases h0 : 1048576 < len0
  · have g0 : (1048576 : Int) < (len0 : Int) := by omega
    clear h0 r0 r1 hT
    go_enter Tryd.func3, Tryd.ntmps3
    go_wp2
    go_ret
    exact ⟨rfl, Below.refl _ _⟩
  by_cases h1 : 1048576 < len1
  · have g0 : ¬ (1048576 : Int) < (len0 : Int) := by omega
    have g1 : (1048576 : Int) < (len1 : Int) := by omega
    clear h0 h1 r0 r1 hT
    go_enter Tryd.func3, Tryd.ntmps3
    go_wp2
    go_ret
    exact ⟨rfl, Below.refl _ _⟩
  exact dates_walk a0 a1 len0 cap0 len1 cap1 w hT (by omega) (by omega) r0 r1
end Go.Proofs.YtibhbpgnjikjnaaDoor.dates
