/- The walk of the law FnOn. -/
import Derived.Test.YtibhbpgnjikjnaaDoorOnLaw
namespace Go.Proofs.YtibhbpgnjikjnaaDoor.on
open Go.RowKit

set_option maxRecDepth 100000 in
set_option maxHeartbeats 1000000 in
theorem walk (a0 : Option Addr) (len0 cap0 : Nat) (w : World) (r0 : RowOf w a0 len0) (hT : Tab w) (hM : Mx w) :
    Calls Tryd.prog 4 #[.slice a0 len0 cap0] w fun e w' => e = .returned (.bool true) ∧ Below w.heap.size w w' := by
  by_cases h0 : 1048576 < len0
  · have g0 : (1048576 : Int) < (len0 : Int) := by omega
    clear h0 r0 hT hM
    go_enter Tryd.func4, Tryd.ntmps4
    go_wp2
    go_ret
    exact ⟨rfl, Below.refl _ _⟩
  exact on_walk a0 len0 cap0 w ⟨hT, hM⟩ (by omega) r0
end Go.Proofs.YtibhbpgnjikjnaaDoor.on
