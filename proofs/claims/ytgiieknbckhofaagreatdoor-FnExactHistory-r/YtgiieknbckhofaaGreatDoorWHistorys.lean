/- The walk of the law FnExactHistory. -/
import Derived.Test.YtgiieknbckhofaaGreatDoorSNs
import Derived.Test.YtgiieknbckhofaaGreatDoorSRs
set_option maxHeartbeats 20000000
set_option linter.unusedSimpArgs false
namespace Go.Proofs.YtgiieknbckhofaaGreatDoor.history
open Go.RowKit
theorem walk (s : StoreD) (v : Value) (n : Int) (w : World) (hv : Zx w v s) (nQ : s.ok) (hT : Tab w) (fg : Mx w) :
  Cl 5 #[v, iv n] w fun e w' => e = .returned (.bool true) /\ Bw w w' :=
 walkH s n (storeI s) v w hv nQ ⟨hT, fg⟩ (fun ok v w hE h => jjo s v w hE h ok) (fun ok v w h => by have h2 := jd4 s v w h ok; rw [jkz] at h2; exact h2)
end Go.Proofs.YtgiieknbckhofaaGreatDoor.history
