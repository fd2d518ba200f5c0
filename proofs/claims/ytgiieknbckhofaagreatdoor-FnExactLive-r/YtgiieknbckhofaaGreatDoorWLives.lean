/- The walk of the law FnExactLive. -/
import Derived.Test.YtgiieknbckhofaaGreatDoorSNs
import Derived.Test.YtgiieknbckhofaaGreatDoorLWs
set_option maxHeartbeats 20000000
set_option linter.unusedSimpArgs false
namespace Go.Proofs.YtgiieknbckhofaaGreatDoor.live
open Go.RowKit
theorem walk (s : StoreD) (v : Value) (w : World) (hv : Zx w v s) (nQ : s.ok) (hT : Tab w) (fg : Mx w) :
  Cl 3 #[v] w fun e w' => e = .returned (.bool true) /\ Bw w w' :=
 walkL s _ v w hv nQ ⟨hT, fg⟩ (jzq s) (fun ok v w hE h => jwy j3e s v w hE h ok) (fun ok v w h => jvj s v w h fun w h => by have h2 := jd4 s v w h ok; rw [jkz] at h2; exact h2)
end Go.Proofs.YtgiieknbckhofaaGreatDoor.live
