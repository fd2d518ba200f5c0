/- The walk of the law FnExactAsOf. -/
import Derived.Test.YtgiieknbckhofaaGreatDoorSNu
import Derived.Test.YtgiieknbckhofaaGreatDoorLXu
set_option maxHeartbeats 20000000
set_option linter.unusedSimpArgs false
namespace Go.Proofs.YtgiieknbckhofaaGreatDoor.asOf
open Go.RowKit
theorem walk (s : StoreD) (v : Value) (n : Int) (w : World) (hv : Je w v s) (yr : s.ok) (hT : Tab w) (gM : Mx w) :
  Cl 4 #[v, iv n] w fun e w' => e = .returned (.bool true) /\ Bw w w' :=
 walkA s _ _ n v w hv yr ⟨hT, gM⟩ (j32 s n) (fun ok v w hE h => jwx j3d s v n w hE h ok) (fun ok v w h => jvf s v n w h fun w h => by have h2 := jh9 s v w h ok; rw [js3] at h2; exact h2)
end Go.Proofs.YtgiieknbckhofaaGreatDoor.asOf
