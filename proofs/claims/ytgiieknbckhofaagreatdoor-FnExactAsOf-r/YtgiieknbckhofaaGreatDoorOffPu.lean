/- Packed. -/
import Derived.OpenShut
import Derived.Lib.BufferOwn
import Derived.Lib.HexFns2
import Derived.Deep.AppendLies
import Derived.Test.YtgiieknbckhofaaGreatDoorRight1u
import Derived.Test.YtgiieknbckhofaaGreatDoorOnPu
set_option maxHeartbeats 20000000
set_option linter.unusedSimpArgs false
namespace Go.Proofs.YtgiieknbckhofaaGreatDoor
section
open Go.RowKit
def scan (s : ByteArray) : Nat -> List ByteArray × Nat
 | 0 => ([], 0)
 | k + 1 => if jae s k = 58 then ((scan s k).1 ++ [s.extract (scan s k).2 k], k + 1) else scan s k
def parts (s : ByteArray) : List ByteArray := (scan s s.size).1 ++ [s.extract (scan s s.size).2 s.size]
end
section
open Go.RowKit
theorem jlt (n : Int) (w : World) :
  Cl 121 #[iv n] w fun e w' => e = .returned (.bool (isB n (-62135596800) 253402300799)) /\ w' = w := by
 go_enter Tryz.func121, Tryz.ntmps121
 go_wp2_with (go_at_call 41; refine (jau _ _ _ _).mono ?_; rintro e w' ⟨rfl, rfl⟩)
 go_ret
 exact ⟨rfl, rfl⟩
end
end Go.Proofs.YtgiieknbckhofaaGreatDoor
