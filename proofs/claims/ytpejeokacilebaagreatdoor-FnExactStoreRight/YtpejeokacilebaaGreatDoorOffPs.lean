/- Packed. -/
import Derived.Test.YtpejeokacilebaaGreatDoorBasePs
import Derived.RegionTactic
import Derived.BigRegion
import Derived.OpenShut
import Derived.Lib.BufferOwn
import Derived.Lib.HexFns2
import Derived.Deep.AppendLies
import Derived.OwnWalk
import Derived.Test.YtpejeokacilebaaGreatDoorShelfK
import Derived.Laws.EntriesVeiled
import Derived.LoopN
import Derived.Laws.OwnMore
import Derived.Test.YtpejeokacilebaaGreatDoorRight1s
import Derived.BigQuiet
import Derived.Test.YtpejeokacilebaaGreatDoorOnPs
import Derived.Deep.Cut
set_option maxHeartbeats 20000000
set_option linter.unusedSimpArgs false
namespace Go.Proofs.YtpejeokacilebaaGreatDoor
section
open Go.RowKit
def scan (s : ByteArray) : Nat -> List ByteArray × Nat
 | 0 => ([], 0)
 | k + 1 => if jad s k = 58 then ((scan s k).1 ++ [s.extract (scan s k).2 k], k + 1) else scan s k
def parts (s : ByteArray) : List ByteArray := (scan s s.size).1 ++ [s.extract (scan s s.size).2 s.size]
end
section
open Go.RowKit
theorem spec_l01TimeR (n : Int) (w : World) :
  Calls Tryz.prog 69 #[.int .i64 n] w fun e w' => e = .returned (.bool (isB n (-62135596800) 253402300799)) /\ w' = w := by
 go_enter Tryz.func69, Tryz.ntmps69
 go_wp2_with (go_at_call 13; refine (jap _ _ _ _).mono ?_; rintro e w' ⟨rfl, rfl⟩)
 go_ret
 exact ⟨rfl, rfl⟩
end
end Go.Proofs.YtpejeokacilebaaGreatDoor
