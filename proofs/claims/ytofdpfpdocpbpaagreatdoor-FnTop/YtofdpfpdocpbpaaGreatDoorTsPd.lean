/- Packed. -/
import Derived.Test.YtofdpfpdocpbpaaGreatDoorTbPd
import Derived.Lib.QuietBelow
import Derived.Test.YtofdpfpdocpbpaaGreatDoorSAd
import Derived.Test.YtofdpfpdocpbpaaGreatDoorHpPd
set_option maxHeartbeats 20000000
set_option linter.unusedSimpArgs false
namespace Go.Proofs.YtofdpfpdocpbpaaGreatDoor
end Go.Proofs.YtofdpfpdocpbpaaGreatDoor
