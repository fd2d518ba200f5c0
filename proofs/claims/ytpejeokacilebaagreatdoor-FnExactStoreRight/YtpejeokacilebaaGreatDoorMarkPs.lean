/- Packed. -/
import Derived.Test.YtpejeokacilebaaGreatDoorRelPs
import Derived.Sort.Row
import Derived.Test.YtpejeokacilebaaGreatDoorBasePs
import Derived.Laws.IdiomStrings
import Derived.Lib.QuietBelow
set_option maxHeartbeats 20000000
set_option linter.unusedSimpArgs false
namespace Go.Proofs.YtpejeokacilebaaGreatDoor
section
open Go.RowKit Go.Sort
def zc (l : List ZoneD) : Nat := (l.map fun z => 1 + 6 * z.eras.length).sum
end
end Go.Proofs.YtpejeokacilebaaGreatDoor
