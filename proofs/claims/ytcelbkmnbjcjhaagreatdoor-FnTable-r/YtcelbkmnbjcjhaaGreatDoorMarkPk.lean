/- Packed: Touch Mark0 MarkHap MarkRule MarkEra MarkLink MarkRel. -/
import Derived.Test.YtcelbkmnbjcjhaaGreatDoorRelPk
import Derived.Sort.Row
import Derived.Test.YtcelbkmnbjcjhaaGreatDoorBasePk
import Derived.Laws.IdiomStrings
import Derived.Lib.QuietBelow
namespace Go.Proofs.YtcelbkmnbjcjhaaGreatDoor
open Go.RowKit

end Go.Proofs.YtcelbkmnbjcjhaaGreatDoor
namespace Go.Proofs.YtcelbkmnbjcjhaaGreatDoor
open Go.RowKit

end Go.Proofs.YtcelbkmnbjcjhaaGreatDoor
namespace Go.Proofs.YtcelbkmnbjcjhaaGreatDoor
open Go.RowKit Go.Sort

end Go.Proofs.YtcelbkmnbjcjhaaGreatDoor
namespace Go.Proofs.YtcelbkmnbjcjhaaGreatDoor
open Go.RowKit Go.Sort

end Go.Proofs.YtcelbkmnbjcjhaaGreatDoor
namespace Go.Proofs.YtcelbkmnbjcjhaaGreatDoor
open Go.RowKit Go.Sort

end Go.Proofs.YtcelbkmnbjcjhaaGreatDoor
namespace Go.Proofs.YtcelbkmnbjcjhaaGreatDoor
open Go.RowKit Go.Sort

end Go.Proofs.YtcelbkmnbjcjhaaGreatDoor
namespace Go.Proofs.YtcelbkmnbjcjhaaGreatDoor
open Go.RowKit Go.Sort

def zc (l : List ZoneD) : Nat := (l.map fun z => 1 + 6 * z.eras.length).sum
end Go.Proofs.YtcelbkmnbjcjhaaGreatDoor
