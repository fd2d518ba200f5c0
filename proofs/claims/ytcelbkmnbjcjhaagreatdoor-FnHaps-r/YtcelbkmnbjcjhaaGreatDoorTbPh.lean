/- Packed: Tb1 Tb2 Tb3 Tb4 Tb5. -/
import Derived.Test.YtcelbkmnbjcjhaaGreatDoorRelPh
import Derived.Test.YtcelbkmnbjcjhaaGreatDoorAbbrPh
import Derived.Lib.MinMax
import Derived.Deep.RegionHeld3
import Derived.Laws.StructEq
namespace Go.Proofs.YtcelbkmnbjcjhaaGreatDoor
open Go.RowKit

end Go.Proofs.YtcelbkmnbjcjhaaGreatDoor
namespace Go.Proofs.YtcelbkmnbjcjhaaGreatDoor
open Go.RowKit Go.Sort

end Go.Proofs.YtcelbkmnbjcjhaaGreatDoor
namespace Go.Proofs.YtcelbkmnbjcjhaaGreatDoor
open Go.RowKit Go.Sort

end Go.Proofs.YtcelbkmnbjcjhaaGreatDoor
namespace Go.Proofs.YtcelbkmnbjcjhaaGreatDoor
open Go.RowKit Go.Sort

end Go.Proofs.YtcelbkmnbjcjhaaGreatDoor
namespace Go.Proofs.YtcelbkmnbjcjhaaGreatDoor
open Go.RowKit Go.Sort

end Go.Proofs.YtcelbkmnbjcjhaaGreatDoor
