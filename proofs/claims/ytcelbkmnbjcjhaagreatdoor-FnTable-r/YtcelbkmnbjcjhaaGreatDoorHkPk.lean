/- Packed: Hp19 Hp20. -/
import Derived.Test.YtcelbkmnbjcjhaaGreatDoorMapPk
import Derived.Test.YtcelbkmnbjcjhaaGreatDoorHpRk
import Derived.Test.YtcelbkmnbjcjhaaGreatDoorHpUk
import Derived.Test.YtcelbkmnbjcjhaaGreatDoorMarkPk
namespace Go.Proofs.YtcelbkmnbjcjhaaGreatDoor
open Go.RowKit

end Go.Proofs.YtcelbkmnbjcjhaaGreatDoor
namespace Go.Proofs.YtcelbkmnbjcjhaaGreatDoor
open Go.RowKit

end Go.Proofs.YtcelbkmnbjcjhaaGreatDoor
