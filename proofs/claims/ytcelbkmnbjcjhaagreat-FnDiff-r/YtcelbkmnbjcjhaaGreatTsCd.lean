/- Packed: Hp19 Hp20 Ts9. -/
import Derived.Test.YtcelbkmnbjcjhaaGreatRelAd
import Derived.Test.YtcelbkmnbjcjhaaGreatHpBd
import Derived.Test.YtcelbkmnbjcjhaaGreatHpCd
import Derived.Test.YtcelbkmnbjcjhaaGreatRightAd
import Derived.Test.YtcelbkmnbjcjhaaGreatTbRd
import Derived.Test.YtcelbkmnbjcjhaaGreatTbSd
import Derived.Test.YtcelbkmnbjcjhaaGreatTabPd
namespace Go.Proofs.YtcelbkmnbjcjhaaGreat
open Go.RowKit

end Go.Proofs.YtcelbkmnbjcjhaaGreat
namespace Go.Proofs.YtcelbkmnbjcjhaaGreat
open Go.RowKit

end Go.Proofs.YtcelbkmnbjcjhaaGreat
namespace Go.Proofs.YtcelbkmnbjcjhaaGreat
open Go.RowKit Go.Sort

end Go.Proofs.YtcelbkmnbjcjhaaGreat
