/- The walk of the law FnExactFind. -/
import Derived.Test.YthogmaghfiadbaaGreatDoorFKf
set_option maxHeartbeats 20000000
set_option linter.unusedSimpArgs false
namespace Go.Proofs.YthogmaghfiadbaaGreatDoor.find
open Go.RowKit
theorem walk(s:StoreD)(v:Value)(lo:Int)(hi:Int)(w:World)(hv:Jd w v s)(yq:s.ok)(hT:Tab w)(gw:Mx w):
  Cl 3 #[v,iv lo,iv hi] w fun e w'=>e=.returned (.bool true)/\Bw w w':=
 walkF s _ lo hi v w hv yq ⟨hT,gw⟩ (j2p s lo hi) (fun ok v w hE h=>jww j29 s v lo hi w hE h ok) (fun ok v w h=>jxe s v lo hi w h ok)
end Go.Proofs.YthogmaghfiadbaaGreatDoor.find
