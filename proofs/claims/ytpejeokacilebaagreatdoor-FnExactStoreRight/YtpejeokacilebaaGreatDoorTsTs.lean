/- Packed. -/
import Derived.Test.YtpejeokacilebaaGreatDoorTbSs
import Derived.Test.YtpejeokacilebaaGreatDoorMarkPs
import Derived.Test.YtpejeokacilebaaGreatDoorTabPs
import Derived.Test.YtpejeokacilebaaGreatDoorHpUs
import Derived.Test.YtpejeokacilebaaGreatDoorTs7s
import Derived.Test.YtpejeokacilebaaGreatDoorTs8s
set_option maxHeartbeats 20000000
set_option linter.unusedSimpArgs false
namespace Go.Proofs.YtpejeokacilebaaGreatDoor
section
open Go.RowKit
theorem tabC : TabC := ⟨fun r zn E ae ce a b0 c ca cb cc w hv hE hr hrl hon hP hl hU => spec_l03Table r zn E ae ce a b0 c ca cb cc w hv hE hr hrl hon hP hl hU⟩
end
end Go.Proofs.YtpejeokacilebaaGreatDoor
