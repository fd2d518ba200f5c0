/- What the plain rows share. -/
import Derived.Test.YtibhbpgnjikjnaaRows
import Derived.Test.YtibhbpgnjikjnaaBasic
import Derived.ProofKit
import Derived.OpenShut
import Derived.ShutString
namespace Go.Proofs.Ytibhbpgnjikjnaa
theorem own : ownKnob Try.prog.godebug = none := by kernel_rfl
theorem laidOut : laidOutB Try.prog = true := by kernel_rfl
end Go.Proofs.Ytibhbpgnjikjnaa
