/- What the plain rows share. -/
import Derived.Test.YtckkicfblpbnhaaRows
import Derived.Test.YtckkicfblpbnhaaBasic
import Derived.ProofKit
import Derived.OpenShut
import Derived.ShutString
namespace Go.Proofs.Ytckkicfblpbnhaa
theorem own : ownKnob Try.prog.godebug = none := by kernel_rfl
theorem laidOut : laidOutB Try.prog = true := by kernel_rfl
end Go.Proofs.Ytckkicfblpbnhaa
