/- What the plain rows share. -/
import Derived.Test.YtjmpolcaclghhaaRows
import Derived.Test.YtjmpolcaclghhaaBasic
import Derived.ProofKit
import Derived.OpenShut
import Derived.ShutString
namespace Go.Proofs.Ytjmpolcaclghhaa
theorem own : ownKnob Try.prog.godebug = none := by kernel_rfl
theorem laidOut : laidOutB Try.prog = true := by kernel_rfl
end Go.Proofs.Ytjmpolcaclghhaa
