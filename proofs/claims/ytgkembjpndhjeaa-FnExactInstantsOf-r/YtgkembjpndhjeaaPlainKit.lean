/- What the plain rows share. -/
import Derived.Test.YtgkembjpndhjeaaRows
import Derived.Test.YtgkembjpndhjeaaBasic
import Derived.ProofKit
import Derived.OpenShut
import Derived.ShutString
namespace Go.Proofs.Ytgkembjpndhjeaa
theorem own : ownKnob Try.prog.godebug = none := by kernel_rfl
theorem laidOut : laidOutB Try.prog = true := by kernel_rfl
end Go.Proofs.Ytgkembjpndhjeaa
