/- What the plain rows share. -/
import Derived.Test.YtjfonbnmdcpepaaRows
import Derived.Test.YtjfonbnmdcpepaaBasic
import Derived.ProofKit
import Derived.OpenShut
import Derived.ShutString
namespace Go.Proofs.Ytjfonbnmdcpepaa
theorem own : ownKnob Try.prog.godebug = none := by kernel_rfl
theorem laidOut : laidOutB Try.prog = true := by kernel_rfl
end Go.Proofs.Ytjfonbnmdcpepaa
