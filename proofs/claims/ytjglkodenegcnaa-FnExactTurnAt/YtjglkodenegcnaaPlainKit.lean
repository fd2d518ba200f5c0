/- What the plain rows share. -/
import Derived.Test.YtjglkodenegcnaaRows
import Derived.Test.YtjglkodenegcnaaBasic
import Derived.ProofKit
import Derived.OpenShut
import Derived.ShutString
namespace Go.Proofs.Ytjglkodenegcnaa
theorem own : ownKnob Try.prog.godebug = none := by kernel_rfl
theorem laidOut : laidOutB Try.prog = true := by kernel_rfl
end Go.Proofs.Ytjglkodenegcnaa
