/- What the cards over the tables of unicode/utf8 share: a world for the witness. -/
import Derived.Test.YtibhbpgnjikjnaaDoorCards
import Derived.Test.YtibhbpgnjikjnaaDoorTie
import Derived.Test.YtibhbpgnjikjnaaDoorBasic
import Derived.ProofKit
import Derived.OpenShut
import Derived.ShutString
import Derived.Deep.DeepHandedRow
import Derived.Lib.SmallJoins
namespace Go.Proofs.YtibhbpgnjikjnaaDoor
open Go.ChangeShapes Go.WideShapes Go.ChangeAt Go.RowKit

theorem own : ownKnob Tryd.prog.godebug = none := by kernel_rfl
theorem laidOut : laidOutB Tryd.prog = true := by kernel_rfl
def layAt (w : World) (g : Nat) (cs : Array Value) : World :=
  { w with heap := w.heap.modify g fun
      | .cells _ t frozen => .cells cs t frozen
      | o => o }
/-- the two tables, as their initialisers lay them. -/
def laidUtf (w : World) : World :=
  layAt (layAt w 3 #[.int .u8 128, .int .u8 191, .int .u8 160, .int .u8 191, .int .u8 128, .int .u8 159, .int .u8 144, .int .u8 191, .int .u8 128, .int .u8 143, .int .u8 0, .int .u8 0, .int .u8 0, .int .u8 0, .int .u8 0, .int .u8 0, .int .u8 0, .int .u8 0, .int .u8 0, .int .u8 0, .int .u8 0, .int .u8 0, .int .u8 0, .int .u8 0, .int .u8 0, .int .u8 0, .int .u8 0, .int .u8 0, .int .u8 0, .int .u8 0, .int .u8 0, .int .u8 0])
    2 (Go.Pinned.utf8FirstZ.map fun (n : Nat) => Value.int .u8 n).toArray
end Go.Proofs.YtibhbpgnjikjnaaDoor
