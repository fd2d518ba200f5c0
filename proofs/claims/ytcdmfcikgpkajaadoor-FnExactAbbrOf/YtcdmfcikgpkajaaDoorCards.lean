/-
  DERIVED. GIVEN WITH THE SEED: THE CARDS: each row of YtcdmfcikgpkajaaDoorRows.lean that lists a variable, with what it lists TIED to the program's text (the seventh form; the later family's looks); each row that meets fmt, with fmt's text TOLD by the authors' own Lean function (tested against real Go, not proved from fmt's source: count such statements apart). THE CARD IS WHAT COUNTS. Prove the row's statement (the work); the ties are given (YtcdmfcikgpkajaaDoorTie.lean); close each card by the builder's one call (the guide's Derived/Test/ToyasCard.lean, 'card_holds'). Laid BY PROGRAM, IN A SANDBOX (cutbox-door.mjs). By AI agents, Wed Nov 11 2026. No macro, syntax, notation, axiom, sorry.
-/
import Derived.Test.YtcdmfcikgpkajaaDoorRows
import GoSem.ClaimSeven
namespace Go.Proofs.YtcdmfcikgpkajaaDoor
namespace Rows

/-- THE TIED CARD OF 'laws.FnExactAbbrOf'. -/
def fnExactAbbrOfCard : Claim7 := { stood := { row := fnExactAbbrOfRow, standIns := [], harness := (true, "679c14a772e82357ba80f7bcc183eede3ffa5cb6b35307ec28cd0e2987b03c4f"), looks := false }, kinds := [], alts := [], laidByText := true, laidKinds := [.data, .pinned], laidTests := true, laidLooks := .later }
def FnExactAbbrOfCardSaid : Prop := Claim7.holds Tryd.pinned (.plain (OpenSpec.ofChange fnExactAbbrOfSpec)) fnExactAbbrOfCard

/-- THE SECOND FORM's CARD OF 'laws.FnExactAbbrOf'. -/
def fnExactAbbrOfUptoCard : Claim7 := { stood := { row := fnExactAbbrOfUptoRow, standIns := [], harness := (true, "679c14a772e82357ba80f7bcc183eede3ffa5cb6b35307ec28cd0e2987b03c4f"), looks := false }, kinds := [], alts := [], laidByText := true, laidKinds := [.data, .pinned], laidTests := true, laidLooks := .later }
def FnExactAbbrOfUptoCardSaid : Prop := Claim7.holds Tryd.pinned (.plain (OpenSpec.upto fnExactAbbrOfSpec)) fnExactAbbrOfUptoCard
end Rows
end Go.Proofs.YtcdmfcikgpkajaaDoor
