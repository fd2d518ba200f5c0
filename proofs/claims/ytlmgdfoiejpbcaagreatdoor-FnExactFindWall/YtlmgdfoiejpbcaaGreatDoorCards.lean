/-
  DERIVED. GIVEN WITH THE SEED: THE CARDS: each row of YtlmgdfoiejpbcaaGreatDoorRows.lean that lists a variable, with what it lists TIED to the program's text (the seventh form; the later family's looks); each row that meets fmt, with fmt's text TOLD by the authors' own Lean function (tested against real Go, not proved from fmt's source: count such statements apart). THE CARD IS WHAT COUNTS. Prove the row's statement (the work); the ties are given (YtlmgdfoiejpbcaaGreatDoorTie.lean); close each card by the builder's one call (the guide's Derived/Test/ToyasCard.lean, 'card_holds'). Laid BY PROGRAM, IN A SANDBOX (cutbox-door.mjs). By AI agents, Wed Nov 11 2026. No macro, syntax, notation, axiom, sorry.
-/
import Derived.Test.YtlmgdfoiejpbcaaGreatDoorRows
import GoSem.ClaimSeven
namespace Go.Proofs.YtlmgdfoiejpbcaaGreatDoor
namespace Rows

/-- THE TIED CARD OF 'laws.FnExactFindWall'. -/
def fnExactFindWallCard : Claim7 := { stood := { row := fnExactFindWallRow, standIns := [], harness := (true, "7ef8731e85af77b5feb24d35cec5e5f3aeb7f5a21e7277c19772f8df4df1974e"), looks := false }, kinds := [], alts := [], laidByText := true, laidKinds := [.data, .data, .pinned], laidTests := true, laidLooks := .later }
def FnExactFindWallCardSaid : Prop := Claim7.holds Tryz.pinned (.plain (OpenSpec.ofChange fnExactFindWallSpec)) fnExactFindWallCard

/-- THE SECOND FORM's CARD OF 'laws.FnExactFindWall'. -/
def fnExactFindWallUptoCard : Claim7 := { stood := { row := fnExactFindWallUptoRow, standIns := [], harness := (true, "7ef8731e85af77b5feb24d35cec5e5f3aeb7f5a21e7277c19772f8df4df1974e"), looks := false }, kinds := [], alts := [], laidByText := true, laidKinds := [.data, .data, .pinned], laidTests := true, laidLooks := .later }
def FnExactFindWallUptoCardSaid : Prop := Claim7.holds Tryz.pinned (.plain (OpenSpec.upto fnExactFindWallSpec)) fnExactFindWallUptoCard
end Rows
end Go.Proofs.YtlmgdfoiejpbcaaGreatDoor
