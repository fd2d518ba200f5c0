/-
  DERIVED. GIVEN WITH THE SEED: THE CARDS: each row of YtpejeokacilebaaGreatDoorRows.lean that lists a variable, with what it lists TIED to the program's text (the seventh form; the later family's looks); each row that meets fmt, with fmt's text TOLD by the authors' own Lean function (tested against real Go, not proved from fmt's source: count such statements apart). THE CARD IS WHAT COUNTS. Prove the row's statement (the work); the ties are given (YtpejeokacilebaaGreatDoorTie.lean); close each card by the builder's one call (the guide's Derived/Test/ToyasCard.lean, 'card_holds'). Laid BY PROGRAM, IN A SANDBOX (cutbox-door.mjs). By AI agents, Wed Nov 11 2026. No macro, syntax, notation, axiom, sorry.
-/
import Derived.Test.YtpejeokacilebaaGreatDoorRows
import GoSem.ClaimSeven
namespace Go.Proofs.YtpejeokacilebaaGreatDoor
namespace Rows

/-- THE TIED CARD OF 'laws.FnExactStoreRight'. -/
def fnExactStoreRightCard : Claim7 := { stood := { row := fnExactStoreRightRow, standIns := [], harness := (true, "7d1b25a21a3844252a754f01d187c98240804388e9d39df8ae759ca67e197d9c"), looks := false }, kinds := [], alts := [], laidByText := true, laidKinds := [.data, .data, .pinned], laidTests := true, laidLooks := .later }
def FnExactStoreRightCardSaid : Prop := Claim7.holds Tryz.pinned (.plain (OpenSpec.ofChange fnExactStoreRightSpec)) fnExactStoreRightCard

/-- THE SECOND FORM's CARD OF 'laws.FnExactStoreRight'. -/
def fnExactStoreRightUptoCard : Claim7 := { stood := { row := fnExactStoreRightUptoRow, standIns := [], harness := (true, "7d1b25a21a3844252a754f01d187c98240804388e9d39df8ae759ca67e197d9c"), looks := false }, kinds := [], alts := [], laidByText := true, laidKinds := [.data, .data, .pinned], laidTests := true, laidLooks := .later }
def FnExactStoreRightUptoCardSaid : Prop := Claim7.holds Tryz.pinned (.plain (OpenSpec.upto fnExactStoreRightSpec)) fnExactStoreRightUptoCard
end Rows
end Go.Proofs.YtpejeokacilebaaGreatDoor
