/-
  DERIVED. GIVEN WITH THE SEED: THE CARDS: each row of YtfghkjmbbfidoaaGreatDoorRows.lean that lists a variable, with what it lists TIED to the program's text (the seventh form; the later family's looks); each row that meets fmt, with fmt's text TOLD by the authors' own Lean function (tested against real Go, not proved from fmt's source: count such statements apart). THE CARD IS WHAT COUNTS. Prove the row's statement (the work); the ties are given (YtfghkjmbbfidoaaGreatDoorTie.lean); close each card by the builder's one call (the guide's Derived/Test/ToyasCard.lean, 'card_holds'). Laid BY PROGRAM, IN A SANDBOX (cutbox-door.mjs). By AI agents, Wed Nov 11 2026. No macro, syntax, notation, axiom, sorry.
-/
import Derived.Test.YtfghkjmbbfidoaaGreatDoorRows
import GoSem.ClaimSeven
namespace Go.Proofs.YtfghkjmbbfidoaaGreatDoor
namespace Rows

/-- THE TIED CARD OF 'laws.FnExactBatch'. -/
def fnExactBatchCard : Claim7 := { stood := { row := fnExactBatchRow, standIns := [], harness := (true, "af7d031535b688dfdc7555f938f655a81d21bb1900978a986ddf2ec07770e645"), looks := false }, kinds := [], alts := [], laidByText := true, laidKinds := [.data, .data, .pinned], laidTests := true, laidLooks := .later }
def FnExactBatchCardSaid : Prop := Claim7.holds Tryz.pinned (.plain (OpenSpec.ofChange fnExactBatchSpec)) fnExactBatchCard

/-- THE SECOND FORM's CARD OF 'laws.FnExactBatch'. -/
def fnExactBatchUptoCard : Claim7 := { stood := { row := fnExactBatchUptoRow, standIns := [], harness := (true, "af7d031535b688dfdc7555f938f655a81d21bb1900978a986ddf2ec07770e645"), looks := false }, kinds := [], alts := [], laidByText := true, laidKinds := [.data, .data, .pinned], laidTests := true, laidLooks := .later }
def FnExactBatchUptoCardSaid : Prop := Claim7.holds Tryz.pinned (.plain (OpenSpec.upto fnExactBatchSpec)) fnExactBatchUptoCard
end Rows
end Go.Proofs.YtfghkjmbbfidoaaGreatDoor
