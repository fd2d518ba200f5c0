/-
  DERIVED. GIVEN WITH THE SEED: THE CARDS: each row of YtfdnniedcfeiiaaDoorRows.lean that lists a variable, with what it lists TIED to the program's text (the seventh form; the later family's looks); each row that meets fmt, with fmt's text TOLD by the authors' own Lean function (tested against real Go, not proved from fmt's source: count such statements apart). THE CARD IS WHAT COUNTS. Prove the row's statement (the work); the ties are given (YtfdnniedcfeiiaaDoorTie.lean); close each card by the builder's one call (the guide's Derived/Test/ToyasCard.lean, 'card_holds'). Laid BY PROGRAM, IN A SANDBOX (cutbox-door.mjs). By AI agents, Wed Nov 11 2026. No macro, syntax, notation, axiom, sorry.
-/
import Derived.Test.YtfdnniedcfeiiaaDoorRows
import GoSem.ClaimSeven
namespace Go.Proofs.YtfdnniedcfeiiaaDoor
namespace Rows

/-- THE TIED CARD OF 'laws.FnExactDeskLines'. -/
def fnExactDeskLinesCard : Claim7 := { stood := { row := fnExactDeskLinesRow, standIns := [], harness := (true, "d624282c52cae24350b38bd5874a831a0132cab43e7ac595c87a894196d2505d"), looks := false }, kinds := [], alts := [], laidByText := true, laidKinds := [.sentinel], laidTests := true, laidLooks := .later }
def FnExactDeskLinesCardSaid : Prop := Claim7.holds Tryd.pinned (.plain (OpenSpec.ofChange fnExactDeskLinesSpec)) fnExactDeskLinesCard

/-- THE SECOND FORM's CARD OF 'laws.FnExactDeskLines'. -/
def fnExactDeskLinesUptoCard : Claim7 := { stood := { row := fnExactDeskLinesUptoRow, standIns := [], harness := (true, "d624282c52cae24350b38bd5874a831a0132cab43e7ac595c87a894196d2505d"), looks := false }, kinds := [], alts := [], laidByText := true, laidKinds := [.sentinel], laidTests := true, laidLooks := .later }
def FnExactDeskLinesUptoCardSaid : Prop := Claim7.holds Tryd.pinned (.plain (OpenSpec.upto fnExactDeskLinesSpec)) fnExactDeskLinesUptoCard
end Rows
end Go.Proofs.YtfdnniedcfeiiaaDoor
