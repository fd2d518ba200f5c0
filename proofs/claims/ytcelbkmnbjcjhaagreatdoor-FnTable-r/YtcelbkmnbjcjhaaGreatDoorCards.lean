/-
  DERIVED. GIVEN WITH THE SEED: THE CARDS: each row of YtcelbkmnbjcjhaaGreatDoorRows.lean that lists a variable, with what it lists TIED to the program's text (the seventh form; the later family's looks); each row that meets fmt, with fmt's text TOLD by the authors' own Lean function (tested against real Go, not proved from fmt's source: count such statements apart). THE CARD IS WHAT COUNTS. Prove the row's statement (the work); the ties are given (YtcelbkmnbjcjhaaGreatDoorTie.lean); close each card by the builder's one call (the guide's Derived/Test/ToyasCard.lean, 'card_holds'). Laid BY PROGRAM, IN A SANDBOX (cutbox-door.mjs). By AI agents, Wed Nov 11 2026. No macro, syntax, notation, axiom, sorry.
-/
import Derived.Test.YtcelbkmnbjcjhaaGreatDoorRows
import GoSem.ClaimSeven
namespace Go.Proofs.YtcelbkmnbjcjhaaGreatDoor
namespace Rows

/-- THE TIED CARD OF 'laws.FnHaps'. -/
def fnHapsCard : Claim7 := { stood := { row := fnHapsRow, standIns := [], harness := (true, "7a76a2ca7dee91d8ff62456ba255de2553ddce1f1f7693cf99dee85bc727a7ef"), looks := false }, kinds := [], alts := [], laidByText := true, laidKinds := [.data, .data, .pinned], laidTests := true, laidLooks := .later }
def FnHapsCardSaid : Prop := Claim7.holds Tryz.pinned (.plain (OpenSpec.ofChange fnHapsSpec)) fnHapsCard

/-- THE TIED CARD OF 'laws.FnTable'. -/
def fnTableCard : Claim7 := { stood := { row := fnTableRow, standIns := [], harness := (true, "7a76a2ca7dee91d8ff62456ba255de2553ddce1f1f7693cf99dee85bc727a7ef"), looks := false }, kinds := [], alts := [], laidByText := true, laidKinds := [.data, .data, .pinned], laidTests := true, laidLooks := .later }
def FnTableCardSaid : Prop := Claim7.holds Tryz.pinned (.plain (OpenSpec.ofChange fnTableSpec)) fnTableCard

/-- THE SECOND FORM's CARD OF 'laws.FnHaps'. -/
def fnHapsUptoCard : Claim7 := { stood := { row := fnHapsUptoRow, standIns := [], harness := (true, "7a76a2ca7dee91d8ff62456ba255de2553ddce1f1f7693cf99dee85bc727a7ef"), looks := false }, kinds := [], alts := [], laidByText := true, laidKinds := [.data, .data, .pinned], laidTests := true, laidLooks := .later }
def FnHapsUptoCardSaid : Prop := Claim7.holds Tryz.pinned (.plain (OpenSpec.upto fnHapsSpec)) fnHapsUptoCard

/-- THE SECOND FORM's CARD OF 'laws.FnTable'. -/
def fnTableUptoCard : Claim7 := { stood := { row := fnTableUptoRow, standIns := [], harness := (true, "7a76a2ca7dee91d8ff62456ba255de2553ddce1f1f7693cf99dee85bc727a7ef"), looks := false }, kinds := [], alts := [], laidByText := true, laidKinds := [.data, .data, .pinned], laidTests := true, laidLooks := .later }
def FnTableUptoCardSaid : Prop := Claim7.holds Tryz.pinned (.plain (OpenSpec.upto fnTableSpec)) fnTableUptoCard
end Rows
end Go.Proofs.YtcelbkmnbjcjhaaGreatDoor
