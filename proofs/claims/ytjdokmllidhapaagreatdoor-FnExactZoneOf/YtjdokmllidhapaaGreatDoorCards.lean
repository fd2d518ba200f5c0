/-
  DERIVED. GIVEN WITH THE SEED: THE CARDS: each row of YtjdokmllidhapaaGreatDoorRows.lean that lists a variable, with what it lists TIED to the program's text (the seventh form; the later family's looks); each row that meets fmt, with fmt's text TOLD by the authors' own Lean function (tested against real Go, not proved from fmt's source: count such statements apart). THE CARD IS WHAT COUNTS. Prove the row's statement (the work); the ties are given (YtjdokmllidhapaaGreatDoorTie.lean); close each card by the builder's one call (the guide's Derived/Test/ToyasCard.lean, 'card_holds'). Laid BY PROGRAM, IN A SANDBOX (cutbox-door.mjs). By AI agents, Wed Nov 11 2026. No macro, syntax, notation, axiom, sorry.
-/
import Derived.Test.YtjdokmllidhapaaGreatDoorRows
import GoSem.ClaimSeven
namespace Go.Proofs.YtjdokmllidhapaaGreatDoor
namespace Rows

/-- THE TIED CARD OF 'laws.FnHaps'. -/
def fnHapsCard : Claim7 := { stood := { row := fnHapsRow, standIns := [], harness := (true, "4bb1bf2f8e8946804ffec61f136e24c5fca8e44a4ea6621a7dbebcfd8cb6030b"), looks := false }, kinds := [], alts := [], laidByText := true, laidKinds := [.data, .data, .pinned], laidTests := true, laidLooks := .later }
def FnHapsCardSaid : Prop := Claim7.holds Tryz.pinned (.plain (OpenSpec.ofChange fnHapsSpec)) fnHapsCard

/-- THE TIED CARD OF 'laws.FnTable'. -/
def fnTableCard : Claim7 := { stood := { row := fnTableRow, standIns := [], harness := (true, "4bb1bf2f8e8946804ffec61f136e24c5fca8e44a4ea6621a7dbebcfd8cb6030b"), looks := false }, kinds := [], alts := [], laidByText := true, laidKinds := [.data, .data, .pinned], laidTests := true, laidLooks := .later }
def FnTableCardSaid : Prop := Claim7.holds Tryz.pinned (.plain (OpenSpec.ofChange fnTableSpec)) fnTableCard

/-- THE TIED CARD OF 'laws.FnExactReleaseRight'. -/
def fnExactReleaseRightCard : Claim7 := { stood := { row := fnExactReleaseRightRow, standIns := [], harness := (true, "4bb1bf2f8e8946804ffec61f136e24c5fca8e44a4ea6621a7dbebcfd8cb6030b"), looks := false }, kinds := [], alts := [], laidByText := true, laidKinds := [.data], laidTests := true, laidLooks := .later }
def FnExactReleaseRightCardSaid : Prop := Claim7.holds Tryz.pinned (.plain (OpenSpec.ofChange fnExactReleaseRightSpec)) fnExactReleaseRightCard

/-- THE TIED CARD OF 'laws.FnExactReleaseText'. -/
def fnExactReleaseTextCard : Claim7 := { stood := { row := fnExactReleaseTextRow, standIns := [], harness := (true, "4bb1bf2f8e8946804ffec61f136e24c5fca8e44a4ea6621a7dbebcfd8cb6030b"), looks := false }, kinds := [], alts := [], laidByText := true, laidKinds := [.data, .data, .data, .data], laidTests := true, laidLooks := .later }
def FnExactReleaseTextCardSaid : Prop := Claim7.holds Tryz.pinned (.plain (OpenSpec.ofChange fnExactReleaseTextSpec)) fnExactReleaseTextCard

/-- THE TIED CARD OF 'laws.FnExactZoneOf'. -/
def fnExactZoneOfCard : Claim7 := { stood := { row := fnExactZoneOfRow, standIns := [], harness := (true, "4bb1bf2f8e8946804ffec61f136e24c5fca8e44a4ea6621a7dbebcfd8cb6030b"), looks := false }, kinds := [], alts := [], laidByText := true, laidKinds := [.data], laidTests := true, laidLooks := .later }
def FnExactZoneOfCardSaid : Prop := Claim7.holds Tryz.pinned (.plain (OpenSpec.ofChange fnExactZoneOfSpec)) fnExactZoneOfCard

/-- THE TIED CARD OF 'laws.FnExactHapsOf'. -/
def fnExactHapsOfCard : Claim7 := { stood := { row := fnExactHapsOfRow, standIns := [], harness := (true, "4bb1bf2f8e8946804ffec61f136e24c5fca8e44a4ea6621a7dbebcfd8cb6030b"), looks := false }, kinds := [], alts := [], laidByText := true, laidKinds := [.data], laidTests := true, laidLooks := .later }
def FnExactHapsOfCardSaid : Prop := Claim7.holds Tryz.pinned (.plain (OpenSpec.ofChange fnExactHapsOfSpec)) fnExactHapsOfCard

/-- THE TIED CARD OF 'laws.FnExactTableOf'. -/
def fnExactTableOfCard : Claim7 := { stood := { row := fnExactTableOfRow, standIns := [], harness := (true, "4bb1bf2f8e8946804ffec61f136e24c5fca8e44a4ea6621a7dbebcfd8cb6030b"), looks := false }, kinds := [], alts := [], laidByText := true, laidKinds := [.data, .data, .pinned], laidTests := true, laidLooks := .later }
def FnExactTableOfCardSaid : Prop := Claim7.holds Tryz.pinned (.plain (OpenSpec.ofChange fnExactTableOfSpec)) fnExactTableOfCard

/-- THE SECOND FORM's CARD OF 'laws.FnHaps'. -/
def fnHapsUptoCard : Claim7 := { stood := { row := fnHapsUptoRow, standIns := [], harness := (true, "4bb1bf2f8e8946804ffec61f136e24c5fca8e44a4ea6621a7dbebcfd8cb6030b"), looks := false }, kinds := [], alts := [], laidByText := true, laidKinds := [.data, .data, .pinned], laidTests := true, laidLooks := .later }
def FnHapsUptoCardSaid : Prop := Claim7.holds Tryz.pinned (.plain (OpenSpec.upto fnHapsSpec)) fnHapsUptoCard

/-- THE SECOND FORM's CARD OF 'laws.FnTable'. -/
def fnTableUptoCard : Claim7 := { stood := { row := fnTableUptoRow, standIns := [], harness := (true, "4bb1bf2f8e8946804ffec61f136e24c5fca8e44a4ea6621a7dbebcfd8cb6030b"), looks := false }, kinds := [], alts := [], laidByText := true, laidKinds := [.data, .data, .pinned], laidTests := true, laidLooks := .later }
def FnTableUptoCardSaid : Prop := Claim7.holds Tryz.pinned (.plain (OpenSpec.upto fnTableSpec)) fnTableUptoCard

/-- THE SECOND FORM's CARD OF 'laws.FnExactReleaseRight'. -/
def fnExactReleaseRightUptoCard : Claim7 := { stood := { row := fnExactReleaseRightUptoRow, standIns := [], harness := (true, "4bb1bf2f8e8946804ffec61f136e24c5fca8e44a4ea6621a7dbebcfd8cb6030b"), looks := false }, kinds := [], alts := [], laidByText := true, laidKinds := [.data], laidTests := true, laidLooks := .later }
def FnExactReleaseRightUptoCardSaid : Prop := Claim7.holds Tryz.pinned (.plain (OpenSpec.upto fnExactReleaseRightSpec)) fnExactReleaseRightUptoCard

/-- THE SECOND FORM's CARD OF 'laws.FnExactReleaseText'. -/
def fnExactReleaseTextUptoCard : Claim7 := { stood := { row := fnExactReleaseTextUptoRow, standIns := [], harness := (true, "4bb1bf2f8e8946804ffec61f136e24c5fca8e44a4ea6621a7dbebcfd8cb6030b"), looks := false }, kinds := [], alts := [], laidByText := true, laidKinds := [.data, .data, .data, .data], laidTests := true, laidLooks := .later }
def FnExactReleaseTextUptoCardSaid : Prop := Claim7.holds Tryz.pinned (.plain (OpenSpec.upto fnExactReleaseTextSpec)) fnExactReleaseTextUptoCard

/-- THE SECOND FORM's CARD OF 'laws.FnExactZoneOf'. -/
def fnExactZoneOfUptoCard : Claim7 := { stood := { row := fnExactZoneOfUptoRow, standIns := [], harness := (true, "4bb1bf2f8e8946804ffec61f136e24c5fca8e44a4ea6621a7dbebcfd8cb6030b"), looks := false }, kinds := [], alts := [], laidByText := true, laidKinds := [.data], laidTests := true, laidLooks := .later }
def FnExactZoneOfUptoCardSaid : Prop := Claim7.holds Tryz.pinned (.plain (OpenSpec.upto fnExactZoneOfSpec)) fnExactZoneOfUptoCard

/-- THE SECOND FORM's CARD OF 'laws.FnExactHapsOf'. -/
def fnExactHapsOfUptoCard : Claim7 := { stood := { row := fnExactHapsOfUptoRow, standIns := [], harness := (true, "4bb1bf2f8e8946804ffec61f136e24c5fca8e44a4ea6621a7dbebcfd8cb6030b"), looks := false }, kinds := [], alts := [], laidByText := true, laidKinds := [.data], laidTests := true, laidLooks := .later }
def FnExactHapsOfUptoCardSaid : Prop := Claim7.holds Tryz.pinned (.plain (OpenSpec.upto fnExactHapsOfSpec)) fnExactHapsOfUptoCard

/-- THE SECOND FORM's CARD OF 'laws.FnExactTableOf'. -/
def fnExactTableOfUptoCard : Claim7 := { stood := { row := fnExactTableOfUptoRow, standIns := [], harness := (true, "4bb1bf2f8e8946804ffec61f136e24c5fca8e44a4ea6621a7dbebcfd8cb6030b"), looks := false }, kinds := [], alts := [], laidByText := true, laidKinds := [.data, .data, .pinned], laidTests := true, laidLooks := .later }
def FnExactTableOfUptoCardSaid : Prop := Claim7.holds Tryz.pinned (.plain (OpenSpec.upto fnExactTableOfSpec)) fnExactTableOfUptoCard
end Rows
end Go.Proofs.YtjdokmllidhapaaGreatDoor
