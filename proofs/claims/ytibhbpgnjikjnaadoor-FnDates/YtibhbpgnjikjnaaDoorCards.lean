/-
  DERIVED. GIVEN WITH THE SEED: THE CARDS: each row of YtibhbpgnjikjnaaDoorRows.lean that lists a variable, with what it lists TIED to the program's text (the seventh form; the later family's looks); each row that meets fmt, with fmt's text TOLD by the authors' own Lean function (tested against real Go, not proved from fmt's source: count such statements apart). THE CARD IS WHAT COUNTS. Prove the row's statement (the work); the ties are given (YtibhbpgnjikjnaaDoorTie.lean); close each card by the builder's one call (the guide's Derived/Test/ToyasCard.lean, 'card_holds'). Laid BY PROGRAM, IN A SANDBOX (cutbox-door.mjs). By AI agents, Wed Nov 11 2026. No macro, syntax, notation, axiom, sorry.
-/
import Derived.Test.YtibhbpgnjikjnaaDoorRows
import GoSem.ClaimSeven
namespace Go.Proofs.YtibhbpgnjikjnaaDoor
namespace Rows

/-- THE TIED CARD OF 'laws.FnDates'. -/
def fnDatesCard : Claim7 := { stood := { row := fnDatesRow, standIns := [], harness := (true, "7d42ad7eacda6ac7daa1bf29949765f713f6f558bcd8ffb11d33f1b4172a52bb"), looks := false }, kinds := [], alts := [], laidByText := true, laidKinds := [.data], laidTests := true, laidLooks := .later }
def FnDatesCardSaid : Prop := Claim7.holds Tryd.pinned (.plain (OpenSpec.ofChange fnDatesSpec)) fnDatesCard

/-- THE TIED CARD OF 'laws.FnOn'. -/
def fnOnCard : Claim7 := { stood := { row := fnOnRow, standIns := [], harness := (true, "7d42ad7eacda6ac7daa1bf29949765f713f6f558bcd8ffb11d33f1b4172a52bb"), looks := false }, kinds := [], alts := [], laidByText := true, laidKinds := [.data], laidTests := true, laidLooks := .later }
def FnOnCardSaid : Prop := Claim7.holds Tryd.pinned (.plain (OpenSpec.ofChange fnOnSpec)) fnOnCard

/-- THE TIED CARD OF 'laws.FnTexts'. -/
def fnTextsCard : Claim7 := { stood := { row := fnTextsRow, standIns := [], harness := (true, "7d42ad7eacda6ac7daa1bf29949765f713f6f558bcd8ffb11d33f1b4172a52bb"), looks := false }, kinds := [], alts := [], laidByText := true, laidKinds := [.data, .data, .data, .data], laidTests := true, laidLooks := .later }
def FnTextsCardSaid : Prop := Claim7.holds Tryd.pinned (.plain (OpenSpec.ofChange fnTextsSpec)) fnTextsCard

/-- THE TIED CARD OF 'laws.FnExactDateRight'. -/
def fnExactDateRightCard : Claim7 := { stood := { row := fnExactDateRightRow, standIns := [], harness := (true, "7d42ad7eacda6ac7daa1bf29949765f713f6f558bcd8ffb11d33f1b4172a52bb"), looks := false }, kinds := [], alts := [], laidByText := true, laidKinds := [.data], laidTests := true, laidLooks := .later }
def FnExactDateRightCardSaid : Prop := Claim7.holds Tryd.pinned (.plain (OpenSpec.ofChange fnExactDateRightSpec)) fnExactDateRightCard

/-- THE TIED CARD OF 'laws.FnExactDaysOf'. -/
def fnExactDaysOfCard : Claim7 := { stood := { row := fnExactDaysOfRow, standIns := [], harness := (true, "7d42ad7eacda6ac7daa1bf29949765f713f6f558bcd8ffb11d33f1b4172a52bb"), looks := false }, kinds := [], alts := [], laidByText := true, laidKinds := [.data], laidTests := true, laidLooks := .later }
def FnExactDaysOfCardSaid : Prop := Claim7.holds Tryd.pinned (.plain (OpenSpec.ofChange fnExactDaysOfSpec)) fnExactDaysOfCard

/-- THE TIED CARD OF 'laws.FnExactDateOf'. -/
def fnExactDateOfCard : Claim7 := { stood := { row := fnExactDateOfRow, standIns := [], harness := (true, "7d42ad7eacda6ac7daa1bf29949765f713f6f558bcd8ffb11d33f1b4172a52bb"), looks := false }, kinds := [], alts := [], laidByText := true, laidKinds := [.data], laidTests := true, laidLooks := .later }
def FnExactDateOfCardSaid : Prop := Claim7.holds Tryd.pinned (.plain (OpenSpec.ofChange fnExactDateOfSpec)) fnExactDateOfCard

/-- THE TIED CARD OF 'laws.FnExactMonthDays'. -/
def fnExactMonthDaysCard : Claim7 := { stood := { row := fnExactMonthDaysRow, standIns := [], harness := (true, "7d42ad7eacda6ac7daa1bf29949765f713f6f558bcd8ffb11d33f1b4172a52bb"), looks := false }, kinds := [], alts := [], laidByText := true, laidKinds := [.data], laidTests := true, laidLooks := .later }
def FnExactMonthDaysCardSaid : Prop := Claim7.holds Tryd.pinned (.plain (OpenSpec.ofChange fnExactMonthDaysSpec)) fnExactMonthDaysCard

/-- THE TIED CARD OF 'laws.FnExactTimeText'. -/
def fnExactTimeTextCard : Claim7 := { stood := { row := fnExactTimeTextRow, standIns := [], harness := (true, "7d42ad7eacda6ac7daa1bf29949765f713f6f558bcd8ffb11d33f1b4172a52bb"), looks := false }, kinds := [], alts := [], laidByText := true, laidKinds := [.data, .data, .data, .data], laidTests := true, laidLooks := .later }
def FnExactTimeTextCardSaid : Prop := Claim7.holds Tryd.pinned (.plain (OpenSpec.ofChange fnExactTimeTextSpec)) fnExactTimeTextCard

/-- THE TIED CARD OF 'laws.FnExactTimeRead'. -/
def fnExactTimeReadCard : Claim7 := { stood := { row := fnExactTimeReadRow, standIns := [], harness := (true, "7d42ad7eacda6ac7daa1bf29949765f713f6f558bcd8ffb11d33f1b4172a52bb"), looks := false }, kinds := [], alts := [], laidByText := true, laidKinds := [.data], laidTests := true, laidLooks := .later }
def FnExactTimeReadCardSaid : Prop := Claim7.holds Tryd.pinned (.plain (OpenSpec.ofChange fnExactTimeReadSpec)) fnExactTimeReadCard

/-- THE TIED CARD OF 'laws.FnExactOffsetText'. -/
def fnExactOffsetTextCard : Claim7 := { stood := { row := fnExactOffsetTextRow, standIns := [], harness := (true, "7d42ad7eacda6ac7daa1bf29949765f713f6f558bcd8ffb11d33f1b4172a52bb"), looks := false }, kinds := [], alts := [], laidByText := true, laidKinds := [.data, .data, .data], laidTests := true, laidLooks := .later }
def FnExactOffsetTextCardSaid : Prop := Claim7.holds Tryd.pinned (.plain (OpenSpec.ofChange fnExactOffsetTextSpec)) fnExactOffsetTextCard

/-- THE TIED CARD OF 'laws.FnExactAbbrOf'. -/
def fnExactAbbrOfCard : Claim7 := { stood := { row := fnExactAbbrOfRow, standIns := [], harness := (true, "7d42ad7eacda6ac7daa1bf29949765f713f6f558bcd8ffb11d33f1b4172a52bb"), looks := false }, kinds := [], alts := [], laidByText := true, laidKinds := [.data, .pinned], laidTests := true, laidLooks := .later }
def FnExactAbbrOfCardSaid : Prop := Claim7.holds Tryd.pinned (.plain (OpenSpec.ofChange fnExactAbbrOfSpec)) fnExactAbbrOfCard

/-- THE SECOND FORM's CARD OF 'laws.FnDates'. -/
def fnDatesUptoCard : Claim7 := { stood := { row := fnDatesUptoRow, standIns := [], harness := (true, "7d42ad7eacda6ac7daa1bf29949765f713f6f558bcd8ffb11d33f1b4172a52bb"), looks := false }, kinds := [], alts := [], laidByText := true, laidKinds := [.data], laidTests := true, laidLooks := .later }
def FnDatesUptoCardSaid : Prop := Claim7.holds Tryd.pinned (.plain (OpenSpec.upto fnDatesSpec)) fnDatesUptoCard

/-- THE SECOND FORM's CARD OF 'laws.FnOn'. -/
def fnOnUptoCard : Claim7 := { stood := { row := fnOnUptoRow, standIns := [], harness := (true, "7d42ad7eacda6ac7daa1bf29949765f713f6f558bcd8ffb11d33f1b4172a52bb"), looks := false }, kinds := [], alts := [], laidByText := true, laidKinds := [.data], laidTests := true, laidLooks := .later }
def FnOnUptoCardSaid : Prop := Claim7.holds Tryd.pinned (.plain (OpenSpec.upto fnOnSpec)) fnOnUptoCard

/-- THE SECOND FORM's CARD OF 'laws.FnTexts'. -/
def fnTextsUptoCard : Claim7 := { stood := { row := fnTextsUptoRow, standIns := [], harness := (true, "7d42ad7eacda6ac7daa1bf29949765f713f6f558bcd8ffb11d33f1b4172a52bb"), looks := false }, kinds := [], alts := [], laidByText := true, laidKinds := [.data, .data, .data, .data], laidTests := true, laidLooks := .later }
def FnTextsUptoCardSaid : Prop := Claim7.holds Tryd.pinned (.plain (OpenSpec.upto fnTextsSpec)) fnTextsUptoCard

/-- THE SECOND FORM's CARD OF 'laws.FnExactDateRight'. -/
def fnExactDateRightUptoCard : Claim7 := { stood := { row := fnExactDateRightUptoRow, standIns := [], harness := (true, "7d42ad7eacda6ac7daa1bf29949765f713f6f558bcd8ffb11d33f1b4172a52bb"), looks := false }, kinds := [], alts := [], laidByText := true, laidKinds := [.data], laidTests := true, laidLooks := .later }
def FnExactDateRightUptoCardSaid : Prop := Claim7.holds Tryd.pinned (.plain (OpenSpec.upto fnExactDateRightSpec)) fnExactDateRightUptoCard

/-- THE SECOND FORM's CARD OF 'laws.FnExactDaysOf'. -/
def fnExactDaysOfUptoCard : Claim7 := { stood := { row := fnExactDaysOfUptoRow, standIns := [], harness := (true, "7d42ad7eacda6ac7daa1bf29949765f713f6f558bcd8ffb11d33f1b4172a52bb"), looks := false }, kinds := [], alts := [], laidByText := true, laidKinds := [.data], laidTests := true, laidLooks := .later }
def FnExactDaysOfUptoCardSaid : Prop := Claim7.holds Tryd.pinned (.plain (OpenSpec.upto fnExactDaysOfSpec)) fnExactDaysOfUptoCard

/-- THE SECOND FORM's CARD OF 'laws.FnExactDateOf'. -/
def fnExactDateOfUptoCard : Claim7 := { stood := { row := fnExactDateOfUptoRow, standIns := [], harness := (true, "7d42ad7eacda6ac7daa1bf29949765f713f6f558bcd8ffb11d33f1b4172a52bb"), looks := false }, kinds := [], alts := [], laidByText := true, laidKinds := [.data], laidTests := true, laidLooks := .later }
def FnExactDateOfUptoCardSaid : Prop := Claim7.holds Tryd.pinned (.plain (OpenSpec.upto fnExactDateOfSpec)) fnExactDateOfUptoCard

/-- THE SECOND FORM's CARD OF 'laws.FnExactMonthDays'. -/
def fnExactMonthDaysUptoCard : Claim7 := { stood := { row := fnExactMonthDaysUptoRow, standIns := [], harness := (true, "7d42ad7eacda6ac7daa1bf29949765f713f6f558bcd8ffb11d33f1b4172a52bb"), looks := false }, kinds := [], alts := [], laidByText := true, laidKinds := [.data], laidTests := true, laidLooks := .later }
def FnExactMonthDaysUptoCardSaid : Prop := Claim7.holds Tryd.pinned (.plain (OpenSpec.upto fnExactMonthDaysSpec)) fnExactMonthDaysUptoCard

/-- THE SECOND FORM's CARD OF 'laws.FnExactTimeText'. -/
def fnExactTimeTextUptoCard : Claim7 := { stood := { row := fnExactTimeTextUptoRow, standIns := [], harness := (true, "7d42ad7eacda6ac7daa1bf29949765f713f6f558bcd8ffb11d33f1b4172a52bb"), looks := false }, kinds := [], alts := [], laidByText := true, laidKinds := [.data, .data, .data, .data], laidTests := true, laidLooks := .later }
def FnExactTimeTextUptoCardSaid : Prop := Claim7.holds Tryd.pinned (.plain (OpenSpec.upto fnExactTimeTextSpec)) fnExactTimeTextUptoCard

/-- THE SECOND FORM's CARD OF 'laws.FnExactTimeRead'. -/
def fnExactTimeReadUptoCard : Claim7 := { stood := { row := fnExactTimeReadUptoRow, standIns := [], harness := (true, "7d42ad7eacda6ac7daa1bf29949765f713f6f558bcd8ffb11d33f1b4172a52bb"), looks := false }, kinds := [], alts := [], laidByText := true, laidKinds := [.data], laidTests := true, laidLooks := .later }
def FnExactTimeReadUptoCardSaid : Prop := Claim7.holds Tryd.pinned (.plain (OpenSpec.upto fnExactTimeReadSpec)) fnExactTimeReadUptoCard

/-- THE SECOND FORM's CARD OF 'laws.FnExactOffsetText'. -/
def fnExactOffsetTextUptoCard : Claim7 := { stood := { row := fnExactOffsetTextUptoRow, standIns := [], harness := (true, "7d42ad7eacda6ac7daa1bf29949765f713f6f558bcd8ffb11d33f1b4172a52bb"), looks := false }, kinds := [], alts := [], laidByText := true, laidKinds := [.data, .data, .data], laidTests := true, laidLooks := .later }
def FnExactOffsetTextUptoCardSaid : Prop := Claim7.holds Tryd.pinned (.plain (OpenSpec.upto fnExactOffsetTextSpec)) fnExactOffsetTextUptoCard

/-- THE SECOND FORM's CARD OF 'laws.FnExactAbbrOf'. -/
def fnExactAbbrOfUptoCard : Claim7 := { stood := { row := fnExactAbbrOfUptoRow, standIns := [], harness := (true, "7d42ad7eacda6ac7daa1bf29949765f713f6f558bcd8ffb11d33f1b4172a52bb"), looks := false }, kinds := [], alts := [], laidByText := true, laidKinds := [.data, .pinned], laidTests := true, laidLooks := .later }
def FnExactAbbrOfUptoCardSaid : Prop := Claim7.holds Tryd.pinned (.plain (OpenSpec.upto fnExactAbbrOfSpec)) fnExactAbbrOfUptoCard
end Rows
end Go.Proofs.YtibhbpgnjikjnaaDoor
