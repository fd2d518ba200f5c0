/-
  DERIVED. GIVEN WITH THE SEED: THE CARDS: each row of YtgiieknbckhofaaGreatDoorRows.lean that lists a variable, with what it lists TIED to the program's text (the seventh form; the later family's looks); each row that meets fmt, with fmt's text TOLD by the authors' own Lean function (tested against real Go, not proved from fmt's source: count such statements apart). THE CARD IS WHAT COUNTS. Prove the row's statement (the work); the ties are given (YtgiieknbckhofaaGreatDoorTie.lean); close each card by the builder's one call (the guide's Derived/Test/ToyasCard.lean, 'card_holds'). Laid BY PROGRAM, IN A SANDBOX (cutbox-door.mjs). By AI agents, Wed Nov 11 2026. No macro, syntax, notation, axiom, sorry.
-/
import Derived.Test.YtgiieknbckhofaaGreatDoorRows
import GoSem.ClaimSeven
namespace Go.Proofs.YtgiieknbckhofaaGreatDoor
namespace Rows

/-- THE TIED CARD OF 'laws.FnExactLive'. -/
def fnExactLiveCard : Claim7 := { stood := { row := fnExactLiveRow, standIns := [], harness := (true, "e18a3fd015b98a192ed6da9f23e7b3a0979506bcfdc40af22d6515980de84176"), looks := false }, kinds := [], alts := [], laidByText := true, laidKinds := [.data, .data, .pinned], laidTests := true, laidLooks := .later }
def FnExactLiveCardSaid : Prop := Claim7.holds Tryz.pinned (.plain (OpenSpec.ofChange fnExactLiveSpec)) fnExactLiveCard

/-- THE TIED CARD OF 'laws.FnExactAsOf'. -/
def fnExactAsOfCard : Claim7 := { stood := { row := fnExactAsOfRow, standIns := [], harness := (true, "e18a3fd015b98a192ed6da9f23e7b3a0979506bcfdc40af22d6515980de84176"), looks := false }, kinds := [], alts := [], laidByText := true, laidKinds := [.data, .data, .pinned], laidTests := true, laidLooks := .later }
def FnExactAsOfCardSaid : Prop := Claim7.holds Tryz.pinned (.plain (OpenSpec.ofChange fnExactAsOfSpec)) fnExactAsOfCard

/-- THE TIED CARD OF 'laws.FnExactHistory'. -/
def fnExactHistoryCard : Claim7 := { stood := { row := fnExactHistoryRow, standIns := [], harness := (true, "e18a3fd015b98a192ed6da9f23e7b3a0979506bcfdc40af22d6515980de84176"), looks := false }, kinds := [], alts := [], laidByText := true, laidKinds := [.data, .data, .pinned], laidTests := true, laidLooks := .later }
def FnExactHistoryCardSaid : Prop := Claim7.holds Tryz.pinned (.plain (OpenSpec.ofChange fnExactHistorySpec)) fnExactHistoryCard

/-- THE SECOND FORM's CARD OF 'laws.FnExactLive'. -/
def fnExactLiveUptoCard : Claim7 := { stood := { row := fnExactLiveUptoRow, standIns := [], harness := (true, "e18a3fd015b98a192ed6da9f23e7b3a0979506bcfdc40af22d6515980de84176"), looks := false }, kinds := [], alts := [], laidByText := true, laidKinds := [.data, .data, .pinned], laidTests := true, laidLooks := .later }
def FnExactLiveUptoCardSaid : Prop := Claim7.holds Tryz.pinned (.plain (OpenSpec.upto fnExactLiveSpec)) fnExactLiveUptoCard

/-- THE SECOND FORM's CARD OF 'laws.FnExactAsOf'. -/
def fnExactAsOfUptoCard : Claim7 := { stood := { row := fnExactAsOfUptoRow, standIns := [], harness := (true, "e18a3fd015b98a192ed6da9f23e7b3a0979506bcfdc40af22d6515980de84176"), looks := false }, kinds := [], alts := [], laidByText := true, laidKinds := [.data, .data, .pinned], laidTests := true, laidLooks := .later }
def FnExactAsOfUptoCardSaid : Prop := Claim7.holds Tryz.pinned (.plain (OpenSpec.upto fnExactAsOfSpec)) fnExactAsOfUptoCard

/-- THE SECOND FORM's CARD OF 'laws.FnExactHistory'. -/
def fnExactHistoryUptoCard : Claim7 := { stood := { row := fnExactHistoryUptoRow, standIns := [], harness := (true, "e18a3fd015b98a192ed6da9f23e7b3a0979506bcfdc40af22d6515980de84176"), looks := false }, kinds := [], alts := [], laidByText := true, laidKinds := [.data, .data, .pinned], laidTests := true, laidLooks := .later }
def FnExactHistoryUptoCardSaid : Prop := Claim7.holds Tryz.pinned (.plain (OpenSpec.upto fnExactHistorySpec)) fnExactHistoryUptoCard
end Rows
end Go.Proofs.YtgiieknbckhofaaGreatDoor
