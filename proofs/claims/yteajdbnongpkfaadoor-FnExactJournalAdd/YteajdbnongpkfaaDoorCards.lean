/-
  DERIVED. GIVEN WITH THE SEED: THE CARDS: each row of YteajdbnongpkfaaDoorRows.lean that lists a variable, with what it lists TIED to the program's text (the seventh form; the later family's looks); each row that meets fmt, with fmt's text TOLD by the authors' own Lean function (tested against real Go, not proved from fmt's source: count such statements apart). THE CARD IS WHAT COUNTS. Prove the row's statement (the work); the ties are given (YteajdbnongpkfaaDoorTie.lean); close each card by the builder's one call (the guide's Derived/Test/ToyasCard.lean, 'card_holds'). Laid BY PROGRAM, IN A SANDBOX (cutbox-door.mjs). By AI agents, Wed Nov 11 2026. No macro, syntax, notation, axiom, sorry.
-/
import Derived.Test.YteajdbnongpkfaaDoorRows
import GoSem.ClaimSeven
namespace Go.Proofs.YteajdbnongpkfaaDoor
namespace Rows

/-- THE TIED CARD OF 'laws.FnExactJournalRight'. -/
def fnExactJournalRightCard : Claim7 := { stood := { row := fnExactJournalRightRow, standIns := [], harness := (true, "dd700d37c9d9348b326061cb2b8bc04d2d9c1daf36dfaa279d1dda853251d063"), looks := false }, kinds := [], alts := [], laidByText := true, laidKinds := [.data, .pinned], laidTests := true, laidLooks := .later }
def FnExactJournalRightCardSaid : Prop := Claim7.holds Tryd.pinned (.plain (OpenSpec.ofChange fnExactJournalRightSpec)) fnExactJournalRightCard

/-- THE TIED CARD OF 'laws.FnExactJournalAdd'. -/
def fnExactJournalAddCard : Claim7 := { stood := { row := fnExactJournalAddRow, standIns := [], harness := (true, "dd700d37c9d9348b326061cb2b8bc04d2d9c1daf36dfaa279d1dda853251d063"), looks := false }, kinds := [], alts := [], laidByText := true, laidKinds := [.data, .pinned], laidTests := true, laidLooks := .later }
def FnExactJournalAddCardSaid : Prop := Claim7.holds Tryd.pinned (.plain (OpenSpec.ofChange fnExactJournalAddSpec)) fnExactJournalAddCard

/-- THE TIED CARD OF 'laws.FnExactJournalSync'. -/
def fnExactJournalSyncCard : Claim7 := { stood := { row := fnExactJournalSyncRow, standIns := [], harness := (true, "dd700d37c9d9348b326061cb2b8bc04d2d9c1daf36dfaa279d1dda853251d063"), looks := false }, kinds := [], alts := [], laidByText := true, laidKinds := [.data, .pinned], laidTests := true, laidLooks := .later }
def FnExactJournalSyncCardSaid : Prop := Claim7.holds Tryd.pinned (.plain (OpenSpec.ofChange fnExactJournalSyncSpec)) fnExactJournalSyncCard

/-- THE TIED CARD OF 'laws.FnExactJournalCrash'. -/
def fnExactJournalCrashCard : Claim7 := { stood := { row := fnExactJournalCrashRow, standIns := [], harness := (true, "dd700d37c9d9348b326061cb2b8bc04d2d9c1daf36dfaa279d1dda853251d063"), looks := false }, kinds := [], alts := [], laidByText := true, laidKinds := [.data, .pinned], laidTests := true, laidLooks := .later }
def FnExactJournalCrashCardSaid : Prop := Claim7.holds Tryd.pinned (.plain (OpenSpec.ofChange fnExactJournalCrashSpec)) fnExactJournalCrashCard

/-- THE SECOND FORM's CARD OF 'laws.FnExactJournalRight'. -/
def fnExactJournalRightUptoCard : Claim7 := { stood := { row := fnExactJournalRightUptoRow, standIns := [], harness := (true, "dd700d37c9d9348b326061cb2b8bc04d2d9c1daf36dfaa279d1dda853251d063"), looks := false }, kinds := [], alts := [], laidByText := true, laidKinds := [.data, .pinned], laidTests := true, laidLooks := .later }
def FnExactJournalRightUptoCardSaid : Prop := Claim7.holds Tryd.pinned (.plain (OpenSpec.upto fnExactJournalRightSpec)) fnExactJournalRightUptoCard

/-- THE SECOND FORM's CARD OF 'laws.FnExactJournalAdd'. -/
def fnExactJournalAddUptoCard : Claim7 := { stood := { row := fnExactJournalAddUptoRow, standIns := [], harness := (true, "dd700d37c9d9348b326061cb2b8bc04d2d9c1daf36dfaa279d1dda853251d063"), looks := false }, kinds := [], alts := [], laidByText := true, laidKinds := [.data, .pinned], laidTests := true, laidLooks := .later }
def FnExactJournalAddUptoCardSaid : Prop := Claim7.holds Tryd.pinned (.plain (OpenSpec.upto fnExactJournalAddSpec)) fnExactJournalAddUptoCard

/-- THE SECOND FORM's CARD OF 'laws.FnExactJournalSync'. -/
def fnExactJournalSyncUptoCard : Claim7 := { stood := { row := fnExactJournalSyncUptoRow, standIns := [], harness := (true, "dd700d37c9d9348b326061cb2b8bc04d2d9c1daf36dfaa279d1dda853251d063"), looks := false }, kinds := [], alts := [], laidByText := true, laidKinds := [.data, .pinned], laidTests := true, laidLooks := .later }
def FnExactJournalSyncUptoCardSaid : Prop := Claim7.holds Tryd.pinned (.plain (OpenSpec.upto fnExactJournalSyncSpec)) fnExactJournalSyncUptoCard

/-- THE SECOND FORM's CARD OF 'laws.FnExactJournalCrash'. -/
def fnExactJournalCrashUptoCard : Claim7 := { stood := { row := fnExactJournalCrashUptoRow, standIns := [], harness := (true, "dd700d37c9d9348b326061cb2b8bc04d2d9c1daf36dfaa279d1dda853251d063"), looks := false }, kinds := [], alts := [], laidByText := true, laidKinds := [.data, .pinned], laidTests := true, laidLooks := .later }
def FnExactJournalCrashUptoCardSaid : Prop := Claim7.holds Tryd.pinned (.plain (OpenSpec.upto fnExactJournalCrashSpec)) fnExactJournalCrashUptoCard
end Rows
end Go.Proofs.YteajdbnongpkfaaDoor
