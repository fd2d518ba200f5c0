/-
  DERIVED. GIVEN WITH THE SEED: THE CARDS: each row of YtckpddkjlpojlaaGreatDoorRows.lean that lists a variable, with what it lists TIED to the program's text (the seventh form; the later family's looks); each row that meets fmt, with fmt's text TOLD by the authors' own Lean function (tested against real Go, not proved from fmt's source: count such statements apart). THE CARD IS WHAT COUNTS. Prove the row's statement (the work); the ties are given (YtckpddkjlpojlaaGreatDoorTie.lean); close each card by the builder's one call (the guide's Derived/Test/ToyasCard.lean, 'card_holds'). Laid BY PROGRAM, IN A SANDBOX (cutbox-door.mjs). By AI agents, Wed Nov 11 2026. No macro, syntax, notation, axiom, sorry.
-/
import Derived.Test.YtckpddkjlpojlaaGreatDoorRows
import GoSem.ClaimSeven
namespace Go.Proofs.YtckpddkjlpojlaaGreatDoor
namespace Rows

/-- THE TIED CARD OF 'laws.FnExactPut'. -/
def fnExactPutCard : Claim7 := { stood := { row := fnExactPutRow, standIns := [], harness := (true, "b48408d7cd96058c0d6437ed617f7673d7bc8ed915a48c006fb4d0167415e3e2"), looks := false }, kinds := [], alts := [], laidByText := true, laidKinds := [.data, .data, .pinned], laidTests := true, laidLooks := .later }
def FnExactPutCardSaid : Prop := Claim7.holds Tryz.pinned (.plain (OpenSpec.ofChange fnExactPutSpec)) fnExactPutCard

/-- THE TIED CARD OF 'laws.FnExactDrop'. -/
def fnExactDropCard : Claim7 := { stood := { row := fnExactDropRow, standIns := [], harness := (true, "b48408d7cd96058c0d6437ed617f7673d7bc8ed915a48c006fb4d0167415e3e2"), looks := false }, kinds := [], alts := [], laidByText := true, laidKinds := [.data, .data, .pinned], laidTests := true, laidLooks := .later }
def FnExactDropCardSaid : Prop := Claim7.holds Tryz.pinned (.plain (OpenSpec.ofChange fnExactDropSpec)) fnExactDropCard

/-- THE TIED CARD OF 'laws.FnExactBatch'. -/
def fnExactBatchCard : Claim7 := { stood := { row := fnExactBatchRow, standIns := [], harness := (true, "b48408d7cd96058c0d6437ed617f7673d7bc8ed915a48c006fb4d0167415e3e2"), looks := false }, kinds := [], alts := [], laidByText := true, laidKinds := [.data, .data, .pinned], laidTests := true, laidLooks := .later }
def FnExactBatchCardSaid : Prop := Claim7.holds Tryz.pinned (.plain (OpenSpec.ofChange fnExactBatchSpec)) fnExactBatchCard

/-- THE SECOND FORM's CARD OF 'laws.FnExactPut'. -/
def fnExactPutUptoCard : Claim7 := { stood := { row := fnExactPutUptoRow, standIns := [], harness := (true, "b48408d7cd96058c0d6437ed617f7673d7bc8ed915a48c006fb4d0167415e3e2"), looks := false }, kinds := [], alts := [], laidByText := true, laidKinds := [.data, .data, .pinned], laidTests := true, laidLooks := .later }
def FnExactPutUptoCardSaid : Prop := Claim7.holds Tryz.pinned (.plain (OpenSpec.upto fnExactPutSpec)) fnExactPutUptoCard

/-- THE SECOND FORM's CARD OF 'laws.FnExactDrop'. -/
def fnExactDropUptoCard : Claim7 := { stood := { row := fnExactDropUptoRow, standIns := [], harness := (true, "b48408d7cd96058c0d6437ed617f7673d7bc8ed915a48c006fb4d0167415e3e2"), looks := false }, kinds := [], alts := [], laidByText := true, laidKinds := [.data, .data, .pinned], laidTests := true, laidLooks := .later }
def FnExactDropUptoCardSaid : Prop := Claim7.holds Tryz.pinned (.plain (OpenSpec.upto fnExactDropSpec)) fnExactDropUptoCard

/-- THE SECOND FORM's CARD OF 'laws.FnExactBatch'. -/
def fnExactBatchUptoCard : Claim7 := { stood := { row := fnExactBatchUptoRow, standIns := [], harness := (true, "b48408d7cd96058c0d6437ed617f7673d7bc8ed915a48c006fb4d0167415e3e2"), looks := false }, kinds := [], alts := [], laidByText := true, laidKinds := [.data, .data, .pinned], laidTests := true, laidLooks := .later }
def FnExactBatchUptoCardSaid : Prop := Claim7.holds Tryz.pinned (.plain (OpenSpec.upto fnExactBatchSpec)) fnExactBatchUptoCard
end Rows
end Go.Proofs.YtckpddkjlpojlaaGreatDoor
