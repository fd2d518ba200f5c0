/-
  NARROWER THAN 'FOR EVERY INPUT', by the rows' own cells (each row's printed sentence says how): FnExactDeskLines: ifaces, laid.
  DERIVED. THE GIVEN ROWS OF THIS SEAT. 1 by the template 'for every input the law returns true; each argument reads behind the call as it read before'; 0 by the template 'total and deterministic' (their statements: YtfdnniedcfeiiaaDoorTotals.lean).
  GIVEN WITH THE SEED: the statements are not yours to turn. If you find one false, say at which input.
  Laid BY PROGRAM, IN A SANDBOX (cutbox-rows.mjs): the forced cells as the released guide's own fill.sh prints them over the translation 7c68ffe889631aca… (all of the seat's roots in one cut). By AI agents, Wed Nov 11 2026. No macro, syntax, notation, axiom, sorry.
-/
import Derived.Test.YtfdnniedcfeiiaaDoorChecked
import GoSem.Claim
import GoSem.ClaimJoined
import GoSem.ClaimMapViews
import Derived.JoinedTies
import Derived.KernelRfl
namespace Go.Proofs.YtfdnniedcfeiiaaDoor
/- THE CELL 'sum', in the pinned program and in every row, IS THE sha256 OF THE DUMP (.gsa) THAT YtfdnniedcfeiiaaDoorProg.lean LOADS. Nothing in Lean hashes anything: it is a label: what it is worth is what the hold of that sum in a sandbox is worth. -/
noncomputable def Tryd.pinned : Pinned := { name := "ytfdnniedcfeiiaadoor", sum := "7c68ffe889631acad8ec3d1ac2f02f4cd0b5b064a93d1abd4c6b1990dfcdeb37", checked := Tryd.checked }
namespace Rows
def none {H : Type} : Left H := { results := [], args := [] }

/- WHAT THE LISTED PACKAGE-LEVEL VARIABLES READ AS WHEN THE CALL BEGINS. Each datum BY PROGRAM (the guide's laid-datum.mjs) off the statement by which the dump's own 'gosem.cut.vars' lays the variable. In a bare row this is a premise. The card (YtfdnniedcfeiiaaDoorCards.lean) ties it to the program's text. -/
def laid_loop_example_g00364_impl_errNoDeskLine {H : Type} : DataW H := .iface "*errors.errorString" (.ptr (.agg [.lit (.string [116, 104, 101, 32, 108, 105, 110, 101, 32, 109, 97, 121, 32, 110, 111, 116, 32, 115, 116, 97, 110, 100, 32, 105, 110, 32, 97, 32, 100, 101, 115, 107, 39, 115, 32, 116, 101, 120, 116])]))

/-- 'laws.FnExactDeskLines': WHATEVER THE INPUT: true; the input reads as it did. -/
def fnExactDeskLinesSpec : ChangeSpec := { name := "fnExactDeskLines", vars := ["loop.example/g00364/impl.errNoDeskLine"], fn := fun _ => fun
  | [d, g1] => { results := [.lit (.bool true)], args := [d], vars := [g1] }
  | _ => none }
def fnExactDeskLinesRow : OpenClaim := { program := "ytfdnniedcfeiiaadoor", sum := "7c68ffe889631acad8ec3d1ac2f02f4cd0b5b064a93d1abd4c6b1990dfcdeb37", func := "loop.example/g00364/laws.FnExactDeskLines", spec := "fnExactDeskLines", named := ["loop.example/g00364/impl.errNoDeskLine"], ifaces := true, apart := false, laid := [("loop.example/g00364/impl.errNoDeskLine", laid_loop_example_g00364_impl_errNoDeskLine)] }
def FnExactDeskLinesSaid : Prop := fnExactDeskLinesRow.holds Tryd.pinned (OpenSpec.ofChange fnExactDeskLinesSpec)

/-- ITS FALSE NEIGHBOUR: 'it returns false'. Refute it at one input. -/
def fnExactDeskLinesWrong : ChangeSpec := { name := "fnExactDeskLines", vars := ["loop.example/g00364/impl.errNoDeskLine"], fn := fun _ => fun
  | [d, g1] => { results := [.lit (.bool false)], args := [d], vars := [g1] }
  | _ => none }
def FnExactDeskLinesWrongFalsely : Prop := fnExactDeskLinesRow.holds Tryd.pinned (OpenSpec.ofChange fnExactDeskLinesWrong)

/- THE SECOND FORM. 'bulk': how many values and letters a reading holds, each counted each time it is reached (what is shared counts as often as it is met; a slice's spare places count too). A statement '..UptoSaid' is the law's where the arguments, and the package variables that the reading takes, are together of bulk at most 1048576: NARROWER than '..Said'. Prove '..Said' where nothing that the law and all that it calls make is longer than what came in: it says more and counts as full. Else prove '..UptoSaid'. A law counts once. -/
mutual
def uptoBulk {H : Type} : DataW H → Nat
  | .lit (.string bytes) => bytes.length + 1
  | .lit _ => 1
  | .nil => 1
  | .ptr d => uptoBulk d + 1
  | .slice elems spare => uptoBulkAll elems + uptoBulkAll spare + 1
  | .agg parts => uptoBulkAll parts + 1
  | .iface _ d => uptoBulk d + 1
  | .map entries => uptoBulkEntries entries + 1
  | .held _ => 1
def uptoBulkAll {H : Type} : List (DataW H) → Nat
  | [] => 0
  | d :: r => uptoBulk d + uptoBulkAll r
def uptoBulkEntries {H : Type} : List (Lit × DataW H) → Nat
  | [] => 0
  | x :: r => uptoBulkEntry x + uptoBulkEntries r
def uptoBulkEntry {H : Type} : Lit × DataW H → Nat
  | (.string bytes, d) => bytes.length + uptoBulk d + 1
  | (_, d) => uptoBulk d + 1
 end
def uptoSmall : (H : Type) → List (DataW H) → Bool := fun _ ds => decide (uptoBulkAll ds ≤ 1048576)
def OpenSpec.upto (s : _root_.Go.ChangeSpec) : _root_.Go.OpenSpec := { _root_.Go.OpenSpec.ofChange s with cond := some uptoSmall }

/-- 'laws.FnExactDeskLines', WHERE WHAT IT READS IS OF BULK AT MOST 1048576: true; the input reads as it did. -/
def fnExactDeskLinesUptoRow : OpenClaim := { program := "ytfdnniedcfeiiaadoor", sum := "7c68ffe889631acad8ec3d1ac2f02f4cd0b5b064a93d1abd4c6b1990dfcdeb37", func := "loop.example/g00364/laws.FnExactDeskLines", spec := "fnExactDeskLines", named := ["loop.example/g00364/impl.errNoDeskLine"], ifaces := true, apart := false, laid := [("loop.example/g00364/impl.errNoDeskLine", laid_loop_example_g00364_impl_errNoDeskLine)], narrowed := true }
def FnExactDeskLinesUptoSaid : Prop := fnExactDeskLinesUptoRow.holds Tryd.pinned (OpenSpec.upto fnExactDeskLinesSpec)

end Rows
end Go.Proofs.YtfdnniedcfeiiaaDoor
