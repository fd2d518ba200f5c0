/-
  No cell of these rows narrows 'for every input' (looked for: loops, veiled, ifaces, maps, wideKeys, modest, calm, conditions, laid).
  DERIVED. THE GIVEN ROWS OF THIS SEAT. 6 by the template 'for every input the law returns true; each argument reads behind the call as it read before'; 0 by the template 'total and deterministic' (their statements: YtjglkodenegcnaaTotals.lean).
  GIVEN WITH THE SEED: the statements are not yours to turn. If you find one false, say at which input.
  Laid BY PROGRAM, IN A SANDBOX (cutbox-rows.mjs): the forced cells as the released guide's own fill.sh prints them over the translation 8dfda112e520ed05… (all of the seat's roots in one cut). By AI agents, Wed Nov 11 2026. No macro, syntax, notation, axiom, sorry.
-/
import Derived.Test.YtjglkodenegcnaaChecked
import GoSem.Claim
import GoSem.ClaimJoined
import GoSem.ClaimMapViews
import Derived.JoinedTies
import Derived.KernelRfl
namespace Go.Proofs.Ytjglkodenegcnaa
/- THE CELL 'sum', in the pinned program and in every row, IS THE sha256 OF THE DUMP (.gsa) THAT YtjglkodenegcnaaProg.lean LOADS. Nothing in Lean hashes anything: it is a label: what it is worth is what the hold of that sum in a sandbox is worth. -/
noncomputable def Try.pinned : Pinned := { name := "ytjglkodenegcnaa", sum := "8dfda112e520ed050b4b1cdfeb5fdb585bacb8d8fdab73b96cdef49350d568ed", checked := Try.checked }
namespace Rows
def none {H : Type} : Left H := { results := [], args := [] }

/-- 'laws.FnWall': WHATEVER THE INPUT: true; the input reads as it did. -/
def fnWallSpec : ChangeSpec := { name := "fnWall", fn := fun _ => fun
  | [d1, d2] => { results := [.lit (.bool true)], args := [d1, d2] }
  | _ => none }
def fnWallRow : OpenClaim := { program := "ytjglkodenegcnaa", sum := "8dfda112e520ed050b4b1cdfeb5fdb585bacb8d8fdab73b96cdef49350d568ed", func := "loop.example/g00364/laws.FnWall", spec := "fnWall", unfollowed := true, recurses := true, apart := false }
def FnWallSaid : Prop := fnWallRow.holds Try.pinned (OpenSpec.ofChange fnWallSpec)

/-- ITS FALSE NEIGHBOUR: 'it returns false'. Refute it at one input. -/
def fnWallWrong : ChangeSpec := { name := "fnWall", fn := fun _ => fun
  | [d1, d2] => { results := [.lit (.bool false)], args := [d1, d2] }
  | _ => none }
def FnWallWrongFalsely : Prop := fnWallRow.holds Try.pinned (OpenSpec.ofChange fnWallWrong)

/-- 'laws.FnResolve': WHATEVER THE INPUT: true; the input reads as it did. -/
def fnResolveSpec : ChangeSpec := { name := "fnResolve", fn := fun _ => fun
  | [d] => { results := [.lit (.bool true)], args := [d] }
  | _ => none }
def fnResolveRow : OpenClaim := { program := "ytjglkodenegcnaa", sum := "8dfda112e520ed050b4b1cdfeb5fdb585bacb8d8fdab73b96cdef49350d568ed", func := "loop.example/g00364/laws.FnResolve", spec := "fnResolve", unfollowed := true, recurses := true, apart := false }
def FnResolveSaid : Prop := fnResolveRow.holds Try.pinned (OpenSpec.ofChange fnResolveSpec)

/-- ITS FALSE NEIGHBOUR: 'it returns false'. Refute it at one input. -/
def fnResolveWrong : ChangeSpec := { name := "fnResolve", fn := fun _ => fun
  | [d] => { results := [.lit (.bool false)], args := [d] }
  | _ => none }
def FnResolveWrongFalsely : Prop := fnResolveRow.holds Try.pinned (OpenSpec.ofChange fnResolveWrong)

/-- 'laws.FnExactTurnAt': WHATEVER THE INPUT: true; the input reads as it did. -/
def fnExactTurnAtSpec : ChangeSpec := { name := "fnExactTurnAt", fn := fun _ => fun
  | [d1, d2] => { results := [.lit (.bool true)], args := [d1, d2] }
  | _ => none }
def fnExactTurnAtRow : OpenClaim := { program := "ytjglkodenegcnaa", sum := "8dfda112e520ed050b4b1cdfeb5fdb585bacb8d8fdab73b96cdef49350d568ed", func := "loop.example/g00364/laws.FnExactTurnAt", spec := "fnExactTurnAt", unfollowed := true, recurses := true, apart := false }
def FnExactTurnAtSaid : Prop := fnExactTurnAtRow.holds Try.pinned (OpenSpec.ofChange fnExactTurnAtSpec)

/-- ITS FALSE NEIGHBOUR: 'it returns false'. Refute it at one input. -/
def fnExactTurnAtWrong : ChangeSpec := { name := "fnExactTurnAt", fn := fun _ => fun
  | [d1, d2] => { results := [.lit (.bool false)], args := [d1, d2] }
  | _ => none }
def FnExactTurnAtWrongFalsely : Prop := fnExactTurnAtRow.holds Try.pinned (OpenSpec.ofChange fnExactTurnAtWrong)

/-- 'laws.FnExactWallOf': WHATEVER THE INPUT: true; the input reads as it did. -/
def fnExactWallOfSpec : ChangeSpec := { name := "fnExactWallOf", fn := fun _ => fun
  | [d1, d2] => { results := [.lit (.bool true)], args := [d1, d2] }
  | _ => none }
def fnExactWallOfRow : OpenClaim := { program := "ytjglkodenegcnaa", sum := "8dfda112e520ed050b4b1cdfeb5fdb585bacb8d8fdab73b96cdef49350d568ed", func := "loop.example/g00364/laws.FnExactWallOf", spec := "fnExactWallOf", unfollowed := true, recurses := true, apart := false }
def FnExactWallOfSaid : Prop := fnExactWallOfRow.holds Try.pinned (OpenSpec.ofChange fnExactWallOfSpec)

/-- ITS FALSE NEIGHBOUR: 'it returns false'. Refute it at one input. -/
def fnExactWallOfWrong : ChangeSpec := { name := "fnExactWallOf", fn := fun _ => fun
  | [d1, d2] => { results := [.lit (.bool false)], args := [d1, d2] }
  | _ => none }
def FnExactWallOfWrongFalsely : Prop := fnExactWallOfRow.holds Try.pinned (OpenSpec.ofChange fnExactWallOfWrong)

/-- 'laws.FnExactInstantsOf': WHATEVER THE INPUT: true; the input reads as it did. -/
def fnExactInstantsOfSpec : ChangeSpec := { name := "fnExactInstantsOf", fn := fun _ => fun
  | [d1, d2] => { results := [.lit (.bool true)], args := [d1, d2] }
  | _ => none }
def fnExactInstantsOfRow : OpenClaim := { program := "ytjglkodenegcnaa", sum := "8dfda112e520ed050b4b1cdfeb5fdb585bacb8d8fdab73b96cdef49350d568ed", func := "loop.example/g00364/laws.FnExactInstantsOf", spec := "fnExactInstantsOf", unfollowed := true, recurses := true, apart := false }
def FnExactInstantsOfSaid : Prop := fnExactInstantsOfRow.holds Try.pinned (OpenSpec.ofChange fnExactInstantsOfSpec)

/-- ITS FALSE NEIGHBOUR: 'it returns false'. Refute it at one input. -/
def fnExactInstantsOfWrong : ChangeSpec := { name := "fnExactInstantsOf", fn := fun _ => fun
  | [d1, d2] => { results := [.lit (.bool false)], args := [d1, d2] }
  | _ => none }
def FnExactInstantsOfWrongFalsely : Prop := fnExactInstantsOfRow.holds Try.pinned (OpenSpec.ofChange fnExactInstantsOfWrong)

/-- 'laws.FnExactResolve': WHATEVER THE INPUT: true; the input reads as it did. -/
def fnExactResolveSpec : ChangeSpec := { name := "fnExactResolve", fn := fun _ => fun
  | [d1, d2, d3, d4] => { results := [.lit (.bool true)], args := [d1, d2, d3, d4] }
  | _ => none }
def fnExactResolveRow : OpenClaim := { program := "ytjglkodenegcnaa", sum := "8dfda112e520ed050b4b1cdfeb5fdb585bacb8d8fdab73b96cdef49350d568ed", func := "loop.example/g00364/laws.FnExactResolve", spec := "fnExactResolve", unfollowed := true, recurses := true, apart := false }
def FnExactResolveSaid : Prop := fnExactResolveRow.holds Try.pinned (OpenSpec.ofChange fnExactResolveSpec)

/-- ITS FALSE NEIGHBOUR: 'it returns false'. Refute it at one input. -/
def fnExactResolveWrong : ChangeSpec := { name := "fnExactResolve", fn := fun _ => fun
  | [d1, d2, d3, d4] => { results := [.lit (.bool false)], args := [d1, d2, d3, d4] }
  | _ => none }
def FnExactResolveWrongFalsely : Prop := fnExactResolveRow.holds Try.pinned (OpenSpec.ofChange fnExactResolveWrong)

/- THE SECOND FORM. 'bulk': how many values and letters a reading holds, each counted each time it is reached (what is shared counts as often as it is met; a slice's spare places count too). A statement '..UptoSaid' is the law's where the arguments, and the package variables that the reading takes, are together of bulk at most 1048576: NARROWER than '..Said'. Prove '..Said' where nothing that the law and all that it calls make is longer than what came in: it says more and counts as full. Else prove '..UptoSaid'. A law counts once. -/
mutual
def uptoBulk {H : Type} : DataW H → Nat
  | .lit (.string bytes) => bytes.length + 1
  | .lit _ => 1
  | .nil => 1
  | .ptr d => uptoBulk d + 1
  | .slice elems spare => uptoBulkAll elems + uptoBulkAll spare + 1
  | .agg parts => uptoBulkAll parts + 1
  | .iface _ d => uptoBulk d + 1
  | .map entries => uptoBulkEntries entries + 1
  | .held _ => 1
def uptoBulkAll {H : Type} : List (DataW H) → Nat
  | [] => 0
  | d :: r => uptoBulk d + uptoBulkAll r
def uptoBulkEntries {H : Type} : List (Lit × DataW H) → Nat
  | [] => 0
  | x :: r => uptoBulkEntry x + uptoBulkEntries r
def uptoBulkEntry {H : Type} : Lit × DataW H → Nat
  | (.string bytes, d) => bytes.length + uptoBulk d + 1
  | (_, d) => uptoBulk d + 1
 end
def uptoSmall : (H : Type) → List (DataW H) → Bool := fun _ ds => decide (uptoBulkAll ds ≤ 1048576)
def OpenSpec.upto (s : _root_.Go.ChangeSpec) : _root_.Go.OpenSpec := { _root_.Go.OpenSpec.ofChange s with cond := some uptoSmall }

/-- 'laws.FnWall', WHERE WHAT IT READS IS OF BULK AT MOST 1048576: true; the input reads as it did. -/
def fnWallUptoRow : OpenClaim := { program := "ytjglkodenegcnaa", sum := "8dfda112e520ed050b4b1cdfeb5fdb585bacb8d8fdab73b96cdef49350d568ed", func := "loop.example/g00364/laws.FnWall", spec := "fnWall", unfollowed := true, recurses := true, apart := false, narrowed := true }
def FnWallUptoSaid : Prop := fnWallUptoRow.holds Try.pinned (OpenSpec.upto fnWallSpec)

/-- 'laws.FnResolve', WHERE WHAT IT READS IS OF BULK AT MOST 1048576: true; the input reads as it did. -/
def fnResolveUptoRow : OpenClaim := { program := "ytjglkodenegcnaa", sum := "8dfda112e520ed050b4b1cdfeb5fdb585bacb8d8fdab73b96cdef49350d568ed", func := "loop.example/g00364/laws.FnResolve", spec := "fnResolve", unfollowed := true, recurses := true, apart := false, narrowed := true }
def FnResolveUptoSaid : Prop := fnResolveUptoRow.holds Try.pinned (OpenSpec.upto fnResolveSpec)

/-- 'laws.FnExactTurnAt', WHERE WHAT IT READS IS OF BULK AT MOST 1048576: true; the input reads as it did. -/
def fnExactTurnAtUptoRow : OpenClaim := { program := "ytjglkodenegcnaa", sum := "8dfda112e520ed050b4b1cdfeb5fdb585bacb8d8fdab73b96cdef49350d568ed", func := "loop.example/g00364/laws.FnExactTurnAt", spec := "fnExactTurnAt", unfollowed := true, recurses := true, apart := false, narrowed := true }
def FnExactTurnAtUptoSaid : Prop := fnExactTurnAtUptoRow.holds Try.pinned (OpenSpec.upto fnExactTurnAtSpec)

/-- 'laws.FnExactWallOf', WHERE WHAT IT READS IS OF BULK AT MOST 1048576: true; the input reads as it did. -/
def fnExactWallOfUptoRow : OpenClaim := { program := "ytjglkodenegcnaa", sum := "8dfda112e520ed050b4b1cdfeb5fdb585bacb8d8fdab73b96cdef49350d568ed", func := "loop.example/g00364/laws.FnExactWallOf", spec := "fnExactWallOf", unfollowed := true, recurses := true, apart := false, narrowed := true }
def FnExactWallOfUptoSaid : Prop := fnExactWallOfUptoRow.holds Try.pinned (OpenSpec.upto fnExactWallOfSpec)

/-- 'laws.FnExactInstantsOf', WHERE WHAT IT READS IS OF BULK AT MOST 1048576: true; the input reads as it did. -/
def fnExactInstantsOfUptoRow : OpenClaim := { program := "ytjglkodenegcnaa", sum := "8dfda112e520ed050b4b1cdfeb5fdb585bacb8d8fdab73b96cdef49350d568ed", func := "loop.example/g00364/laws.FnExactInstantsOf", spec := "fnExactInstantsOf", unfollowed := true, recurses := true, apart := false, narrowed := true }
def FnExactInstantsOfUptoSaid : Prop := fnExactInstantsOfUptoRow.holds Try.pinned (OpenSpec.upto fnExactInstantsOfSpec)

/-- 'laws.FnExactResolve', WHERE WHAT IT READS IS OF BULK AT MOST 1048576: true; the input reads as it did. -/
def fnExactResolveUptoRow : OpenClaim := { program := "ytjglkodenegcnaa", sum := "8dfda112e520ed050b4b1cdfeb5fdb585bacb8d8fdab73b96cdef49350d568ed", func := "loop.example/g00364/laws.FnExactResolve", spec := "fnExactResolve", unfollowed := true, recurses := true, apart := false, narrowed := true }
def FnExactResolveUptoSaid : Prop := fnExactResolveUptoRow.holds Try.pinned (OpenSpec.upto fnExactResolveSpec)

end Rows
end Go.Proofs.Ytjglkodenegcnaa
