/-
  NARROWER THAN 'FOR EVERY INPUT', by the rows' own cells (each row's printed sentence says how): FnHaps: laid · FnTable: laid · FnExactReleaseRight: laid · FnExactReleaseText: laid · FnExactZoneOf: laid · FnExactHapsOf: laid · FnExactTableOf: laid.
  DERIVED. THE GIVEN ROWS OF THIS SEAT. 7 by the template 'for every input the law returns true; each argument reads behind the call as it read before'; 0 by the template 'total and deterministic' (their statements: YtjdokmllidhapaaGreatDoorTotals.lean).
  GIVEN WITH THE SEED: the statements are not yours to turn. If you find one false, say at which input.
  Laid BY PROGRAM, IN A SANDBOX (cutbox-rows.mjs): the forced cells as the released guide's own fill.sh prints them over the translation 267979d63eb53ddf… (all of the seat's roots in one cut). By AI agents, Wed Nov 11 2026. No macro, syntax, notation, axiom, sorry.
-/
import Derived.Test.YtjdokmllidhapaaGreatDoorChecked
import GoSem.PinnedTables
import GoSem.Claim
import GoSem.ClaimJoined
import GoSem.ClaimMapViews
import Derived.JoinedTies
import Derived.KernelRfl
namespace Go.Proofs.YtjdokmllidhapaaGreatDoor
/- THE CELL 'sum', in the pinned program and in every row, IS THE sha256 OF THE DUMP (.gsa) THAT YtjdokmllidhapaaGreatDoorProg.lean LOADS. Nothing in Lean hashes anything: it is a label: what it is worth is what the hold of that sum in a sandbox is worth. -/
noncomputable def Tryz.pinned : Pinned := { name := "ytjdokmllidhapaagreatdoor", sum := "267979d63eb53ddf7c46225e33927988d2758a1a21f44ccc1d9c8d0e63c33715", checked := Tryz.checked }
namespace Rows
def none {H : Type} : Left H := { results := [], args := [] }

/- WHAT THE LISTED PACKAGE-LEVEL VARIABLES READ AS WHEN THE CALL BEGINS. Each datum BY PROGRAM (the guide's laid-datum.mjs) off the statement by which the dump's own 'gosem.cut.vars' lays the variable. In a bare row this is a premise. The card (YtjdokmllidhapaaGreatDoorCards.lean) ties it to the program's text. -/
def laid_unicode_utf8_acceptRanges {H : Type} : DataW H := .agg [.agg [.lit (.int .u8 128), .lit (.int .u8 191)], .agg [.lit (.int .u8 160), .lit (.int .u8 191)], .agg [.lit (.int .u8 128), .lit (.int .u8 159)], .agg [.lit (.int .u8 144), .lit (.int .u8 191)], .agg [.lit (.int .u8 128), .lit (.int .u8 143)], .agg [.lit (.int .u8 0), .lit (.int .u8 0)], .agg [.lit (.int .u8 0), .lit (.int .u8 0)], .agg [.lit (.int .u8 0), .lit (.int .u8 0)], .agg [.lit (.int .u8 0), .lit (.int .u8 0)], .agg [.lit (.int .u8 0), .lit (.int .u8 0)], .agg [.lit (.int .u8 0), .lit (.int .u8 0)], .agg [.lit (.int .u8 0), .lit (.int .u8 0)], .agg [.lit (.int .u8 0), .lit (.int .u8 0)], .agg [.lit (.int .u8 0), .lit (.int .u8 0)], .agg [.lit (.int .u8 0), .lit (.int .u8 0)], .agg [.lit (.int .u8 0), .lit (.int .u8 0)]]
def laid_loop_example_g00364_impl_monthLengths {H : Type} : DataW H := .agg [.lit (.int .i64 0), .lit (.int .i64 31), .lit (.int .i64 28), .lit (.int .i64 31), .lit (.int .i64 30), .lit (.int .i64 31), .lit (.int .i64 30), .lit (.int .i64 31), .lit (.int .i64 31), .lit (.int .i64 30), .lit (.int .i64 31), .lit (.int .i64 30), .lit (.int .i64 31)]
/-- One of Go's own tables, pinned by name: the form's constant. -/
def laid_unicode_utf8_first : DataW Unit := Go.Pinned.utf8First
def laid_math_bits_deBruijn32tab {H : Type} : DataW H := .agg [.lit (.int .u8 0), .lit (.int .u8 1), .lit (.int .u8 28), .lit (.int .u8 2), .lit (.int .u8 29), .lit (.int .u8 14), .lit (.int .u8 24), .lit (.int .u8 3), .lit (.int .u8 30), .lit (.int .u8 22), .lit (.int .u8 20), .lit (.int .u8 15), .lit (.int .u8 25), .lit (.int .u8 17), .lit (.int .u8 4), .lit (.int .u8 8), .lit (.int .u8 31), .lit (.int .u8 27), .lit (.int .u8 13), .lit (.int .u8 23), .lit (.int .u8 21), .lit (.int .u8 19), .lit (.int .u8 16), .lit (.int .u8 7), .lit (.int .u8 26), .lit (.int .u8 12), .lit (.int .u8 18), .lit (.int .u8 6), .lit (.int .u8 11), .lit (.int .u8 5), .lit (.int .u8 10), .lit (.int .u8 9)]
def laid_math_bits_deBruijn64tab {H : Type} : DataW H := .agg [.lit (.int .u8 0), .lit (.int .u8 1), .lit (.int .u8 56), .lit (.int .u8 2), .lit (.int .u8 57), .lit (.int .u8 49), .lit (.int .u8 28), .lit (.int .u8 3), .lit (.int .u8 61), .lit (.int .u8 58), .lit (.int .u8 42), .lit (.int .u8 50), .lit (.int .u8 38), .lit (.int .u8 29), .lit (.int .u8 17), .lit (.int .u8 4), .lit (.int .u8 62), .lit (.int .u8 47), .lit (.int .u8 59), .lit (.int .u8 36), .lit (.int .u8 45), .lit (.int .u8 43), .lit (.int .u8 51), .lit (.int .u8 22), .lit (.int .u8 53), .lit (.int .u8 39), .lit (.int .u8 33), .lit (.int .u8 30), .lit (.int .u8 24), .lit (.int .u8 18), .lit (.int .u8 12), .lit (.int .u8 5), .lit (.int .u8 63), .lit (.int .u8 55), .lit (.int .u8 48), .lit (.int .u8 27), .lit (.int .u8 60), .lit (.int .u8 41), .lit (.int .u8 37), .lit (.int .u8 16), .lit (.int .u8 46), .lit (.int .u8 35), .lit (.int .u8 44), .lit (.int .u8 21), .lit (.int .u8 52), .lit (.int .u8 32), .lit (.int .u8 23), .lit (.int .u8 11), .lit (.int .u8 54), .lit (.int .u8 26), .lit (.int .u8 40), .lit (.int .u8 15), .lit (.int .u8 34), .lit (.int .u8 20), .lit (.int .u8 31), .lit (.int .u8 10), .lit (.int .u8 25), .lit (.int .u8 14), .lit (.int .u8 19), .lit (.int .u8 9), .lit (.int .u8 13), .lit (.int .u8 8), .lit (.int .u8 7), .lit (.int .u8 6)]
def laid_internal_strconv_uint64pow10 {H : Type} : DataW H := .agg [.lit (.int .u64 1), .lit (.int .u64 10), .lit (.int .u64 100), .lit (.int .u64 1000), .lit (.int .u64 10000), .lit (.int .u64 100000), .lit (.int .u64 1000000), .lit (.int .u64 10000000), .lit (.int .u64 100000000), .lit (.int .u64 1000000000), .lit (.int .u64 10000000000), .lit (.int .u64 100000000000), .lit (.int .u64 1000000000000), .lit (.int .u64 10000000000000), .lit (.int .u64 100000000000000), .lit (.int .u64 1000000000000000), .lit (.int .u64 10000000000000000), .lit (.int .u64 100000000000000000), .lit (.int .u64 1000000000000000000), .lit (.int .u64 10000000000000000000)]

/-- 'laws.FnHaps': WHATEVER THE INPUT: true; the input reads as it did. -/
def fnHapsSpec : ChangeSpec := { name := "fnHaps", vars := ["loop.example/g00364/impl.monthLengths"], fn := fun _ => fun
  | [d1, d2, g1] => { results := [.lit (.bool true)], args := [d1, d2], vars := [g1] }
  | _ => none }
def fnHapsRow : OpenClaim := { program := "ytjdokmllidhapaagreatdoor", sum := "267979d63eb53ddf7c46225e33927988d2758a1a21f44ccc1d9c8d0e63c33715", func := "loop.example/g00364/laws.FnHaps", spec := "fnHaps", inPlace := ["internal/bytealg.IndexByteString", "internal/bytealg.IndexString", "internal/bytealg.CountString", "internal/abi.NoEscape", "internal/bytealg.MakeNoZero"], unfollowed := true, recurses := true, named := ["loop.example/g00364/impl.monthLengths", "internal/bytealg.MaxLen", "unicode/utf8.first", "unicode/utf8.acceptRanges"], apart := false, laid := [("unicode/utf8.acceptRanges", laid_unicode_utf8_acceptRanges), ("loop.example/g00364/impl.monthLengths", laid_loop_example_g00364_impl_monthLengths), ("unicode/utf8.first", laid_unicode_utf8_first)] }
def FnHapsSaid : Prop := fnHapsRow.holds Tryz.pinned (OpenSpec.ofChange fnHapsSpec)

/-- ITS FALSE NEIGHBOUR: 'it returns false'. Refute it at one input. -/
def fnHapsWrong : ChangeSpec := { name := "fnHaps", vars := ["loop.example/g00364/impl.monthLengths"], fn := fun _ => fun
  | [d1, d2, g1] => { results := [.lit (.bool false)], args := [d1, d2], vars := [g1] }
  | _ => none }
def FnHapsWrongFalsely : Prop := fnHapsRow.holds Tryz.pinned (OpenSpec.ofChange fnHapsWrong)

/-- 'laws.FnTable': WHATEVER THE INPUT: true; the input reads as it did. -/
def fnTableSpec : ChangeSpec := { name := "fnTable", vars := ["loop.example/g00364/impl.monthLengths"], fn := fun _ => fun
  | [d, g1] => { results := [.lit (.bool true)], args := [d], vars := [g1] }
  | _ => none }
def fnTableRow : OpenClaim := { program := "ytjdokmllidhapaagreatdoor", sum := "267979d63eb53ddf7c46225e33927988d2758a1a21f44ccc1d9c8d0e63c33715", func := "loop.example/g00364/laws.FnTable", spec := "fnTable", inPlace := ["internal/bytealg.IndexByteString", "internal/bytealg.IndexString", "internal/bytealg.CountString", "internal/abi.NoEscape", "internal/bytealg.MakeNoZero"], unfollowed := true, recurses := true, named := ["loop.example/g00364/impl.monthLengths", "internal/bytealg.MaxLen", "unicode/utf8.first", "unicode/utf8.acceptRanges"], apart := false, laid := [("unicode/utf8.acceptRanges", laid_unicode_utf8_acceptRanges), ("loop.example/g00364/impl.monthLengths", laid_loop_example_g00364_impl_monthLengths), ("unicode/utf8.first", laid_unicode_utf8_first)] }
def FnTableSaid : Prop := fnTableRow.holds Tryz.pinned (OpenSpec.ofChange fnTableSpec)

/-- ITS FALSE NEIGHBOUR: 'it returns false'. Refute it at one input. -/
def fnTableWrong : ChangeSpec := { name := "fnTable", vars := ["loop.example/g00364/impl.monthLengths"], fn := fun _ => fun
  | [d, g1] => { results := [.lit (.bool false)], args := [d], vars := [g1] }
  | _ => none }
def FnTableWrongFalsely : Prop := fnTableRow.holds Tryz.pinned (OpenSpec.ofChange fnTableWrong)

/-- 'laws.FnExactReleaseRight': WHATEVER THE INPUT: true; the input reads as it did. -/
def fnExactReleaseRightSpec : ChangeSpec := { name := "fnExactReleaseRight", vars := ["loop.example/g00364/impl.monthLengths"], fn := fun _ => fun
  | [d, g1] => { results := [.lit (.bool true)], args := [d], vars := [g1] }
  | _ => none }
def fnExactReleaseRightRow : OpenClaim := { program := "ytjdokmllidhapaagreatdoor", sum := "267979d63eb53ddf7c46225e33927988d2758a1a21f44ccc1d9c8d0e63c33715", func := "loop.example/g00364/laws.FnExactReleaseRight", spec := "fnExactReleaseRight", inPlace := ["internal/bytealg.IndexByteString", "internal/bytealg.IndexString", "internal/bytealg.CountString"], unfollowed := true, recurses := true, named := ["loop.example/g00364/impl.monthLengths", "internal/bytealg.MaxLen"], apart := false, laid := [("loop.example/g00364/impl.monthLengths", laid_loop_example_g00364_impl_monthLengths)] }
def FnExactReleaseRightSaid : Prop := fnExactReleaseRightRow.holds Tryz.pinned (OpenSpec.ofChange fnExactReleaseRightSpec)

/-- ITS FALSE NEIGHBOUR: 'it returns false'. Refute it at one input. -/
def fnExactReleaseRightWrong : ChangeSpec := { name := "fnExactReleaseRight", vars := ["loop.example/g00364/impl.monthLengths"], fn := fun _ => fun
  | [d, g1] => { results := [.lit (.bool false)], args := [d], vars := [g1] }
  | _ => none }
def FnExactReleaseRightWrongFalsely : Prop := fnExactReleaseRightRow.holds Tryz.pinned (OpenSpec.ofChange fnExactReleaseRightWrong)

/-- 'laws.FnExactReleaseText': WHATEVER THE INPUT: true; the input reads as it did. -/
def fnExactReleaseTextSpec : ChangeSpec := { name := "fnExactReleaseText", vars := ["loop.example/g00364/impl.monthLengths"], fn := fun _ => fun
  | [d, g1] => { results := [.lit (.bool true)], args := [d], vars := [g1] }
  | _ => none }
def fnExactReleaseTextRow : OpenClaim := { program := "ytjdokmllidhapaagreatdoor", sum := "267979d63eb53ddf7c46225e33927988d2758a1a21f44ccc1d9c8d0e63c33715", func := "loop.example/g00364/laws.FnExactReleaseText", spec := "fnExactReleaseText", inPlace := ["internal/bytealg.IndexByteString", "internal/bytealg.IndexString", "internal/bytealg.CountString", "internal/abi.NoEscape", "internal/bytealg.MakeNoZero"], unfollowed := true, recurses := true, named := ["loop.example/g00364/impl.monthLengths", "internal/bytealg.MaxLen", "internal/strconv.uint64pow10", "math/bits.deBruijn32tab", "math/bits.deBruijn64tab"], apart := false, laid := [("math/bits.deBruijn32tab", laid_math_bits_deBruijn32tab), ("math/bits.deBruijn64tab", laid_math_bits_deBruijn64tab), ("internal/strconv.uint64pow10", laid_internal_strconv_uint64pow10), ("loop.example/g00364/impl.monthLengths", laid_loop_example_g00364_impl_monthLengths)] }
def FnExactReleaseTextSaid : Prop := fnExactReleaseTextRow.holds Tryz.pinned (OpenSpec.ofChange fnExactReleaseTextSpec)

/-- ITS FALSE NEIGHBOUR: 'it returns false'. Refute it at one input. -/
def fnExactReleaseTextWrong : ChangeSpec := { name := "fnExactReleaseText", vars := ["loop.example/g00364/impl.monthLengths"], fn := fun _ => fun
  | [d, g1] => { results := [.lit (.bool false)], args := [d], vars := [g1] }
  | _ => none }
def FnExactReleaseTextWrongFalsely : Prop := fnExactReleaseTextRow.holds Tryz.pinned (OpenSpec.ofChange fnExactReleaseTextWrong)

/-- 'laws.FnExactZoneOf': WHATEVER THE INPUT: true; the input reads as it did. -/
def fnExactZoneOfSpec : ChangeSpec := { name := "fnExactZoneOf", vars := ["loop.example/g00364/impl.monthLengths"], fn := fun _ => fun
  | [d1, d2, g1] => { results := [.lit (.bool true)], args := [d1, d2], vars := [g1] }
  | _ => none }
def fnExactZoneOfRow : OpenClaim := { program := "ytjdokmllidhapaagreatdoor", sum := "267979d63eb53ddf7c46225e33927988d2758a1a21f44ccc1d9c8d0e63c33715", func := "loop.example/g00364/laws.FnExactZoneOf", spec := "fnExactZoneOf", inPlace := ["internal/bytealg.IndexByteString", "internal/bytealg.IndexString", "internal/bytealg.CountString"], unfollowed := true, recurses := true, named := ["loop.example/g00364/impl.monthLengths", "internal/bytealg.MaxLen"], apart := false, laid := [("loop.example/g00364/impl.monthLengths", laid_loop_example_g00364_impl_monthLengths)] }
def FnExactZoneOfSaid : Prop := fnExactZoneOfRow.holds Tryz.pinned (OpenSpec.ofChange fnExactZoneOfSpec)

/-- ITS FALSE NEIGHBOUR: 'it returns false'. Refute it at one input. -/
def fnExactZoneOfWrong : ChangeSpec := { name := "fnExactZoneOf", vars := ["loop.example/g00364/impl.monthLengths"], fn := fun _ => fun
  | [d1, d2, g1] => { results := [.lit (.bool false)], args := [d1, d2], vars := [g1] }
  | _ => none }
def FnExactZoneOfWrongFalsely : Prop := fnExactZoneOfRow.holds Tryz.pinned (OpenSpec.ofChange fnExactZoneOfWrong)

/-- 'laws.FnExactHapsOf': WHATEVER THE INPUT: true; the input reads as it did. -/
def fnExactHapsOfSpec : ChangeSpec := { name := "fnExactHapsOf", vars := ["loop.example/g00364/impl.monthLengths"], fn := fun _ => fun
  | [d1, d2, d3, g1] => { results := [.lit (.bool true)], args := [d1, d2, d3], vars := [g1] }
  | _ => none }
def fnExactHapsOfRow : OpenClaim := { program := "ytjdokmllidhapaagreatdoor", sum := "267979d63eb53ddf7c46225e33927988d2758a1a21f44ccc1d9c8d0e63c33715", func := "loop.example/g00364/laws.FnExactHapsOf", spec := "fnExactHapsOf", inPlace := ["internal/bytealg.IndexByteString", "internal/bytealg.IndexString", "internal/bytealg.CountString"], unfollowed := true, recurses := true, named := ["loop.example/g00364/impl.monthLengths", "internal/bytealg.MaxLen"], apart := false, laid := [("loop.example/g00364/impl.monthLengths", laid_loop_example_g00364_impl_monthLengths)] }
def FnExactHapsOfSaid : Prop := fnExactHapsOfRow.holds Tryz.pinned (OpenSpec.ofChange fnExactHapsOfSpec)

/-- ITS FALSE NEIGHBOUR: 'it returns false'. Refute it at one input. -/
def fnExactHapsOfWrong : ChangeSpec := { name := "fnExactHapsOf", vars := ["loop.example/g00364/impl.monthLengths"], fn := fun _ => fun
  | [d1, d2, d3, g1] => { results := [.lit (.bool false)], args := [d1, d2, d3], vars := [g1] }
  | _ => none }
def FnExactHapsOfWrongFalsely : Prop := fnExactHapsOfRow.holds Tryz.pinned (OpenSpec.ofChange fnExactHapsOfWrong)

/-- 'laws.FnExactTableOf': WHATEVER THE INPUT: true; the input reads as it did. -/
def fnExactTableOfSpec : ChangeSpec := { name := "fnExactTableOf", vars := ["loop.example/g00364/impl.monthLengths"], fn := fun _ => fun
  | [d1, d2, g1] => { results := [.lit (.bool true)], args := [d1, d2], vars := [g1] }
  | _ => none }
def fnExactTableOfRow : OpenClaim := { program := "ytjdokmllidhapaagreatdoor", sum := "267979d63eb53ddf7c46225e33927988d2758a1a21f44ccc1d9c8d0e63c33715", func := "loop.example/g00364/laws.FnExactTableOf", spec := "fnExactTableOf", inPlace := ["internal/bytealg.IndexByteString", "internal/bytealg.IndexString", "internal/bytealg.CountString", "internal/abi.NoEscape", "internal/bytealg.MakeNoZero"], unfollowed := true, recurses := true, named := ["loop.example/g00364/impl.monthLengths", "internal/bytealg.MaxLen", "unicode/utf8.first", "unicode/utf8.acceptRanges"], apart := false, laid := [("unicode/utf8.acceptRanges", laid_unicode_utf8_acceptRanges), ("loop.example/g00364/impl.monthLengths", laid_loop_example_g00364_impl_monthLengths), ("unicode/utf8.first", laid_unicode_utf8_first)] }
def FnExactTableOfSaid : Prop := fnExactTableOfRow.holds Tryz.pinned (OpenSpec.ofChange fnExactTableOfSpec)

/-- ITS FALSE NEIGHBOUR: 'it returns false'. Refute it at one input. -/
def fnExactTableOfWrong : ChangeSpec := { name := "fnExactTableOf", vars := ["loop.example/g00364/impl.monthLengths"], fn := fun _ => fun
  | [d1, d2, g1] => { results := [.lit (.bool false)], args := [d1, d2], vars := [g1] }
  | _ => none }
def FnExactTableOfWrongFalsely : Prop := fnExactTableOfRow.holds Tryz.pinned (OpenSpec.ofChange fnExactTableOfWrong)

/- THE SECOND FORM. 'bulk': how many values and letters a reading holds, each counted each time it is reached (what is shared counts as often as it is met; a slice's spare places count too). A statement '..UptoSaid' is the law's where the arguments, and the package variables that the reading takes, are together of bulk at most 1048576: NARROWER than '..Said'. Prove '..Said' where nothing that the law and all that it calls make is longer than what came in: it says more and counts as full. Else prove '..UptoSaid'. A law counts once. -/
mutual
def uptoBulk {H : Type} : DataW H → Nat
  | .lit (.string bytes) => bytes.length + 1
  | .lit _ => 1
  | .nil => 1
  | .ptr d => uptoBulk d + 1
  | .slice elems spare => uptoBulkAll elems + uptoBulkAll spare + 1
  | .agg parts => uptoBulkAll parts + 1
  | .iface _ d => uptoBulk d + 1
  | .map entries => uptoBulkEntries entries + 1
  | .held _ => 1
def uptoBulkAll {H : Type} : List (DataW H) → Nat
  | [] => 0
  | d :: r => uptoBulk d + uptoBulkAll r
def uptoBulkEntries {H : Type} : List (Lit × DataW H) → Nat
  | [] => 0
  | x :: r => uptoBulkEntry x + uptoBulkEntries r
def uptoBulkEntry {H : Type} : Lit × DataW H → Nat
  | (.string bytes, d) => bytes.length + uptoBulk d + 1
  | (_, d) => uptoBulk d + 1
 end
def uptoSmall : (H : Type) → List (DataW H) → Bool := fun _ ds => decide (uptoBulkAll ds ≤ 1048576)
def OpenSpec.upto (s : _root_.Go.ChangeSpec) : _root_.Go.OpenSpec := { _root_.Go.OpenSpec.ofChange s with cond := some uptoSmall }

/-- 'laws.FnHaps', WHERE WHAT IT READS IS OF BULK AT MOST 1048576: true; the input reads as it did. -/
def fnHapsUptoRow : OpenClaim := { program := "ytjdokmllidhapaagreatdoor", sum := "267979d63eb53ddf7c46225e33927988d2758a1a21f44ccc1d9c8d0e63c33715", func := "loop.example/g00364/laws.FnHaps", spec := "fnHaps", inPlace := ["internal/bytealg.IndexByteString", "internal/bytealg.IndexString", "internal/bytealg.CountString", "internal/abi.NoEscape", "internal/bytealg.MakeNoZero"], unfollowed := true, recurses := true, named := ["loop.example/g00364/impl.monthLengths", "internal/bytealg.MaxLen", "unicode/utf8.first", "unicode/utf8.acceptRanges"], apart := false, laid := [("unicode/utf8.acceptRanges", laid_unicode_utf8_acceptRanges), ("loop.example/g00364/impl.monthLengths", laid_loop_example_g00364_impl_monthLengths), ("unicode/utf8.first", laid_unicode_utf8_first)], narrowed := true }
def FnHapsUptoSaid : Prop := fnHapsUptoRow.holds Tryz.pinned (OpenSpec.upto fnHapsSpec)

/-- 'laws.FnTable', WHERE WHAT IT READS IS OF BULK AT MOST 1048576: true; the input reads as it did. -/
def fnTableUptoRow : OpenClaim := { program := "ytjdokmllidhapaagreatdoor", sum := "267979d63eb53ddf7c46225e33927988d2758a1a21f44ccc1d9c8d0e63c33715", func := "loop.example/g00364/laws.FnTable", spec := "fnTable", inPlace := ["internal/bytealg.IndexByteString", "internal/bytealg.IndexString", "internal/bytealg.CountString", "internal/abi.NoEscape", "internal/bytealg.MakeNoZero"], unfollowed := true, recurses := true, named := ["loop.example/g00364/impl.monthLengths", "internal/bytealg.MaxLen", "unicode/utf8.first", "unicode/utf8.acceptRanges"], apart := false, laid := [("unicode/utf8.acceptRanges", laid_unicode_utf8_acceptRanges), ("loop.example/g00364/impl.monthLengths", laid_loop_example_g00364_impl_monthLengths), ("unicode/utf8.first", laid_unicode_utf8_first)], narrowed := true }
def FnTableUptoSaid : Prop := fnTableUptoRow.holds Tryz.pinned (OpenSpec.upto fnTableSpec)

/-- 'laws.FnExactReleaseRight', WHERE WHAT IT READS IS OF BULK AT MOST 1048576: true; the input reads as it did. -/
def fnExactReleaseRightUptoRow : OpenClaim := { program := "ytjdokmllidhapaagreatdoor", sum := "267979d63eb53ddf7c46225e33927988d2758a1a21f44ccc1d9c8d0e63c33715", func := "loop.example/g00364/laws.FnExactReleaseRight", spec := "fnExactReleaseRight", inPlace := ["internal/bytealg.IndexByteString", "internal/bytealg.IndexString", "internal/bytealg.CountString"], unfollowed := true, recurses := true, named := ["loop.example/g00364/impl.monthLengths", "internal/bytealg.MaxLen"], apart := false, laid := [("loop.example/g00364/impl.monthLengths", laid_loop_example_g00364_impl_monthLengths)], narrowed := true }
def FnExactReleaseRightUptoSaid : Prop := fnExactReleaseRightUptoRow.holds Tryz.pinned (OpenSpec.upto fnExactReleaseRightSpec)

/-- 'laws.FnExactReleaseText', WHERE WHAT IT READS IS OF BULK AT MOST 1048576: true; the input reads as it did. -/
def fnExactReleaseTextUptoRow : OpenClaim := { program := "ytjdokmllidhapaagreatdoor", sum := "267979d63eb53ddf7c46225e33927988d2758a1a21f44ccc1d9c8d0e63c33715", func := "loop.example/g00364/laws.FnExactReleaseText", spec := "fnExactReleaseText", inPlace := ["internal/bytealg.IndexByteString", "internal/bytealg.IndexString", "internal/bytealg.CountString", "internal/abi.NoEscape", "internal/bytealg.MakeNoZero"], unfollowed := true, recurses := true, named := ["loop.example/g00364/impl.monthLengths", "internal/bytealg.MaxLen", "internal/strconv.uint64pow10", "math/bits.deBruijn32tab", "math/bits.deBruijn64tab"], apart := false, laid := [("math/bits.deBruijn32tab", laid_math_bits_deBruijn32tab), ("math/bits.deBruijn64tab", laid_math_bits_deBruijn64tab), ("internal/strconv.uint64pow10", laid_internal_strconv_uint64pow10), ("loop.example/g00364/impl.monthLengths", laid_loop_example_g00364_impl_monthLengths)], narrowed := true }
def FnExactReleaseTextUptoSaid : Prop := fnExactReleaseTextUptoRow.holds Tryz.pinned (OpenSpec.upto fnExactReleaseTextSpec)

/-- 'laws.FnExactZoneOf', WHERE WHAT IT READS IS OF BULK AT MOST 1048576: true; the input reads as it did. -/
def fnExactZoneOfUptoRow : OpenClaim := { program := "ytjdokmllidhapaagreatdoor", sum := "267979d63eb53ddf7c46225e33927988d2758a1a21f44ccc1d9c8d0e63c33715", func := "loop.example/g00364/laws.FnExactZoneOf", spec := "fnExactZoneOf", inPlace := ["internal/bytealg.IndexByteString", "internal/bytealg.IndexString", "internal/bytealg.CountString"], unfollowed := true, recurses := true, named := ["loop.example/g00364/impl.monthLengths", "internal/bytealg.MaxLen"], apart := false, laid := [("loop.example/g00364/impl.monthLengths", laid_loop_example_g00364_impl_monthLengths)], narrowed := true }
def FnExactZoneOfUptoSaid : Prop := fnExactZoneOfUptoRow.holds Tryz.pinned (OpenSpec.upto fnExactZoneOfSpec)

/-- 'laws.FnExactHapsOf', WHERE WHAT IT READS IS OF BULK AT MOST 1048576: true; the input reads as it did. -/
def fnExactHapsOfUptoRow : OpenClaim := { program := "ytjdokmllidhapaagreatdoor", sum := "267979d63eb53ddf7c46225e33927988d2758a1a21f44ccc1d9c8d0e63c33715", func := "loop.example/g00364/laws.FnExactHapsOf", spec := "fnExactHapsOf", inPlace := ["internal/bytealg.IndexByteString", "internal/bytealg.IndexString", "internal/bytealg.CountString"], unfollowed := true, recurses := true, named := ["loop.example/g00364/impl.monthLengths", "internal/bytealg.MaxLen"], apart := false, laid := [("loop.example/g00364/impl.monthLengths", laid_loop_example_g00364_impl_monthLengths)], narrowed := true }
def FnExactHapsOfUptoSaid : Prop := fnExactHapsOfUptoRow.holds Tryz.pinned (OpenSpec.upto fnExactHapsOfSpec)

/-- 'laws.FnExactTableOf', WHERE WHAT IT READS IS OF BULK AT MOST 1048576: true; the input reads as it did. -/
def fnExactTableOfUptoRow : OpenClaim := { program := "ytjdokmllidhapaagreatdoor", sum := "267979d63eb53ddf7c46225e33927988d2758a1a21f44ccc1d9c8d0e63c33715", func := "loop.example/g00364/laws.FnExactTableOf", spec := "fnExactTableOf", inPlace := ["internal/bytealg.IndexByteString", "internal/bytealg.IndexString", "internal/bytealg.CountString", "internal/abi.NoEscape", "internal/bytealg.MakeNoZero"], unfollowed := true, recurses := true, named := ["loop.example/g00364/impl.monthLengths", "internal/bytealg.MaxLen", "unicode/utf8.first", "unicode/utf8.acceptRanges"], apart := false, laid := [("unicode/utf8.acceptRanges", laid_unicode_utf8_acceptRanges), ("loop.example/g00364/impl.monthLengths", laid_loop_example_g00364_impl_monthLengths), ("unicode/utf8.first", laid_unicode_utf8_first)], narrowed := true }
def FnExactTableOfUptoSaid : Prop := fnExactTableOfUptoRow.holds Tryz.pinned (OpenSpec.upto fnExactTableOfSpec)

end Rows
end Go.Proofs.YtjdokmllidhapaaGreatDoor
