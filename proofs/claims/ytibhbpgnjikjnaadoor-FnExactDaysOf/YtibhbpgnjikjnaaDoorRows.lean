/-
  NARROWER THAN 'FOR EVERY INPUT', by the rows' own cells (each row's printed sentence says how): FnDates: laid · FnOn: laid · FnTexts: laid · FnExactDateRight: laid · FnExactDaysOf: laid · FnExactDateOf: laid · FnExactMonthDays: laid · FnExactTimeText: laid · FnExactTimeRead: laid · FnExactOffsetText: laid · FnExactAbbrOf: laid.
  DERIVED. THE GIVEN ROWS OF THIS SEAT. 11 by the template 'for every input the law returns true; each argument reads behind the call as it read before'; 0 by the template 'total and deterministic' (their statements: YtibhbpgnjikjnaaDoorTotals.lean).
  GIVEN WITH THE SEED: the statements are not yours to turn. If you find one false, say at which input.
  Laid BY PROGRAM, IN A SANDBOX (cutbox-rows.mjs): the forced cells as the released guide's own fill.sh prints them over the translation ab25abdcacd98838… (all of the seat's roots in one cut). By AI agents, Wed Nov 11 2026. No macro, syntax, notation, axiom, sorry.
-/
import Derived.Test.YtibhbpgnjikjnaaDoorChecked
import GoSem.PinnedTables
import GoSem.Claim
import GoSem.ClaimJoined
import GoSem.ClaimMapViews
import Derived.JoinedTies
import Derived.KernelRfl
namespace Go.Proofs.YtibhbpgnjikjnaaDoor
/- THE CELL 'sum', in the pinned program and in every row, IS THE sha256 OF THE DUMP (.gsa) THAT YtibhbpgnjikjnaaDoorProg.lean LOADS. Nothing in Lean hashes anything: it is a label: what it is worth is what the hold of that sum in a sandbox is worth. -/
noncomputable def Tryd.pinned : Pinned := { name := "ytibhbpgnjikjnaadoor", sum := "ab25abdcacd988389972c086247e13ee9bb692add96ce63d57e50fe23b398cbf", checked := Tryd.checked }
namespace Rows
def none {H : Type} : Left H := { results := [], args := [] }

/- WHAT THE LISTED PACKAGE-LEVEL VARIABLES READ AS WHEN THE CALL BEGINS. Each datum BY PROGRAM (the guide's laid-datum.mjs) off the statement by which the dump's own 'gosem.cut.vars' lays the variable. In a bare row this is a premise. The card (YtibhbpgnjikjnaaDoorCards.lean) ties it to the program's text. -/
def laid_loop_example_g00364_impl_monthLengths {H : Type} : DataW H := .agg [.lit (.int .i64 0), .lit (.int .i64 31), .lit (.int .i64 28), .lit (.int .i64 31), .lit (.int .i64 30), .lit (.int .i64 31), .lit (.int .i64 30), .lit (.int .i64 31), .lit (.int .i64 31), .lit (.int .i64 30), .lit (.int .i64 31), .lit (.int .i64 30), .lit (.int .i64 31)]
def laid_math_bits_deBruijn32tab {H : Type} : DataW H := .agg [.lit (.int .u8 0), .lit (.int .u8 1), .lit (.int .u8 28), .lit (.int .u8 2), .lit (.int .u8 29), .lit (.int .u8 14), .lit (.int .u8 24), .lit (.int .u8 3), .lit (.int .u8 30), .lit (.int .u8 22), .lit (.int .u8 20), .lit (.int .u8 15), .lit (.int .u8 25), .lit (.int .u8 17), .lit (.int .u8 4), .lit (.int .u8 8), .lit (.int .u8 31), .lit (.int .u8 27), .lit (.int .u8 13), .lit (.int .u8 23), .lit (.int .u8 21), .lit (.int .u8 19), .lit (.int .u8 16), .lit (.int .u8 7), .lit (.int .u8 26), .lit (.int .u8 12), .lit (.int .u8 18), .lit (.int .u8 6), .lit (.int .u8 11), .lit (.int .u8 5), .lit (.int .u8 10), .lit (.int .u8 9)]
def laid_math_bits_deBruijn64tab {H : Type} : DataW H := .agg [.lit (.int .u8 0), .lit (.int .u8 1), .lit (.int .u8 56), .lit (.int .u8 2), .lit (.int .u8 57), .lit (.int .u8 49), .lit (.int .u8 28), .lit (.int .u8 3), .lit (.int .u8 61), .lit (.int .u8 58), .lit (.int .u8 42), .lit (.int .u8 50), .lit (.int .u8 38), .lit (.int .u8 29), .lit (.int .u8 17), .lit (.int .u8 4), .lit (.int .u8 62), .lit (.int .u8 47), .lit (.int .u8 59), .lit (.int .u8 36), .lit (.int .u8 45), .lit (.int .u8 43), .lit (.int .u8 51), .lit (.int .u8 22), .lit (.int .u8 53), .lit (.int .u8 39), .lit (.int .u8 33), .lit (.int .u8 30), .lit (.int .u8 24), .lit (.int .u8 18), .lit (.int .u8 12), .lit (.int .u8 5), .lit (.int .u8 63), .lit (.int .u8 55), .lit (.int .u8 48), .lit (.int .u8 27), .lit (.int .u8 60), .lit (.int .u8 41), .lit (.int .u8 37), .lit (.int .u8 16), .lit (.int .u8 46), .lit (.int .u8 35), .lit (.int .u8 44), .lit (.int .u8 21), .lit (.int .u8 52), .lit (.int .u8 32), .lit (.int .u8 23), .lit (.int .u8 11), .lit (.int .u8 54), .lit (.int .u8 26), .lit (.int .u8 40), .lit (.int .u8 15), .lit (.int .u8 34), .lit (.int .u8 20), .lit (.int .u8 31), .lit (.int .u8 10), .lit (.int .u8 25), .lit (.int .u8 14), .lit (.int .u8 19), .lit (.int .u8 9), .lit (.int .u8 13), .lit (.int .u8 8), .lit (.int .u8 7), .lit (.int .u8 6)]
def laid_internal_strconv_uint64pow10 {H : Type} : DataW H := .agg [.lit (.int .u64 1), .lit (.int .u64 10), .lit (.int .u64 100), .lit (.int .u64 1000), .lit (.int .u64 10000), .lit (.int .u64 100000), .lit (.int .u64 1000000), .lit (.int .u64 10000000), .lit (.int .u64 100000000), .lit (.int .u64 1000000000), .lit (.int .u64 10000000000), .lit (.int .u64 100000000000), .lit (.int .u64 1000000000000), .lit (.int .u64 10000000000000), .lit (.int .u64 100000000000000), .lit (.int .u64 1000000000000000), .lit (.int .u64 10000000000000000), .lit (.int .u64 100000000000000000), .lit (.int .u64 1000000000000000000), .lit (.int .u64 10000000000000000000)]
def laid_unicode_utf8_acceptRanges {H : Type} : DataW H := .agg [.agg [.lit (.int .u8 128), .lit (.int .u8 191)], .agg [.lit (.int .u8 160), .lit (.int .u8 191)], .agg [.lit (.int .u8 128), .lit (.int .u8 159)], .agg [.lit (.int .u8 144), .lit (.int .u8 191)], .agg [.lit (.int .u8 128), .lit (.int .u8 143)], .agg [.lit (.int .u8 0), .lit (.int .u8 0)], .agg [.lit (.int .u8 0), .lit (.int .u8 0)], .agg [.lit (.int .u8 0), .lit (.int .u8 0)], .agg [.lit (.int .u8 0), .lit (.int .u8 0)], .agg [.lit (.int .u8 0), .lit (.int .u8 0)], .agg [.lit (.int .u8 0), .lit (.int .u8 0)], .agg [.lit (.int .u8 0), .lit (.int .u8 0)], .agg [.lit (.int .u8 0), .lit (.int .u8 0)], .agg [.lit (.int .u8 0), .lit (.int .u8 0)], .agg [.lit (.int .u8 0), .lit (.int .u8 0)], .agg [.lit (.int .u8 0), .lit (.int .u8 0)]]
/-- One of Go's own tables, pinned by name: the form's constant. -/
def laid_unicode_utf8_first : DataW Unit := Go.Pinned.utf8First

/-- 'laws.FnDates': WHATEVER THE INPUT: true; the input reads as it did. -/
def fnDatesSpec : ChangeSpec := { name := "fnDates", vars := ["loop.example/g00364/impl.monthLengths"], fn := fun _ => fun
  | [d1, d2, g1] => { results := [.lit (.bool true)], args := [d1, d2], vars := [g1] }
  | _ => none }
def fnDatesRow : OpenClaim := { program := "ytibhbpgnjikjnaadoor", sum := "ab25abdcacd988389972c086247e13ee9bb692add96ce63d57e50fe23b398cbf", func := "loop.example/g00364/laws.FnDates", spec := "fnDates", named := ["loop.example/g00364/impl.monthLengths"], apart := false, laid := [("loop.example/g00364/impl.monthLengths", laid_loop_example_g00364_impl_monthLengths)] }
def FnDatesSaid : Prop := fnDatesRow.holds Tryd.pinned (OpenSpec.ofChange fnDatesSpec)

/-- ITS FALSE NEIGHBOUR: 'it returns false'. Refute it at one input. -/
def fnDatesWrong : ChangeSpec := { name := "fnDates", vars := ["loop.example/g00364/impl.monthLengths"], fn := fun _ => fun
  | [d1, d2, g1] => { results := [.lit (.bool false)], args := [d1, d2], vars := [g1] }
  | _ => none }
def FnDatesWrongFalsely : Prop := fnDatesRow.holds Tryd.pinned (OpenSpec.ofChange fnDatesWrong)

/-- 'laws.FnOn': WHATEVER THE INPUT: true; the input reads as it did. -/
def fnOnSpec : ChangeSpec := { name := "fnOn", vars := ["loop.example/g00364/impl.monthLengths"], fn := fun _ => fun
  | [d, g1] => { results := [.lit (.bool true)], args := [d], vars := [g1] }
  | _ => none }
def fnOnRow : OpenClaim := { program := "ytibhbpgnjikjnaadoor", sum := "ab25abdcacd988389972c086247e13ee9bb692add96ce63d57e50fe23b398cbf", func := "loop.example/g00364/laws.FnOn", spec := "fnOn", inPlace := ["internal/bytealg.IndexByteString", "internal/bytealg.IndexString"], unfollowed := true, recurses := true, named := ["loop.example/g00364/impl.monthLengths", "internal/bytealg.MaxLen"], apart := false, laid := [("loop.example/g00364/impl.monthLengths", laid_loop_example_g00364_impl_monthLengths)] }
def FnOnSaid : Prop := fnOnRow.holds Tryd.pinned (OpenSpec.ofChange fnOnSpec)

/-- ITS FALSE NEIGHBOUR: 'it returns false'. Refute it at one input. -/
def fnOnWrong : ChangeSpec := { name := "fnOn", vars := ["loop.example/g00364/impl.monthLengths"], fn := fun _ => fun
  | [d, g1] => { results := [.lit (.bool false)], args := [d], vars := [g1] }
  | _ => none }
def FnOnWrongFalsely : Prop := fnOnRow.holds Tryd.pinned (OpenSpec.ofChange fnOnWrong)

/-- 'laws.FnTexts': WHATEVER THE INPUT: true; the input reads as it did. -/
def fnTextsSpec : ChangeSpec := { name := "fnTexts", vars := ["loop.example/g00364/impl.monthLengths"], fn := fun _ => fun
  | [d1, d2, g1] => { results := [.lit (.bool true)], args := [d1, d2], vars := [g1] }
  | _ => none }
def fnTextsRow : OpenClaim := { program := "ytibhbpgnjikjnaadoor", sum := "ab25abdcacd988389972c086247e13ee9bb692add96ce63d57e50fe23b398cbf", func := "loop.example/g00364/laws.FnTexts", spec := "fnTexts", unfollowed := true, recurses := true, named := ["loop.example/g00364/impl.monthLengths", "internal/strconv.uint64pow10", "math/bits.deBruijn32tab", "math/bits.deBruijn64tab"], apart := false, laid := [("math/bits.deBruijn32tab", laid_math_bits_deBruijn32tab), ("math/bits.deBruijn64tab", laid_math_bits_deBruijn64tab), ("internal/strconv.uint64pow10", laid_internal_strconv_uint64pow10), ("loop.example/g00364/impl.monthLengths", laid_loop_example_g00364_impl_monthLengths)] }
def FnTextsSaid : Prop := fnTextsRow.holds Tryd.pinned (OpenSpec.ofChange fnTextsSpec)

/-- ITS FALSE NEIGHBOUR: 'it returns false'. Refute it at one input. -/
def fnTextsWrong : ChangeSpec := { name := "fnTexts", vars := ["loop.example/g00364/impl.monthLengths"], fn := fun _ => fun
  | [d1, d2, g1] => { results := [.lit (.bool false)], args := [d1, d2], vars := [g1] }
  | _ => none }
def FnTextsWrongFalsely : Prop := fnTextsRow.holds Tryd.pinned (OpenSpec.ofChange fnTextsWrong)

/-- 'laws.FnExactDateRight': WHATEVER THE INPUT: true; the input reads as it did. -/
def fnExactDateRightSpec : ChangeSpec := { name := "fnExactDateRight", vars := ["loop.example/g00364/impl.monthLengths"], fn := fun _ => fun
  | [d, g1] => { results := [.lit (.bool true)], args := [d], vars := [g1] }
  | _ => none }
def fnExactDateRightRow : OpenClaim := { program := "ytibhbpgnjikjnaadoor", sum := "ab25abdcacd988389972c086247e13ee9bb692add96ce63d57e50fe23b398cbf", func := "loop.example/g00364/laws.FnExactDateRight", spec := "fnExactDateRight", named := ["loop.example/g00364/impl.monthLengths"], apart := false, laid := [("loop.example/g00364/impl.monthLengths", laid_loop_example_g00364_impl_monthLengths)] }
def FnExactDateRightSaid : Prop := fnExactDateRightRow.holds Tryd.pinned (OpenSpec.ofChange fnExactDateRightSpec)

/-- ITS FALSE NEIGHBOUR: 'it returns false'. Refute it at one input. -/
def fnExactDateRightWrong : ChangeSpec := { name := "fnExactDateRight", vars := ["loop.example/g00364/impl.monthLengths"], fn := fun _ => fun
  | [d, g1] => { results := [.lit (.bool false)], args := [d], vars := [g1] }
  | _ => none }
def FnExactDateRightWrongFalsely : Prop := fnExactDateRightRow.holds Tryd.pinned (OpenSpec.ofChange fnExactDateRightWrong)

/-- 'laws.FnExactDaysOf': WHATEVER THE INPUT: true; the input reads as it did. -/
def fnExactDaysOfSpec : ChangeSpec := { name := "fnExactDaysOf", vars := ["loop.example/g00364/impl.monthLengths"], fn := fun _ => fun
  | [d, g1] => { results := [.lit (.bool true)], args := [d], vars := [g1] }
  | _ => none }
def fnExactDaysOfRow : OpenClaim := { program := "ytibhbpgnjikjnaadoor", sum := "ab25abdcacd988389972c086247e13ee9bb692add96ce63d57e50fe23b398cbf", func := "loop.example/g00364/laws.FnExactDaysOf", spec := "fnExactDaysOf", named := ["loop.example/g00364/impl.monthLengths"], apart := false, laid := [("loop.example/g00364/impl.monthLengths", laid_loop_example_g00364_impl_monthLengths)] }
def FnExactDaysOfSaid : Prop := fnExactDaysOfRow.holds Tryd.pinned (OpenSpec.ofChange fnExactDaysOfSpec)

/-- ITS FALSE NEIGHBOUR: 'it returns false'. Refute it at one input. -/
def fnExactDaysOfWrong : ChangeSpec := { name := "fnExactDaysOf", vars := ["loop.example/g00364/impl.monthLengths"], fn := fun _ => fun
  | [d, g1] => { results := [.lit (.bool false)], args := [d], vars := [g1] }
  | _ => none }
def FnExactDaysOfWrongFalsely : Prop := fnExactDaysOfRow.holds Tryd.pinned (OpenSpec.ofChange fnExactDaysOfWrong)

/-- 'laws.FnExactDateOf': WHATEVER THE INPUT: true; the input reads as it did. -/
def fnExactDateOfSpec : ChangeSpec := { name := "fnExactDateOf", vars := ["loop.example/g00364/impl.monthLengths"], fn := fun _ => fun
  | [d, g1] => { results := [.lit (.bool true)], args := [d], vars := [g1] }
  | _ => none }
def fnExactDateOfRow : OpenClaim := { program := "ytibhbpgnjikjnaadoor", sum := "ab25abdcacd988389972c086247e13ee9bb692add96ce63d57e50fe23b398cbf", func := "loop.example/g00364/laws.FnExactDateOf", spec := "fnExactDateOf", named := ["loop.example/g00364/impl.monthLengths"], apart := false, laid := [("loop.example/g00364/impl.monthLengths", laid_loop_example_g00364_impl_monthLengths)] }
def FnExactDateOfSaid : Prop := fnExactDateOfRow.holds Tryd.pinned (OpenSpec.ofChange fnExactDateOfSpec)

/-- ITS FALSE NEIGHBOUR: 'it returns false'. Refute it at one input. -/
def fnExactDateOfWrong : ChangeSpec := { name := "fnExactDateOf", vars := ["loop.example/g00364/impl.monthLengths"], fn := fun _ => fun
  | [d, g1] => { results := [.lit (.bool false)], args := [d], vars := [g1] }
  | _ => none }
def FnExactDateOfWrongFalsely : Prop := fnExactDateOfRow.holds Tryd.pinned (OpenSpec.ofChange fnExactDateOfWrong)

/-- 'laws.FnExactMonthDays': WHATEVER THE INPUT: true; the input reads as it did. -/
def fnExactMonthDaysSpec : ChangeSpec := { name := "fnExactMonthDays", vars := ["loop.example/g00364/impl.monthLengths"], fn := fun _ => fun
  | [d1, d2, g1] => { results := [.lit (.bool true)], args := [d1, d2], vars := [g1] }
  | _ => none }
def fnExactMonthDaysRow : OpenClaim := { program := "ytibhbpgnjikjnaadoor", sum := "ab25abdcacd988389972c086247e13ee9bb692add96ce63d57e50fe23b398cbf", func := "loop.example/g00364/laws.FnExactMonthDays", spec := "fnExactMonthDays", named := ["loop.example/g00364/impl.monthLengths"], apart := false, laid := [("loop.example/g00364/impl.monthLengths", laid_loop_example_g00364_impl_monthLengths)] }
def FnExactMonthDaysSaid : Prop := fnExactMonthDaysRow.holds Tryd.pinned (OpenSpec.ofChange fnExactMonthDaysSpec)

/-- ITS FALSE NEIGHBOUR: 'it returns false'. Refute it at one input. -/
def fnExactMonthDaysWrong : ChangeSpec := { name := "fnExactMonthDays", vars := ["loop.example/g00364/impl.monthLengths"], fn := fun _ => fun
  | [d1, d2, g1] => { results := [.lit (.bool false)], args := [d1, d2], vars := [g1] }
  | _ => none }
def FnExactMonthDaysWrongFalsely : Prop := fnExactMonthDaysRow.holds Tryd.pinned (OpenSpec.ofChange fnExactMonthDaysWrong)

/-- 'laws.FnExactTimeText': WHATEVER THE INPUT: true; the input reads as it did. -/
def fnExactTimeTextSpec : ChangeSpec := { name := "fnExactTimeText", vars := ["loop.example/g00364/impl.monthLengths"], fn := fun _ => fun
  | [d, g1] => { results := [.lit (.bool true)], args := [d], vars := [g1] }
  | _ => none }
def fnExactTimeTextRow : OpenClaim := { program := "ytibhbpgnjikjnaadoor", sum := "ab25abdcacd988389972c086247e13ee9bb692add96ce63d57e50fe23b398cbf", func := "loop.example/g00364/laws.FnExactTimeText", spec := "fnExactTimeText", named := ["loop.example/g00364/impl.monthLengths", "internal/strconv.uint64pow10", "math/bits.deBruijn32tab", "math/bits.deBruijn64tab"], apart := false, laid := [("math/bits.deBruijn32tab", laid_math_bits_deBruijn32tab), ("math/bits.deBruijn64tab", laid_math_bits_deBruijn64tab), ("internal/strconv.uint64pow10", laid_internal_strconv_uint64pow10), ("loop.example/g00364/impl.monthLengths", laid_loop_example_g00364_impl_monthLengths)] }
def FnExactTimeTextSaid : Prop := fnExactTimeTextRow.holds Tryd.pinned (OpenSpec.ofChange fnExactTimeTextSpec)

/-- ITS FALSE NEIGHBOUR: 'it returns false'. Refute it at one input. -/
def fnExactTimeTextWrong : ChangeSpec := { name := "fnExactTimeText", vars := ["loop.example/g00364/impl.monthLengths"], fn := fun _ => fun
  | [d, g1] => { results := [.lit (.bool false)], args := [d], vars := [g1] }
  | _ => none }
def FnExactTimeTextWrongFalsely : Prop := fnExactTimeTextRow.holds Tryd.pinned (OpenSpec.ofChange fnExactTimeTextWrong)

/-- 'laws.FnExactTimeRead': WHATEVER THE INPUT: true; the input reads as it did. -/
def fnExactTimeReadSpec : ChangeSpec := { name := "fnExactTimeRead", vars := ["loop.example/g00364/impl.monthLengths"], fn := fun _ => fun
  | [d, g1] => { results := [.lit (.bool true)], args := [d], vars := [g1] }
  | _ => none }
def fnExactTimeReadRow : OpenClaim := { program := "ytibhbpgnjikjnaadoor", sum := "ab25abdcacd988389972c086247e13ee9bb692add96ce63d57e50fe23b398cbf", func := "loop.example/g00364/laws.FnExactTimeRead", spec := "fnExactTimeRead", named := ["loop.example/g00364/impl.monthLengths"], apart := false, laid := [("loop.example/g00364/impl.monthLengths", laid_loop_example_g00364_impl_monthLengths)] }
def FnExactTimeReadSaid : Prop := fnExactTimeReadRow.holds Tryd.pinned (OpenSpec.ofChange fnExactTimeReadSpec)

/-- ITS FALSE NEIGHBOUR: 'it returns false'. Refute it at one input. -/
def fnExactTimeReadWrong : ChangeSpec := { name := "fnExactTimeRead", vars := ["loop.example/g00364/impl.monthLengths"], fn := fun _ => fun
  | [d, g1] => { results := [.lit (.bool false)], args := [d], vars := [g1] }
  | _ => none }
def FnExactTimeReadWrongFalsely : Prop := fnExactTimeReadRow.holds Tryd.pinned (OpenSpec.ofChange fnExactTimeReadWrong)

/-- 'laws.FnExactOffsetText': WHATEVER THE INPUT: true; the input reads as it did. -/
def fnExactOffsetTextSpec : ChangeSpec := { name := "fnExactOffsetText", fn := fun _ => fun
  | [d] => { results := [.lit (.bool true)], args := [d] }
  | _ => none }
def fnExactOffsetTextRow : OpenClaim := { program := "ytibhbpgnjikjnaadoor", sum := "ab25abdcacd988389972c086247e13ee9bb692add96ce63d57e50fe23b398cbf", func := "loop.example/g00364/laws.FnExactOffsetText", spec := "fnExactOffsetText", named := ["internal/strconv.uint64pow10", "math/bits.deBruijn32tab", "math/bits.deBruijn64tab"], apart := false, laid := [("math/bits.deBruijn32tab", laid_math_bits_deBruijn32tab), ("math/bits.deBruijn64tab", laid_math_bits_deBruijn64tab), ("internal/strconv.uint64pow10", laid_internal_strconv_uint64pow10)] }
def FnExactOffsetTextSaid : Prop := fnExactOffsetTextRow.holds Tryd.pinned (OpenSpec.ofChange fnExactOffsetTextSpec)

/-- ITS FALSE NEIGHBOUR: 'it returns false'. Refute it at one input. -/
def fnExactOffsetTextWrong : ChangeSpec := { name := "fnExactOffsetText", fn := fun _ => fun
  | [d] => { results := [.lit (.bool false)], args := [d] }
  | _ => none }
def FnExactOffsetTextWrongFalsely : Prop := fnExactOffsetTextRow.holds Tryd.pinned (OpenSpec.ofChange fnExactOffsetTextWrong)

/-- 'laws.FnExactAbbrOf': WHATEVER THE INPUT: true; the input reads as it did. -/
def fnExactAbbrOfSpec : ChangeSpec := { name := "fnExactAbbrOf", fn := fun _ => fun
  | [d1, d2, d3] => { results := [.lit (.bool true)], args := [d1, d2, d3] }
  | _ => none }
def fnExactAbbrOfRow : OpenClaim := { program := "ytibhbpgnjikjnaadoor", sum := "ab25abdcacd988389972c086247e13ee9bb692add96ce63d57e50fe23b398cbf", func := "loop.example/g00364/laws.FnExactAbbrOf", spec := "fnExactAbbrOf", inPlace := ["internal/bytealg.IndexByteString", "internal/bytealg.IndexString", "internal/bytealg.CountString", "internal/abi.NoEscape", "internal/bytealg.MakeNoZero"], named := ["internal/bytealg.MaxLen", "unicode/utf8.first", "unicode/utf8.acceptRanges"], apart := false, laid := [("unicode/utf8.acceptRanges", laid_unicode_utf8_acceptRanges), ("unicode/utf8.first", laid_unicode_utf8_first)] }
def FnExactAbbrOfSaid : Prop := fnExactAbbrOfRow.holds Tryd.pinned (OpenSpec.ofChange fnExactAbbrOfSpec)

/-- ITS FALSE NEIGHBOUR: 'it returns false'. Refute it at one input. -/
def fnExactAbbrOfWrong : ChangeSpec := { name := "fnExactAbbrOf", fn := fun _ => fun
  | [d1, d2, d3] => { results := [.lit (.bool false)], args := [d1, d2, d3] }
  | _ => none }
def FnExactAbbrOfWrongFalsely : Prop := fnExactAbbrOfRow.holds Tryd.pinned (OpenSpec.ofChange fnExactAbbrOfWrong)

/- THE SECOND FORM. 'bulk': how many values and letters a reading holds, each counted each time it is reached (what is shared counts as often as it is met; a slice's spare places count too). A statement '..UptoSaid' is the law's where the arguments, and the package variables that the reading takes, are together of bulk at most 1048576: NARROWER than '..Said'. Prove '..Said' where nothing that the law and all that it calls make is longer than what came in: it says more and counts as full. Else prove '..UptoSaid'. A law counts once. -/
mutual
def uptoBulk {H : Type} : DataW H → Nat
  | .lit (.string bytes) => bytes.length + 1
  | .lit _ => 1
  | .nil => 1
  | .ptr d => uptoBulk d + 1
  | .slice elems spare => uptoBulkAll elems + uptoBulkAll spare + 1
  | .agg parts => uptoBulkAll parts + 1
  | .iface _ d => uptoBulk d + 1
  | .map entries => uptoBulkEntries entries + 1
  | .held _ => 1
def uptoBulkAll {H : Type} : List (DataW H) → Nat
  | [] => 0
  | d :: r => uptoBulk d + uptoBulkAll r
def uptoBulkEntries {H : Type} : List (Lit × DataW H) → Nat
  | [] => 0
  | x :: r => uptoBulkEntry x + uptoBulkEntries r
def uptoBulkEntry {H : Type} : Lit × DataW H → Nat
  | (.string bytes, d) => bytes.length + uptoBulk d + 1
  | (_, d) => uptoBulk d + 1
 end
def uptoSmall : (H : Type) → List (DataW H) → Bool := fun _ ds => decide (uptoBulkAll ds ≤ 1048576)
def OpenSpec.upto (s : _root_.Go.ChangeSpec) : _root_.Go.OpenSpec := { _root_.Go.OpenSpec.ofChange s with cond := some uptoSmall }

/-- 'laws.FnDates', WHERE WHAT IT READS IS OF BULK AT MOST 1048576: true; the input reads as it did. -/
def fnDatesUptoRow : OpenClaim := { program := "ytibhbpgnjikjnaadoor", sum := "ab25abdcacd988389972c086247e13ee9bb692add96ce63d57e50fe23b398cbf", func := "loop.example/g00364/laws.FnDates", spec := "fnDates", named := ["loop.example/g00364/impl.monthLengths"], apart := false, laid := [("loop.example/g00364/impl.monthLengths", laid_loop_example_g00364_impl_monthLengths)], narrowed := true }
def FnDatesUptoSaid : Prop := fnDatesUptoRow.holds Tryd.pinned (OpenSpec.upto fnDatesSpec)

/-- 'laws.FnOn', WHERE WHAT IT READS IS OF BULK AT MOST 1048576: true; the input reads as it did. -/
def fnOnUptoRow : OpenClaim := { program := "ytibhbpgnjikjnaadoor", sum := "ab25abdcacd988389972c086247e13ee9bb692add96ce63d57e50fe23b398cbf", func := "loop.example/g00364/laws.FnOn", spec := "fnOn", inPlace := ["internal/bytealg.IndexByteString", "internal/bytealg.IndexString"], unfollowed := true, recurses := true, named := ["loop.example/g00364/impl.monthLengths", "internal/bytealg.MaxLen"], apart := false, laid := [("loop.example/g00364/impl.monthLengths", laid_loop_example_g00364_impl_monthLengths)], narrowed := true }
def FnOnUptoSaid : Prop := fnOnUptoRow.holds Tryd.pinned (OpenSpec.upto fnOnSpec)

/-- 'laws.FnTexts', WHERE WHAT IT READS IS OF BULK AT MOST 1048576: true; the input reads as it did. -/
def fnTextsUptoRow : OpenClaim := { program := "ytibhbpgnjikjnaadoor", sum := "ab25abdcacd988389972c086247e13ee9bb692add96ce63d57e50fe23b398cbf", func := "loop.example/g00364/laws.FnTexts", spec := "fnTexts", unfollowed := true, recurses := true, named := ["loop.example/g00364/impl.monthLengths", "internal/strconv.uint64pow10", "math/bits.deBruijn32tab", "math/bits.deBruijn64tab"], apart := false, laid := [("math/bits.deBruijn32tab", laid_math_bits_deBruijn32tab), ("math/bits.deBruijn64tab", laid_math_bits_deBruijn64tab), ("internal/strconv.uint64pow10", laid_internal_strconv_uint64pow10), ("loop.example/g00364/impl.monthLengths", laid_loop_example_g00364_impl_monthLengths)], narrowed := true }
def FnTextsUptoSaid : Prop := fnTextsUptoRow.holds Tryd.pinned (OpenSpec.upto fnTextsSpec)

/-- 'laws.FnExactDateRight', WHERE WHAT IT READS IS OF BULK AT MOST 1048576: true; the input reads as it did. -/
def fnExactDateRightUptoRow : OpenClaim := { program := "ytibhbpgnjikjnaadoor", sum := "ab25abdcacd988389972c086247e13ee9bb692add96ce63d57e50fe23b398cbf", func := "loop.example/g00364/laws.FnExactDateRight", spec := "fnExactDateRight", named := ["loop.example/g00364/impl.monthLengths"], apart := false, laid := [("loop.example/g00364/impl.monthLengths", laid_loop_example_g00364_impl_monthLengths)], narrowed := true }
def FnExactDateRightUptoSaid : Prop := fnExactDateRightUptoRow.holds Tryd.pinned (OpenSpec.upto fnExactDateRightSpec)

/-- 'laws.FnExactDaysOf', WHERE WHAT IT READS IS OF BULK AT MOST 1048576: true; the input reads as it did. -/
def fnExactDaysOfUptoRow : OpenClaim := { program := "ytibhbpgnjikjnaadoor", sum := "ab25abdcacd988389972c086247e13ee9bb692add96ce63d57e50fe23b398cbf", func := "loop.example/g00364/laws.FnExactDaysOf", spec := "fnExactDaysOf", named := ["loop.example/g00364/impl.monthLengths"], apart := false, laid := [("loop.example/g00364/impl.monthLengths", laid_loop_example_g00364_impl_monthLengths)], narrowed := true }
def FnExactDaysOfUptoSaid : Prop := fnExactDaysOfUptoRow.holds Tryd.pinned (OpenSpec.upto fnExactDaysOfSpec)

/-- 'laws.FnExactDateOf', WHERE WHAT IT READS IS OF BULK AT MOST 1048576: true; the input reads as it did. -/
def fnExactDateOfUptoRow : OpenClaim := { program := "ytibhbpgnjikjnaadoor", sum := "ab25abdcacd988389972c086247e13ee9bb692add96ce63d57e50fe23b398cbf", func := "loop.example/g00364/laws.FnExactDateOf", spec := "fnExactDateOf", named := ["loop.example/g00364/impl.monthLengths"], apart := false, laid := [("loop.example/g00364/impl.monthLengths", laid_loop_example_g00364_impl_monthLengths)], narrowed := true }
def FnExactDateOfUptoSaid : Prop := fnExactDateOfUptoRow.holds Tryd.pinned (OpenSpec.upto fnExactDateOfSpec)

/-- 'laws.FnExactMonthDays', WHERE WHAT IT READS IS OF BULK AT MOST 1048576: true; the input reads as it did. -/
def fnExactMonthDaysUptoRow : OpenClaim := { program := "ytibhbpgnjikjnaadoor", sum := "ab25abdcacd988389972c086247e13ee9bb692add96ce63d57e50fe23b398cbf", func := "loop.example/g00364/laws.FnExactMonthDays", spec := "fnExactMonthDays", named := ["loop.example/g00364/impl.monthLengths"], apart := false, laid := [("loop.example/g00364/impl.monthLengths", laid_loop_example_g00364_impl_monthLengths)], narrowed := true }
def FnExactMonthDaysUptoSaid : Prop := fnExactMonthDaysUptoRow.holds Tryd.pinned (OpenSpec.upto fnExactMonthDaysSpec)

/-- 'laws.FnExactTimeText', WHERE WHAT IT READS IS OF BULK AT MOST 1048576: true; the input reads as it did. -/
def fnExactTimeTextUptoRow : OpenClaim := { program := "ytibhbpgnjikjnaadoor", sum := "ab25abdcacd988389972c086247e13ee9bb692add96ce63d57e50fe23b398cbf", func := "loop.example/g00364/laws.FnExactTimeText", spec := "fnExactTimeText", named := ["loop.example/g00364/impl.monthLengths", "internal/strconv.uint64pow10", "math/bits.deBruijn32tab", "math/bits.deBruijn64tab"], apart := false, laid := [("math/bits.deBruijn32tab", laid_math_bits_deBruijn32tab), ("math/bits.deBruijn64tab", laid_math_bits_deBruijn64tab), ("internal/strconv.uint64pow10", laid_internal_strconv_uint64pow10), ("loop.example/g00364/impl.monthLengths", laid_loop_example_g00364_impl_monthLengths)], narrowed := true }
def FnExactTimeTextUptoSaid : Prop := fnExactTimeTextUptoRow.holds Tryd.pinned (OpenSpec.upto fnExactTimeTextSpec)

/-- 'laws.FnExactTimeRead', WHERE WHAT IT READS IS OF BULK AT MOST 1048576: true; the input reads as it did. -/
def fnExactTimeReadUptoRow : OpenClaim := { program := "ytibhbpgnjikjnaadoor", sum := "ab25abdcacd988389972c086247e13ee9bb692add96ce63d57e50fe23b398cbf", func := "loop.example/g00364/laws.FnExactTimeRead", spec := "fnExactTimeRead", named := ["loop.example/g00364/impl.monthLengths"], apart := false, laid := [("loop.example/g00364/impl.monthLengths", laid_loop_example_g00364_impl_monthLengths)], narrowed := true }
def FnExactTimeReadUptoSaid : Prop := fnExactTimeReadUptoRow.holds Tryd.pinned (OpenSpec.upto fnExactTimeReadSpec)

/-- 'laws.FnExactOffsetText', WHERE WHAT IT READS IS OF BULK AT MOST 1048576: true; the input reads as it did. -/
def fnExactOffsetTextUptoRow : OpenClaim := { program := "ytibhbpgnjikjnaadoor", sum := "ab25abdcacd988389972c086247e13ee9bb692add96ce63d57e50fe23b398cbf", func := "loop.example/g00364/laws.FnExactOffsetText", spec := "fnExactOffsetText", named := ["internal/strconv.uint64pow10", "math/bits.deBruijn32tab", "math/bits.deBruijn64tab"], apart := false, laid := [("math/bits.deBruijn32tab", laid_math_bits_deBruijn32tab), ("math/bits.deBruijn64tab", laid_math_bits_deBruijn64tab), ("internal/strconv.uint64pow10", laid_internal_strconv_uint64pow10)], narrowed := true }
def FnExactOffsetTextUptoSaid : Prop := fnExactOffsetTextUptoRow.holds Tryd.pinned (OpenSpec.upto fnExactOffsetTextSpec)

/-- 'laws.FnExactAbbrOf', WHERE WHAT IT READS IS OF BULK AT MOST 1048576: true; the input reads as it did. -/
def fnExactAbbrOfUptoRow : OpenClaim := { program := "ytibhbpgnjikjnaadoor", sum := "ab25abdcacd988389972c086247e13ee9bb692add96ce63d57e50fe23b398cbf", func := "loop.example/g00364/laws.FnExactAbbrOf", spec := "fnExactAbbrOf", inPlace := ["internal/bytealg.IndexByteString", "internal/bytealg.IndexString", "internal/bytealg.CountString", "internal/abi.NoEscape", "internal/bytealg.MakeNoZero"], named := ["internal/bytealg.MaxLen", "unicode/utf8.first", "unicode/utf8.acceptRanges"], apart := false, laid := [("unicode/utf8.acceptRanges", laid_unicode_utf8_acceptRanges), ("unicode/utf8.first", laid_unicode_utf8_first)], narrowed := true }
def FnExactAbbrOfUptoSaid : Prop := fnExactAbbrOfUptoRow.holds Tryd.pinned (OpenSpec.upto fnExactAbbrOfSpec)

end Rows
end Go.Proofs.YtibhbpgnjikjnaaDoor
