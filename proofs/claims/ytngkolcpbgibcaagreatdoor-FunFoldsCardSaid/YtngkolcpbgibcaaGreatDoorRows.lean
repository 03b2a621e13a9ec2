/-
  NARROWER THAN 'FOR EVERY INPUT', by the rows' own cells (each row's printed sentence says how): FunApplies: laid · FunSigns: laid · FunNames: laid · FunFolds: laid · FunPieces: laid · FunChooses: laid · FunMod: laid · FunTypes: laid.
  DERIVED. THE GIVEN ROWS OF THIS SEAT. 8 by the template 'for every input the law returns true; each argument reads behind the call as it read before'; 0 by the template 'total and deterministic' (their statements: YtngkolcpbgibcaaGreatDoorTotals.lean).
  GIVEN WITH THE SEED: the statements are not yours to turn. If you find one false, say at which input.
  Laid BY PROGRAM, IN A SANDBOX (cutbox-rows.mjs): the forced cells as the released guide's own fill.sh prints them over the translation 217f47a2efcb1d98… (all of the seat's roots in one cut). By AI agents, Wed Nov 11 2026. No macro, syntax, notation, axiom, sorry.
-/
import Derived.Test.YtngkolcpbgibcaaGreatDoorChecked
import GoSem.PinnedTables
import GoSem.Claim
import GoSem.ClaimJoined
import GoSem.ClaimMapViews
import Derived.JoinedTies
import Derived.KernelRfl
namespace Go.Proofs.YtngkolcpbgibcaaGreatDoor
/- THE CELL 'sum', in the pinned program and in every row, IS THE sha256 OF THE DUMP (.gsa) THAT YtngkolcpbgibcaaGreatDoorProg.lean LOADS. Nothing in Lean hashes anything: it is a label: what it is worth is what the hold of that sum in a sandbox is worth. -/
noncomputable def Tryz.pinned : Pinned := { name := "ytngkolcpbgibcaagreatdoor", sum := "217f47a2efcb1d9893dfb87afeb3c863ba6dba4a5d64ba4527eab062ca51d08d", checked := Tryz.checked }
namespace Rows
def none {H : Type} : Left H := { results := [], args := [] }

/- WHAT THE LISTED PACKAGE-LEVEL VARIABLES READ AS WHEN THE CALL BEGINS. Each datum BY PROGRAM (the guide's laid-datum.mjs) off the statement by which the dump's own 'gosem.cut.vars' lays the variable. In a bare row this is a premise. The card (YtngkolcpbgibcaaGreatDoorCards.lean) ties it to the program's text. -/
def laid_math_bits_deBruijn32tab {H : Type} : DataW H := .agg [.lit (.int .u8 0), .lit (.int .u8 1), .lit (.int .u8 28), .lit (.int .u8 2), .lit (.int .u8 29), .lit (.int .u8 14), .lit (.int .u8 24), .lit (.int .u8 3), .lit (.int .u8 30), .lit (.int .u8 22), .lit (.int .u8 20), .lit (.int .u8 15), .lit (.int .u8 25), .lit (.int .u8 17), .lit (.int .u8 4), .lit (.int .u8 8), .lit (.int .u8 31), .lit (.int .u8 27), .lit (.int .u8 13), .lit (.int .u8 23), .lit (.int .u8 21), .lit (.int .u8 19), .lit (.int .u8 16), .lit (.int .u8 7), .lit (.int .u8 26), .lit (.int .u8 12), .lit (.int .u8 18), .lit (.int .u8 6), .lit (.int .u8 11), .lit (.int .u8 5), .lit (.int .u8 10), .lit (.int .u8 9)]
def laid_math_bits_deBruijn64tab {H : Type} : DataW H := .agg [.lit (.int .u8 0), .lit (.int .u8 1), .lit (.int .u8 56), .lit (.int .u8 2), .lit (.int .u8 57), .lit (.int .u8 49), .lit (.int .u8 28), .lit (.int .u8 3), .lit (.int .u8 61), .lit (.int .u8 58), .lit (.int .u8 42), .lit (.int .u8 50), .lit (.int .u8 38), .lit (.int .u8 29), .lit (.int .u8 17), .lit (.int .u8 4), .lit (.int .u8 62), .lit (.int .u8 47), .lit (.int .u8 59), .lit (.int .u8 36), .lit (.int .u8 45), .lit (.int .u8 43), .lit (.int .u8 51), .lit (.int .u8 22), .lit (.int .u8 53), .lit (.int .u8 39), .lit (.int .u8 33), .lit (.int .u8 30), .lit (.int .u8 24), .lit (.int .u8 18), .lit (.int .u8 12), .lit (.int .u8 5), .lit (.int .u8 63), .lit (.int .u8 55), .lit (.int .u8 48), .lit (.int .u8 27), .lit (.int .u8 60), .lit (.int .u8 41), .lit (.int .u8 37), .lit (.int .u8 16), .lit (.int .u8 46), .lit (.int .u8 35), .lit (.int .u8 44), .lit (.int .u8 21), .lit (.int .u8 52), .lit (.int .u8 32), .lit (.int .u8 23), .lit (.int .u8 11), .lit (.int .u8 54), .lit (.int .u8 26), .lit (.int .u8 40), .lit (.int .u8 15), .lit (.int .u8 34), .lit (.int .u8 20), .lit (.int .u8 31), .lit (.int .u8 10), .lit (.int .u8 25), .lit (.int .u8 14), .lit (.int .u8 19), .lit (.int .u8 9), .lit (.int .u8 13), .lit (.int .u8 8), .lit (.int .u8 7), .lit (.int .u8 6)]
def laid_internal_strconv_uint64pow10 {H : Type} : DataW H := .agg [.lit (.int .u64 1), .lit (.int .u64 10), .lit (.int .u64 100), .lit (.int .u64 1000), .lit (.int .u64 10000), .lit (.int .u64 100000), .lit (.int .u64 1000000), .lit (.int .u64 10000000), .lit (.int .u64 100000000), .lit (.int .u64 1000000000), .lit (.int .u64 10000000000), .lit (.int .u64 100000000000), .lit (.int .u64 1000000000000), .lit (.int .u64 10000000000000), .lit (.int .u64 100000000000000), .lit (.int .u64 1000000000000000), .lit (.int .u64 10000000000000000), .lit (.int .u64 100000000000000000), .lit (.int .u64 1000000000000000000), .lit (.int .u64 10000000000000000000)]
def laid_unicode_utf8_acceptRanges {H : Type} : DataW H := .agg [.agg [.lit (.int .u8 128), .lit (.int .u8 191)], .agg [.lit (.int .u8 160), .lit (.int .u8 191)], .agg [.lit (.int .u8 128), .lit (.int .u8 159)], .agg [.lit (.int .u8 144), .lit (.int .u8 191)], .agg [.lit (.int .u8 128), .lit (.int .u8 143)], .agg [.lit (.int .u8 0), .lit (.int .u8 0)], .agg [.lit (.int .u8 0), .lit (.int .u8 0)], .agg [.lit (.int .u8 0), .lit (.int .u8 0)], .agg [.lit (.int .u8 0), .lit (.int .u8 0)], .agg [.lit (.int .u8 0), .lit (.int .u8 0)], .agg [.lit (.int .u8 0), .lit (.int .u8 0)], .agg [.lit (.int .u8 0), .lit (.int .u8 0)], .agg [.lit (.int .u8 0), .lit (.int .u8 0)], .agg [.lit (.int .u8 0), .lit (.int .u8 0)], .agg [.lit (.int .u8 0), .lit (.int .u8 0)], .agg [.lit (.int .u8 0), .lit (.int .u8 0)]]
def laid_cashbook_fun_functions {H : Type} : DataW H := .agg [.agg [.lit (.string [83, 85, 77]), .lit (.int .i64 0), .lit (.int .i64 9223372036854775807)], .agg [.lit (.string [77, 73, 78]), .lit (.int .i64 0), .lit (.int .i64 9223372036854775807)], .agg [.lit (.string [77, 65, 88]), .lit (.int .i64 0), .lit (.int .i64 9223372036854775807)], .agg [.lit (.string [67, 79, 85, 78, 84]), .lit (.int .i64 0), .lit (.int .i64 9223372036854775807)], .agg [.lit (.string [65, 86, 69, 82, 65, 71, 69]), .lit (.int .i64 0), .lit (.int .i64 9223372036854775807)], .agg [.lit (.string [65, 66, 83]), .lit (.int .i64 1), .lit (.int .i64 1)], .agg [.lit (.string [83, 73, 71, 78]), .lit (.int .i64 1), .lit (.int .i64 1)], .agg [.lit (.string [73, 78, 84]), .lit (.int .i64 1), .lit (.int .i64 1)], .agg [.lit (.string [77, 79, 68]), .lit (.int .i64 2), .lit (.int .i64 2)], .agg [.lit (.string [82, 79, 85, 78, 68]), .lit (.int .i64 2), .lit (.int .i64 2)], .agg [.lit (.string [73, 70]), .lit (.int .i64 2), .lit (.int .i64 3)], .agg [.lit (.string [65, 78, 68]), .lit (.int .i64 0), .lit (.int .i64 9223372036854775807)], .agg [.lit (.string [79, 82]), .lit (.int .i64 0), .lit (.int .i64 9223372036854775807)], .agg [.lit (.string [78, 79, 84]), .lit (.int .i64 1), .lit (.int .i64 1)], .agg [.lit (.string [76, 69, 78]), .lit (.int .i64 1), .lit (.int .i64 1)], .agg [.lit (.string [76, 69, 70, 84]), .lit (.int .i64 1), .lit (.int .i64 2)], .agg [.lit (.string [82, 73, 71, 72, 84]), .lit (.int .i64 1), .lit (.int .i64 2)], .agg [.lit (.string [77, 73, 68]), .lit (.int .i64 3), .lit (.int .i64 3)], .agg [.lit (.string [67, 79, 78, 67, 65, 84]), .lit (.int .i64 0), .lit (.int .i64 9223372036854775807)], .agg [.lit (.string [85, 80, 80, 69, 82]), .lit (.int .i64 1), .lit (.int .i64 1)], .agg [.lit (.string [76, 79, 87, 69, 82]), .lit (.int .i64 1), .lit (.int .i64 1)], .agg [.lit (.string [73, 83, 66, 76, 65, 78, 75]), .lit (.int .i64 1), .lit (.int .i64 1)], .agg [.lit (.string [73, 83, 69, 82, 82, 79, 82]), .lit (.int .i64 1), .lit (.int .i64 1)], .agg [.lit (.string [73, 70, 69, 82, 82, 79, 82]), .lit (.int .i64 2), .lit (.int .i64 2)], .agg [.lit (.string [73, 78, 68, 69, 88]), .lit (.int .i64 2), .lit (.int .i64 2)], .agg [.lit (.string [67, 72, 79, 79, 83, 69]), .lit (.int .i64 2), .lit (.int .i64 9223372036854775807)], .agg [.lit (.string [69, 88, 65, 67, 84]), .lit (.int .i64 2), .lit (.int .i64 2)], .agg [.lit (.string [82, 69, 80, 84]), .lit (.int .i64 2), .lit (.int .i64 2)], .agg [.lit (.string [78, 65]), .lit (.int .i64 0), .lit (.int .i64 0)], .agg [.lit (.string [84, 89, 80, 69]), .lit (.int .i64 1), .lit (.int .i64 1)]]
/-- One of Go's own tables, pinned by name: the form's constant. -/
def laid_unicode_utf8_first : DataW Unit := Go.Pinned.utf8First

/-- 'cashbooklaw11.FunApplies': WHATEVER THE INPUT: true; the input reads as it did. -/
def funAppliesSpec : ChangeSpec := { name := "funApplies", fn := fun _ => fun
  | [d1, d2] => { results := [.lit (.bool true)], args := [d1, d2] }
  | _ => none }
def funAppliesRow : OpenClaim := { program := "ytngkolcpbgibcaagreatdoor", sum := "217f47a2efcb1d9893dfb87afeb3c863ba6dba4a5d64ba4527eab062ca51d08d", func := "cashbook/cashbooklaw11.FunApplies", spec := "funApplies", inPlace := ["internal/bytealg.IndexByteString", "internal/bytealg.IndexString", "math/bits.Add64", "math/bits.Sub64", "internal/abi.NoEscape", "internal/bytealg.MakeNoZero"], unfollowed := true, recurses := true, named := ["cashbook/fun.functions", "internal/bytealg.MaxLen", "math/bits.divideError", "math/bits.overflowError", "internal/strconv.uint64pow10", "math/bits.deBruijn32tab", "math/bits.deBruijn64tab", "unicode/utf8.first", "unicode/utf8.acceptRanges"], apart := false, laid := [("math/bits.deBruijn32tab", laid_math_bits_deBruijn32tab), ("math/bits.deBruijn64tab", laid_math_bits_deBruijn64tab), ("internal/strconv.uint64pow10", laid_internal_strconv_uint64pow10), ("unicode/utf8.acceptRanges", laid_unicode_utf8_acceptRanges), ("cashbook/fun.functions", laid_cashbook_fun_functions), ("unicode/utf8.first", laid_unicode_utf8_first)] }
def FunAppliesSaid : Prop := funAppliesRow.holds Tryz.pinned (OpenSpec.ofChange funAppliesSpec)

/-- ITS FALSE NEIGHBOUR: 'it returns false'. Refute it at one input. -/
def funAppliesWrong : ChangeSpec := { name := "funApplies", fn := fun _ => fun
  | [d1, d2] => { results := [.lit (.bool false)], args := [d1, d2] }
  | _ => none }
def FunAppliesWrongFalsely : Prop := funAppliesRow.holds Tryz.pinned (OpenSpec.ofChange funAppliesWrong)

/-- 'cashbooklaw11.FunSigns': WHATEVER THE INPUT: true; the input reads as it did. -/
def funSignsSpec : ChangeSpec := { name := "funSigns", fn := fun _ => fun
  | [d1, d2, d3] => { results := [.lit (.bool true)], args := [d1, d2, d3] }
  | _ => none }
def funSignsRow : OpenClaim := { program := "ytngkolcpbgibcaagreatdoor", sum := "217f47a2efcb1d9893dfb87afeb3c863ba6dba4a5d64ba4527eab062ca51d08d", func := "cashbook/cashbooklaw11.FunSigns", spec := "funSigns", inPlace := ["internal/bytealg.IndexByteString", "internal/bytealg.IndexString", "math/bits.Add64", "math/bits.Sub64", "internal/abi.NoEscape", "internal/bytealg.MakeNoZero"], unfollowed := true, recurses := true, named := ["cashbook/fun.functions", "internal/bytealg.MaxLen", "math/bits.divideError", "math/bits.overflowError", "internal/strconv.uint64pow10", "math/bits.deBruijn32tab", "math/bits.deBruijn64tab", "unicode/utf8.first", "unicode/utf8.acceptRanges"], apart := false, laid := [("math/bits.deBruijn32tab", laid_math_bits_deBruijn32tab), ("math/bits.deBruijn64tab", laid_math_bits_deBruijn64tab), ("internal/strconv.uint64pow10", laid_internal_strconv_uint64pow10), ("unicode/utf8.acceptRanges", laid_unicode_utf8_acceptRanges), ("cashbook/fun.functions", laid_cashbook_fun_functions), ("unicode/utf8.first", laid_unicode_utf8_first)] }
def FunSignsSaid : Prop := funSignsRow.holds Tryz.pinned (OpenSpec.ofChange funSignsSpec)

/-- ITS FALSE NEIGHBOUR: 'it returns false'. Refute it at one input. -/
def funSignsWrong : ChangeSpec := { name := "funSigns", fn := fun _ => fun
  | [d1, d2, d3] => { results := [.lit (.bool false)], args := [d1, d2, d3] }
  | _ => none }
def FunSignsWrongFalsely : Prop := funSignsRow.holds Tryz.pinned (OpenSpec.ofChange funSignsWrong)

/-- 'cashbooklaw11.FunNames': WHATEVER THE INPUT: true; the input reads as it did. -/
def funNamesSpec : ChangeSpec := { name := "funNames", fn := fun _ => fun
  | [d1, d2] => { results := [.lit (.bool true)], args := [d1, d2] }
  | _ => none }
def funNamesRow : OpenClaim := { program := "ytngkolcpbgibcaagreatdoor", sum := "217f47a2efcb1d9893dfb87afeb3c863ba6dba4a5d64ba4527eab062ca51d08d", func := "cashbook/cashbooklaw11.FunNames", spec := "funNames", inPlace := ["internal/bytealg.IndexByteString", "internal/bytealg.IndexString", "math/bits.Add64", "math/bits.Sub64", "internal/abi.NoEscape", "internal/bytealg.MakeNoZero"], unfollowed := true, recurses := true, named := ["cashbook/fun.functions", "internal/bytealg.MaxLen", "math/bits.divideError", "math/bits.overflowError", "internal/strconv.uint64pow10", "math/bits.deBruijn32tab", "math/bits.deBruijn64tab", "unicode/utf8.first", "unicode/utf8.acceptRanges"], apart := false, laid := [("math/bits.deBruijn32tab", laid_math_bits_deBruijn32tab), ("math/bits.deBruijn64tab", laid_math_bits_deBruijn64tab), ("internal/strconv.uint64pow10", laid_internal_strconv_uint64pow10), ("unicode/utf8.acceptRanges", laid_unicode_utf8_acceptRanges), ("cashbook/fun.functions", laid_cashbook_fun_functions), ("unicode/utf8.first", laid_unicode_utf8_first)] }
def FunNamesSaid : Prop := funNamesRow.holds Tryz.pinned (OpenSpec.ofChange funNamesSpec)

/-- ITS FALSE NEIGHBOUR: 'it returns false'. Refute it at one input. -/
def funNamesWrong : ChangeSpec := { name := "funNames", fn := fun _ => fun
  | [d1, d2] => { results := [.lit (.bool false)], args := [d1, d2] }
  | _ => none }
def FunNamesWrongFalsely : Prop := funNamesRow.holds Tryz.pinned (OpenSpec.ofChange funNamesWrong)

/-- 'cashbooklaw11.FunFolds': WHATEVER THE INPUT: true; the input reads as it did. -/
def funFoldsSpec : ChangeSpec := { name := "funFolds", fn := fun _ => fun
  | [d] => { results := [.lit (.bool true)], args := [d] }
  | _ => none }
def funFoldsRow : OpenClaim := { program := "ytngkolcpbgibcaagreatdoor", sum := "217f47a2efcb1d9893dfb87afeb3c863ba6dba4a5d64ba4527eab062ca51d08d", func := "cashbook/cashbooklaw11.FunFolds", spec := "funFolds", inPlace := ["internal/bytealg.IndexByteString", "internal/bytealg.IndexString", "math/bits.Add64", "math/bits.Sub64", "internal/abi.NoEscape", "internal/bytealg.MakeNoZero"], unfollowed := true, recurses := true, named := ["cashbook/fun.functions", "internal/bytealg.MaxLen", "math/bits.divideError", "math/bits.overflowError", "internal/strconv.uint64pow10", "math/bits.deBruijn32tab", "math/bits.deBruijn64tab", "unicode/utf8.first", "unicode/utf8.acceptRanges"], apart := false, laid := [("math/bits.deBruijn32tab", laid_math_bits_deBruijn32tab), ("math/bits.deBruijn64tab", laid_math_bits_deBruijn64tab), ("internal/strconv.uint64pow10", laid_internal_strconv_uint64pow10), ("unicode/utf8.acceptRanges", laid_unicode_utf8_acceptRanges), ("cashbook/fun.functions", laid_cashbook_fun_functions), ("unicode/utf8.first", laid_unicode_utf8_first)] }
def FunFoldsSaid : Prop := funFoldsRow.holds Tryz.pinned (OpenSpec.ofChange funFoldsSpec)

/-- ITS FALSE NEIGHBOUR: 'it returns false'. Refute it at one input. -/
def funFoldsWrong : ChangeSpec := { name := "funFolds", fn := fun _ => fun
  | [d] => { results := [.lit (.bool false)], args := [d] }
  | _ => none }
def FunFoldsWrongFalsely : Prop := funFoldsRow.holds Tryz.pinned (OpenSpec.ofChange funFoldsWrong)

/-- 'cashbooklaw11.FunPieces': WHATEVER THE INPUT: true; the input reads as it did. -/
def funPiecesSpec : ChangeSpec := { name := "funPieces", fn := fun _ => fun
  | [d1, d2, d3] => { results := [.lit (.bool true)], args := [d1, d2, d3] }
  | _ => none }
def funPiecesRow : OpenClaim := { program := "ytngkolcpbgibcaagreatdoor", sum := "217f47a2efcb1d9893dfb87afeb3c863ba6dba4a5d64ba4527eab062ca51d08d", func := "cashbook/cashbooklaw11.FunPieces", spec := "funPieces", inPlace := ["internal/bytealg.IndexByteString", "internal/bytealg.IndexString", "math/bits.Add64", "math/bits.Sub64", "internal/abi.NoEscape", "internal/bytealg.MakeNoZero"], unfollowed := true, recurses := true, named := ["cashbook/fun.functions", "internal/bytealg.MaxLen", "math/bits.divideError", "math/bits.overflowError", "internal/strconv.uint64pow10", "math/bits.deBruijn32tab", "math/bits.deBruijn64tab", "unicode/utf8.first", "unicode/utf8.acceptRanges"], apart := false, laid := [("math/bits.deBruijn32tab", laid_math_bits_deBruijn32tab), ("math/bits.deBruijn64tab", laid_math_bits_deBruijn64tab), ("internal/strconv.uint64pow10", laid_internal_strconv_uint64pow10), ("unicode/utf8.acceptRanges", laid_unicode_utf8_acceptRanges), ("cashbook/fun.functions", laid_cashbook_fun_functions), ("unicode/utf8.first", laid_unicode_utf8_first)] }
def FunPiecesSaid : Prop := funPiecesRow.holds Tryz.pinned (OpenSpec.ofChange funPiecesSpec)

/-- ITS FALSE NEIGHBOUR: 'it returns false'. Refute it at one input. -/
def funPiecesWrong : ChangeSpec := { name := "funPieces", fn := fun _ => fun
  | [d1, d2, d3] => { results := [.lit (.bool false)], args := [d1, d2, d3] }
  | _ => none }
def FunPiecesWrongFalsely : Prop := funPiecesRow.holds Tryz.pinned (OpenSpec.ofChange funPiecesWrong)

/-- 'cashbooklaw11.FunChooses': WHATEVER THE INPUT: true; the input reads as it did. -/
def funChoosesSpec : ChangeSpec := { name := "funChooses", fn := fun _ => fun
  | [d1, d2] => { results := [.lit (.bool true)], args := [d1, d2] }
  | _ => none }
def funChoosesRow : OpenClaim := { program := "ytngkolcpbgibcaagreatdoor", sum := "217f47a2efcb1d9893dfb87afeb3c863ba6dba4a5d64ba4527eab062ca51d08d", func := "cashbook/cashbooklaw11.FunChooses", spec := "funChooses", inPlace := ["internal/bytealg.IndexByteString", "internal/bytealg.IndexString", "math/bits.Add64", "math/bits.Sub64", "internal/abi.NoEscape", "internal/bytealg.MakeNoZero"], unfollowed := true, recurses := true, named := ["cashbook/fun.functions", "internal/bytealg.MaxLen", "math/bits.divideError", "math/bits.overflowError", "internal/strconv.uint64pow10", "math/bits.deBruijn32tab", "math/bits.deBruijn64tab", "unicode/utf8.first", "unicode/utf8.acceptRanges"], apart := false, laid := [("math/bits.deBruijn32tab", laid_math_bits_deBruijn32tab), ("math/bits.deBruijn64tab", laid_math_bits_deBruijn64tab), ("internal/strconv.uint64pow10", laid_internal_strconv_uint64pow10), ("unicode/utf8.acceptRanges", laid_unicode_utf8_acceptRanges), ("cashbook/fun.functions", laid_cashbook_fun_functions), ("unicode/utf8.first", laid_unicode_utf8_first)] }
def FunChoosesSaid : Prop := funChoosesRow.holds Tryz.pinned (OpenSpec.ofChange funChoosesSpec)

/-- ITS FALSE NEIGHBOUR: 'it returns false'. Refute it at one input. -/
def funChoosesWrong : ChangeSpec := { name := "funChooses", fn := fun _ => fun
  | [d1, d2] => { results := [.lit (.bool false)], args := [d1, d2] }
  | _ => none }
def FunChoosesWrongFalsely : Prop := funChoosesRow.holds Tryz.pinned (OpenSpec.ofChange funChoosesWrong)

/-- 'cashbooklaw11.FunMod': WHATEVER THE INPUT: true; the input reads as it did. -/
def funModSpec : ChangeSpec := { name := "funMod", fn := fun _ => fun
  | [d1, d2, d3] => { results := [.lit (.bool true)], args := [d1, d2, d3] }
  | _ => none }
def funModRow : OpenClaim := { program := "ytngkolcpbgibcaagreatdoor", sum := "217f47a2efcb1d9893dfb87afeb3c863ba6dba4a5d64ba4527eab062ca51d08d", func := "cashbook/cashbooklaw11.FunMod", spec := "funMod", inPlace := ["internal/bytealg.IndexByteString", "internal/bytealg.IndexString", "math/bits.Add64", "math/bits.Sub64", "internal/abi.NoEscape", "internal/bytealg.MakeNoZero"], unfollowed := true, recurses := true, named := ["cashbook/fun.functions", "internal/bytealg.MaxLen", "math/bits.divideError", "math/bits.overflowError", "internal/strconv.uint64pow10", "math/bits.deBruijn32tab", "math/bits.deBruijn64tab", "unicode/utf8.first", "unicode/utf8.acceptRanges"], apart := false, laid := [("math/bits.deBruijn32tab", laid_math_bits_deBruijn32tab), ("math/bits.deBruijn64tab", laid_math_bits_deBruijn64tab), ("internal/strconv.uint64pow10", laid_internal_strconv_uint64pow10), ("unicode/utf8.acceptRanges", laid_unicode_utf8_acceptRanges), ("cashbook/fun.functions", laid_cashbook_fun_functions), ("unicode/utf8.first", laid_unicode_utf8_first)] }
def FunModSaid : Prop := funModRow.holds Tryz.pinned (OpenSpec.ofChange funModSpec)

/-- ITS FALSE NEIGHBOUR: 'it returns false'. Refute it at one input. -/
def funModWrong : ChangeSpec := { name := "funMod", fn := fun _ => fun
  | [d1, d2, d3] => { results := [.lit (.bool false)], args := [d1, d2, d3] }
  | _ => none }
def FunModWrongFalsely : Prop := funModRow.holds Tryz.pinned (OpenSpec.ofChange funModWrong)

/-- 'cashbooklaw11.FunTypes': WHATEVER THE INPUT: true; the input reads as it did. -/
def funTypesSpec : ChangeSpec := { name := "funTypes", fn := fun _ => fun
  | [d1, d2] => { results := [.lit (.bool true)], args := [d1, d2] }
  | _ => none }
def funTypesRow : OpenClaim := { program := "ytngkolcpbgibcaagreatdoor", sum := "217f47a2efcb1d9893dfb87afeb3c863ba6dba4a5d64ba4527eab062ca51d08d", func := "cashbook/cashbooklaw11.FunTypes", spec := "funTypes", inPlace := ["internal/bytealg.IndexByteString", "internal/bytealg.IndexString", "math/bits.Add64", "math/bits.Sub64", "internal/abi.NoEscape", "internal/bytealg.MakeNoZero"], unfollowed := true, recurses := true, named := ["cashbook/fun.functions", "internal/bytealg.MaxLen", "math/bits.divideError", "math/bits.overflowError", "internal/strconv.uint64pow10", "math/bits.deBruijn32tab", "math/bits.deBruijn64tab", "unicode/utf8.first", "unicode/utf8.acceptRanges"], apart := false, laid := [("math/bits.deBruijn32tab", laid_math_bits_deBruijn32tab), ("math/bits.deBruijn64tab", laid_math_bits_deBruijn64tab), ("internal/strconv.uint64pow10", laid_internal_strconv_uint64pow10), ("unicode/utf8.acceptRanges", laid_unicode_utf8_acceptRanges), ("cashbook/fun.functions", laid_cashbook_fun_functions), ("unicode/utf8.first", laid_unicode_utf8_first)] }
def FunTypesSaid : Prop := funTypesRow.holds Tryz.pinned (OpenSpec.ofChange funTypesSpec)

/-- ITS FALSE NEIGHBOUR: 'it returns false'. Refute it at one input. -/
def funTypesWrong : ChangeSpec := { name := "funTypes", fn := fun _ => fun
  | [d1, d2] => { results := [.lit (.bool false)], args := [d1, d2] }
  | _ => none }
def FunTypesWrongFalsely : Prop := funTypesRow.holds Tryz.pinned (OpenSpec.ofChange funTypesWrong)

/- THE SECOND FORM. 'bulk': how many values and letters a reading holds, each counted each time it is reached (what is shared counts as often as it is met; a slice's spare places count too). A statement '..UptoSaid' is the law's where the arguments, and the package variables that the reading takes, are together of bulk at most 1048576: NARROWER than '..Said'. Prove '..Said' where nothing that the law and all that it calls make is longer than what came in: it says more and counts as full. Else prove '..UptoSaid'. A law counts once. -/
mutual
def uptoBulk {H : Type} : DataW H → Nat
  | .lit (.string bytes) => bytes.length + 1
  | .lit _ => 1
  | .nil => 1
  | .ptr d => uptoBulk d + 1
  | .slice elems spare => uptoBulkAll elems + uptoBulkAll spare + 1
  | .agg parts => uptoBulkAll parts + 1
  | .iface _ d => uptoBulk d + 1
  | .map entries => uptoBulkEntries entries + 1
  | .held _ => 1
def uptoBulkAll {H : Type} : List (DataW H) → Nat
  | [] => 0
  | d :: r => uptoBulk d + uptoBulkAll r
def uptoBulkEntries {H : Type} : List (Lit × DataW H) → Nat
  | [] => 0
  | x :: r => uptoBulkEntry x + uptoBulkEntries r
def uptoBulkEntry {H : Type} : Lit × DataW H → Nat
  | (.string bytes, d) => bytes.length + uptoBulk d + 1
  | (_, d) => uptoBulk d + 1
 end
def uptoSmall : (H : Type) → List (DataW H) → Bool := fun _ ds => decide (uptoBulkAll ds ≤ 1048576)
def OpenSpec.upto (s : _root_.Go.ChangeSpec) : _root_.Go.OpenSpec := { _root_.Go.OpenSpec.ofChange s with cond := some uptoSmall }

/-- 'cashbooklaw11.FunApplies', WHERE WHAT IT READS IS OF BULK AT MOST 1048576: true; the input reads as it did. -/
def funAppliesUptoRow : OpenClaim := { program := "ytngkolcpbgibcaagreatdoor", sum := "217f47a2efcb1d9893dfb87afeb3c863ba6dba4a5d64ba4527eab062ca51d08d", func := "cashbook/cashbooklaw11.FunApplies", spec := "funApplies", inPlace := ["internal/bytealg.IndexByteString", "internal/bytealg.IndexString", "math/bits.Add64", "math/bits.Sub64", "internal/abi.NoEscape", "internal/bytealg.MakeNoZero"], unfollowed := true, recurses := true, named := ["cashbook/fun.functions", "internal/bytealg.MaxLen", "math/bits.divideError", "math/bits.overflowError", "internal/strconv.uint64pow10", "math/bits.deBruijn32tab", "math/bits.deBruijn64tab", "unicode/utf8.first", "unicode/utf8.acceptRanges"], apart := false, laid := [("math/bits.deBruijn32tab", laid_math_bits_deBruijn32tab), ("math/bits.deBruijn64tab", laid_math_bits_deBruijn64tab), ("internal/strconv.uint64pow10", laid_internal_strconv_uint64pow10), ("unicode/utf8.acceptRanges", laid_unicode_utf8_acceptRanges), ("cashbook/fun.functions", laid_cashbook_fun_functions), ("unicode/utf8.first", laid_unicode_utf8_first)], narrowed := true }
def FunAppliesUptoSaid : Prop := funAppliesUptoRow.holds Tryz.pinned (OpenSpec.upto funAppliesSpec)

/-- 'cashbooklaw11.FunSigns', WHERE WHAT IT READS IS OF BULK AT MOST 1048576: true; the input reads as it did. -/
def funSignsUptoRow : OpenClaim := { program := "ytngkolcpbgibcaagreatdoor", sum := "217f47a2efcb1d9893dfb87afeb3c863ba6dba4a5d64ba4527eab062ca51d08d", func := "cashbook/cashbooklaw11.FunSigns", spec := "funSigns", inPlace := ["internal/bytealg.IndexByteString", "internal/bytealg.IndexString", "math/bits.Add64", "math/bits.Sub64", "internal/abi.NoEscape", "internal/bytealg.MakeNoZero"], unfollowed := true, recurses := true, named := ["cashbook/fun.functions", "internal/bytealg.MaxLen", "math/bits.divideError", "math/bits.overflowError", "internal/strconv.uint64pow10", "math/bits.deBruijn32tab", "math/bits.deBruijn64tab", "unicode/utf8.first", "unicode/utf8.acceptRanges"], apart := false, laid := [("math/bits.deBruijn32tab", laid_math_bits_deBruijn32tab), ("math/bits.deBruijn64tab", laid_math_bits_deBruijn64tab), ("internal/strconv.uint64pow10", laid_internal_strconv_uint64pow10), ("unicode/utf8.acceptRanges", laid_unicode_utf8_acceptRanges), ("cashbook/fun.functions", laid_cashbook_fun_functions), ("unicode/utf8.first", laid_unicode_utf8_first)], narrowed := true }
def FunSignsUptoSaid : Prop := funSignsUptoRow.holds Tryz.pinned (OpenSpec.upto funSignsSpec)

/-- 'cashbooklaw11.FunNames', WHERE WHAT IT READS IS OF BULK AT MOST 1048576: true; the input reads as it did. -/
def funNamesUptoRow : OpenClaim := { program := "ytngkolcpbgibcaagreatdoor", sum := "217f47a2efcb1d9893dfb87afeb3c863ba6dba4a5d64ba4527eab062ca51d08d", func := "cashbook/cashbooklaw11.FunNames", spec := "funNames", inPlace := ["internal/bytealg.IndexByteString", "internal/bytealg.IndexString", "math/bits.Add64", "math/bits.Sub64", "internal/abi.NoEscape", "internal/bytealg.MakeNoZero"], unfollowed := true, recurses := true, named := ["cashbook/fun.functions", "internal/bytealg.MaxLen", "math/bits.divideError", "math/bits.overflowError", "internal/strconv.uint64pow10", "math/bits.deBruijn32tab", "math/bits.deBruijn64tab", "unicode/utf8.first", "unicode/utf8.acceptRanges"], apart := false, laid := [("math/bits.deBruijn32tab", laid_math_bits_deBruijn32tab), ("math/bits.deBruijn64tab", laid_math_bits_deBruijn64tab), ("internal/strconv.uint64pow10", laid_internal_strconv_uint64pow10), ("unicode/utf8.acceptRanges", laid_unicode_utf8_acceptRanges), ("cashbook/fun.functions", laid_cashbook_fun_functions), ("unicode/utf8.first", laid_unicode_utf8_first)], narrowed := true }
def FunNamesUptoSaid : Prop := funNamesUptoRow.holds Tryz.pinned (OpenSpec.upto funNamesSpec)

/-- 'cashbooklaw11.FunFolds', WHERE WHAT IT READS IS OF BULK AT MOST 1048576: true; the input reads as it did. -/
def funFoldsUptoRow : OpenClaim := { program := "ytngkolcpbgibcaagreatdoor", sum := "217f47a2efcb1d9893dfb87afeb3c863ba6dba4a5d64ba4527eab062ca51d08d", func := "cashbook/cashbooklaw11.FunFolds", spec := "funFolds", inPlace := ["internal/bytealg.IndexByteString", "internal/bytealg.IndexString", "math/bits.Add64", "math/bits.Sub64", "internal/abi.NoEscape", "internal/bytealg.MakeNoZero"], unfollowed := true, recurses := true, named := ["cashbook/fun.functions", "internal/bytealg.MaxLen", "math/bits.divideError", "math/bits.overflowError", "internal/strconv.uint64pow10", "math/bits.deBruijn32tab", "math/bits.deBruijn64tab", "unicode/utf8.first", "unicode/utf8.acceptRanges"], apart := false, laid := [("math/bits.deBruijn32tab", laid_math_bits_deBruijn32tab), ("math/bits.deBruijn64tab", laid_math_bits_deBruijn64tab), ("internal/strconv.uint64pow10", laid_internal_strconv_uint64pow10), ("unicode/utf8.acceptRanges", laid_unicode_utf8_acceptRanges), ("cashbook/fun.functions", laid_cashbook_fun_functions), ("unicode/utf8.first", laid_unicode_utf8_first)], narrowed := true }
def FunFoldsUptoSaid : Prop := funFoldsUptoRow.holds Tryz.pinned (OpenSpec.upto funFoldsSpec)

/-- 'cashbooklaw11.FunPieces', WHERE WHAT IT READS IS OF BULK AT MOST 1048576: true; the input reads as it did. -/
def funPiecesUptoRow : OpenClaim := { program := "ytngkolcpbgibcaagreatdoor", sum := "217f47a2efcb1d9893dfb87afeb3c863ba6dba4a5d64ba4527eab062ca51d08d", func := "cashbook/cashbooklaw11.FunPieces", spec := "funPieces", inPlace := ["internal/bytealg.IndexByteString", "internal/bytealg.IndexString", "math/bits.Add64", "math/bits.Sub64", "internal/abi.NoEscape", "internal/bytealg.MakeNoZero"], unfollowed := true, recurses := true, named := ["cashbook/fun.functions", "internal/bytealg.MaxLen", "math/bits.divideError", "math/bits.overflowError", "internal/strconv.uint64pow10", "math/bits.deBruijn32tab", "math/bits.deBruijn64tab", "unicode/utf8.first", "unicode/utf8.acceptRanges"], apart := false, laid := [("math/bits.deBruijn32tab", laid_math_bits_deBruijn32tab), ("math/bits.deBruijn64tab", laid_math_bits_deBruijn64tab), ("internal/strconv.uint64pow10", laid_internal_strconv_uint64pow10), ("unicode/utf8.acceptRanges", laid_unicode_utf8_acceptRanges), ("cashbook/fun.functions", laid_cashbook_fun_functions), ("unicode/utf8.first", laid_unicode_utf8_first)], narrowed := true }
def FunPiecesUptoSaid : Prop := funPiecesUptoRow.holds Tryz.pinned (OpenSpec.upto funPiecesSpec)

/-- 'cashbooklaw11.FunChooses', WHERE WHAT IT READS IS OF BULK AT MOST 1048576: true; the input reads as it did. -/
def funChoosesUptoRow : OpenClaim := { program := "ytngkolcpbgibcaagreatdoor", sum := "217f47a2efcb1d9893dfb87afeb3c863ba6dba4a5d64ba4527eab062ca51d08d", func := "cashbook/cashbooklaw11.FunChooses", spec := "funChooses", inPlace := ["internal/bytealg.IndexByteString", "internal/bytealg.IndexString", "math/bits.Add64", "math/bits.Sub64", "internal/abi.NoEscape", "internal/bytealg.MakeNoZero"], unfollowed := true, recurses := true, named := ["cashbook/fun.functions", "internal/bytealg.MaxLen", "math/bits.divideError", "math/bits.overflowError", "internal/strconv.uint64pow10", "math/bits.deBruijn32tab", "math/bits.deBruijn64tab", "unicode/utf8.first", "unicode/utf8.acceptRanges"], apart := false, laid := [("math/bits.deBruijn32tab", laid_math_bits_deBruijn32tab), ("math/bits.deBruijn64tab", laid_math_bits_deBruijn64tab), ("internal/strconv.uint64pow10", laid_internal_strconv_uint64pow10), ("unicode/utf8.acceptRanges", laid_unicode_utf8_acceptRanges), ("cashbook/fun.functions", laid_cashbook_fun_functions), ("unicode/utf8.first", laid_unicode_utf8_first)], narrowed := true }
def FunChoosesUptoSaid : Prop := funChoosesUptoRow.holds Tryz.pinned (OpenSpec.upto funChoosesSpec)

/-- 'cashbooklaw11.FunMod', WHERE WHAT IT READS IS OF BULK AT MOST 1048576: true; the input reads as it did. -/
def funModUptoRow : OpenClaim := { program := "ytngkolcpbgibcaagreatdoor", sum := "217f47a2efcb1d9893dfb87afeb3c863ba6dba4a5d64ba4527eab062ca51d08d", func := "cashbook/cashbooklaw11.FunMod", spec := "funMod", inPlace := ["internal/bytealg.IndexByteString", "internal/bytealg.IndexString", "math/bits.Add64", "math/bits.Sub64", "internal/abi.NoEscape", "internal/bytealg.MakeNoZero"], unfollowed := true, recurses := true, named := ["cashbook/fun.functions", "internal/bytealg.MaxLen", "math/bits.divideError", "math/bits.overflowError", "internal/strconv.uint64pow10", "math/bits.deBruijn32tab", "math/bits.deBruijn64tab", "unicode/utf8.first", "unicode/utf8.acceptRanges"], apart := false, laid := [("math/bits.deBruijn32tab", laid_math_bits_deBruijn32tab), ("math/bits.deBruijn64tab", laid_math_bits_deBruijn64tab), ("internal/strconv.uint64pow10", laid_internal_strconv_uint64pow10), ("unicode/utf8.acceptRanges", laid_unicode_utf8_acceptRanges), ("cashbook/fun.functions", laid_cashbook_fun_functions), ("unicode/utf8.first", laid_unicode_utf8_first)], narrowed := true }
def FunModUptoSaid : Prop := funModUptoRow.holds Tryz.pinned (OpenSpec.upto funModSpec)

/-- 'cashbooklaw11.FunTypes', WHERE WHAT IT READS IS OF BULK AT MOST 1048576: true; the input reads as it did. -/
def funTypesUptoRow : OpenClaim := { program := "ytngkolcpbgibcaagreatdoor", sum := "217f47a2efcb1d9893dfb87afeb3c863ba6dba4a5d64ba4527eab062ca51d08d", func := "cashbook/cashbooklaw11.FunTypes", spec := "funTypes", inPlace := ["internal/bytealg.IndexByteString", "internal/bytealg.IndexString", "math/bits.Add64", "math/bits.Sub64", "internal/abi.NoEscape", "internal/bytealg.MakeNoZero"], unfollowed := true, recurses := true, named := ["cashbook/fun.functions", "internal/bytealg.MaxLen", "math/bits.divideError", "math/bits.overflowError", "internal/strconv.uint64pow10", "math/bits.deBruijn32tab", "math/bits.deBruijn64tab", "unicode/utf8.first", "unicode/utf8.acceptRanges"], apart := false, laid := [("math/bits.deBruijn32tab", laid_math_bits_deBruijn32tab), ("math/bits.deBruijn64tab", laid_math_bits_deBruijn64tab), ("internal/strconv.uint64pow10", laid_internal_strconv_uint64pow10), ("unicode/utf8.acceptRanges", laid_unicode_utf8_acceptRanges), ("cashbook/fun.functions", laid_cashbook_fun_functions), ("unicode/utf8.first", laid_unicode_utf8_first)], narrowed := true }
def FunTypesUptoSaid : Prop := funTypesUptoRow.holds Tryz.pinned (OpenSpec.upto funTypesSpec)

end Rows
end Go.Proofs.YtngkolcpbgibcaaGreatDoor
