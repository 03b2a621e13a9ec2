/-
  NARROWER THAN 'FOR EVERY INPUT', by the rows' own cells (each row's printed sentence says how): PtgWrites: loops, laid · PtgStacks: laid · PtgJoins: loops, laid · PtgFronts: loops, laid.
  DERIVED. THE GIVEN ROWS OF THIS SEAT. 4 by the template 'for every input the law returns true; each argument reads behind the call as it read before'; 0 by the template 'total and deterministic' (their statements: YtlaiocdnddnnaaaGreatDoorTotals.lean).
  GIVEN WITH THE SEED: the statements are not yours to turn. If you find one false, say at which input.
  Laid BY PROGRAM, IN A SANDBOX (cutbox-rows.mjs): the forced cells as the released guide's own fill.sh prints them over the translation 77dd26aaec1e2ae0… (all of the seat's roots in one cut). By AI agents, Wed Nov 11 2026. No macro, syntax, notation, axiom, sorry.
-/
import Derived.Test.YtlaiocdnddnnaaaGreatDoorChecked
import GoSem.PinnedTables
import GoSem.Claim
import GoSem.ClaimJoined
import GoSem.ClaimMapViews
import Derived.JoinedTies
import Derived.KernelRfl
namespace Go.Proofs.YtlaiocdnddnnaaaGreatDoor
/- THE CELL 'sum', in the pinned program and in every row, IS THE sha256 OF THE DUMP (.gsa) THAT YtlaiocdnddnnaaaGreatDoorProg.lean LOADS. Nothing in Lean hashes anything: it is a label: what it is worth is what the hold of that sum in a sandbox is worth. -/
noncomputable def Tryz.pinned : Pinned := { name := "ytlaiocdnddnnaaagreatdoor", sum := "77dd26aaec1e2ae08b1797ccf6333f8f03d011b370309ae7e0d8e91ed301fd55", checked := Tryz.checked }
namespace Rows
def none {H : Type} : Left H := { results := [], args := [] }

/- WHAT THE LISTED PACKAGE-LEVEL VARIABLES READ AS WHEN THE CALL BEGINS. Each datum BY PROGRAM (the guide's laid-datum.mjs) off the statement by which the dump's own 'gosem.cut.vars' lays the variable. In a bare row this is a premise. The card (YtlaiocdnddnnaaaGreatDoorCards.lean) ties it to the program's text. -/
def laid_unicode_utf8_acceptRanges {H : Type} : DataW H := .agg [.agg [.lit (.int .u8 128), .lit (.int .u8 191)], .agg [.lit (.int .u8 160), .lit (.int .u8 191)], .agg [.lit (.int .u8 128), .lit (.int .u8 159)], .agg [.lit (.int .u8 144), .lit (.int .u8 191)], .agg [.lit (.int .u8 128), .lit (.int .u8 143)], .agg [.lit (.int .u8 0), .lit (.int .u8 0)], .agg [.lit (.int .u8 0), .lit (.int .u8 0)], .agg [.lit (.int .u8 0), .lit (.int .u8 0)], .agg [.lit (.int .u8 0), .lit (.int .u8 0)], .agg [.lit (.int .u8 0), .lit (.int .u8 0)], .agg [.lit (.int .u8 0), .lit (.int .u8 0)], .agg [.lit (.int .u8 0), .lit (.int .u8 0)], .agg [.lit (.int .u8 0), .lit (.int .u8 0)], .agg [.lit (.int .u8 0), .lit (.int .u8 0)], .agg [.lit (.int .u8 0), .lit (.int .u8 0)], .agg [.lit (.int .u8 0), .lit (.int .u8 0)]]
/-- One of Go's own tables, pinned by name: the form's constant. -/
def laid_unicode_utf8_first : DataW Unit := Go.Pinned.utf8First

/-- 'cashbooklaw12.PtgWrites': WHATEVER THE INPUT: true; the input reads as it did. -/
def ptgWritesSpec : ChangeSpec := { name := "ptgWrites", fn := fun _ => fun
  | [d] => { results := [.lit (.bool true)], args := [d] }
  | _ => none }
def ptgWritesRow : OpenClaim := { program := "ytlaiocdnddnnaaagreatdoor", sum := "77dd26aaec1e2ae08b1797ccf6333f8f03d011b370309ae7e0d8e91ed301fd55", func := "cashbook/cashbooklaw12.PtgWrites", spec := "ptgWrites", inPlace := ["internal/abi.NoEscape"], recurses := true, named := ["unicode/utf8.first", "unicode/utf8.acceptRanges"], loops := true, apart := false, laid := [("unicode/utf8.acceptRanges", laid_unicode_utf8_acceptRanges), ("unicode/utf8.first", laid_unicode_utf8_first)] }
def PtgWritesSaid : Prop := ptgWritesRow.holds Tryz.pinned (OpenSpec.ofChange ptgWritesSpec)

/-- ITS FALSE NEIGHBOUR: 'it returns false'. Refute it at one input. -/
def ptgWritesWrong : ChangeSpec := { name := "ptgWrites", fn := fun _ => fun
  | [d] => { results := [.lit (.bool false)], args := [d] }
  | _ => none }
def PtgWritesWrongFalsely : Prop := ptgWritesRow.holds Tryz.pinned (OpenSpec.ofChange ptgWritesWrong)

/-- 'cashbooklaw12.PtgStacks': WHATEVER THE INPUT: true; the input reads as it did. -/
def ptgStacksSpec : ChangeSpec := { name := "ptgStacks", fn := fun _ => fun
  | [d] => { results := [.lit (.bool true)], args := [d] }
  | _ => none }
def ptgStacksRow : OpenClaim := { program := "ytlaiocdnddnnaaagreatdoor", sum := "77dd26aaec1e2ae08b1797ccf6333f8f03d011b370309ae7e0d8e91ed301fd55", func := "cashbook/cashbooklaw12.PtgStacks", spec := "ptgStacks", inPlace := ["internal/abi.NoEscape"], recurses := true, named := ["unicode/utf8.first", "unicode/utf8.acceptRanges"], apart := false, laid := [("unicode/utf8.acceptRanges", laid_unicode_utf8_acceptRanges), ("unicode/utf8.first", laid_unicode_utf8_first)] }
def PtgStacksSaid : Prop := ptgStacksRow.holds Tryz.pinned (OpenSpec.ofChange ptgStacksSpec)

/-- ITS FALSE NEIGHBOUR: 'it returns false'. Refute it at one input. -/
def ptgStacksWrong : ChangeSpec := { name := "ptgStacks", fn := fun _ => fun
  | [d] => { results := [.lit (.bool false)], args := [d] }
  | _ => none }
def PtgStacksWrongFalsely : Prop := ptgStacksRow.holds Tryz.pinned (OpenSpec.ofChange ptgStacksWrong)

/-- 'cashbooklaw12.PtgJoins': WHATEVER THE INPUT: true; the input reads as it did. -/
def ptgJoinsSpec : ChangeSpec := { name := "ptgJoins", fn := fun _ => fun
  | [d1, d2] => { results := [.lit (.bool true)], args := [d1, d2] }
  | _ => none }
def ptgJoinsRow : OpenClaim := { program := "ytlaiocdnddnnaaagreatdoor", sum := "77dd26aaec1e2ae08b1797ccf6333f8f03d011b370309ae7e0d8e91ed301fd55", func := "cashbook/cashbooklaw12.PtgJoins", spec := "ptgJoins", inPlace := ["internal/abi.NoEscape"], recurses := true, named := ["unicode/utf8.first", "unicode/utf8.acceptRanges"], loops := true, apart := false, laid := [("unicode/utf8.acceptRanges", laid_unicode_utf8_acceptRanges), ("unicode/utf8.first", laid_unicode_utf8_first)] }
def PtgJoinsSaid : Prop := ptgJoinsRow.holds Tryz.pinned (OpenSpec.ofChange ptgJoinsSpec)

/-- ITS FALSE NEIGHBOUR: 'it returns false'. Refute it at one input. -/
def ptgJoinsWrong : ChangeSpec := { name := "ptgJoins", fn := fun _ => fun
  | [d1, d2] => { results := [.lit (.bool false)], args := [d1, d2] }
  | _ => none }
def PtgJoinsWrongFalsely : Prop := ptgJoinsRow.holds Tryz.pinned (OpenSpec.ofChange ptgJoinsWrong)

/-- 'cashbooklaw12.PtgFronts': WHATEVER THE INPUT: true; the input reads as it did. -/
def ptgFrontsSpec : ChangeSpec := { name := "ptgFronts", fn := fun _ => fun
  | [d1, d2] => { results := [.lit (.bool true)], args := [d1, d2] }
  | _ => none }
def ptgFrontsRow : OpenClaim := { program := "ytlaiocdnddnnaaagreatdoor", sum := "77dd26aaec1e2ae08b1797ccf6333f8f03d011b370309ae7e0d8e91ed301fd55", func := "cashbook/cashbooklaw12.PtgFronts", spec := "ptgFronts", inPlace := ["internal/abi.NoEscape"], recurses := true, named := ["unicode/utf8.first", "unicode/utf8.acceptRanges"], loops := true, apart := false, laid := [("unicode/utf8.acceptRanges", laid_unicode_utf8_acceptRanges), ("unicode/utf8.first", laid_unicode_utf8_first)] }
def PtgFrontsSaid : Prop := ptgFrontsRow.holds Tryz.pinned (OpenSpec.ofChange ptgFrontsSpec)

/-- ITS FALSE NEIGHBOUR: 'it returns false'. Refute it at one input. -/
def ptgFrontsWrong : ChangeSpec := { name := "ptgFronts", fn := fun _ => fun
  | [d1, d2] => { results := [.lit (.bool false)], args := [d1, d2] }
  | _ => none }
def PtgFrontsWrongFalsely : Prop := ptgFrontsRow.holds Tryz.pinned (OpenSpec.ofChange ptgFrontsWrong)

/- THE SECOND FORM. 'bulk': how many values and letters a reading holds, each counted each time it is reached (what is shared counts as often as it is met; a slice's spare places count too). A statement '..UptoSaid' is the law's where the arguments, and the package variables that the reading takes, are together of bulk at most 1048576: NARROWER than '..Said'. Prove '..Said' where nothing that the law and all that it calls make is longer than what came in: it says more and counts as full. Else prove '..UptoSaid'. A law counts once. -/
mutual
def uptoBulk {H : Type} : DataW H → Nat
  | .lit (.string bytes) => bytes.length + 1
  | .lit _ => 1
  | .nil => 1
  | .ptr d => uptoBulk d + 1
  | .slice elems spare => uptoBulkAll elems + uptoBulkAll spare + 1
  | .agg parts => uptoBulkAll parts + 1
  | .iface _ d => uptoBulk d + 1
  | .map entries => uptoBulkEntries entries + 1
  | .held _ => 1
def uptoBulkAll {H : Type} : List (DataW H) → Nat
  | [] => 0
  | d :: r => uptoBulk d + uptoBulkAll r
def uptoBulkEntries {H : Type} : List (Lit × DataW H) → Nat
  | [] => 0
  | x :: r => uptoBulkEntry x + uptoBulkEntries r
def uptoBulkEntry {H : Type} : Lit × DataW H → Nat
  | (.string bytes, d) => bytes.length + uptoBulk d + 1
  | (_, d) => uptoBulk d + 1
 end
def uptoSmall : (H : Type) → List (DataW H) → Bool := fun _ ds => decide (uptoBulkAll ds ≤ 1048576)
def OpenSpec.upto (s : _root_.Go.ChangeSpec) : _root_.Go.OpenSpec := { _root_.Go.OpenSpec.ofChange s with cond := some uptoSmall }

/-- 'cashbooklaw12.PtgWrites', WHERE WHAT IT READS IS OF BULK AT MOST 1048576: true; the input reads as it did. -/
def ptgWritesUptoRow : OpenClaim := { program := "ytlaiocdnddnnaaagreatdoor", sum := "77dd26aaec1e2ae08b1797ccf6333f8f03d011b370309ae7e0d8e91ed301fd55", func := "cashbook/cashbooklaw12.PtgWrites", spec := "ptgWrites", inPlace := ["internal/abi.NoEscape"], recurses := true, named := ["unicode/utf8.first", "unicode/utf8.acceptRanges"], loops := true, apart := false, laid := [("unicode/utf8.acceptRanges", laid_unicode_utf8_acceptRanges), ("unicode/utf8.first", laid_unicode_utf8_first)], narrowed := true }
def PtgWritesUptoSaid : Prop := ptgWritesUptoRow.holds Tryz.pinned (OpenSpec.upto ptgWritesSpec)

/-- 'cashbooklaw12.PtgStacks', WHERE WHAT IT READS IS OF BULK AT MOST 1048576: true; the input reads as it did. -/
def ptgStacksUptoRow : OpenClaim := { program := "ytlaiocdnddnnaaagreatdoor", sum := "77dd26aaec1e2ae08b1797ccf6333f8f03d011b370309ae7e0d8e91ed301fd55", func := "cashbook/cashbooklaw12.PtgStacks", spec := "ptgStacks", inPlace := ["internal/abi.NoEscape"], recurses := true, named := ["unicode/utf8.first", "unicode/utf8.acceptRanges"], apart := false, laid := [("unicode/utf8.acceptRanges", laid_unicode_utf8_acceptRanges), ("unicode/utf8.first", laid_unicode_utf8_first)], narrowed := true }
def PtgStacksUptoSaid : Prop := ptgStacksUptoRow.holds Tryz.pinned (OpenSpec.upto ptgStacksSpec)

/-- 'cashbooklaw12.PtgJoins', WHERE WHAT IT READS IS OF BULK AT MOST 1048576: true; the input reads as it did. -/
def ptgJoinsUptoRow : OpenClaim := { program := "ytlaiocdnddnnaaagreatdoor", sum := "77dd26aaec1e2ae08b1797ccf6333f8f03d011b370309ae7e0d8e91ed301fd55", func := "cashbook/cashbooklaw12.PtgJoins", spec := "ptgJoins", inPlace := ["internal/abi.NoEscape"], recurses := true, named := ["unicode/utf8.first", "unicode/utf8.acceptRanges"], loops := true, apart := false, laid := [("unicode/utf8.acceptRanges", laid_unicode_utf8_acceptRanges), ("unicode/utf8.first", laid_unicode_utf8_first)], narrowed := true }
def PtgJoinsUptoSaid : Prop := ptgJoinsUptoRow.holds Tryz.pinned (OpenSpec.upto ptgJoinsSpec)

/-- 'cashbooklaw12.PtgFronts', WHERE WHAT IT READS IS OF BULK AT MOST 1048576: true; the input reads as it did. -/
def ptgFrontsUptoRow : OpenClaim := { program := "ytlaiocdnddnnaaagreatdoor", sum := "77dd26aaec1e2ae08b1797ccf6333f8f03d011b370309ae7e0d8e91ed301fd55", func := "cashbook/cashbooklaw12.PtgFronts", spec := "ptgFronts", inPlace := ["internal/abi.NoEscape"], recurses := true, named := ["unicode/utf8.first", "unicode/utf8.acceptRanges"], loops := true, apart := false, laid := [("unicode/utf8.acceptRanges", laid_unicode_utf8_acceptRanges), ("unicode/utf8.first", laid_unicode_utf8_first)], narrowed := true }
def PtgFrontsUptoSaid : Prop := ptgFrontsUptoRow.holds Tryz.pinned (OpenSpec.upto ptgFrontsSpec)

end Rows
end Go.Proofs.YtlaiocdnddnnaaaGreatDoor
