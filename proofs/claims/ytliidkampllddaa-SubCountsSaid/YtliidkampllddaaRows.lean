/-
  No cell of these rows narrows 'for every input' (looked for: loops, veiled, ifaces, maps, wideKeys, modest, calm, conditions, laid).
  DERIVED. THE GIVEN ROWS OF THIS SEAT. 3 by the template 'for every input the law returns true; each argument reads behind the call as it read before'; 0 by the template 'total and deterministic' (their statements: YtliidkampllddaaTotals.lean).
  GIVEN WITH THE SEED: the statements are not yours to turn. If you find one false, say at which input.
  Laid BY PROGRAM, IN A SANDBOX (cutbox-rows.mjs): the forced cells as the released guide's own fill.sh prints them over the translation 53e21635b3750715… (all of the seat's roots in one cut). By AI agents, Wed Nov 11 2026. No macro, syntax, notation, axiom, sorry.
-/
import Derived.Test.YtliidkampllddaaChecked
import GoSem.Claim
import GoSem.ClaimJoined
import GoSem.ClaimMapViews
import Derived.JoinedTies
import Derived.KernelRfl
namespace Go.Proofs.Ytliidkampllddaa
/- THE CELL 'sum', in the pinned program and in every row, IS THE sha256 OF THE DUMP (.gsa) THAT YtliidkampllddaaProg.lean LOADS. Nothing in Lean hashes anything: it is a label: what it is worth is what the hold of that sum in a sandbox is worth. -/
noncomputable def Try.pinned : Pinned := { name := "ytliidkampllddaa", sum := "53e21635b3750715bae7362320a0eb41b79e284927d7e6cee32661bef9787770", checked := Try.checked }
namespace Rows
def none {H : Type} : Left H := { results := [], args := [] }

/-- 'cashbooklaw2.SubSplits': WHATEVER THE INPUT: true; the input reads as it did. -/
def subSplitsSpec : ChangeSpec := { name := "subSplits", fn := fun _ => fun
  | [d] => { results := [.lit (.bool true)], args := [d] }
  | _ => none }
def subSplitsRow : OpenClaim := { program := "ytliidkampllddaa", sum := "53e21635b3750715bae7362320a0eb41b79e284927d7e6cee32661bef9787770", func := "cashbook/cashbooklaw2.SubSplits", spec := "subSplits", unfollowed := true, recurses := true, apart := false }
def SubSplitsSaid : Prop := subSplitsRow.holds Try.pinned (OpenSpec.ofChange subSplitsSpec)

/-- ITS FALSE NEIGHBOUR: 'it returns false'. Refute it at one input. -/
def subSplitsWrong : ChangeSpec := { name := "subSplits", fn := fun _ => fun
  | [d] => { results := [.lit (.bool false)], args := [d] }
  | _ => none }
def SubSplitsWrongFalsely : Prop := subSplitsRow.holds Try.pinned (OpenSpec.ofChange subSplitsWrong)

/-- 'cashbooklaw2.SubJoins': WHATEVER THE INPUT: true; the input reads as it did. -/
def subJoinsSpec : ChangeSpec := { name := "subJoins", fn := fun _ => fun
  | [d] => { results := [.lit (.bool true)], args := [d] }
  | _ => none }
def subJoinsRow : OpenClaim := { program := "ytliidkampllddaa", sum := "53e21635b3750715bae7362320a0eb41b79e284927d7e6cee32661bef9787770", func := "cashbook/cashbooklaw2.SubJoins", spec := "subJoins", unfollowed := true, recurses := true, apart := false }
def SubJoinsSaid : Prop := subJoinsRow.holds Try.pinned (OpenSpec.ofChange subJoinsSpec)

/-- ITS FALSE NEIGHBOUR: 'it returns false'. Refute it at one input. -/
def subJoinsWrong : ChangeSpec := { name := "subJoins", fn := fun _ => fun
  | [d] => { results := [.lit (.bool false)], args := [d] }
  | _ => none }
def SubJoinsWrongFalsely : Prop := subJoinsRow.holds Try.pinned (OpenSpec.ofChange subJoinsWrong)

/-- 'cashbooklaw2.SubCounts': WHATEVER THE INPUT: true; the input reads as it did. -/
def subCountsSpec : ChangeSpec := { name := "subCounts", fn := fun _ => fun
  | [d1, d2] => { results := [.lit (.bool true)], args := [d1, d2] }
  | _ => none }
def subCountsRow : OpenClaim := { program := "ytliidkampllddaa", sum := "53e21635b3750715bae7362320a0eb41b79e284927d7e6cee32661bef9787770", func := "cashbook/cashbooklaw2.SubCounts", spec := "subCounts", unfollowed := true, recurses := true, apart := false }
def SubCountsSaid : Prop := subCountsRow.holds Try.pinned (OpenSpec.ofChange subCountsSpec)

/-- ITS FALSE NEIGHBOUR: 'it returns false'. Refute it at one input. -/
def subCountsWrong : ChangeSpec := { name := "subCounts", fn := fun _ => fun
  | [d1, d2] => { results := [.lit (.bool false)], args := [d1, d2] }
  | _ => none }
def SubCountsWrongFalsely : Prop := subCountsRow.holds Try.pinned (OpenSpec.ofChange subCountsWrong)

/- THE SECOND FORM. 'bulk': how many values and letters a reading holds, each counted each time it is reached (what is shared counts as often as it is met; a slice's spare places count too). A statement '..UptoSaid' is the law's where the arguments, and the package variables that the reading takes, are together of bulk at most 1048576: NARROWER than '..Said'. Prove '..Said' where nothing that the law and all that it calls make is longer than what came in: it says more and counts as full. Else prove '..UptoSaid'. A law counts once. -/
mutual
def uptoBulk {H : Type} : DataW H → Nat
  | .lit (.string bytes) => bytes.length + 1
  | .lit _ => 1
  | .nil => 1
  | .ptr d => uptoBulk d + 1
  | .slice elems spare => uptoBulkAll elems + uptoBulkAll spare + 1
  | .agg parts => uptoBulkAll parts + 1
  | .iface _ d => uptoBulk d + 1
  | .map entries => uptoBulkEntries entries + 1
  | .held _ => 1
def uptoBulkAll {H : Type} : List (DataW H) → Nat
  | [] => 0
  | d :: r => uptoBulk d + uptoBulkAll r
def uptoBulkEntries {H : Type} : List (Lit × DataW H) → Nat
  | [] => 0
  | x :: r => uptoBulkEntry x + uptoBulkEntries r
def uptoBulkEntry {H : Type} : Lit × DataW H → Nat
  | (.string bytes, d) => bytes.length + uptoBulk d + 1
  | (_, d) => uptoBulk d + 1
 end
def uptoSmall : (H : Type) → List (DataW H) → Bool := fun _ ds => decide (uptoBulkAll ds ≤ 1048576)
def OpenSpec.upto (s : _root_.Go.ChangeSpec) : _root_.Go.OpenSpec := { _root_.Go.OpenSpec.ofChange s with cond := some uptoSmall }

/-- 'cashbooklaw2.SubSplits', WHERE WHAT IT READS IS OF BULK AT MOST 1048576: true; the input reads as it did. -/
def subSplitsUptoRow : OpenClaim := { program := "ytliidkampllddaa", sum := "53e21635b3750715bae7362320a0eb41b79e284927d7e6cee32661bef9787770", func := "cashbook/cashbooklaw2.SubSplits", spec := "subSplits", unfollowed := true, recurses := true, apart := false, narrowed := true }
def SubSplitsUptoSaid : Prop := subSplitsUptoRow.holds Try.pinned (OpenSpec.upto subSplitsSpec)

/-- 'cashbooklaw2.SubJoins', WHERE WHAT IT READS IS OF BULK AT MOST 1048576: true; the input reads as it did. -/
def subJoinsUptoRow : OpenClaim := { program := "ytliidkampllddaa", sum := "53e21635b3750715bae7362320a0eb41b79e284927d7e6cee32661bef9787770", func := "cashbook/cashbooklaw2.SubJoins", spec := "subJoins", unfollowed := true, recurses := true, apart := false, narrowed := true }
def SubJoinsUptoSaid : Prop := subJoinsUptoRow.holds Try.pinned (OpenSpec.upto subJoinsSpec)

/-- 'cashbooklaw2.SubCounts', WHERE WHAT IT READS IS OF BULK AT MOST 1048576: true; the input reads as it did. -/
def subCountsUptoRow : OpenClaim := { program := "ytliidkampllddaa", sum := "53e21635b3750715bae7362320a0eb41b79e284927d7e6cee32661bef9787770", func := "cashbook/cashbooklaw2.SubCounts", spec := "subCounts", unfollowed := true, recurses := true, apart := false, narrowed := true }
def SubCountsUptoSaid : Prop := subCountsUptoRow.holds Try.pinned (OpenSpec.upto subCountsSpec)

end Rows
end Go.Proofs.Ytliidkampllddaa
