/-
  No cell of these rows narrows 'for every input' (looked for: loops, veiled, ifaces, maps, wideKeys, modest, calm, conditions, laid).
  DERIVED. THE GIVEN ROWS OF THIS SEAT. 4 by the template 'for every input the law returns true; each argument reads behind the call as it read before'; 0 by the template 'total and deterministic' (their statements: YtlfnmcagpokchaaTotals.lean).
  GIVEN WITH THE SEED: the statements are not yours to turn. If you find one false, say at which input.
  Laid BY PROGRAM, IN A SANDBOX (cutbox-rows.mjs): the forced cells as the released guide's own fill.sh prints them over the translation 2b33da5b45fbda99… (all of the seat's roots in one cut). By AI agents, Wed Nov 11 2026. No macro, syntax, notation, axiom, sorry.
-/
import Derived.Test.YtlfnmcagpokchaaChecked
import GoSem.Claim
import GoSem.ClaimJoined
import GoSem.ClaimMapViews
import Derived.JoinedTies
import Derived.KernelRfl
namespace Go.Proofs.Ytlfnmcagpokchaa
/- THE CELL 'sum', in the pinned program and in every row, IS THE sha256 OF THE DUMP (.gsa) THAT YtlfnmcagpokchaaProg.lean LOADS. Nothing in Lean hashes anything: it is a label: what it is worth is what the hold of that sum in a sandbox is worth. -/
noncomputable def Try.pinned : Pinned := { name := "ytlfnmcagpokchaa", sum := "2b33da5b45fbda99b9e164b3e04efff686a7f8938b50e663eb63e7a7f44cc7c4", checked := Try.checked }
namespace Rows
def none {H : Type} : Left H := { results := [], args := [] }

/-- 'cashbooklaw3.LeReads': WHATEVER THE INPUT: true; the input reads as it did. -/
def leReadsSpec : ChangeSpec := { name := "leReads", fn := fun _ => fun
  | [d1, d2, d3] => { results := [.lit (.bool true)], args := [d1, d2, d3] }
  | _ => none }
def leReadsRow : OpenClaim := { program := "ytlfnmcagpokchaa", sum := "2b33da5b45fbda99b9e164b3e04efff686a7f8938b50e663eb63e7a7f44cc7c4", func := "cashbook/cashbooklaw3.LeReads", spec := "leReads", apart := false }
def LeReadsSaid : Prop := leReadsRow.holds Try.pinned (OpenSpec.ofChange leReadsSpec)

/-- ITS FALSE NEIGHBOUR: 'it returns false'. Refute it at one input. -/
def leReadsWrong : ChangeSpec := { name := "leReads", fn := fun _ => fun
  | [d1, d2, d3] => { results := [.lit (.bool false)], args := [d1, d2, d3] }
  | _ => none }
def LeReadsWrongFalsely : Prop := leReadsRow.holds Try.pinned (OpenSpec.ofChange leReadsWrong)

/-- 'cashbooklaw3.LeWrites': WHATEVER THE INPUT: true; the input reads as it did. -/
def leWritesSpec : ChangeSpec := { name := "leWrites", fn := fun _ => fun
  | [d1, d2, d3, d4] => { results := [.lit (.bool true)], args := [d1, d2, d3, d4] }
  | _ => none }
def leWritesRow : OpenClaim := { program := "ytlfnmcagpokchaa", sum := "2b33da5b45fbda99b9e164b3e04efff686a7f8938b50e663eb63e7a7f44cc7c4", func := "cashbook/cashbooklaw3.LeWrites", spec := "leWrites", apart := false }
def LeWritesSaid : Prop := leWritesRow.holds Try.pinned (OpenSpec.ofChange leWritesSpec)

/-- ITS FALSE NEIGHBOUR: 'it returns false'. Refute it at one input. -/
def leWritesWrong : ChangeSpec := { name := "leWrites", fn := fun _ => fun
  | [d1, d2, d3, d4] => { results := [.lit (.bool false)], args := [d1, d2, d3, d4] }
  | _ => none }
def LeWritesWrongFalsely : Prop := leWritesRow.holds Try.pinned (OpenSpec.ofChange leWritesWrong)

/-- 'cashbooklaw3.LeRows': WHATEVER THE INPUT: true; the input reads as it did. -/
def leRowsSpec : ChangeSpec := { name := "leRows", fn := fun _ => fun
  | [d1, d2] => { results := [.lit (.bool true)], args := [d1, d2] }
  | _ => none }
def leRowsRow : OpenClaim := { program := "ytlfnmcagpokchaa", sum := "2b33da5b45fbda99b9e164b3e04efff686a7f8938b50e663eb63e7a7f44cc7c4", func := "cashbook/cashbooklaw3.LeRows", spec := "leRows", apart := false }
def LeRowsSaid : Prop := leRowsRow.holds Try.pinned (OpenSpec.ofChange leRowsSpec)

/-- ITS FALSE NEIGHBOUR: 'it returns false'. Refute it at one input. -/
def leRowsWrong : ChangeSpec := { name := "leRows", fn := fun _ => fun
  | [d1, d2] => { results := [.lit (.bool false)], args := [d1, d2] }
  | _ => none }
def LeRowsWrongFalsely : Prop := leRowsRow.holds Try.pinned (OpenSpec.ofChange leRowsWrong)

/-- 'cashbooklaw3.LeBytes': WHATEVER THE INPUT: true; the input reads as it did. -/
def leBytesSpec : ChangeSpec := { name := "leBytes", fn := fun _ => fun
  | [d1, d2] => { results := [.lit (.bool true)], args := [d1, d2] }
  | _ => none }
def leBytesRow : OpenClaim := { program := "ytlfnmcagpokchaa", sum := "2b33da5b45fbda99b9e164b3e04efff686a7f8938b50e663eb63e7a7f44cc7c4", func := "cashbook/cashbooklaw3.LeBytes", spec := "leBytes", apart := false }
def LeBytesSaid : Prop := leBytesRow.holds Try.pinned (OpenSpec.ofChange leBytesSpec)

/-- ITS FALSE NEIGHBOUR: 'it returns false'. Refute it at one input. -/
def leBytesWrong : ChangeSpec := { name := "leBytes", fn := fun _ => fun
  | [d1, d2] => { results := [.lit (.bool false)], args := [d1, d2] }
  | _ => none }
def LeBytesWrongFalsely : Prop := leBytesRow.holds Try.pinned (OpenSpec.ofChange leBytesWrong)

/- THE SECOND FORM. 'bulk': how many values and letters a reading holds, each counted each time it is reached (what is shared counts as often as it is met; a slice's spare places count too). A statement '..UptoSaid' is the law's where the arguments, and the package variables that the reading takes, are together of bulk at most 1048576: NARROWER than '..Said'. Prove '..Said' where nothing that the law and all that it calls make is longer than what came in: it says more and counts as full. Else prove '..UptoSaid'. A law counts once. -/
mutual
def uptoBulk {H : Type} : DataW H → Nat
  | .lit (.string bytes) => bytes.length + 1
  | .lit _ => 1
  | .nil => 1
  | .ptr d => uptoBulk d + 1
  | .slice elems spare => uptoBulkAll elems + uptoBulkAll spare + 1
  | .agg parts => uptoBulkAll parts + 1
  | .iface _ d => uptoBulk d + 1
  | .map entries => uptoBulkEntries entries + 1
  | .held _ => 1
def uptoBulkAll {H : Type} : List (DataW H) → Nat
  | [] => 0
  | d :: r => uptoBulk d + uptoBulkAll r
def uptoBulkEntries {H : Type} : List (Lit × DataW H) → Nat
  | [] => 0
  | x :: r => uptoBulkEntry x + uptoBulkEntries r
def uptoBulkEntry {H : Type} : Lit × DataW H → Nat
  | (.string bytes, d) => bytes.length + uptoBulk d + 1
  | (_, d) => uptoBulk d + 1
 end
def uptoSmall : (H : Type) → List (DataW H) → Bool := fun _ ds => decide (uptoBulkAll ds ≤ 1048576)
def OpenSpec.upto (s : _root_.Go.ChangeSpec) : _root_.Go.OpenSpec := { _root_.Go.OpenSpec.ofChange s with cond := some uptoSmall }

/-- 'cashbooklaw3.LeReads', WHERE WHAT IT READS IS OF BULK AT MOST 1048576: true; the input reads as it did. -/
def leReadsUptoRow : OpenClaim := { program := "ytlfnmcagpokchaa", sum := "2b33da5b45fbda99b9e164b3e04efff686a7f8938b50e663eb63e7a7f44cc7c4", func := "cashbook/cashbooklaw3.LeReads", spec := "leReads", apart := false, narrowed := true }
def LeReadsUptoSaid : Prop := leReadsUptoRow.holds Try.pinned (OpenSpec.upto leReadsSpec)

/-- 'cashbooklaw3.LeWrites', WHERE WHAT IT READS IS OF BULK AT MOST 1048576: true; the input reads as it did. -/
def leWritesUptoRow : OpenClaim := { program := "ytlfnmcagpokchaa", sum := "2b33da5b45fbda99b9e164b3e04efff686a7f8938b50e663eb63e7a7f44cc7c4", func := "cashbook/cashbooklaw3.LeWrites", spec := "leWrites", apart := false, narrowed := true }
def LeWritesUptoSaid : Prop := leWritesUptoRow.holds Try.pinned (OpenSpec.upto leWritesSpec)

/-- 'cashbooklaw3.LeRows', WHERE WHAT IT READS IS OF BULK AT MOST 1048576: true; the input reads as it did. -/
def leRowsUptoRow : OpenClaim := { program := "ytlfnmcagpokchaa", sum := "2b33da5b45fbda99b9e164b3e04efff686a7f8938b50e663eb63e7a7f44cc7c4", func := "cashbook/cashbooklaw3.LeRows", spec := "leRows", apart := false, narrowed := true }
def LeRowsUptoSaid : Prop := leRowsUptoRow.holds Try.pinned (OpenSpec.upto leRowsSpec)

/-- 'cashbooklaw3.LeBytes', WHERE WHAT IT READS IS OF BULK AT MOST 1048576: true; the input reads as it did. -/
def leBytesUptoRow : OpenClaim := { program := "ytlfnmcagpokchaa", sum := "2b33da5b45fbda99b9e164b3e04efff686a7f8938b50e663eb63e7a7f44cc7c4", func := "cashbook/cashbooklaw3.LeBytes", spec := "leBytes", apart := false, narrowed := true }
def LeBytesUptoSaid : Prop := leBytesUptoRow.holds Try.pinned (OpenSpec.upto leBytesSpec)

end Rows
end Go.Proofs.Ytlfnmcagpokchaa
