/-
  DERIVED. GIVEN WITH THE SEED: THE CARDS: each row of YtllcecnkbndokaaDoorRows.lean that lists a variable, with what it lists TIED to the program's text (the seventh form; the later family's looks); each row that meets fmt, with fmt's text TOLD by the authors' own Lean function (tested against real Go, not proved from fmt's source: count such statements apart). THE CARD IS WHAT COUNTS. Prove the row's statement (the work); the ties are given (YtllcecnkbndokaaDoorTie.lean); close each card by the builder's one call (the guide's Derived/Test/ToyasCard.lean, 'card_holds'). Laid BY PROGRAM, IN A SANDBOX (cutbox-door.mjs). By AI agents, Wed Nov 11 2026. No macro, syntax, notation, axiom, sorry.
-/
import Derived.Test.YtllcecnkbndokaaDoorRows
import GoSem.ClaimSeven
namespace Go.Proofs.YtllcecnkbndokaaDoor
namespace Rows

/-- THE TIED CARD OF 'cashbooklaw7.SstBuilds'. -/
def sstBuildsCard : Claim7 := { stood := { row := sstBuildsRow, standIns := [], harness := (true, "54dec2e1290d78f1d2d955e707cf3f73fd39b706e42d1e87beebce27a6735a85"), looks := false }, kinds := [], alts := [], laidByText := true, laidKinds := [.data, .pinned], laidTests := true, laidLooks := .later }
def SstBuildsCardSaid : Prop := Claim7.holds Tryd.pinned (.plain (OpenSpec.ofChange sstBuildsSpec)) sstBuildsCard

/-- THE TIED CARD OF 'cashbooklaw7.SstCuts'. -/
def sstCutsCard : Claim7 := { stood := { row := sstCutsRow, standIns := [], harness := (true, "54dec2e1290d78f1d2d955e707cf3f73fd39b706e42d1e87beebce27a6735a85"), looks := false }, kinds := [], alts := [], laidByText := true, laidKinds := [.data, .pinned], laidTests := true, laidLooks := .later }
def SstCutsCardSaid : Prop := Claim7.holds Tryd.pinned (.plain (OpenSpec.ofChange sstCutsSpec)) sstCutsCard

/-- THE TIED CARD OF 'cashbooklaw7.SstTwice'. -/
def sstTwiceCard : Claim7 := { stood := { row := sstTwiceRow, standIns := [], harness := (true, "54dec2e1290d78f1d2d955e707cf3f73fd39b706e42d1e87beebce27a6735a85"), looks := false }, kinds := [], alts := [], laidByText := true, laidKinds := [.data, .pinned], laidTests := true, laidLooks := .later }
def SstTwiceCardSaid : Prop := Claim7.holds Tryd.pinned (.plain (OpenSpec.ofChange sstTwiceSpec)) sstTwiceCard

/-- THE SECOND FORM's CARD OF 'cashbooklaw7.SstBuilds'. -/
def sstBuildsUptoCard : Claim7 := { stood := { row := sstBuildsUptoRow, standIns := [], harness := (true, "54dec2e1290d78f1d2d955e707cf3f73fd39b706e42d1e87beebce27a6735a85"), looks := false }, kinds := [], alts := [], laidByText := true, laidKinds := [.data, .pinned], laidTests := true, laidLooks := .later }
def SstBuildsUptoCardSaid : Prop := Claim7.holds Tryd.pinned (.plain (OpenSpec.upto sstBuildsSpec)) sstBuildsUptoCard

/-- THE SECOND FORM's CARD OF 'cashbooklaw7.SstCuts'. -/
def sstCutsUptoCard : Claim7 := { stood := { row := sstCutsUptoRow, standIns := [], harness := (true, "54dec2e1290d78f1d2d955e707cf3f73fd39b706e42d1e87beebce27a6735a85"), looks := false }, kinds := [], alts := [], laidByText := true, laidKinds := [.data, .pinned], laidTests := true, laidLooks := .later }
def SstCutsUptoCardSaid : Prop := Claim7.holds Tryd.pinned (.plain (OpenSpec.upto sstCutsSpec)) sstCutsUptoCard

/-- THE SECOND FORM's CARD OF 'cashbooklaw7.SstTwice'. -/
def sstTwiceUptoCard : Claim7 := { stood := { row := sstTwiceUptoRow, standIns := [], harness := (true, "54dec2e1290d78f1d2d955e707cf3f73fd39b706e42d1e87beebce27a6735a85"), looks := false }, kinds := [], alts := [], laidByText := true, laidKinds := [.data, .pinned], laidTests := true, laidLooks := .later }
def SstTwiceUptoCardSaid : Prop := Claim7.holds Tryd.pinned (.plain (OpenSpec.upto sstTwiceSpec)) sstTwiceUptoCard
end Rows
end Go.Proofs.YtllcecnkbndokaaDoor
