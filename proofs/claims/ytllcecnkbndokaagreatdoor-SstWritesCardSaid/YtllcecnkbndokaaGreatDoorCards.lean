/-
  DERIVED. GIVEN WITH THE SEED: THE CARDS: each row of YtllcecnkbndokaaGreatDoorRows.lean that lists a variable, with what it lists TIED to the program's text (the seventh form; the later family's looks); each row that meets fmt, with fmt's text TOLD by the authors' own Lean function (tested against real Go, not proved from fmt's source: count such statements apart). THE CARD IS WHAT COUNTS. Prove the row's statement (the work); the ties are given (YtllcecnkbndokaaGreatDoorTie.lean); close each card by the builder's one call (the guide's Derived/Test/ToyasCard.lean, 'card_holds'). Laid BY PROGRAM, IN A SANDBOX (cutbox-door.mjs). By AI agents, Wed Nov 11 2026. No macro, syntax, notation, axiom, sorry.
-/
import Derived.Test.YtllcecnkbndokaaGreatDoorRows
import GoSem.ClaimSeven
namespace Go.Proofs.YtllcecnkbndokaaGreatDoor
namespace Rows

/-- THE TIED CARD OF 'cashbooklaw7.SstWrites'. -/
def sstWritesCard : Claim7 := { stood := { row := sstWritesRow, standIns := [], harness := (true, "0b9aefbb7cfa44cebe7dc65ea547e0867516846a9ef029b330b2329244233f82"), looks := false }, kinds := [], alts := [], laidByText := true, laidKinds := [.data, .pinned], laidTests := true, laidLooks := .later }
def SstWritesCardSaid : Prop := Claim7.holds Tryz.pinned (.plain (OpenSpec.ofChange sstWritesSpec)) sstWritesCard

/-- THE TIED CARD OF 'cashbooklaw7.SstReads'. -/
def sstReadsCard : Claim7 := { stood := { row := sstReadsRow, standIns := [], harness := (true, "0b9aefbb7cfa44cebe7dc65ea547e0867516846a9ef029b330b2329244233f82"), looks := false }, kinds := [], alts := [], laidByText := true, laidKinds := [.data, .pinned], laidTests := true, laidLooks := .later }
def SstReadsCardSaid : Prop := Claim7.holds Tryz.pinned (.plain (OpenSpec.ofChange sstReadsSpec)) sstReadsCard

/-- THE SECOND FORM's CARD OF 'cashbooklaw7.SstWrites'. -/
def sstWritesUptoCard : Claim7 := { stood := { row := sstWritesUptoRow, standIns := [], harness := (true, "0b9aefbb7cfa44cebe7dc65ea547e0867516846a9ef029b330b2329244233f82"), looks := false }, kinds := [], alts := [], laidByText := true, laidKinds := [.data, .pinned], laidTests := true, laidLooks := .later }
def SstWritesUptoCardSaid : Prop := Claim7.holds Tryz.pinned (.plain (OpenSpec.upto sstWritesSpec)) sstWritesUptoCard

/-- THE SECOND FORM's CARD OF 'cashbooklaw7.SstReads'. -/
def sstReadsUptoCard : Claim7 := { stood := { row := sstReadsUptoRow, standIns := [], harness := (true, "0b9aefbb7cfa44cebe7dc65ea547e0867516846a9ef029b330b2329244233f82"), looks := false }, kinds := [], alts := [], laidByText := true, laidKinds := [.data, .pinned], laidTests := true, laidLooks := .later }
def SstReadsUptoCardSaid : Prop := Claim7.holds Tryz.pinned (.plain (OpenSpec.upto sstReadsSpec)) sstReadsUptoCard
end Rows
end Go.Proofs.YtllcecnkbndokaaGreatDoor
