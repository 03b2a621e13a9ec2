/-
  DERIVED. GIVEN WITH THE SEED: THE CARDS: each row of YtlaiocdnddnnaaaGreatDoorRows.lean that lists a variable, with what it lists TIED to the program's text (the seventh form; the later family's looks); each row that meets fmt, with fmt's text TOLD by the authors' own Lean function (tested against real Go, not proved from fmt's source: count such statements apart). THE CARD IS WHAT COUNTS. Prove the row's statement (the work); the ties are given (YtlaiocdnddnnaaaGreatDoorTie.lean); close each card by the builder's one call (the guide's Derived/Test/ToyasCard.lean, 'card_holds'). Laid BY PROGRAM, IN A SANDBOX (cutbox-door.mjs). By AI agents, Wed Nov 11 2026. No macro, syntax, notation, axiom, sorry.
-/
import Derived.Test.YtlaiocdnddnnaaaGreatDoorRows
import GoSem.ClaimSeven
namespace Go.Proofs.YtlaiocdnddnnaaaGreatDoor
namespace Rows

/-- THE TIED CARD OF 'cashbooklaw12.PtgWrites'. -/
def ptgWritesCard : Claim7 := { stood := { row := ptgWritesRow, standIns := [], harness := (true, "be48b17a87b7153dec3138fc8fc08110af494b24bacd6ae294934ec864db446d"), looks := false }, kinds := [], alts := [], laidByText := true, laidKinds := [.data, .pinned], laidTests := true, laidLooks := .later }
def PtgWritesCardSaid : Prop := Claim7.holds Tryz.pinned (.plain (OpenSpec.ofChange ptgWritesSpec)) ptgWritesCard

/-- THE TIED CARD OF 'cashbooklaw12.PtgStacks'. -/
def ptgStacksCard : Claim7 := { stood := { row := ptgStacksRow, standIns := [], harness := (true, "be48b17a87b7153dec3138fc8fc08110af494b24bacd6ae294934ec864db446d"), looks := false }, kinds := [], alts := [], laidByText := true, laidKinds := [.data, .pinned], laidTests := true, laidLooks := .later }
def PtgStacksCardSaid : Prop := Claim7.holds Tryz.pinned (.plain (OpenSpec.ofChange ptgStacksSpec)) ptgStacksCard

/-- THE TIED CARD OF 'cashbooklaw12.PtgJoins'. -/
def ptgJoinsCard : Claim7 := { stood := { row := ptgJoinsRow, standIns := [], harness := (true, "be48b17a87b7153dec3138fc8fc08110af494b24bacd6ae294934ec864db446d"), looks := false }, kinds := [], alts := [], laidByText := true, laidKinds := [.data, .pinned], laidTests := true, laidLooks := .later }
def PtgJoinsCardSaid : Prop := Claim7.holds Tryz.pinned (.plain (OpenSpec.ofChange ptgJoinsSpec)) ptgJoinsCard

/-- THE TIED CARD OF 'cashbooklaw12.PtgFronts'. -/
def ptgFrontsCard : Claim7 := { stood := { row := ptgFrontsRow, standIns := [], harness := (true, "be48b17a87b7153dec3138fc8fc08110af494b24bacd6ae294934ec864db446d"), looks := false }, kinds := [], alts := [], laidByText := true, laidKinds := [.data, .pinned], laidTests := true, laidLooks := .later }
def PtgFrontsCardSaid : Prop := Claim7.holds Tryz.pinned (.plain (OpenSpec.ofChange ptgFrontsSpec)) ptgFrontsCard

/-- THE SECOND FORM's CARD OF 'cashbooklaw12.PtgWrites'. -/
def ptgWritesUptoCard : Claim7 := { stood := { row := ptgWritesUptoRow, standIns := [], harness := (true, "be48b17a87b7153dec3138fc8fc08110af494b24bacd6ae294934ec864db446d"), looks := false }, kinds := [], alts := [], laidByText := true, laidKinds := [.data, .pinned], laidTests := true, laidLooks := .later }
def PtgWritesUptoCardSaid : Prop := Claim7.holds Tryz.pinned (.plain (OpenSpec.upto ptgWritesSpec)) ptgWritesUptoCard

/-- THE SECOND FORM's CARD OF 'cashbooklaw12.PtgStacks'. -/
def ptgStacksUptoCard : Claim7 := { stood := { row := ptgStacksUptoRow, standIns := [], harness := (true, "be48b17a87b7153dec3138fc8fc08110af494b24bacd6ae294934ec864db446d"), looks := false }, kinds := [], alts := [], laidByText := true, laidKinds := [.data, .pinned], laidTests := true, laidLooks := .later }
def PtgStacksUptoCardSaid : Prop := Claim7.holds Tryz.pinned (.plain (OpenSpec.upto ptgStacksSpec)) ptgStacksUptoCard

/-- THE SECOND FORM's CARD OF 'cashbooklaw12.PtgJoins'. -/
def ptgJoinsUptoCard : Claim7 := { stood := { row := ptgJoinsUptoRow, standIns := [], harness := (true, "be48b17a87b7153dec3138fc8fc08110af494b24bacd6ae294934ec864db446d"), looks := false }, kinds := [], alts := [], laidByText := true, laidKinds := [.data, .pinned], laidTests := true, laidLooks := .later }
def PtgJoinsUptoCardSaid : Prop := Claim7.holds Tryz.pinned (.plain (OpenSpec.upto ptgJoinsSpec)) ptgJoinsUptoCard

/-- THE SECOND FORM's CARD OF 'cashbooklaw12.PtgFronts'. -/
def ptgFrontsUptoCard : Claim7 := { stood := { row := ptgFrontsUptoRow, standIns := [], harness := (true, "be48b17a87b7153dec3138fc8fc08110af494b24bacd6ae294934ec864db446d"), looks := false }, kinds := [], alts := [], laidByText := true, laidKinds := [.data, .pinned], laidTests := true, laidLooks := .later }
def PtgFrontsUptoCardSaid : Prop := Claim7.holds Tryz.pinned (.plain (OpenSpec.upto ptgFrontsSpec)) ptgFrontsUptoCard
end Rows
end Go.Proofs.YtlaiocdnddnnaaaGreatDoor
