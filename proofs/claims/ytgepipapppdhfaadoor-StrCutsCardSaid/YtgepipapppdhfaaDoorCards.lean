/-
  DERIVED. GIVEN WITH THE SEED: THE CARDS: each row of YtgepipapppdhfaaDoorRows.lean that lists a variable, with what it lists TIED to the program's text (the seventh form; the later family's looks); each row that meets fmt, with fmt's text TOLD by the authors' own Lean function (tested against real Go, not proved from fmt's source: count such statements apart). THE CARD IS WHAT COUNTS. Prove the row's statement (the work); the ties are given (YtgepipapppdhfaaDoorTie.lean); close each card by the builder's one call (the guide's Derived/Test/ToyasCard.lean, 'card_holds'). Laid BY PROGRAM, IN A SANDBOX (cutbox-door.mjs). By AI agents, Wed Nov 11 2026. No macro, syntax, notation, axiom, sorry.
-/
import Derived.Test.YtgepipapppdhfaaDoorRows
import GoSem.ClaimSeven
namespace Go.Proofs.YtgepipapppdhfaaDoor
namespace Rows

/-- THE TIED CARD OF 'cashbooklaw6.StrCuts'. -/
def strCutsCard : Claim7 := { stood := { row := strCutsRow, standIns := [], harness := (true, "1db7a208a0cd35b426a7829b16280e1427c5443708f930dc3ff7c0f432bf11f9"), looks := false }, kinds := [], alts := [], laidByText := true, laidKinds := [.data, .pinned], laidTests := true, laidLooks := .later }
def StrCutsCardSaid : Prop := Claim7.holds Tryd.pinned (.plain (OpenSpec.ofChange strCutsSpec)) strCutsCard

/-- THE TIED CARD OF 'cashbooklaw6.StrRows'. -/
def strRowsCard : Claim7 := { stood := { row := strRowsRow, standIns := [], harness := (true, "1db7a208a0cd35b426a7829b16280e1427c5443708f930dc3ff7c0f432bf11f9"), looks := false }, kinds := [], alts := [], laidByText := true, laidKinds := [.data, .pinned], laidTests := true, laidLooks := .later }
def StrRowsCardSaid : Prop := Claim7.holds Tryd.pinned (.plain (OpenSpec.ofChange strRowsSpec)) strRowsCard

/-- THE TIED CARD OF 'cashbooklaw6.StrUnits'. -/
def strUnitsCard : Claim7 := { stood := { row := strUnitsRow, standIns := [], harness := (true, "1db7a208a0cd35b426a7829b16280e1427c5443708f930dc3ff7c0f432bf11f9"), looks := false }, kinds := [], alts := [], laidByText := true, laidKinds := [.data, .pinned], laidTests := true, laidLooks := .later }
def StrUnitsCardSaid : Prop := Claim7.holds Tryd.pinned (.plain (OpenSpec.ofChange strUnitsSpec)) strUnitsCard

/-- THE SECOND FORM's CARD OF 'cashbooklaw6.StrCuts'. -/
def strCutsUptoCard : Claim7 := { stood := { row := strCutsUptoRow, standIns := [], harness := (true, "1db7a208a0cd35b426a7829b16280e1427c5443708f930dc3ff7c0f432bf11f9"), looks := false }, kinds := [], alts := [], laidByText := true, laidKinds := [.data, .pinned], laidTests := true, laidLooks := .later }
def StrCutsUptoCardSaid : Prop := Claim7.holds Tryd.pinned (.plain (OpenSpec.upto strCutsSpec)) strCutsUptoCard

/-- THE SECOND FORM's CARD OF 'cashbooklaw6.StrRows'. -/
def strRowsUptoCard : Claim7 := { stood := { row := strRowsUptoRow, standIns := [], harness := (true, "1db7a208a0cd35b426a7829b16280e1427c5443708f930dc3ff7c0f432bf11f9"), looks := false }, kinds := [], alts := [], laidByText := true, laidKinds := [.data, .pinned], laidTests := true, laidLooks := .later }
def StrRowsUptoCardSaid : Prop := Claim7.holds Tryd.pinned (.plain (OpenSpec.upto strRowsSpec)) strRowsUptoCard

/-- THE SECOND FORM's CARD OF 'cashbooklaw6.StrUnits'. -/
def strUnitsUptoCard : Claim7 := { stood := { row := strUnitsUptoRow, standIns := [], harness := (true, "1db7a208a0cd35b426a7829b16280e1427c5443708f930dc3ff7c0f432bf11f9"), looks := false }, kinds := [], alts := [], laidByText := true, laidKinds := [.data, .pinned], laidTests := true, laidLooks := .later }
def StrUnitsUptoCardSaid : Prop := Claim7.holds Tryd.pinned (.plain (OpenSpec.upto strUnitsSpec)) strUnitsUptoCard
end Rows
end Go.Proofs.YtgepipapppdhfaaDoor
