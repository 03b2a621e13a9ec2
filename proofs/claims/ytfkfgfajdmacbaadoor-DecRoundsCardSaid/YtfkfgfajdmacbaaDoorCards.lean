/-
  DERIVED. GIVEN WITH THE SEED: THE CARDS: each row of YtfkfgfajdmacbaaDoorRows.lean that lists a variable, with what it lists TIED to the program's text (the seventh form; the later family's looks); each row that meets fmt, with fmt's text TOLD by the authors' own Lean function (tested against real Go, not proved from fmt's source: count such statements apart). THE CARD IS WHAT COUNTS. Prove the row's statement (the work); the ties are given (YtfkfgfajdmacbaaDoorTie.lean); close each card by the builder's one call (the guide's Derived/Test/ToyasCard.lean, 'card_holds'). Laid BY PROGRAM, IN A SANDBOX (cutbox-door.mjs). By AI agents, Wed Nov 11 2026. No macro, syntax, notation, axiom, sorry.
-/
import Derived.Test.YtfkfgfajdmacbaaDoorRows
import GoSem.ClaimSeven
namespace Go.Proofs.YtfkfgfajdmacbaaDoor
namespace Rows

/-- THE TIED CARD OF 'cashbooklaw4.DecRounds'. -/
def decRoundsCard : Claim7 := { stood := { row := decRoundsRow, standIns := [], harness := (true, "98dcb58af555920376af7c6ff7e8217a3b59e793b64c84979e4483e8cab88690"), looks := false }, kinds := [], alts := [], laidByText := true, laidKinds := [.data, .data, .data], laidTests := true, laidLooks := .later }
def DecRoundsCardSaid : Prop := Claim7.holds Tryd.pinned (.plain (OpenSpec.ofChange decRoundsSpec)) decRoundsCard

/-- THE TIED CARD OF 'cashbooklaw4.DecLaws'. -/
def decLawsCard : Claim7 := { stood := { row := decLawsRow, standIns := [], harness := (true, "98dcb58af555920376af7c6ff7e8217a3b59e793b64c84979e4483e8cab88690"), looks := false }, kinds := [], alts := [], laidByText := true, laidKinds := [.data, .data, .data], laidTests := true, laidLooks := .later }
def DecLawsCardSaid : Prop := Claim7.holds Tryd.pinned (.plain (OpenSpec.ofChange decLawsSpec)) decLawsCard

/-- THE TIED CARD OF 'cashbooklaw4.DecFloors'. -/
def decFloorsCard : Claim7 := { stood := { row := decFloorsRow, standIns := [], harness := (true, "98dcb58af555920376af7c6ff7e8217a3b59e793b64c84979e4483e8cab88690"), looks := false }, kinds := [], alts := [], laidByText := true, laidKinds := [.data, .data, .data], laidTests := true, laidLooks := .later }
def DecFloorsCardSaid : Prop := Claim7.holds Tryd.pinned (.plain (OpenSpec.ofChange decFloorsSpec)) decFloorsCard

/-- THE TIED CARD OF 'cashbooklaw4.DecNear'. -/
def decNearCard : Claim7 := { stood := { row := decNearRow, standIns := [], harness := (true, "98dcb58af555920376af7c6ff7e8217a3b59e793b64c84979e4483e8cab88690"), looks := false }, kinds := [], alts := [], laidByText := true, laidKinds := [.data, .data, .data], laidTests := true, laidLooks := .later }
def DecNearCardSaid : Prop := Claim7.holds Tryd.pinned (.plain (OpenSpec.ofChange decNearSpec)) decNearCard

/-- THE TIED CARD OF 'cashbooklaw4.DecOrder'. -/
def decOrderCard : Claim7 := { stood := { row := decOrderRow, standIns := [], harness := (true, "98dcb58af555920376af7c6ff7e8217a3b59e793b64c84979e4483e8cab88690"), looks := false }, kinds := [], alts := [], laidByText := true, laidKinds := [.data, .data, .data], laidTests := true, laidLooks := .later }
def DecOrderCardSaid : Prop := Claim7.holds Tryd.pinned (.plain (OpenSpec.ofChange decOrderSpec)) decOrderCard

/-- THE SECOND FORM's CARD OF 'cashbooklaw4.DecRounds'. -/
def decRoundsUptoCard : Claim7 := { stood := { row := decRoundsUptoRow, standIns := [], harness := (true, "98dcb58af555920376af7c6ff7e8217a3b59e793b64c84979e4483e8cab88690"), looks := false }, kinds := [], alts := [], laidByText := true, laidKinds := [.data, .data, .data], laidTests := true, laidLooks := .later }
def DecRoundsUptoCardSaid : Prop := Claim7.holds Tryd.pinned (.plain (OpenSpec.upto decRoundsSpec)) decRoundsUptoCard

/-- THE SECOND FORM's CARD OF 'cashbooklaw4.DecLaws'. -/
def decLawsUptoCard : Claim7 := { stood := { row := decLawsUptoRow, standIns := [], harness := (true, "98dcb58af555920376af7c6ff7e8217a3b59e793b64c84979e4483e8cab88690"), looks := false }, kinds := [], alts := [], laidByText := true, laidKinds := [.data, .data, .data], laidTests := true, laidLooks := .later }
def DecLawsUptoCardSaid : Prop := Claim7.holds Tryd.pinned (.plain (OpenSpec.upto decLawsSpec)) decLawsUptoCard

/-- THE SECOND FORM's CARD OF 'cashbooklaw4.DecFloors'. -/
def decFloorsUptoCard : Claim7 := { stood := { row := decFloorsUptoRow, standIns := [], harness := (true, "98dcb58af555920376af7c6ff7e8217a3b59e793b64c84979e4483e8cab88690"), looks := false }, kinds := [], alts := [], laidByText := true, laidKinds := [.data, .data, .data], laidTests := true, laidLooks := .later }
def DecFloorsUptoCardSaid : Prop := Claim7.holds Tryd.pinned (.plain (OpenSpec.upto decFloorsSpec)) decFloorsUptoCard

/-- THE SECOND FORM's CARD OF 'cashbooklaw4.DecNear'. -/
def decNearUptoCard : Claim7 := { stood := { row := decNearUptoRow, standIns := [], harness := (true, "98dcb58af555920376af7c6ff7e8217a3b59e793b64c84979e4483e8cab88690"), looks := false }, kinds := [], alts := [], laidByText := true, laidKinds := [.data, .data, .data], laidTests := true, laidLooks := .later }
def DecNearUptoCardSaid : Prop := Claim7.holds Tryd.pinned (.plain (OpenSpec.upto decNearSpec)) decNearUptoCard

/-- THE SECOND FORM's CARD OF 'cashbooklaw4.DecOrder'. -/
def decOrderUptoCard : Claim7 := { stood := { row := decOrderUptoRow, standIns := [], harness := (true, "98dcb58af555920376af7c6ff7e8217a3b59e793b64c84979e4483e8cab88690"), looks := false }, kinds := [], alts := [], laidByText := true, laidKinds := [.data, .data, .data], laidTests := true, laidLooks := .later }
def DecOrderUptoCardSaid : Prop := Claim7.holds Tryd.pinned (.plain (OpenSpec.upto decOrderSpec)) decOrderUptoCard
end Rows
end Go.Proofs.YtfkfgfajdmacbaaDoor
