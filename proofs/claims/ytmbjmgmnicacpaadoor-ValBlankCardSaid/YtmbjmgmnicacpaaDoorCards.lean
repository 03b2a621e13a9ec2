/-
  DERIVED. GIVEN WITH THE SEED: THE CARDS: each row of YtmbjmgmnicacpaaDoorRows.lean that lists a variable, with what it lists TIED to the program's text (the seventh form; the later family's looks); each row that meets fmt, with fmt's text TOLD by the authors' own Lean function (tested against real Go, not proved from fmt's source: count such statements apart). THE CARD IS WHAT COUNTS. Prove the row's statement (the work); the ties are given (YtmbjmgmnicacpaaDoorTie.lean); close each card by the builder's one call (the guide's Derived/Test/ToyasCard.lean, 'card_holds'). Laid BY PROGRAM, IN A SANDBOX (cutbox-door.mjs). By AI agents, Wed Nov 11 2026. No macro, syntax, notation, axiom, sorry.
-/
import Derived.Test.YtmbjmgmnicacpaaDoorRows
import GoSem.ClaimSeven
namespace Go.Proofs.YtmbjmgmnicacpaaDoor
namespace Rows

/-- THE TIED CARD OF 'cashbooklaw9.ValOrder'. -/
def valOrderCard : Claim7 := { stood := { row := valOrderRow, standIns := [], harness := (true, "a01424104f604195500d58c86c0f7a408c14aef0256ef4d984a24b0e4b598714"), looks := false }, kinds := [], alts := [], laidByText := true, laidKinds := [.data, .data, .data, .data, .pinned], laidTests := true, laidLooks := .later }
def ValOrderCardSaid : Prop := Claim7.holds Tryd.pinned (.plain (OpenSpec.ofChange valOrderSpec)) valOrderCard

/-- THE TIED CARD OF 'cashbooklaw9.ValBlank'. -/
def valBlankCard : Claim7 := { stood := { row := valBlankRow, standIns := [], harness := (true, "a01424104f604195500d58c86c0f7a408c14aef0256ef4d984a24b0e4b598714"), looks := false }, kinds := [], alts := [], laidByText := true, laidKinds := [.data, .data, .data, .data, .pinned], laidTests := true, laidLooks := .later }
def ValBlankCardSaid : Prop := Claim7.holds Tryd.pinned (.plain (OpenSpec.ofChange valBlankSpec)) valBlankCard

/-- THE TIED CARD OF 'cashbooklaw9.ValTruths'. -/
def valTruthsCard : Claim7 := { stood := { row := valTruthsRow, standIns := [], harness := (true, "a01424104f604195500d58c86c0f7a408c14aef0256ef4d984a24b0e4b598714"), looks := false }, kinds := [], alts := [], laidByText := true, laidKinds := [.data, .data, .data, .data, .pinned], laidTests := true, laidLooks := .later }
def ValTruthsCardSaid : Prop := Claim7.holds Tryd.pinned (.plain (OpenSpec.ofChange valTruthsSpec)) valTruthsCard

/-- THE SECOND FORM's CARD OF 'cashbooklaw9.ValOrder'. -/
def valOrderUptoCard : Claim7 := { stood := { row := valOrderUptoRow, standIns := [], harness := (true, "a01424104f604195500d58c86c0f7a408c14aef0256ef4d984a24b0e4b598714"), looks := false }, kinds := [], alts := [], laidByText := true, laidKinds := [.data, .data, .data, .data, .pinned], laidTests := true, laidLooks := .later }
def ValOrderUptoCardSaid : Prop := Claim7.holds Tryd.pinned (.plain (OpenSpec.upto valOrderSpec)) valOrderUptoCard

/-- THE SECOND FORM's CARD OF 'cashbooklaw9.ValBlank'. -/
def valBlankUptoCard : Claim7 := { stood := { row := valBlankUptoRow, standIns := [], harness := (true, "a01424104f604195500d58c86c0f7a408c14aef0256ef4d984a24b0e4b598714"), looks := false }, kinds := [], alts := [], laidByText := true, laidKinds := [.data, .data, .data, .data, .pinned], laidTests := true, laidLooks := .later }
def ValBlankUptoCardSaid : Prop := Claim7.holds Tryd.pinned (.plain (OpenSpec.upto valBlankSpec)) valBlankUptoCard

/-- THE SECOND FORM's CARD OF 'cashbooklaw9.ValTruths'. -/
def valTruthsUptoCard : Claim7 := { stood := { row := valTruthsUptoRow, standIns := [], harness := (true, "a01424104f604195500d58c86c0f7a408c14aef0256ef4d984a24b0e4b598714"), looks := false }, kinds := [], alts := [], laidByText := true, laidKinds := [.data, .data, .data, .data, .pinned], laidTests := true, laidLooks := .later }
def ValTruthsUptoCardSaid : Prop := Claim7.holds Tryd.pinned (.plain (OpenSpec.upto valTruthsSpec)) valTruthsUptoCard
end Rows
end Go.Proofs.YtmbjmgmnicacpaaDoor
