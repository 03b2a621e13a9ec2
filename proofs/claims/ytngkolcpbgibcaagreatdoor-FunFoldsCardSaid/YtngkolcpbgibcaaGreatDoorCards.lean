/-
  DERIVED. GIVEN WITH THE SEED: THE CARDS: each row of YtngkolcpbgibcaaGreatDoorRows.lean that lists a variable, with what it lists TIED to the program's text (the seventh form; the later family's looks); each row that meets fmt, with fmt's text TOLD by the authors' own Lean function (tested against real Go, not proved from fmt's source: count such statements apart). THE CARD IS WHAT COUNTS. Prove the row's statement (the work); the ties are given (YtngkolcpbgibcaaGreatDoorTie.lean); close each card by the builder's one call (the guide's Derived/Test/ToyasCard.lean, 'card_holds'). Laid BY PROGRAM, IN A SANDBOX (cutbox-door.mjs). By AI agents, Wed Nov 11 2026. No macro, syntax, notation, axiom, sorry.
-/
import Derived.Test.YtngkolcpbgibcaaGreatDoorRows
import GoSem.ClaimSeven
namespace Go.Proofs.YtngkolcpbgibcaaGreatDoor
namespace Rows

/-- THE TIED CARD OF 'cashbooklaw11.FunApplies'. -/
def funAppliesCard : Claim7 := { stood := { row := funAppliesRow, standIns := [], harness := (true, "bb8aa7f8695940ed4a6c1ea0d68a1eb1374b3867ff5db1b8061bca47937fbf17"), looks := false }, kinds := [], alts := [], laidByText := true, laidKinds := [.data, .data, .data, .data, .data, .pinned], laidTests := true, laidLooks := .later }
def FunAppliesCardSaid : Prop := Claim7.holds Tryz.pinned (.plain (OpenSpec.ofChange funAppliesSpec)) funAppliesCard

/-- THE TIED CARD OF 'cashbooklaw11.FunSigns'. -/
def funSignsCard : Claim7 := { stood := { row := funSignsRow, standIns := [], harness := (true, "bb8aa7f8695940ed4a6c1ea0d68a1eb1374b3867ff5db1b8061bca47937fbf17"), looks := false }, kinds := [], alts := [], laidByText := true, laidKinds := [.data, .data, .data, .data, .data, .pinned], laidTests := true, laidLooks := .later }
def FunSignsCardSaid : Prop := Claim7.holds Tryz.pinned (.plain (OpenSpec.ofChange funSignsSpec)) funSignsCard

/-- THE TIED CARD OF 'cashbooklaw11.FunNames'. -/
def funNamesCard : Claim7 := { stood := { row := funNamesRow, standIns := [], harness := (true, "bb8aa7f8695940ed4a6c1ea0d68a1eb1374b3867ff5db1b8061bca47937fbf17"), looks := false }, kinds := [], alts := [], laidByText := true, laidKinds := [.data, .data, .data, .data, .data, .pinned], laidTests := true, laidLooks := .later }
def FunNamesCardSaid : Prop := Claim7.holds Tryz.pinned (.plain (OpenSpec.ofChange funNamesSpec)) funNamesCard

/-- THE TIED CARD OF 'cashbooklaw11.FunFolds'. -/
def funFoldsCard : Claim7 := { stood := { row := funFoldsRow, standIns := [], harness := (true, "bb8aa7f8695940ed4a6c1ea0d68a1eb1374b3867ff5db1b8061bca47937fbf17"), looks := false }, kinds := [], alts := [], laidByText := true, laidKinds := [.data, .data, .data, .data, .data, .pinned], laidTests := true, laidLooks := .later }
def FunFoldsCardSaid : Prop := Claim7.holds Tryz.pinned (.plain (OpenSpec.ofChange funFoldsSpec)) funFoldsCard

/-- THE TIED CARD OF 'cashbooklaw11.FunPieces'. -/
def funPiecesCard : Claim7 := { stood := { row := funPiecesRow, standIns := [], harness := (true, "bb8aa7f8695940ed4a6c1ea0d68a1eb1374b3867ff5db1b8061bca47937fbf17"), looks := false }, kinds := [], alts := [], laidByText := true, laidKinds := [.data, .data, .data, .data, .data, .pinned], laidTests := true, laidLooks := .later }
def FunPiecesCardSaid : Prop := Claim7.holds Tryz.pinned (.plain (OpenSpec.ofChange funPiecesSpec)) funPiecesCard

/-- THE TIED CARD OF 'cashbooklaw11.FunChooses'. -/
def funChoosesCard : Claim7 := { stood := { row := funChoosesRow, standIns := [], harness := (true, "bb8aa7f8695940ed4a6c1ea0d68a1eb1374b3867ff5db1b8061bca47937fbf17"), looks := false }, kinds := [], alts := [], laidByText := true, laidKinds := [.data, .data, .data, .data, .data, .pinned], laidTests := true, laidLooks := .later }
def FunChoosesCardSaid : Prop := Claim7.holds Tryz.pinned (.plain (OpenSpec.ofChange funChoosesSpec)) funChoosesCard

/-- THE TIED CARD OF 'cashbooklaw11.FunMod'. -/
def funModCard : Claim7 := { stood := { row := funModRow, standIns := [], harness := (true, "bb8aa7f8695940ed4a6c1ea0d68a1eb1374b3867ff5db1b8061bca47937fbf17"), looks := false }, kinds := [], alts := [], laidByText := true, laidKinds := [.data, .data, .data, .data, .data, .pinned], laidTests := true, laidLooks := .later }
def FunModCardSaid : Prop := Claim7.holds Tryz.pinned (.plain (OpenSpec.ofChange funModSpec)) funModCard

/-- THE TIED CARD OF 'cashbooklaw11.FunTypes'. -/
def funTypesCard : Claim7 := { stood := { row := funTypesRow, standIns := [], harness := (true, "bb8aa7f8695940ed4a6c1ea0d68a1eb1374b3867ff5db1b8061bca47937fbf17"), looks := false }, kinds := [], alts := [], laidByText := true, laidKinds := [.data, .data, .data, .data, .data, .pinned], laidTests := true, laidLooks := .later }
def FunTypesCardSaid : Prop := Claim7.holds Tryz.pinned (.plain (OpenSpec.ofChange funTypesSpec)) funTypesCard

/-- THE SECOND FORM's CARD OF 'cashbooklaw11.FunApplies'. -/
def funAppliesUptoCard : Claim7 := { stood := { row := funAppliesUptoRow, standIns := [], harness := (true, "bb8aa7f8695940ed4a6c1ea0d68a1eb1374b3867ff5db1b8061bca47937fbf17"), looks := false }, kinds := [], alts := [], laidByText := true, laidKinds := [.data, .data, .data, .data, .data, .pinned], laidTests := true, laidLooks := .later }
def FunAppliesUptoCardSaid : Prop := Claim7.holds Tryz.pinned (.plain (OpenSpec.upto funAppliesSpec)) funAppliesUptoCard

/-- THE SECOND FORM's CARD OF 'cashbooklaw11.FunSigns'. -/
def funSignsUptoCard : Claim7 := { stood := { row := funSignsUptoRow, standIns := [], harness := (true, "bb8aa7f8695940ed4a6c1ea0d68a1eb1374b3867ff5db1b8061bca47937fbf17"), looks := false }, kinds := [], alts := [], laidByText := true, laidKinds := [.data, .data, .data, .data, .data, .pinned], laidTests := true, laidLooks := .later }
def FunSignsUptoCardSaid : Prop := Claim7.holds Tryz.pinned (.plain (OpenSpec.upto funSignsSpec)) funSignsUptoCard

/-- THE SECOND FORM's CARD OF 'cashbooklaw11.FunNames'. -/
def funNamesUptoCard : Claim7 := { stood := { row := funNamesUptoRow, standIns := [], harness := (true, "bb8aa7f8695940ed4a6c1ea0d68a1eb1374b3867ff5db1b8061bca47937fbf17"), looks := false }, kinds := [], alts := [], laidByText := true, laidKinds := [.data, .data, .data, .data, .data, .pinned], laidTests := true, laidLooks := .later }
def FunNamesUptoCardSaid : Prop := Claim7.holds Tryz.pinned (.plain (OpenSpec.upto funNamesSpec)) funNamesUptoCard

/-- THE SECOND FORM's CARD OF 'cashbooklaw11.FunFolds'. -/
def funFoldsUptoCard : Claim7 := { stood := { row := funFoldsUptoRow, standIns := [], harness := (true, "bb8aa7f8695940ed4a6c1ea0d68a1eb1374b3867ff5db1b8061bca47937fbf17"), looks := false }, kinds := [], alts := [], laidByText := true, laidKinds := [.data, .data, .data, .data, .data, .pinned], laidTests := true, laidLooks := .later }
def FunFoldsUptoCardSaid : Prop := Claim7.holds Tryz.pinned (.plain (OpenSpec.upto funFoldsSpec)) funFoldsUptoCard

/-- THE SECOND FORM's CARD OF 'cashbooklaw11.FunPieces'. -/
def funPiecesUptoCard : Claim7 := { stood := { row := funPiecesUptoRow, standIns := [], harness := (true, "bb8aa7f8695940ed4a6c1ea0d68a1eb1374b3867ff5db1b8061bca47937fbf17"), looks := false }, kinds := [], alts := [], laidByText := true, laidKinds := [.data, .data, .data, .data, .data, .pinned], laidTests := true, laidLooks := .later }
def FunPiecesUptoCardSaid : Prop := Claim7.holds Tryz.pinned (.plain (OpenSpec.upto funPiecesSpec)) funPiecesUptoCard

/-- THE SECOND FORM's CARD OF 'cashbooklaw11.FunChooses'. -/
def funChoosesUptoCard : Claim7 := { stood := { row := funChoosesUptoRow, standIns := [], harness := (true, "bb8aa7f8695940ed4a6c1ea0d68a1eb1374b3867ff5db1b8061bca47937fbf17"), looks := false }, kinds := [], alts := [], laidByText := true, laidKinds := [.data, .data, .data, .data, .data, .pinned], laidTests := true, laidLooks := .later }
def FunChoosesUptoCardSaid : Prop := Claim7.holds Tryz.pinned (.plain (OpenSpec.upto funChoosesSpec)) funChoosesUptoCard

/-- THE SECOND FORM's CARD OF 'cashbooklaw11.FunMod'. -/
def funModUptoCard : Claim7 := { stood := { row := funModUptoRow, standIns := [], harness := (true, "bb8aa7f8695940ed4a6c1ea0d68a1eb1374b3867ff5db1b8061bca47937fbf17"), looks := false }, kinds := [], alts := [], laidByText := true, laidKinds := [.data, .data, .data, .data, .data, .pinned], laidTests := true, laidLooks := .later }
def FunModUptoCardSaid : Prop := Claim7.holds Tryz.pinned (.plain (OpenSpec.upto funModSpec)) funModUptoCard

/-- THE SECOND FORM's CARD OF 'cashbooklaw11.FunTypes'. -/
def funTypesUptoCard : Claim7 := { stood := { row := funTypesUptoRow, standIns := [], harness := (true, "bb8aa7f8695940ed4a6c1ea0d68a1eb1374b3867ff5db1b8061bca47937fbf17"), looks := false }, kinds := [], alts := [], laidByText := true, laidKinds := [.data, .data, .data, .data, .data, .pinned], laidTests := true, laidLooks := .later }
def FunTypesUptoCardSaid : Prop := Claim7.holds Tryz.pinned (.plain (OpenSpec.upto funTypesSpec)) funTypesUptoCard
end Rows
end Go.Proofs.YtngkolcpbgibcaaGreatDoor
