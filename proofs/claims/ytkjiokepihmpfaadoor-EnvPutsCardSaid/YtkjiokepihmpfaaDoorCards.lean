/-
  DERIVED. GIVEN WITH THE SEED: THE CARDS: each row of YtkjiokepihmpfaaDoorRows.lean that lists a variable, with what it lists TIED to the program's text (the seventh form; the later family's looks); each row that meets fmt, with fmt's text TOLD by the authors' own Lean function (tested against real Go, not proved from fmt's source: count such statements apart). THE CARD IS WHAT COUNTS. Prove the row's statement (the work); the ties are given (YtkjiokepihmpfaaDoorTie.lean); close each card by the builder's one call (the guide's Derived/Test/ToyasCard.lean, 'card_holds'). Laid BY PROGRAM, IN A SANDBOX (cutbox-door.mjs). By AI agents, Wed Nov 11 2026. No macro, syntax, notation, axiom, sorry.
-/
import Derived.Test.YtkjiokepihmpfaaDoorRows
import GoSem.ClaimSeven
namespace Go.Proofs.YtkjiokepihmpfaaDoor
namespace Rows

/-- THE TIED CARD OF 'cashbooklaw14.EnvPuts'. -/
def envPutsCard : Claim7 := { stood := { row := envPutsRow, standIns := [], harness := (true, "a3b18ce75960db296f34e50e4fff998c1bc69feb94baec77ce1c95571fdfbe38"), looks := false }, kinds := [], alts := [], laidByText := true, laidKinds := [.data, .pinned], laidTests := true, laidLooks := .later }
def EnvPutsCardSaid : Prop := Claim7.holds Tryd.pinned (.plain (OpenSpec.ofChange envPutsSpec)) envPutsCard

/-- THE TIED CARD OF 'cashbooklaw14.EnvTakes'. -/
def envTakesCard : Claim7 := { stood := { row := envTakesRow, standIns := [], harness := (true, "a3b18ce75960db296f34e50e4fff998c1bc69feb94baec77ce1c95571fdfbe38"), looks := false }, kinds := [], alts := [], laidByText := true, laidKinds := [.data, .pinned], laidTests := true, laidLooks := .later }
def EnvTakesCardSaid : Prop := Claim7.holds Tryd.pinned (.plain (OpenSpec.ofChange envTakesSpec)) envTakesCard

/-- THE TIED CARD OF 'cashbooklaw14.EnvLess'. -/
def envLessCard : Claim7 := { stood := { row := envLessRow, standIns := [], harness := (true, "a3b18ce75960db296f34e50e4fff998c1bc69feb94baec77ce1c95571fdfbe38"), looks := false }, kinds := [], alts := [], laidByText := true, laidKinds := [.data, .pinned], laidTests := true, laidLooks := .later }
def EnvLessCardSaid : Prop := Claim7.holds Tryd.pinned (.plain (OpenSpec.ofChange envLessSpec)) envLessCard

/-- THE SECOND FORM's CARD OF 'cashbooklaw14.EnvPuts'. -/
def envPutsUptoCard : Claim7 := { stood := { row := envPutsUptoRow, standIns := [], harness := (true, "a3b18ce75960db296f34e50e4fff998c1bc69feb94baec77ce1c95571fdfbe38"), looks := false }, kinds := [], alts := [], laidByText := true, laidKinds := [.data, .pinned], laidTests := true, laidLooks := .later }
def EnvPutsUptoCardSaid : Prop := Claim7.holds Tryd.pinned (.plain (OpenSpec.upto envPutsSpec)) envPutsUptoCard

/-- THE SECOND FORM's CARD OF 'cashbooklaw14.EnvTakes'. -/
def envTakesUptoCard : Claim7 := { stood := { row := envTakesUptoRow, standIns := [], harness := (true, "a3b18ce75960db296f34e50e4fff998c1bc69feb94baec77ce1c95571fdfbe38"), looks := false }, kinds := [], alts := [], laidByText := true, laidKinds := [.data, .pinned], laidTests := true, laidLooks := .later }
def EnvTakesUptoCardSaid : Prop := Claim7.holds Tryd.pinned (.plain (OpenSpec.upto envTakesSpec)) envTakesUptoCard

/-- THE SECOND FORM's CARD OF 'cashbooklaw14.EnvLess'. -/
def envLessUptoCard : Claim7 := { stood := { row := envLessUptoRow, standIns := [], harness := (true, "a3b18ce75960db296f34e50e4fff998c1bc69feb94baec77ce1c95571fdfbe38"), looks := false }, kinds := [], alts := [], laidByText := true, laidKinds := [.data, .pinned], laidTests := true, laidLooks := .later }
def EnvLessUptoCardSaid : Prop := Claim7.holds Tryd.pinned (.plain (OpenSpec.upto envLessSpec)) envLessUptoCard
end Rows
end Go.Proofs.YtkjiokepihmpfaaDoor
