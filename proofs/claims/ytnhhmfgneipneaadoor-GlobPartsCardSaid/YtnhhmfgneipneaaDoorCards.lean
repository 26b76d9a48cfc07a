/-
  DERIVED. GIVEN WITH THE SEED: THE CARDS: each row of YtnhhmfgneipneaaDoorRows.lean that lists a variable, with what it lists TIED to the program's text (the seventh form; the later family's looks); each row that meets fmt, with fmt's text TOLD by the authors' own Lean function (tested against real Go, not proved from fmt's source: count such statements apart). THE CARD IS WHAT COUNTS. Prove the row's statement (the work); the ties are given (YtnhhmfgneipneaaDoorTie.lean); close each card by the builder's one call (the guide's Derived/Test/ToyasCard.lean, 'card_holds'). Laid BY PROGRAM, IN A SANDBOX (cutbox-door.mjs). By AI agents, Wed Nov 11 2026. No macro, syntax, notation, axiom, sorry.
-/
import Derived.Test.YtnhhmfgneipneaaDoorRows
import GoSem.ClaimSeven
namespace Go.Proofs.YtnhhmfgneipneaaDoor
namespace Rows

/-- THE TIED CARD OF 'fishplatelaw09.GlobTells'. -/
def globTellsCard : Claim7 := { stood := { row := globTellsRow, standIns := [], harness := (true, "ffbe8b33c135a3265b19817a6e65343ffec0f4eb466ccc6828a75dc3e7829e10"), looks := false }, kinds := [], alts := [], laidByText := true, laidKinds := [.data, .pinned], laidTests := true, laidLooks := .later }
def GlobTellsCardSaid : Prop := Claim7.holds Tryd.pinned (.plain (OpenSpec.ofChange globTellsSpec)) globTellsCard

/-- THE TIED CARD OF 'fishplatelaw09.GlobParts'. -/
def globPartsCard : Claim7 := { stood := { row := globPartsRow, standIns := [], harness := (true, "ffbe8b33c135a3265b19817a6e65343ffec0f4eb466ccc6828a75dc3e7829e10"), looks := false }, kinds := [], alts := [], laidByText := true, laidKinds := [.data, .pinned], laidTests := true, laidLooks := .later }
def GlobPartsCardSaid : Prop := Claim7.holds Tryd.pinned (.plain (OpenSpec.ofChange globPartsSpec)) globPartsCard

/-- THE SECOND FORM's CARD OF 'fishplatelaw09.GlobTells'. -/
def globTellsUptoCard : Claim7 := { stood := { row := globTellsUptoRow, standIns := [], harness := (true, "ffbe8b33c135a3265b19817a6e65343ffec0f4eb466ccc6828a75dc3e7829e10"), looks := false }, kinds := [], alts := [], laidByText := true, laidKinds := [.data, .pinned], laidTests := true, laidLooks := .later }
def GlobTellsUptoCardSaid : Prop := Claim7.holds Tryd.pinned (.plain (OpenSpec.upto globTellsSpec)) globTellsUptoCard

/-- THE SECOND FORM's CARD OF 'fishplatelaw09.GlobParts'. -/
def globPartsUptoCard : Claim7 := { stood := { row := globPartsUptoRow, standIns := [], harness := (true, "ffbe8b33c135a3265b19817a6e65343ffec0f4eb466ccc6828a75dc3e7829e10"), looks := false }, kinds := [], alts := [], laidByText := true, laidKinds := [.data, .pinned], laidTests := true, laidLooks := .later }
def GlobPartsUptoCardSaid : Prop := Claim7.holds Tryd.pinned (.plain (OpenSpec.upto globPartsSpec)) globPartsUptoCard
end Rows
end Go.Proofs.YtnhhmfgneipneaaDoor
