/-
  DERIVED. GIVEN WITH THE SEED: THE CARDS: each row of YtbedbkifdhjdfaaDoorRows.lean that lists a variable, with what it lists TIED to the program's text (the seventh form; the later family's looks); each row that meets fmt, with fmt's text TOLD by the authors' own Lean function (tested against real Go, not proved from fmt's source: count such statements apart). THE CARD IS WHAT COUNTS. Prove the row's statement (the work); the ties are given (YtbedbkifdhjdfaaDoorTie.lean); close each card by the builder's one call (the guide's Derived/Test/ToyasCard.lean, 'card_holds'). Laid BY PROGRAM, IN A SANDBOX (cutbox-door.mjs). By AI agents, Wed Nov 11 2026. No macro, syntax, notation, axiom, sorry.
-/
import Derived.Test.YtbedbkifdhjdfaaDoorRows
import GoSem.ClaimSeven
namespace Go.Proofs.YtbedbkifdhjdfaaDoor
namespace Rows

/-- THE TIED CARD OF 'fishplatelaw21.InsnTells'. -/
def insnTellsCard : Claim7 := { stood := { row := insnTellsRow, standIns := [], harness := (true, "904e27398d00a7b7619ca6fffba0696c9b2f6ebe58d8c301b32179755757288c"), looks := false }, kinds := [], alts := [], laidByText := true, laidKinds := [.data], laidTests := true, laidLooks := .later }
def InsnTellsCardSaid : Prop := Claim7.holds Tryd.pinned (.plain (OpenSpec.ofChange insnTellsSpec)) insnTellsCard

/-- THE TIED CARD OF 'fishplatelaw21.InsnBack'. -/
def insnBackCard : Claim7 := { stood := { row := insnBackRow, standIns := [], harness := (true, "904e27398d00a7b7619ca6fffba0696c9b2f6ebe58d8c301b32179755757288c"), looks := false }, kinds := [], alts := [], laidByText := true, laidKinds := [.data], laidTests := true, laidLooks := .later }
def InsnBackCardSaid : Prop := Claim7.holds Tryd.pinned (.plain (OpenSpec.ofChange insnBackSpec)) insnBackCard

/-- THE SECOND FORM's CARD OF 'fishplatelaw21.InsnTells'. -/
def insnTellsUptoCard : Claim7 := { stood := { row := insnTellsUptoRow, standIns := [], harness := (true, "904e27398d00a7b7619ca6fffba0696c9b2f6ebe58d8c301b32179755757288c"), looks := false }, kinds := [], alts := [], laidByText := true, laidKinds := [.data], laidTests := true, laidLooks := .later }
def InsnTellsUptoCardSaid : Prop := Claim7.holds Tryd.pinned (.plain (OpenSpec.upto insnTellsSpec)) insnTellsUptoCard

/-- THE SECOND FORM's CARD OF 'fishplatelaw21.InsnBack'. -/
def insnBackUptoCard : Claim7 := { stood := { row := insnBackUptoRow, standIns := [], harness := (true, "904e27398d00a7b7619ca6fffba0696c9b2f6ebe58d8c301b32179755757288c"), looks := false }, kinds := [], alts := [], laidByText := true, laidKinds := [.data], laidTests := true, laidLooks := .later }
def InsnBackUptoCardSaid : Prop := Claim7.holds Tryd.pinned (.plain (OpenSpec.upto insnBackSpec)) insnBackUptoCard
end Rows
end Go.Proofs.YtbedbkifdhjdfaaDoor
