/-
  DERIVED. GIVEN WITH THE SEED: THE CARDS: each row of YthnaeoagooahbaaDoorRows.lean that lists a variable, with what it lists TIED to the program's text (the seventh form; the later family's looks); each row that meets fmt, with fmt's text TOLD by the authors' own Lean function (tested against real Go, not proved from fmt's source: count such statements apart). THE CARD IS WHAT COUNTS. Prove the row's statement (the work); the ties are given (YthnaeoagooahbaaDoorTie.lean); close each card by the builder's one call (the guide's Derived/Test/ToyasCard.lean, 'card_holds'). Laid BY PROGRAM, IN A SANDBOX (cutbox-door.mjs). By AI agents, Wed Nov 11 2026. No macro, syntax, notation, axiom, sorry.
-/
import Derived.Test.YthnaeoagooahbaaDoorRows
import GoSem.ClaimSeven
namespace Go.Proofs.YthnaeoagooahbaaDoor
namespace Rows

/-- THE TIED CARD OF 'aneroidlaw18.GroundPlays'. -/
def groundPlaysCard : Claim7 := { stood := { row := groundPlaysRow, standIns := [], harness := (true, "8229f289d1db8641cc0e988efdc6052581ff4a7d39df25eb06e330d9f43270a9"), looks := false }, kinds := [], alts := [], laidByText := true, laidKinds := [.data], laidTests := true, laidLooks := .later }
def GroundPlaysCardSaid : Prop := Claim7.holds Tryd.pinned (.plain (OpenSpec.ofChange groundPlaysSpec)) groundPlaysCard

/-- THE TIED CARD OF 'aneroidlaw18.GroundBelow'. -/
def groundBelowCard : Claim7 := { stood := { row := groundBelowRow, standIns := [], harness := (true, "8229f289d1db8641cc0e988efdc6052581ff4a7d39df25eb06e330d9f43270a9"), looks := false }, kinds := [], alts := [], laidByText := true, laidKinds := [.data], laidTests := true, laidLooks := .later }
def GroundBelowCardSaid : Prop := Claim7.holds Tryd.pinned (.plain (OpenSpec.ofChange groundBelowSpec)) groundBelowCard

/-- THE SECOND FORM's CARD OF 'aneroidlaw18.GroundPlays'. -/
def groundPlaysUptoCard : Claim7 := { stood := { row := groundPlaysUptoRow, standIns := [], harness := (true, "8229f289d1db8641cc0e988efdc6052581ff4a7d39df25eb06e330d9f43270a9"), looks := false }, kinds := [], alts := [], laidByText := true, laidKinds := [.data], laidTests := true, laidLooks := .later }
def GroundPlaysUptoCardSaid : Prop := Claim7.holds Tryd.pinned (.plain (OpenSpec.upto groundPlaysSpec)) groundPlaysUptoCard

/-- THE SECOND FORM's CARD OF 'aneroidlaw18.GroundBelow'. -/
def groundBelowUptoCard : Claim7 := { stood := { row := groundBelowUptoRow, standIns := [], harness := (true, "8229f289d1db8641cc0e988efdc6052581ff4a7d39df25eb06e330d9f43270a9"), looks := false }, kinds := [], alts := [], laidByText := true, laidKinds := [.data], laidTests := true, laidLooks := .later }
def GroundBelowUptoCardSaid : Prop := Claim7.holds Tryd.pinned (.plain (OpenSpec.upto groundBelowSpec)) groundBelowUptoCard
end Rows
end Go.Proofs.YthnaeoagooahbaaDoor
