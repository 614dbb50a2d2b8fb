/-
  DERIVED. GIVEN WITH THE SEED: THE CARDS: each row of YtjaccedpkkcjnaaGreatDoorRows.lean that lists a variable, with what it lists TIED to the program's text (the seventh form; the later family's looks); each row that meets fmt, with fmt's text TOLD by the authors' own Lean function (tested against real Go, not proved from fmt's source: count such statements apart). THE CARD IS WHAT COUNTS. Prove the row's statement (the work); the ties are given (YtjaccedpkkcjnaaGreatDoorTie.lean); close each card by the builder's one call (the guide's Derived/Test/ToyasCard.lean, 'card_holds'). Laid BY PROGRAM, IN A SANDBOX (cutbox-door.mjs). By AI agents, Wed Nov 11 2026. No macro, syntax, notation, axiom, sorry.
-/
import Derived.Test.YtjaccedpkkcjnaaGreatDoorRows
import GoSem.ClaimSeven
namespace Go.Proofs.YtjaccedpkkcjnaaGreatDoor
namespace Rows

/-- THE TIED CARD OF 'aneroidlaw14.ParseLoads'. -/
def parseLoadsCard : Claim7 := { stood := { row := parseLoadsRow, standIns := [], harness := (true, "7bb38a2022c0b7eb523d7a17cbd4c175eae7948aab2fad3f7d8cbbf0e922d27e"), looks := true }, kinds := [], alts := [], laidByText := true, laidKinds := [.data, .data, .data, .sentinel, .sentinel], laidTests := true, laidLooks := .later }
def ParseLoadsCardSaid : Prop := Claim7.holds Tryz.pinned (.plain (OpenSpec.ofChange parseLoadsSpec)) parseLoadsCard

/-- THE SECOND FORM's CARD OF 'aneroidlaw14.ParseLoads'. -/
def parseLoadsUptoCard : Claim7 := { stood := { row := parseLoadsUptoRow, standIns := [], harness := (true, "7bb38a2022c0b7eb523d7a17cbd4c175eae7948aab2fad3f7d8cbbf0e922d27e"), looks := true }, kinds := [], alts := [], laidByText := true, laidKinds := [.data, .data, .data, .sentinel, .sentinel], laidTests := true, laidLooks := .later }
def ParseLoadsUptoCardSaid : Prop := Claim7.holds Tryz.pinned (.plain (OpenSpec.upto parseLoadsSpec)) parseLoadsUptoCard
end Rows
end Go.Proofs.YtjaccedpkkcjnaaGreatDoor
