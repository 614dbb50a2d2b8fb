/-
  DERIVED. GIVEN WITH THE SEED: THE CARDS: each row of YtdhnhmhgmnkajaaGreatDoorRows.lean that lists a variable, with what it lists TIED to the program's text (the seventh form; the later family's looks); each row that meets fmt, with fmt's text TOLD by the authors' own Lean function (tested against real Go, not proved from fmt's source: count such statements apart). THE CARD IS WHAT COUNTS. Prove the row's statement (the work); the ties are given (YtdhnhmhgmnkajaaGreatDoorTie.lean); close each card by the builder's one call (the guide's Derived/Test/ToyasCard.lean, 'card_holds'). Laid BY PROGRAM, IN A SANDBOX (cutbox-door.mjs). By AI agents, Wed Nov 11 2026. No macro, syntax, notation, axiom, sorry.
-/
import Derived.Test.YtdhnhmhgmnkajaaGreatDoorRows
import GoSem.ClaimSeven
namespace Go.Proofs.YtdhnhmhgmnkajaaGreatDoor
namespace Rows

/-- THE TIED CARD OF 'aneroidtop.TopAgain'. -/
def topAgainCard : Claim7 := { stood := { row := topAgainRow, standIns := [], harness := (true, "ff6597fc70ae268d3c6aae32c0ab7f28babb2cf9a25128e9e1167081f48eb50e"), looks := false }, kinds := [], alts := [], laidByText := true, laidKinds := [.data, .data, .data], laidTests := true, laidLooks := .later }
def TopAgainCardSaid : Prop := Claim7.holds Tryz.pinned (.plain (OpenSpec.ofChange topAgainSpec)) topAgainCard

/-- THE TIED CARD OF 'aneroidtop.TopNone'. -/
def topNoneCard : Claim7 := { stood := { row := topNoneRow, standIns := [], harness := (true, "ff6597fc70ae268d3c6aae32c0ab7f28babb2cf9a25128e9e1167081f48eb50e"), looks := false }, kinds := [], alts := [], laidByText := true, laidKinds := [.data, .data, .data], laidTests := true, laidLooks := .later }
def TopNoneCardSaid : Prop := Claim7.holds Tryz.pinned (.plain (OpenSpec.ofChange topNoneSpec)) topNoneCard

/-- THE TIED CARD OF 'aneroidtop.TopNames'. -/
def topNamesCard : Claim7 := { stood := { row := topNamesRow, standIns := [], harness := (true, "ff6597fc70ae268d3c6aae32c0ab7f28babb2cf9a25128e9e1167081f48eb50e"), looks := false }, kinds := [], alts := [], laidByText := true, laidKinds := [.data, .data, .data], laidTests := true, laidLooks := .later }
def TopNamesCardSaid : Prop := Claim7.holds Tryz.pinned (.plain (OpenSpec.ofChange topNamesSpec)) topNamesCard

/-- THE SECOND FORM's CARD OF 'aneroidtop.TopAgain'. -/
def topAgainUptoCard : Claim7 := { stood := { row := topAgainUptoRow, standIns := [], harness := (true, "ff6597fc70ae268d3c6aae32c0ab7f28babb2cf9a25128e9e1167081f48eb50e"), looks := false }, kinds := [], alts := [], laidByText := true, laidKinds := [.data, .data, .data], laidTests := true, laidLooks := .later }
def TopAgainUptoCardSaid : Prop := Claim7.holds Tryz.pinned (.plain (OpenSpec.upto topAgainSpec)) topAgainUptoCard

/-- THE SECOND FORM's CARD OF 'aneroidtop.TopNone'. -/
def topNoneUptoCard : Claim7 := { stood := { row := topNoneUptoRow, standIns := [], harness := (true, "ff6597fc70ae268d3c6aae32c0ab7f28babb2cf9a25128e9e1167081f48eb50e"), looks := false }, kinds := [], alts := [], laidByText := true, laidKinds := [.data, .data, .data], laidTests := true, laidLooks := .later }
def TopNoneUptoCardSaid : Prop := Claim7.holds Tryz.pinned (.plain (OpenSpec.upto topNoneSpec)) topNoneUptoCard

/-- THE SECOND FORM's CARD OF 'aneroidtop.TopNames'. -/
def topNamesUptoCard : Claim7 := { stood := { row := topNamesUptoRow, standIns := [], harness := (true, "ff6597fc70ae268d3c6aae32c0ab7f28babb2cf9a25128e9e1167081f48eb50e"), looks := false }, kinds := [], alts := [], laidByText := true, laidKinds := [.data, .data, .data], laidTests := true, laidLooks := .later }
def TopNamesUptoCardSaid : Prop := Claim7.holds Tryz.pinned (.plain (OpenSpec.upto topNamesSpec)) topNamesUptoCard
end Rows
end Go.Proofs.YtdhnhmhgmnkajaaGreatDoor
