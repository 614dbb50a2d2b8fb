/-
  DERIVED. GIVEN WITH THE SEED: THE CARDS: each row of YtjifkmldigemkaaGreatDoorRows.lean that lists a variable, with what it lists TIED to the program's text (the seventh form; the later family's looks); each row that meets fmt, with fmt's text TOLD by the authors' own Lean function (tested against real Go, not proved from fmt's source: count such statements apart). THE CARD IS WHAT COUNTS. Prove the row's statement (the work); the ties are given (YtjifkmldigemkaaGreatDoorTie.lean); close each card by the builder's one call (the guide's Derived/Test/ToyasCard.lean, 'card_holds'). Laid BY PROGRAM, IN A SANDBOX (cutbox-door.mjs). By AI agents, Wed Nov 11 2026. No macro, syntax, notation, axiom, sorry.
-/
import Derived.Test.YtjifkmldigemkaaGreatDoorRows
import GoSem.ClaimSeven
namespace Go.Proofs.YtjifkmldigemkaaGreatDoor
namespace Rows

/-- THE TIED CARD OF 'aneroidlaw20.ChannelPlays'. -/
def channelPlaysCard : Claim7 := { stood := { row := channelPlaysRow, standIns := [], harness := (true, "317a8ac48f0d2799b5ac273054785d9d5b7b12c6fff19aa300cab5ebee39b129"), looks := false }, kinds := [], alts := [], laidByText := true, laidKinds := [.data, .data, .data], laidTests := true, laidLooks := .later }
def ChannelPlaysCardSaid : Prop := Claim7.holds Tryz.pinned (.plain (OpenSpec.ofChange channelPlaysSpec)) channelPlaysCard

/-- THE TIED CARD OF 'aneroidtop.TopAgain'. -/
def topAgainCard : Claim7 := { stood := { row := topAgainRow, standIns := [], harness := (true, "317a8ac48f0d2799b5ac273054785d9d5b7b12c6fff19aa300cab5ebee39b129"), looks := false }, kinds := [], alts := [], laidByText := true, laidKinds := [.data, .data, .data], laidTests := true, laidLooks := .later }
def TopAgainCardSaid : Prop := Claim7.holds Tryz.pinned (.plain (OpenSpec.ofChange topAgainSpec)) topAgainCard

/-- THE TIED CARD OF 'aneroidtop.TopNone'. -/
def topNoneCard : Claim7 := { stood := { row := topNoneRow, standIns := [], harness := (true, "317a8ac48f0d2799b5ac273054785d9d5b7b12c6fff19aa300cab5ebee39b129"), looks := false }, kinds := [], alts := [], laidByText := true, laidKinds := [.data, .data, .data], laidTests := true, laidLooks := .later }
def TopNoneCardSaid : Prop := Claim7.holds Tryz.pinned (.plain (OpenSpec.ofChange topNoneSpec)) topNoneCard

/-- THE SECOND FORM's CARD OF 'aneroidlaw20.ChannelPlays'. -/
def channelPlaysUptoCard : Claim7 := { stood := { row := channelPlaysUptoRow, standIns := [], harness := (true, "317a8ac48f0d2799b5ac273054785d9d5b7b12c6fff19aa300cab5ebee39b129"), looks := false }, kinds := [], alts := [], laidByText := true, laidKinds := [.data, .data, .data], laidTests := true, laidLooks := .later }
def ChannelPlaysUptoCardSaid : Prop := Claim7.holds Tryz.pinned (.plain (OpenSpec.upto channelPlaysSpec)) channelPlaysUptoCard

/-- THE SECOND FORM's CARD OF 'aneroidtop.TopAgain'. -/
def topAgainUptoCard : Claim7 := { stood := { row := topAgainUptoRow, standIns := [], harness := (true, "317a8ac48f0d2799b5ac273054785d9d5b7b12c6fff19aa300cab5ebee39b129"), looks := false }, kinds := [], alts := [], laidByText := true, laidKinds := [.data, .data, .data], laidTests := true, laidLooks := .later }
def TopAgainUptoCardSaid : Prop := Claim7.holds Tryz.pinned (.plain (OpenSpec.upto topAgainSpec)) topAgainUptoCard

/-- THE SECOND FORM's CARD OF 'aneroidtop.TopNone'. -/
def topNoneUptoCard : Claim7 := { stood := { row := topNoneUptoRow, standIns := [], harness := (true, "317a8ac48f0d2799b5ac273054785d9d5b7b12c6fff19aa300cab5ebee39b129"), looks := false }, kinds := [], alts := [], laidByText := true, laidKinds := [.data, .data, .data], laidTests := true, laidLooks := .later }
def TopNoneUptoCardSaid : Prop := Claim7.holds Tryz.pinned (.plain (OpenSpec.upto topNoneSpec)) topNoneUptoCard
end Rows
end Go.Proofs.YtjifkmldigemkaaGreatDoor
