/-
  DERIVED. GIVEN WITH THE SEED: THE CARDS: each row of YtppkmnigongpdaaDoorRows.lean that lists a variable, with what it lists TIED to the program's text (the seventh form; the later family's looks); each row that meets fmt, with fmt's text TOLD by the authors' own Lean function (tested against real Go, not proved from fmt's source: count such statements apart). THE CARD IS WHAT COUNTS. Prove the row's statement (the work); the ties are given (YtppkmnigongpdaaDoorTie.lean); close each card by the builder's one call (the guide's Derived/Test/ToyasCard.lean, 'card_holds'). Laid BY PROGRAM, IN A SANDBOX (cutbox-door.mjs). By AI agents, Wed Nov 11 2026. No macro, syntax, notation, axiom, sorry.
-/
import Derived.Test.YtppkmnigongpdaaDoorRows
import GoSem.ClaimSeven
namespace Go.Proofs.YtppkmnigongpdaaDoor
namespace Rows

/-- THE TIED CARD OF 'aneroidlaw05.SymEntries'. -/
def symEntriesCard : Claim7 := { stood := { row := symEntriesRow, standIns := [], harness := (true, "ad073fd324fdeb03c541f8abb9baf9ad517f02379d4e1272c1ea234dfb5b48bf"), looks := false }, kinds := [], alts := [], laidByText := true, laidKinds := [.data], laidTests := true, laidLooks := .later }
def SymEntriesCardSaid : Prop := Claim7.holds Tryd.pinned (.plain (OpenSpec.ofChange symEntriesSpec)) symEntriesCard

/-- THE TIED CARD OF 'aneroidlaw05.SymSums'. -/
def symSumsCard : Claim7 := { stood := { row := symSumsRow, standIns := [], harness := (true, "ad073fd324fdeb03c541f8abb9baf9ad517f02379d4e1272c1ea234dfb5b48bf"), looks := false }, kinds := [], alts := [], laidByText := true, laidKinds := [.data], laidTests := true, laidLooks := .later }
def SymSumsCardSaid : Prop := Claim7.holds Tryd.pinned (.plain (OpenSpec.ofChange symSumsSpec)) symSumsCard

/-- THE TIED CARD OF 'aneroidlaw05.SymSound'. -/
def symSoundCard : Claim7 := { stood := { row := symSoundRow, standIns := [], harness := (true, "ad073fd324fdeb03c541f8abb9baf9ad517f02379d4e1272c1ea234dfb5b48bf"), looks := false }, kinds := [], alts := [], laidByText := true, laidKinds := [.data], laidTests := true, laidLooks := .later }
def SymSoundCardSaid : Prop := Claim7.holds Tryd.pinned (.plain (OpenSpec.ofChange symSoundSpec)) symSoundCard

/-- THE SECOND FORM's CARD OF 'aneroidlaw05.SymEntries'. -/
def symEntriesUptoCard : Claim7 := { stood := { row := symEntriesUptoRow, standIns := [], harness := (true, "ad073fd324fdeb03c541f8abb9baf9ad517f02379d4e1272c1ea234dfb5b48bf"), looks := false }, kinds := [], alts := [], laidByText := true, laidKinds := [.data], laidTests := true, laidLooks := .later }
def SymEntriesUptoCardSaid : Prop := Claim7.holds Tryd.pinned (.plain (OpenSpec.upto symEntriesSpec)) symEntriesUptoCard

/-- THE SECOND FORM's CARD OF 'aneroidlaw05.SymSums'. -/
def symSumsUptoCard : Claim7 := { stood := { row := symSumsUptoRow, standIns := [], harness := (true, "ad073fd324fdeb03c541f8abb9baf9ad517f02379d4e1272c1ea234dfb5b48bf"), looks := false }, kinds := [], alts := [], laidByText := true, laidKinds := [.data], laidTests := true, laidLooks := .later }
def SymSumsUptoCardSaid : Prop := Claim7.holds Tryd.pinned (.plain (OpenSpec.upto symSumsSpec)) symSumsUptoCard

/-- THE SECOND FORM's CARD OF 'aneroidlaw05.SymSound'. -/
def symSoundUptoCard : Claim7 := { stood := { row := symSoundUptoRow, standIns := [], harness := (true, "ad073fd324fdeb03c541f8abb9baf9ad517f02379d4e1272c1ea234dfb5b48bf"), looks := false }, kinds := [], alts := [], laidByText := true, laidKinds := [.data], laidTests := true, laidLooks := .later }
def SymSoundUptoCardSaid : Prop := Claim7.holds Tryd.pinned (.plain (OpenSpec.upto symSoundSpec)) symSoundUptoCard
end Rows
end Go.Proofs.YtppkmnigongpdaaDoor
