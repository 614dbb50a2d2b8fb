/-
  DERIVED. GIVEN WITH THE SEED: THE CARDS: each row of YtccpcabhcfpbfaaDoorRows.lean that lists a variable, with what it lists TIED to the program's text (the seventh form; the later family's looks); each row that meets fmt, with fmt's text TOLD by the authors' own Lean function (tested against real Go, not proved from fmt's source: count such statements apart). THE CARD IS WHAT COUNTS. Prove the row's statement (the work); the ties are given (YtccpcabhcfpbfaaDoorTie.lean); close each card by the builder's one call (the guide's Derived/Test/ToyasCard.lean, 'card_holds'). Laid BY PROGRAM, IN A SANDBOX (cutbox-door.mjs). By AI agents, Wed Nov 11 2026. No macro, syntax, notation, axiom, sorry.
-/
import Derived.Test.YtccpcabhcfpbfaaDoorRows
import GoSem.ClaimSeven
namespace Go.Proofs.YtccpcabhcfpbfaaDoor
namespace Rows

/-- THE TIED CARD OF 'aneroidlaw11.GainPlays'. -/
def gainPlaysCard : Claim7 := { stood := { row := gainPlaysRow, standIns := [], harness := (true, "5766be96f4db033ae0dbde74cb8f3e9e0f3bb096af73d56af8193b376fac8c20"), looks := false }, kinds := [], alts := [], laidByText := true, laidKinds := [.data], laidTests := true, laidLooks := .later }
def GainPlaysCardSaid : Prop := Claim7.holds Tryd.pinned (.plain (OpenSpec.ofChange gainPlaysSpec)) gainPlaysCard

/-- THE TIED CARD OF 'aneroidlaw11.GainMild'. -/
def gainMildCard : Claim7 := { stood := { row := gainMildRow, standIns := [], harness := (true, "5766be96f4db033ae0dbde74cb8f3e9e0f3bb096af73d56af8193b376fac8c20"), looks := false }, kinds := [], alts := [], laidByText := true, laidKinds := [.data], laidTests := true, laidLooks := .later }
def GainMildCardSaid : Prop := Claim7.holds Tryd.pinned (.plain (OpenSpec.ofChange gainMildSpec)) gainMildCard

/-- THE TIED CARD OF 'aneroidlaw11.GainLess'. -/
def gainLessCard : Claim7 := { stood := { row := gainLessRow, standIns := [], harness := (true, "5766be96f4db033ae0dbde74cb8f3e9e0f3bb096af73d56af8193b376fac8c20"), looks := false }, kinds := [], alts := [], laidByText := true, laidKinds := [.data], laidTests := true, laidLooks := .later }
def GainLessCardSaid : Prop := Claim7.holds Tryd.pinned (.plain (OpenSpec.ofChange gainLessSpec)) gainLessCard

/-- THE SECOND FORM's CARD OF 'aneroidlaw11.GainPlays'. -/
def gainPlaysUptoCard : Claim7 := { stood := { row := gainPlaysUptoRow, standIns := [], harness := (true, "5766be96f4db033ae0dbde74cb8f3e9e0f3bb096af73d56af8193b376fac8c20"), looks := false }, kinds := [], alts := [], laidByText := true, laidKinds := [.data], laidTests := true, laidLooks := .later }
def GainPlaysUptoCardSaid : Prop := Claim7.holds Tryd.pinned (.plain (OpenSpec.upto gainPlaysSpec)) gainPlaysUptoCard

/-- THE SECOND FORM's CARD OF 'aneroidlaw11.GainMild'. -/
def gainMildUptoCard : Claim7 := { stood := { row := gainMildUptoRow, standIns := [], harness := (true, "5766be96f4db033ae0dbde74cb8f3e9e0f3bb096af73d56af8193b376fac8c20"), looks := false }, kinds := [], alts := [], laidByText := true, laidKinds := [.data], laidTests := true, laidLooks := .later }
def GainMildUptoCardSaid : Prop := Claim7.holds Tryd.pinned (.plain (OpenSpec.upto gainMildSpec)) gainMildUptoCard

/-- THE SECOND FORM's CARD OF 'aneroidlaw11.GainLess'. -/
def gainLessUptoCard : Claim7 := { stood := { row := gainLessUptoRow, standIns := [], harness := (true, "5766be96f4db033ae0dbde74cb8f3e9e0f3bb096af73d56af8193b376fac8c20"), looks := false }, kinds := [], alts := [], laidByText := true, laidKinds := [.data], laidTests := true, laidLooks := .later }
def GainLessUptoCardSaid : Prop := Claim7.holds Tryd.pinned (.plain (OpenSpec.upto gainLessSpec)) gainLessUptoCard
end Rows
end Go.Proofs.YtccpcabhcfpbfaaDoor
