/-
  DERIVED. GIVEN WITH THE SEED: THE CARDS: each row of YtjafcnbghbfehaaDoorRows.lean that lists a variable, with what it lists TIED to the program's text (the seventh form; the later family's looks); each row that meets fmt, with fmt's text TOLD by the authors' own Lean function (tested against real Go, not proved from fmt's source: count such statements apart). THE CARD IS WHAT COUNTS. Prove the row's statement (the work); the ties are given (YtjafcnbghbfehaaDoorTie.lean); close each card by the builder's one call (the guide's Derived/Test/ToyasCard.lean, 'card_holds'). Laid BY PROGRAM, IN A SANDBOX (cutbox-door.mjs). By AI agents, Wed Nov 11 2026. No macro, syntax, notation, axiom, sorry.
-/
import Derived.Test.YtjafcnbghbfehaaDoorRows
import GoSem.ClaimSeven
namespace Go.Proofs.YtjafcnbghbfehaaDoor
namespace Rows

/-- THE TIED CARD OF 'aneroidlaw09.TamePlays'. -/
def tamePlaysCard : Claim7 := { stood := { row := tamePlaysRow, standIns := [], harness := (true, "6efbbab249264f18b65752e615cae8346f52f93f6d90de10d5dd06c3cd30e4ff"), looks := false }, kinds := [], alts := [], laidByText := true, laidKinds := [.data], laidTests := true, laidLooks := .later }
def TamePlaysCardSaid : Prop := Claim7.holds Tryd.pinned (.plain (OpenSpec.ofChange tamePlaysSpec)) tamePlaysCard

/-- THE TIED CARD OF 'aneroidlaw09.TameSound'. -/
def tameSoundCard : Claim7 := { stood := { row := tameSoundRow, standIns := [], harness := (true, "6efbbab249264f18b65752e615cae8346f52f93f6d90de10d5dd06c3cd30e4ff"), looks := false }, kinds := [], alts := [], laidByText := true, laidKinds := [.data], laidTests := true, laidLooks := .later }
def TameSoundCardSaid : Prop := Claim7.holds Tryd.pinned (.plain (OpenSpec.ofChange tameSoundSpec)) tameSoundCard

/-- THE TIED CARD OF 'aneroidlaw09.TameStays'. -/
def tameStaysCard : Claim7 := { stood := { row := tameStaysRow, standIns := [], harness := (true, "6efbbab249264f18b65752e615cae8346f52f93f6d90de10d5dd06c3cd30e4ff"), looks := false }, kinds := [], alts := [], laidByText := true, laidKinds := [.data], laidTests := true, laidLooks := .later }
def TameStaysCardSaid : Prop := Claim7.holds Tryd.pinned (.plain (OpenSpec.ofChange tameStaysSpec)) tameStaysCard

/-- THE SECOND FORM's CARD OF 'aneroidlaw09.TamePlays'. -/
def tamePlaysUptoCard : Claim7 := { stood := { row := tamePlaysUptoRow, standIns := [], harness := (true, "6efbbab249264f18b65752e615cae8346f52f93f6d90de10d5dd06c3cd30e4ff"), looks := false }, kinds := [], alts := [], laidByText := true, laidKinds := [.data], laidTests := true, laidLooks := .later }
def TamePlaysUptoCardSaid : Prop := Claim7.holds Tryd.pinned (.plain (OpenSpec.upto tamePlaysSpec)) tamePlaysUptoCard

/-- THE SECOND FORM's CARD OF 'aneroidlaw09.TameSound'. -/
def tameSoundUptoCard : Claim7 := { stood := { row := tameSoundUptoRow, standIns := [], harness := (true, "6efbbab249264f18b65752e615cae8346f52f93f6d90de10d5dd06c3cd30e4ff"), looks := false }, kinds := [], alts := [], laidByText := true, laidKinds := [.data], laidTests := true, laidLooks := .later }
def TameSoundUptoCardSaid : Prop := Claim7.holds Tryd.pinned (.plain (OpenSpec.upto tameSoundSpec)) tameSoundUptoCard

/-- THE SECOND FORM's CARD OF 'aneroidlaw09.TameStays'. -/
def tameStaysUptoCard : Claim7 := { stood := { row := tameStaysUptoRow, standIns := [], harness := (true, "6efbbab249264f18b65752e615cae8346f52f93f6d90de10d5dd06c3cd30e4ff"), looks := false }, kinds := [], alts := [], laidByText := true, laidKinds := [.data], laidTests := true, laidLooks := .later }
def TameStaysUptoCardSaid : Prop := Claim7.holds Tryd.pinned (.plain (OpenSpec.upto tameStaysSpec)) tameStaysUptoCard
end Rows
end Go.Proofs.YtjafcnbghbfehaaDoor
