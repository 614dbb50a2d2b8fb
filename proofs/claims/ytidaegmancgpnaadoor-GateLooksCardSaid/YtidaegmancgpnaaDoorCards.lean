/-
  DERIVED. GIVEN WITH THE SEED: THE CARDS: each row of YtidaegmancgpnaaDoorRows.lean that lists a variable, with what it lists TIED to the program's text (the seventh form; the later family's looks); each row that meets fmt, with fmt's text TOLD by the authors' own Lean function (tested against real Go, not proved from fmt's source: count such statements apart). THE CARD IS WHAT COUNTS. Prove the row's statement (the work); the ties are given (YtidaegmancgpnaaDoorTie.lean); close each card by the builder's one call (the guide's Derived/Test/ToyasCard.lean, 'card_holds'). Laid BY PROGRAM, IN A SANDBOX (cutbox-door.mjs). By AI agents, Wed Nov 11 2026. No macro, syntax, notation, axiom, sorry.
-/
import Derived.Test.YtidaegmancgpnaaDoorRows
import GoSem.ClaimSeven
namespace Go.Proofs.YtidaegmancgpnaaDoor
namespace Rows

/-- THE TIED CARD OF 'aneroidlaw10.GateLooks'. -/
def gateLooksCard : Claim7 := { stood := { row := gateLooksRow, standIns := [], harness := (true, "6387a7625855e0c1aee8052172b15a202f6d14a7a00228a0954b9d0312fce2de"), looks := false }, kinds := [], alts := [], laidByText := true, laidKinds := [.data], laidTests := true, laidLooks := .later }
def GateLooksCardSaid : Prop := Claim7.holds Tryd.pinned (.plain (OpenSpec.ofChange gateLooksSpec)) gateLooksCard

/-- THE SECOND FORM's CARD OF 'aneroidlaw10.GateLooks'. -/
def gateLooksUptoCard : Claim7 := { stood := { row := gateLooksUptoRow, standIns := [], harness := (true, "6387a7625855e0c1aee8052172b15a202f6d14a7a00228a0954b9d0312fce2de"), looks := false }, kinds := [], alts := [], laidByText := true, laidKinds := [.data], laidTests := true, laidLooks := .later }
def GateLooksUptoCardSaid : Prop := Claim7.holds Tryd.pinned (.plain (OpenSpec.upto gateLooksSpec)) gateLooksUptoCard
end Rows
end Go.Proofs.YtidaegmancgpnaaDoor
