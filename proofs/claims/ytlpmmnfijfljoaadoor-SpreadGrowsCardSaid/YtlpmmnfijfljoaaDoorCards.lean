/-
  DERIVED. GIVEN WITH THE SEED: THE CARDS: each row of YtlpmmnfijfljoaaDoorRows.lean that lists a variable, with what it lists TIED to the program's text (the seventh form; the later family's looks); each row that meets fmt, with fmt's text TOLD by the authors' own Lean function (tested against real Go, not proved from fmt's source: count such statements apart). THE CARD IS WHAT COUNTS. Prove the row's statement (the work); the ties are given (YtlpmmnfijfljoaaDoorTie.lean); close each card by the builder's one call (the guide's Derived/Test/ToyasCard.lean, 'card_holds'). Laid BY PROGRAM, IN A SANDBOX (cutbox-door.mjs). By AI agents, Wed Nov 11 2026. No macro, syntax, notation, axiom, sorry.
-/
import Derived.Test.YtlpmmnfijfljoaaDoorRows
import GoSem.ClaimSeven
namespace Go.Proofs.YtlpmmnfijfljoaaDoor
namespace Rows

/-- THE TIED CARD OF 'aneroidlaw08.SpreadOn'. -/
def spreadOnCard : Claim7 := { stood := { row := spreadOnRow, standIns := [], harness := (true, "37aa7d86f50daf2216f604d932c66d4d9bfc4a828b24f345e371fa415379f6b6"), looks := false }, kinds := [], alts := [], laidByText := true, laidKinds := [.data, .data], laidTests := true, laidLooks := .later }
def SpreadOnCardSaid : Prop := Claim7.holds Tryd.pinned (.plain (OpenSpec.ofChange spreadOnSpec)) spreadOnCard

/-- THE TIED CARD OF 'aneroidlaw08.SpreadGrows'. -/
def spreadGrowsCard : Claim7 := { stood := { row := spreadGrowsRow, standIns := [], harness := (true, "37aa7d86f50daf2216f604d932c66d4d9bfc4a828b24f345e371fa415379f6b6"), looks := false }, kinds := [], alts := [], laidByText := true, laidKinds := [.data, .data], laidTests := true, laidLooks := .later }
def SpreadGrowsCardSaid : Prop := Claim7.holds Tryd.pinned (.plain (OpenSpec.ofChange spreadGrowsSpec)) spreadGrowsCard

/-- THE TIED CARD OF 'aneroidlaw08.SpreadAdds'. -/
def spreadAddsCard : Claim7 := { stood := { row := spreadAddsRow, standIns := [], harness := (true, "37aa7d86f50daf2216f604d932c66d4d9bfc4a828b24f345e371fa415379f6b6"), looks := false }, kinds := [], alts := [], laidByText := true, laidKinds := [.data, .data], laidTests := true, laidLooks := .later }
def SpreadAddsCardSaid : Prop := Claim7.holds Tryd.pinned (.plain (OpenSpec.ofChange spreadAddsSpec)) spreadAddsCard

/-- THE SECOND FORM's CARD OF 'aneroidlaw08.SpreadOn'. -/
def spreadOnUptoCard : Claim7 := { stood := { row := spreadOnUptoRow, standIns := [], harness := (true, "37aa7d86f50daf2216f604d932c66d4d9bfc4a828b24f345e371fa415379f6b6"), looks := false }, kinds := [], alts := [], laidByText := true, laidKinds := [.data, .data], laidTests := true, laidLooks := .later }
def SpreadOnUptoCardSaid : Prop := Claim7.holds Tryd.pinned (.plain (OpenSpec.upto spreadOnSpec)) spreadOnUptoCard

/-- THE SECOND FORM's CARD OF 'aneroidlaw08.SpreadGrows'. -/
def spreadGrowsUptoCard : Claim7 := { stood := { row := spreadGrowsUptoRow, standIns := [], harness := (true, "37aa7d86f50daf2216f604d932c66d4d9bfc4a828b24f345e371fa415379f6b6"), looks := false }, kinds := [], alts := [], laidByText := true, laidKinds := [.data, .data], laidTests := true, laidLooks := .later }
def SpreadGrowsUptoCardSaid : Prop := Claim7.holds Tryd.pinned (.plain (OpenSpec.upto spreadGrowsSpec)) spreadGrowsUptoCard

/-- THE SECOND FORM's CARD OF 'aneroidlaw08.SpreadAdds'. -/
def spreadAddsUptoCard : Claim7 := { stood := { row := spreadAddsUptoRow, standIns := [], harness := (true, "37aa7d86f50daf2216f604d932c66d4d9bfc4a828b24f345e371fa415379f6b6"), looks := false }, kinds := [], alts := [], laidByText := true, laidKinds := [.data, .data], laidTests := true, laidLooks := .later }
def SpreadAddsUptoCardSaid : Prop := Claim7.holds Tryd.pinned (.plain (OpenSpec.upto spreadAddsSpec)) spreadAddsUptoCard
end Rows
end Go.Proofs.YtlpmmnfijfljoaaDoor
