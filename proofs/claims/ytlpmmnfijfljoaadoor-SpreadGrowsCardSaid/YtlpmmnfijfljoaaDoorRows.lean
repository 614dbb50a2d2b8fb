/-
  NARROWER THAN 'FOR EVERY INPUT', by the rows' own cells (each row's printed sentence says how): SpreadOn: laid · SpreadGrows: laid · SpreadAdds: laid.
  DERIVED. THE GIVEN ROWS OF THIS SEAT. 3 by the template 'for every input the law returns true; each argument reads behind the call as it read before'; 0 by the template 'total and deterministic' (their statements: YtlpmmnfijfljoaaDoorTotals.lean).
  GIVEN WITH THE SEED: the statements are not yours to turn. If you find one false, say at which input.
  Laid BY PROGRAM, IN A SANDBOX (cutbox-rows.mjs): the forced cells as the released guide's own fill.sh prints them over the translation 7f9dacdb619c9b4a… (all of the seat's roots in one cut). By AI agents, Wed Nov 11 2026. No macro, syntax, notation, axiom, sorry.
-/
import Derived.Test.YtlpmmnfijfljoaaDoorChecked
import GoSem.Claim
import GoSem.ClaimJoined
import GoSem.ClaimMapViews
import Derived.JoinedTies
import Derived.KernelRfl
namespace Go.Proofs.YtlpmmnfijfljoaaDoor
/- THE CELL 'sum', in the pinned program and in every row, IS THE sha256 OF THE DUMP (.gsa) THAT YtlpmmnfijfljoaaDoorProg.lean LOADS. Nothing in Lean hashes anything: it is a label: what it is worth is what the hold of that sum in a sandbox is worth. -/
noncomputable def Tryd.pinned : Pinned := { name := "ytlpmmnfijfljoaadoor", sum := "7f9dacdb619c9b4a1d1c6b8e821e67a5f12ae4bf0dcd02df2bf61d42cdc3d0e7", checked := Tryd.checked }
namespace Rows
def none {H : Type} : Left H := { results := [], args := [] }

/- WHAT THE LISTED PACKAGE-LEVEL VARIABLES READ AS WHEN THE CALL BEGINS. Each datum BY PROGRAM (the guide's laid-datum.mjs) off the statement by which the dump's own 'gosem.cut.vars' lays the variable. In a bare row this is a premise. The card (YtlpmmnfijfljoaaDoorCards.lean) ties it to the program's text. -/
def laid_aneroid_sym_places {H : Type} : DataW H := .agg [.agg [.lit (.int .i64 0), .lit (.int .i64 1), .lit (.int .i64 2)], .agg [.lit (.int .i64 1), .lit (.int .i64 3), .lit (.int .i64 4)], .agg [.lit (.int .i64 2), .lit (.int .i64 4), .lit (.int .i64 5)]]
def laid_aneroid_spread_moves {H : Type} : DataW H := .agg [.agg [.lit (.int .i64 32768), .lit (.int .i64 256), .lit (.int .i64 (-1))], .agg [.lit (.int .i64 0), .lit (.int .i64 32768), .lit (.int .i64 (-256))], .agg [.lit (.int .i64 0), .lit (.int .i64 0), .lit (.int .i64 32768)]]

/-- 'aneroidlaw08.SpreadOn': WHATEVER THE INPUT: true; the input reads as it did. -/
def spreadOnSpec : ChangeSpec := { name := "spreadOn", fn := fun _ => fun
  | [d1, d2] => { results := [.lit (.bool true)], args := [d1, d2] }
  | _ => none }
def spreadOnRow : OpenClaim := { program := "ytlpmmnfijfljoaadoor", sum := "7f9dacdb619c9b4a1d1c6b8e821e67a5f12ae4bf0dcd02df2bf61d42cdc3d0e7", func := "aneroid/aneroidlaw08.SpreadOn", spec := "spreadOn", inPlace := ["math/bits.Add64", "math/bits.Sub64"], unfollowed := true, recurses := true, named := ["aneroid/spread.moves", "aneroid/sym.places"], apart := false, laid := [("aneroid/sym.places", laid_aneroid_sym_places), ("aneroid/spread.moves", laid_aneroid_spread_moves)] }
def SpreadOnSaid : Prop := spreadOnRow.holds Tryd.pinned (OpenSpec.ofChange spreadOnSpec)

/-- ITS FALSE NEIGHBOUR: 'it returns false'. Refute it at one input. -/
def spreadOnWrong : ChangeSpec := { name := "spreadOn", fn := fun _ => fun
  | [d1, d2] => { results := [.lit (.bool false)], args := [d1, d2] }
  | _ => none }
def SpreadOnWrongFalsely : Prop := spreadOnRow.holds Tryd.pinned (OpenSpec.ofChange spreadOnWrong)

/-- 'aneroidlaw08.SpreadGrows': WHATEVER THE INPUT: true; the input reads as it did. -/
def spreadGrowsSpec : ChangeSpec := { name := "spreadGrows", fn := fun _ => fun
  | [d1, d2] => { results := [.lit (.bool true)], args := [d1, d2] }
  | _ => none }
def spreadGrowsRow : OpenClaim := { program := "ytlpmmnfijfljoaadoor", sum := "7f9dacdb619c9b4a1d1c6b8e821e67a5f12ae4bf0dcd02df2bf61d42cdc3d0e7", func := "aneroid/aneroidlaw08.SpreadGrows", spec := "spreadGrows", inPlace := ["math/bits.Add64", "math/bits.Sub64"], unfollowed := true, recurses := true, named := ["aneroid/sym.places", "aneroid/spread.moves"], apart := false, laid := [("aneroid/sym.places", laid_aneroid_sym_places), ("aneroid/spread.moves", laid_aneroid_spread_moves)] }
def SpreadGrowsSaid : Prop := spreadGrowsRow.holds Tryd.pinned (OpenSpec.ofChange spreadGrowsSpec)

/-- ITS FALSE NEIGHBOUR: 'it returns false'. Refute it at one input. -/
def spreadGrowsWrong : ChangeSpec := { name := "spreadGrows", fn := fun _ => fun
  | [d1, d2] => { results := [.lit (.bool false)], args := [d1, d2] }
  | _ => none }
def SpreadGrowsWrongFalsely : Prop := spreadGrowsRow.holds Tryd.pinned (OpenSpec.ofChange spreadGrowsWrong)

/-- 'aneroidlaw08.SpreadAdds': WHATEVER THE INPUT: true; the input reads as it did. -/
def spreadAddsSpec : ChangeSpec := { name := "spreadAdds", fn := fun _ => fun
  | [d1, d2, d3] => { results := [.lit (.bool true)], args := [d1, d2, d3] }
  | _ => none }
def spreadAddsRow : OpenClaim := { program := "ytlpmmnfijfljoaadoor", sum := "7f9dacdb619c9b4a1d1c6b8e821e67a5f12ae4bf0dcd02df2bf61d42cdc3d0e7", func := "aneroid/aneroidlaw08.SpreadAdds", spec := "spreadAdds", inPlace := ["math/bits.Add64", "math/bits.Sub64"], unfollowed := true, recurses := true, named := ["aneroid/spread.moves", "aneroid/sym.places"], apart := false, laid := [("aneroid/sym.places", laid_aneroid_sym_places), ("aneroid/spread.moves", laid_aneroid_spread_moves)] }
def SpreadAddsSaid : Prop := spreadAddsRow.holds Tryd.pinned (OpenSpec.ofChange spreadAddsSpec)

/-- ITS FALSE NEIGHBOUR: 'it returns false'. Refute it at one input. -/
def spreadAddsWrong : ChangeSpec := { name := "spreadAdds", fn := fun _ => fun
  | [d1, d2, d3] => { results := [.lit (.bool false)], args := [d1, d2, d3] }
  | _ => none }
def SpreadAddsWrongFalsely : Prop := spreadAddsRow.holds Tryd.pinned (OpenSpec.ofChange spreadAddsWrong)

/- THE SECOND FORM. 'bulk': how many values and letters a reading holds, each counted each time it is reached (what is shared counts as often as it is met; a slice's spare places count too). A statement '..UptoSaid' is the law's where the arguments, and the package variables that the reading takes, are together of bulk at most 1048576: NARROWER than '..Said'. Prove '..Said' where nothing that the law and all that it calls make is longer than what came in: it says more and counts as full. Else prove '..UptoSaid'. A law counts once. -/
mutual
def uptoBulk {H : Type} : DataW H → Nat
  | .lit (.string bytes) => bytes.length + 1
  | .lit _ => 1
  | .nil => 1
  | .ptr d => uptoBulk d + 1
  | .slice elems spare => uptoBulkAll elems + uptoBulkAll spare + 1
  | .agg parts => uptoBulkAll parts + 1
  | .iface _ d => uptoBulk d + 1
  | .map entries => uptoBulkEntries entries + 1
  | .held _ => 1
def uptoBulkAll {H : Type} : List (DataW H) → Nat
  | [] => 0
  | d :: r => uptoBulk d + uptoBulkAll r
def uptoBulkEntries {H : Type} : List (Lit × DataW H) → Nat
  | [] => 0
  | x :: r => uptoBulkEntry x + uptoBulkEntries r
def uptoBulkEntry {H : Type} : Lit × DataW H → Nat
  | (.string bytes, d) => bytes.length + uptoBulk d + 1
  | (_, d) => uptoBulk d + 1
 end
def uptoSmall : (H : Type) → List (DataW H) → Bool := fun _ ds => decide (uptoBulkAll ds ≤ 1048576)
def OpenSpec.upto (s : _root_.Go.ChangeSpec) : _root_.Go.OpenSpec := { _root_.Go.OpenSpec.ofChange s with cond := some uptoSmall }

/-- 'aneroidlaw08.SpreadOn', WHERE WHAT IT READS IS OF BULK AT MOST 1048576: true; the input reads as it did. -/
def spreadOnUptoRow : OpenClaim := { program := "ytlpmmnfijfljoaadoor", sum := "7f9dacdb619c9b4a1d1c6b8e821e67a5f12ae4bf0dcd02df2bf61d42cdc3d0e7", func := "aneroid/aneroidlaw08.SpreadOn", spec := "spreadOn", inPlace := ["math/bits.Add64", "math/bits.Sub64"], unfollowed := true, recurses := true, named := ["aneroid/spread.moves", "aneroid/sym.places"], apart := false, laid := [("aneroid/sym.places", laid_aneroid_sym_places), ("aneroid/spread.moves", laid_aneroid_spread_moves)], narrowed := true }
def SpreadOnUptoSaid : Prop := spreadOnUptoRow.holds Tryd.pinned (OpenSpec.upto spreadOnSpec)

/-- 'aneroidlaw08.SpreadGrows', WHERE WHAT IT READS IS OF BULK AT MOST 1048576: true; the input reads as it did. -/
def spreadGrowsUptoRow : OpenClaim := { program := "ytlpmmnfijfljoaadoor", sum := "7f9dacdb619c9b4a1d1c6b8e821e67a5f12ae4bf0dcd02df2bf61d42cdc3d0e7", func := "aneroid/aneroidlaw08.SpreadGrows", spec := "spreadGrows", inPlace := ["math/bits.Add64", "math/bits.Sub64"], unfollowed := true, recurses := true, named := ["aneroid/sym.places", "aneroid/spread.moves"], apart := false, laid := [("aneroid/sym.places", laid_aneroid_sym_places), ("aneroid/spread.moves", laid_aneroid_spread_moves)], narrowed := true }
def SpreadGrowsUptoSaid : Prop := spreadGrowsUptoRow.holds Tryd.pinned (OpenSpec.upto spreadGrowsSpec)

/-- 'aneroidlaw08.SpreadAdds', WHERE WHAT IT READS IS OF BULK AT MOST 1048576: true; the input reads as it did. -/
def spreadAddsUptoRow : OpenClaim := { program := "ytlpmmnfijfljoaadoor", sum := "7f9dacdb619c9b4a1d1c6b8e821e67a5f12ae4bf0dcd02df2bf61d42cdc3d0e7", func := "aneroid/aneroidlaw08.SpreadAdds", spec := "spreadAdds", inPlace := ["math/bits.Add64", "math/bits.Sub64"], unfollowed := true, recurses := true, named := ["aneroid/spread.moves", "aneroid/sym.places"], apart := false, laid := [("aneroid/sym.places", laid_aneroid_sym_places), ("aneroid/spread.moves", laid_aneroid_spread_moves)], narrowed := true }
def SpreadAddsUptoSaid : Prop := spreadAddsUptoRow.holds Tryd.pinned (OpenSpec.upto spreadAddsSpec)

end Rows
end Go.Proofs.YtlpmmnfijfljoaaDoor
