/-
  NARROWER THAN 'FOR EVERY INPUT', by the rows' own cells (each row's printed sentence says how): GainPlays: laid · GainMild: laid · GainLess: laid.
  DERIVED. THE GIVEN ROWS OF THIS SEAT. 3 by the template 'for every input the law returns true; each argument reads behind the call as it read before'; 0 by the template 'total and deterministic' (their statements: YtccpcabhcfpbfaaDoorTotals.lean).
  GIVEN WITH THE SEED: the statements are not yours to turn. If you find one false, say at which input.
  Laid BY PROGRAM, IN A SANDBOX (cutbox-rows.mjs): the forced cells as the released guide's own fill.sh prints them over the translation 9d122626e544dd1a… (all of the seat's roots in one cut). By AI agents, Wed Nov 11 2026. No macro, syntax, notation, axiom, sorry.
-/
import Derived.Test.YtccpcabhcfpbfaaDoorChecked
import GoSem.Claim
import GoSem.ClaimJoined
import GoSem.ClaimMapViews
import Derived.JoinedTies
import Derived.KernelRfl
namespace Go.Proofs.YtccpcabhcfpbfaaDoor
/- THE CELL 'sum', in the pinned program and in every row, IS THE sha256 OF THE DUMP (.gsa) THAT YtccpcabhcfpbfaaDoorProg.lean LOADS. Nothing in Lean hashes anything: it is a label: what it is worth is what the hold of that sum in a sandbox is worth. -/
noncomputable def Tryd.pinned : Pinned := { name := "ytccpcabhcfpbfaadoor", sum := "9d122626e544dd1ad30836702d4eb140fc955e8b9b0a0039770ada52d2c7104e", checked := Tryd.checked }
namespace Rows
def none {H : Type} : Left H := { results := [], args := [] }

/- WHAT THE LISTED PACKAGE-LEVEL VARIABLES READ AS WHEN THE CALL BEGINS. Each datum BY PROGRAM (the guide's laid-datum.mjs) off the statement by which the dump's own 'gosem.cut.vars' lays the variable. In a bare row this is a premise. The card (YtccpcabhcfpbfaaDoorCards.lean) ties it to the program's text. -/
def laid_aneroid_sym_places {H : Type} : DataW H := .agg [.agg [.lit (.int .i64 0), .lit (.int .i64 1), .lit (.int .i64 2)], .agg [.lit (.int .i64 1), .lit (.int .i64 3), .lit (.int .i64 4)], .agg [.lit (.int .i64 2), .lit (.int .i64 4), .lit (.int .i64 5)]]

/-- 'aneroidlaw11.GainPlays': WHATEVER THE INPUT: true; the input reads as it did. -/
def gainPlaysSpec : ChangeSpec := { name := "gainPlays", fn := fun _ => fun
  | [d] => { results := [.lit (.bool true)], args := [d] }
  | _ => none }
def gainPlaysRow : OpenClaim := { program := "ytccpcabhcfpbfaadoor", sum := "9d122626e544dd1ad30836702d4eb140fc955e8b9b0a0039770ada52d2c7104e", func := "aneroid/aneroidlaw11.GainPlays", spec := "gainPlays", inPlace := ["math/bits.Sub64", "math/bits.Add64"], unfollowed := true, recurses := true, named := ["aneroid/sym.places"], apart := false, laid := [("aneroid/sym.places", laid_aneroid_sym_places)] }
def GainPlaysSaid : Prop := gainPlaysRow.holds Tryd.pinned (OpenSpec.ofChange gainPlaysSpec)

/-- ITS FALSE NEIGHBOUR: 'it returns false'. Refute it at one input. -/
def gainPlaysWrong : ChangeSpec := { name := "gainPlays", fn := fun _ => fun
  | [d] => { results := [.lit (.bool false)], args := [d] }
  | _ => none }
def GainPlaysWrongFalsely : Prop := gainPlaysRow.holds Tryd.pinned (OpenSpec.ofChange gainPlaysWrong)

/-- 'aneroidlaw11.GainMild': WHATEVER THE INPUT: true; the input reads as it did. -/
def gainMildSpec : ChangeSpec := { name := "gainMild", fn := fun _ => fun
  | [d1, d2] => { results := [.lit (.bool true)], args := [d1, d2] }
  | _ => none }
def gainMildRow : OpenClaim := { program := "ytccpcabhcfpbfaadoor", sum := "9d122626e544dd1ad30836702d4eb140fc955e8b9b0a0039770ada52d2c7104e", func := "aneroid/aneroidlaw11.GainMild", spec := "gainMild", inPlace := ["math/bits.Sub64", "math/bits.Add64"], unfollowed := true, recurses := true, named := ["aneroid/sym.places"], apart := false, laid := [("aneroid/sym.places", laid_aneroid_sym_places)] }
def GainMildSaid : Prop := gainMildRow.holds Tryd.pinned (OpenSpec.ofChange gainMildSpec)

/-- ITS FALSE NEIGHBOUR: 'it returns false'. Refute it at one input. -/
def gainMildWrong : ChangeSpec := { name := "gainMild", fn := fun _ => fun
  | [d1, d2] => { results := [.lit (.bool false)], args := [d1, d2] }
  | _ => none }
def GainMildWrongFalsely : Prop := gainMildRow.holds Tryd.pinned (OpenSpec.ofChange gainMildWrong)

/-- 'aneroidlaw11.GainLess': WHATEVER THE INPUT: true; the input reads as it did. -/
def gainLessSpec : ChangeSpec := { name := "gainLess", fn := fun _ => fun
  | [d1, d2, d3] => { results := [.lit (.bool true)], args := [d1, d2, d3] }
  | _ => none }
def gainLessRow : OpenClaim := { program := "ytccpcabhcfpbfaadoor", sum := "9d122626e544dd1ad30836702d4eb140fc955e8b9b0a0039770ada52d2c7104e", func := "aneroid/aneroidlaw11.GainLess", spec := "gainLess", inPlace := ["math/bits.Sub64", "math/bits.Add64"], unfollowed := true, recurses := true, named := ["aneroid/sym.places"], apart := false, laid := [("aneroid/sym.places", laid_aneroid_sym_places)] }
def GainLessSaid : Prop := gainLessRow.holds Tryd.pinned (OpenSpec.ofChange gainLessSpec)

/-- ITS FALSE NEIGHBOUR: 'it returns false'. Refute it at one input. -/
def gainLessWrong : ChangeSpec := { name := "gainLess", fn := fun _ => fun
  | [d1, d2, d3] => { results := [.lit (.bool false)], args := [d1, d2, d3] }
  | _ => none }
def GainLessWrongFalsely : Prop := gainLessRow.holds Tryd.pinned (OpenSpec.ofChange gainLessWrong)

/- THE SECOND FORM. 'bulk': how many values and letters a reading holds, each counted each time it is reached (what is shared counts as often as it is met; a slice's spare places count too). A statement '..UptoSaid' is the law's where the arguments, and the package variables that the reading takes, are together of bulk at most 1048576: NARROWER than '..Said'. Prove '..Said' where nothing that the law and all that it calls make is longer than what came in: it says more and counts as full. Else prove '..UptoSaid'. A law counts once. -/
mutual
def uptoBulk {H : Type} : DataW H → Nat
  | .lit (.string bytes) => bytes.length + 1
  | .lit _ => 1
  | .nil => 1
  | .ptr d => uptoBulk d + 1
  | .slice elems spare => uptoBulkAll elems + uptoBulkAll spare + 1
  | .agg parts => uptoBulkAll parts + 1
  | .iface _ d => uptoBulk d + 1
  | .map entries => uptoBulkEntries entries + 1
  | .held _ => 1
def uptoBulkAll {H : Type} : List (DataW H) → Nat
  | [] => 0
  | d :: r => uptoBulk d + uptoBulkAll r
def uptoBulkEntries {H : Type} : List (Lit × DataW H) → Nat
  | [] => 0
  | x :: r => uptoBulkEntry x + uptoBulkEntries r
def uptoBulkEntry {H : Type} : Lit × DataW H → Nat
  | (.string bytes, d) => bytes.length + uptoBulk d + 1
  | (_, d) => uptoBulk d + 1
 end
def uptoSmall : (H : Type) → List (DataW H) → Bool := fun _ ds => decide (uptoBulkAll ds ≤ 1048576)
def OpenSpec.upto (s : _root_.Go.ChangeSpec) : _root_.Go.OpenSpec := { _root_.Go.OpenSpec.ofChange s with cond := some uptoSmall }

/-- 'aneroidlaw11.GainPlays', WHERE WHAT IT READS IS OF BULK AT MOST 1048576: true; the input reads as it did. -/
def gainPlaysUptoRow : OpenClaim := { program := "ytccpcabhcfpbfaadoor", sum := "9d122626e544dd1ad30836702d4eb140fc955e8b9b0a0039770ada52d2c7104e", func := "aneroid/aneroidlaw11.GainPlays", spec := "gainPlays", inPlace := ["math/bits.Sub64", "math/bits.Add64"], unfollowed := true, recurses := true, named := ["aneroid/sym.places"], apart := false, laid := [("aneroid/sym.places", laid_aneroid_sym_places)], narrowed := true }
def GainPlaysUptoSaid : Prop := gainPlaysUptoRow.holds Tryd.pinned (OpenSpec.upto gainPlaysSpec)

/-- 'aneroidlaw11.GainMild', WHERE WHAT IT READS IS OF BULK AT MOST 1048576: true; the input reads as it did. -/
def gainMildUptoRow : OpenClaim := { program := "ytccpcabhcfpbfaadoor", sum := "9d122626e544dd1ad30836702d4eb140fc955e8b9b0a0039770ada52d2c7104e", func := "aneroid/aneroidlaw11.GainMild", spec := "gainMild", inPlace := ["math/bits.Sub64", "math/bits.Add64"], unfollowed := true, recurses := true, named := ["aneroid/sym.places"], apart := false, laid := [("aneroid/sym.places", laid_aneroid_sym_places)], narrowed := true }
def GainMildUptoSaid : Prop := gainMildUptoRow.holds Tryd.pinned (OpenSpec.upto gainMildSpec)

/-- 'aneroidlaw11.GainLess', WHERE WHAT IT READS IS OF BULK AT MOST 1048576: true; the input reads as it did. -/
def gainLessUptoRow : OpenClaim := { program := "ytccpcabhcfpbfaadoor", sum := "9d122626e544dd1ad30836702d4eb140fc955e8b9b0a0039770ada52d2c7104e", func := "aneroid/aneroidlaw11.GainLess", spec := "gainLess", inPlace := ["math/bits.Sub64", "math/bits.Add64"], unfollowed := true, recurses := true, named := ["aneroid/sym.places"], apart := false, laid := [("aneroid/sym.places", laid_aneroid_sym_places)], narrowed := true }
def GainLessUptoSaid : Prop := gainLessUptoRow.holds Tryd.pinned (OpenSpec.upto gainLessSpec)

end Rows
end Go.Proofs.YtccpcabhcfpbfaaDoor
