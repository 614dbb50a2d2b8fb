/-
  NARROWER THAN 'FOR EVERY INPUT', by the rows' own cells (each row's printed sentence says how): GroundPlays: laid · GroundBelow: laid.
  DERIVED. THE GIVEN ROWS OF THIS SEAT. 2 by the template 'for every input the law returns true; each argument reads behind the call as it read before'; 0 by the template 'total and deterministic' (their statements: YthnaeoagooahbaaDoorTotals.lean).
  GIVEN WITH THE SEED: the statements are not yours to turn. If you find one false, say at which input.
  Laid BY PROGRAM, IN A SANDBOX (cutbox-rows.mjs): the forced cells as the released guide's own fill.sh prints them over the translation 55dc95b2f6aaf2d3… (all of the seat's roots in one cut). By AI agents, Wed Nov 11 2026. No macro, syntax, notation, axiom, sorry.
-/
import Derived.Test.YthnaeoagooahbaaDoorChecked
import GoSem.Claim
import GoSem.ClaimJoined
import GoSem.ClaimMapViews
import Derived.JoinedTies
import Derived.KernelRfl
namespace Go.Proofs.YthnaeoagooahbaaDoor
/- THE CELL 'sum', in the pinned program and in every row, IS THE sha256 OF THE DUMP (.gsa) THAT YthnaeoagooahbaaDoorProg.lean LOADS. Nothing in Lean hashes anything: it is a label: what it is worth is what the hold of that sum in a sandbox is worth. -/
noncomputable def Tryd.pinned : Pinned := { name := "ythnaeoagooahbaadoor", sum := "55dc95b2f6aaf2d351ecf12cb7d2eb74ff659a62567670cb0e7054608be5f9d0", checked := Tryd.checked }
namespace Rows
def none {H : Type} : Left H := { results := [], args := [] }

/- WHAT THE LISTED PACKAGE-LEVEL VARIABLES READ AS WHEN THE CALL BEGINS. Each datum BY PROGRAM (the guide's laid-datum.mjs) off the statement by which the dump's own 'gosem.cut.vars' lays the variable. In a bare row this is a premise. The card (YthnaeoagooahbaaDoorCards.lean) ties it to the program's text. -/
def laid_aneroid_atmos_counts {H : Type} : DataW H := .agg [.lit (.int .i64 430515), .lit (.int .i64 417754), .lit (.int .i64 405300), .lit (.int .i64 393149), .lit (.int .i64 381294), .lit (.int .i64 369731), .lit (.int .i64 358453), .lit (.int .i64 347455), .lit (.int .i64 336732), .lit (.int .i64 326279), .lit (.int .i64 316090), .lit (.int .i64 306161), .lit (.int .i64 296485), .lit (.int .i64 287058), .lit (.int .i64 277876), .lit (.int .i64 268933), .lit (.int .i64 260224), .lit (.int .i64 251746), .lit (.int .i64 243492), .lit (.int .i64 235459), .lit (.int .i64 227641), .lit (.int .i64 220036), .lit (.int .i64 212637), .lit (.int .i64 205441), .lit (.int .i64 198444), .lit (.int .i64 191640), .lit (.int .i64 185027), .lit (.int .i64 178600), .lit (.int .i64 172355), .lit (.int .i64 166288), .lit (.int .i64 160395), .lit (.int .i64 154672), .lit (.int .i64 149116), .lit (.int .i64 143723), .lit (.int .i64 138488), .lit (.int .i64 133409), .lit (.int .i64 128482), .lit (.int .i64 123703), .lit (.int .i64 119069), .lit (.int .i64 114577), .lit (.int .i64 110223), .lit (.int .i64 106004), .lit (.int .i64 101917), .lit (.int .i64 97958), .lit (.int .i64 94125), .lit (.int .i64 90414), .lit (.int .i64 86822)]

/-- 'aneroidlaw18.GroundPlays': WHATEVER THE INPUT: true; the input reads as it did. -/
def groundPlaysSpec : ChangeSpec := { name := "groundPlays", fn := fun _ => fun
  | [d1, d2] => { results := [.lit (.bool true)], args := [d1, d2] }
  | _ => none }
def groundPlaysRow : OpenClaim := { program := "ythnaeoagooahbaadoor", sum := "55dc95b2f6aaf2d351ecf12cb7d2eb74ff659a62567670cb0e7054608be5f9d0", func := "aneroid/aneroidlaw18.GroundPlays", spec := "groundPlays", unfollowed := true, recurses := true, named := ["aneroid/atmos.counts"], apart := false, laid := [("aneroid/atmos.counts", laid_aneroid_atmos_counts)] }
def GroundPlaysSaid : Prop := groundPlaysRow.holds Tryd.pinned (OpenSpec.ofChange groundPlaysSpec)

/-- ITS FALSE NEIGHBOUR: 'it returns false'. Refute it at one input. -/
def groundPlaysWrong : ChangeSpec := { name := "groundPlays", fn := fun _ => fun
  | [d1, d2] => { results := [.lit (.bool false)], args := [d1, d2] }
  | _ => none }
def GroundPlaysWrongFalsely : Prop := groundPlaysRow.holds Tryd.pinned (OpenSpec.ofChange groundPlaysWrong)

/-- 'aneroidlaw18.GroundBelow': WHATEVER THE INPUT: true; the input reads as it did. -/
def groundBelowSpec : ChangeSpec := { name := "groundBelow", fn := fun _ => fun
  | [d1, d2, d3] => { results := [.lit (.bool true)], args := [d1, d2, d3] }
  | _ => none }
def groundBelowRow : OpenClaim := { program := "ythnaeoagooahbaadoor", sum := "55dc95b2f6aaf2d351ecf12cb7d2eb74ff659a62567670cb0e7054608be5f9d0", func := "aneroid/aneroidlaw18.GroundBelow", spec := "groundBelow", unfollowed := true, recurses := true, named := ["aneroid/atmos.counts"], apart := false, laid := [("aneroid/atmos.counts", laid_aneroid_atmos_counts)] }
def GroundBelowSaid : Prop := groundBelowRow.holds Tryd.pinned (OpenSpec.ofChange groundBelowSpec)

/-- ITS FALSE NEIGHBOUR: 'it returns false'. Refute it at one input. -/
def groundBelowWrong : ChangeSpec := { name := "groundBelow", fn := fun _ => fun
  | [d1, d2, d3] => { results := [.lit (.bool false)], args := [d1, d2, d3] }
  | _ => none }
def GroundBelowWrongFalsely : Prop := groundBelowRow.holds Tryd.pinned (OpenSpec.ofChange groundBelowWrong)

/- THE SECOND FORM. 'bulk': how many values and letters a reading holds, each counted each time it is reached (what is shared counts as often as it is met; a slice's spare places count too). A statement '..UptoSaid' is the law's where the arguments, and the package variables that the reading takes, are together of bulk at most 1048576: NARROWER than '..Said'. Prove '..Said' where nothing that the law and all that it calls make is longer than what came in: it says more and counts as full. Else prove '..UptoSaid'. A law counts once. -/
mutual
def uptoBulk {H : Type} : DataW H → Nat
  | .lit (.string bytes) => bytes.length + 1
  | .lit _ => 1
  | .nil => 1
  | .ptr d => uptoBulk d + 1
  | .slice elems spare => uptoBulkAll elems + uptoBulkAll spare + 1
  | .agg parts => uptoBulkAll parts + 1
  | .iface _ d => uptoBulk d + 1
  | .map entries => uptoBulkEntries entries + 1
  | .held _ => 1
def uptoBulkAll {H : Type} : List (DataW H) → Nat
  | [] => 0
  | d :: r => uptoBulk d + uptoBulkAll r
def uptoBulkEntries {H : Type} : List (Lit × DataW H) → Nat
  | [] => 0
  | x :: r => uptoBulkEntry x + uptoBulkEntries r
def uptoBulkEntry {H : Type} : Lit × DataW H → Nat
  | (.string bytes, d) => bytes.length + uptoBulk d + 1
  | (_, d) => uptoBulk d + 1
 end
def uptoSmall : (H : Type) → List (DataW H) → Bool := fun _ ds => decide (uptoBulkAll ds ≤ 1048576)
def OpenSpec.upto (s : _root_.Go.ChangeSpec) : _root_.Go.OpenSpec := { _root_.Go.OpenSpec.ofChange s with cond := some uptoSmall }

/-- 'aneroidlaw18.GroundPlays', WHERE WHAT IT READS IS OF BULK AT MOST 1048576: true; the input reads as it did. -/
def groundPlaysUptoRow : OpenClaim := { program := "ythnaeoagooahbaadoor", sum := "55dc95b2f6aaf2d351ecf12cb7d2eb74ff659a62567670cb0e7054608be5f9d0", func := "aneroid/aneroidlaw18.GroundPlays", spec := "groundPlays", unfollowed := true, recurses := true, named := ["aneroid/atmos.counts"], apart := false, laid := [("aneroid/atmos.counts", laid_aneroid_atmos_counts)], narrowed := true }
def GroundPlaysUptoSaid : Prop := groundPlaysUptoRow.holds Tryd.pinned (OpenSpec.upto groundPlaysSpec)

/-- 'aneroidlaw18.GroundBelow', WHERE WHAT IT READS IS OF BULK AT MOST 1048576: true; the input reads as it did. -/
def groundBelowUptoRow : OpenClaim := { program := "ythnaeoagooahbaadoor", sum := "55dc95b2f6aaf2d351ecf12cb7d2eb74ff659a62567670cb0e7054608be5f9d0", func := "aneroid/aneroidlaw18.GroundBelow", spec := "groundBelow", unfollowed := true, recurses := true, named := ["aneroid/atmos.counts"], apart := false, laid := [("aneroid/atmos.counts", laid_aneroid_atmos_counts)], narrowed := true }
def GroundBelowUptoSaid : Prop := groundBelowUptoRow.holds Tryd.pinned (OpenSpec.upto groundBelowSpec)

end Rows
end Go.Proofs.YthnaeoagooahbaaDoor
