/-
  NARROWER THAN 'FOR EVERY INPUT', by the rows' own cells (each row's printed sentence says how): ChannelPlays: laid · TopAgain: laid · TopNone: laid.
  DERIVED. THE GIVEN ROWS OF THIS SEAT. 3 by the template 'for every input the law returns true; each argument reads behind the call as it read before'; 0 by the template 'total and deterministic' (their statements: YtjifkmldigemkaaGreatDoorTotals.lean).
  GIVEN WITH THE SEED: the statements are not yours to turn. If you find one false, say at which input.
  Laid BY PROGRAM, IN A SANDBOX (cutbox-rows.mjs): the forced cells as the released guide's own fill.sh prints them over the translation 8f2e2d55fc3a4be9… (all of the seat's roots in one cut). By AI agents, Wed Nov 11 2026. No macro, syntax, notation, axiom, sorry.
-/
import Derived.Test.YtjifkmldigemkaaGreatDoorChecked
import GoSem.Claim
import GoSem.ClaimJoined
import GoSem.ClaimMapViews
import Derived.JoinedTies
import Derived.KernelRfl
namespace Go.Proofs.YtjifkmldigemkaaGreatDoor
/- THE CELL 'sum', in the pinned program and in every row, IS THE sha256 OF THE DUMP (.gsa) THAT YtjifkmldigemkaaGreatDoorProg.lean LOADS. Nothing in Lean hashes anything: it is a label: what it is worth is what the hold of that sum in a sandbox is worth. -/
noncomputable def Tryz.pinned : Pinned := { name := "ytjifkmldigemkaagreatdoor", sum := "8f2e2d55fc3a4be98e30515a0aa1abbc56ecf4267d8d4753fc0a847b156dccef", checked := Tryz.checked }
namespace Rows
def none {H : Type} : Left H := { results := [], args := [] }

/- WHAT THE LISTED PACKAGE-LEVEL VARIABLES READ AS WHEN THE CALL BEGINS. Each datum BY PROGRAM (the guide's laid-datum.mjs) off the statement by which the dump's own 'gosem.cut.vars' lays the variable. In a bare row this is a premise. The card (YtjifkmldigemkaaGreatDoorCards.lean) ties it to the program's text. -/
def laid_aneroid_sym_places {H : Type} : DataW H := .agg [.agg [.lit (.int .i64 0), .lit (.int .i64 1), .lit (.int .i64 2)], .agg [.lit (.int .i64 1), .lit (.int .i64 3), .lit (.int .i64 4)], .agg [.lit (.int .i64 2), .lit (.int .i64 4), .lit (.int .i64 5)]]
def laid_aneroid_spread_moves {H : Type} : DataW H := .agg [.agg [.lit (.int .i64 32768), .lit (.int .i64 256), .lit (.int .i64 (-1))], .agg [.lit (.int .i64 0), .lit (.int .i64 32768), .lit (.int .i64 (-256))], .agg [.lit (.int .i64 0), .lit (.int .i64 0), .lit (.int .i64 32768)]]
def laid_aneroid_atmos_counts {H : Type} : DataW H := .agg [.lit (.int .i64 430515), .lit (.int .i64 417754), .lit (.int .i64 405300), .lit (.int .i64 393149), .lit (.int .i64 381294), .lit (.int .i64 369731), .lit (.int .i64 358453), .lit (.int .i64 347455), .lit (.int .i64 336732), .lit (.int .i64 326279), .lit (.int .i64 316090), .lit (.int .i64 306161), .lit (.int .i64 296485), .lit (.int .i64 287058), .lit (.int .i64 277876), .lit (.int .i64 268933), .lit (.int .i64 260224), .lit (.int .i64 251746), .lit (.int .i64 243492), .lit (.int .i64 235459), .lit (.int .i64 227641), .lit (.int .i64 220036), .lit (.int .i64 212637), .lit (.int .i64 205441), .lit (.int .i64 198444), .lit (.int .i64 191640), .lit (.int .i64 185027), .lit (.int .i64 178600), .lit (.int .i64 172355), .lit (.int .i64 166288), .lit (.int .i64 160395), .lit (.int .i64 154672), .lit (.int .i64 149116), .lit (.int .i64 143723), .lit (.int .i64 138488), .lit (.int .i64 133409), .lit (.int .i64 128482), .lit (.int .i64 123703), .lit (.int .i64 119069), .lit (.int .i64 114577), .lit (.int .i64 110223), .lit (.int .i64 106004), .lit (.int .i64 101917), .lit (.int .i64 97958), .lit (.int .i64 94125), .lit (.int .i64 90414), .lit (.int .i64 86822)]

/-- 'aneroidlaw20.ChannelPlays': WHATEVER THE INPUT: true; the input reads as it did. -/
def channelPlaysSpec : ChangeSpec := { name := "channelPlays", fn := fun _ => fun
  | [d1, d2] => { results := [.lit (.bool true)], args := [d1, d2] }
  | _ => none }
def channelPlaysRow : OpenClaim := { program := "ytjifkmldigemkaagreatdoor", sum := "8f2e2d55fc3a4be98e30515a0aa1abbc56ecf4267d8d4753fc0a847b156dccef", func := "aneroid/aneroidlaw20.ChannelPlays", spec := "channelPlays", inPlace := ["math/bits.Add64", "math/bits.Sub64"], unfollowed := true, recurses := true, named := ["aneroid/atmos.counts", "aneroid/sym.places", "aneroid/spread.moves"], apart := false, laid := [("aneroid/sym.places", laid_aneroid_sym_places), ("aneroid/spread.moves", laid_aneroid_spread_moves), ("aneroid/atmos.counts", laid_aneroid_atmos_counts)] }
def ChannelPlaysSaid : Prop := channelPlaysRow.holds Tryz.pinned (OpenSpec.ofChange channelPlaysSpec)

/-- ITS FALSE NEIGHBOUR: 'it returns false'. Refute it at one input. -/
def channelPlaysWrong : ChangeSpec := { name := "channelPlays", fn := fun _ => fun
  | [d1, d2] => { results := [.lit (.bool false)], args := [d1, d2] }
  | _ => none }
def ChannelPlaysWrongFalsely : Prop := channelPlaysRow.holds Tryz.pinned (OpenSpec.ofChange channelPlaysWrong)

/-- 'aneroidtop.TopAgain': WHATEVER THE INPUT: true; the input reads as it did. -/
def topAgainSpec : ChangeSpec := { name := "topAgain", fn := fun _ => fun
  | [d1, d2, d3] => { results := [.lit (.bool true)], args := [d1, d2, d3] }
  | _ => none }
def topAgainRow : OpenClaim := { program := "ytjifkmldigemkaagreatdoor", sum := "8f2e2d55fc3a4be98e30515a0aa1abbc56ecf4267d8d4753fc0a847b156dccef", func := "aneroid/aneroidtop.TopAgain", spec := "topAgain", inPlace := ["math/bits.Add64", "math/bits.Sub64"], unfollowed := true, recurses := true, named := ["aneroid/atmos.counts", "aneroid/sym.places", "aneroid/spread.moves"], apart := false, laid := [("aneroid/sym.places", laid_aneroid_sym_places), ("aneroid/spread.moves", laid_aneroid_spread_moves), ("aneroid/atmos.counts", laid_aneroid_atmos_counts)] }
def TopAgainSaid : Prop := topAgainRow.holds Tryz.pinned (OpenSpec.ofChange topAgainSpec)

/-- ITS FALSE NEIGHBOUR: 'it returns false'. Refute it at one input. -/
def topAgainWrong : ChangeSpec := { name := "topAgain", fn := fun _ => fun
  | [d1, d2, d3] => { results := [.lit (.bool false)], args := [d1, d2, d3] }
  | _ => none }
def TopAgainWrongFalsely : Prop := topAgainRow.holds Tryz.pinned (OpenSpec.ofChange topAgainWrong)

/-- 'aneroidtop.TopNone': WHATEVER THE INPUT: true; the input reads as it did. -/
def topNoneSpec : ChangeSpec := { name := "topNone", fn := fun _ => fun
  | [d1, d2, d3] => { results := [.lit (.bool true)], args := [d1, d2, d3] }
  | _ => none }
def topNoneRow : OpenClaim := { program := "ytjifkmldigemkaagreatdoor", sum := "8f2e2d55fc3a4be98e30515a0aa1abbc56ecf4267d8d4753fc0a847b156dccef", func := "aneroid/aneroidtop.TopNone", spec := "topNone", inPlace := ["math/bits.Add64", "math/bits.Sub64"], unfollowed := true, recurses := true, named := ["aneroid/atmos.counts", "aneroid/sym.places", "aneroid/spread.moves"], apart := false, laid := [("aneroid/sym.places", laid_aneroid_sym_places), ("aneroid/spread.moves", laid_aneroid_spread_moves), ("aneroid/atmos.counts", laid_aneroid_atmos_counts)] }
def TopNoneSaid : Prop := topNoneRow.holds Tryz.pinned (OpenSpec.ofChange topNoneSpec)

/-- ITS FALSE NEIGHBOUR: 'it returns false'. Refute it at one input. -/
def topNoneWrong : ChangeSpec := { name := "topNone", fn := fun _ => fun
  | [d1, d2, d3] => { results := [.lit (.bool false)], args := [d1, d2, d3] }
  | _ => none }
def TopNoneWrongFalsely : Prop := topNoneRow.holds Tryz.pinned (OpenSpec.ofChange topNoneWrong)

/- THE SECOND FORM. 'bulk': how many values and letters a reading holds, each counted each time it is reached (what is shared counts as often as it is met; a slice's spare places count too). A statement '..UptoSaid' is the law's where the arguments, and the package variables that the reading takes, are together of bulk at most 1048576: NARROWER than '..Said'. Prove '..Said' where nothing that the law and all that it calls make is longer than what came in: it says more and counts as full. Else prove '..UptoSaid'. A law counts once. -/
mutual
def uptoBulk {H : Type} : DataW H → Nat
  | .lit (.string bytes) => bytes.length + 1
  | .lit _ => 1
  | .nil => 1
  | .ptr d => uptoBulk d + 1
  | .slice elems spare => uptoBulkAll elems + uptoBulkAll spare + 1
  | .agg parts => uptoBulkAll parts + 1
  | .iface _ d => uptoBulk d + 1
  | .map entries => uptoBulkEntries entries + 1
  | .held _ => 1
def uptoBulkAll {H : Type} : List (DataW H) → Nat
  | [] => 0
  | d :: r => uptoBulk d + uptoBulkAll r
def uptoBulkEntries {H : Type} : List (Lit × DataW H) → Nat
  | [] => 0
  | x :: r => uptoBulkEntry x + uptoBulkEntries r
def uptoBulkEntry {H : Type} : Lit × DataW H → Nat
  | (.string bytes, d) => bytes.length + uptoBulk d + 1
  | (_, d) => uptoBulk d + 1
 end
def uptoSmall : (H : Type) → List (DataW H) → Bool := fun _ ds => decide (uptoBulkAll ds ≤ 1048576)
def OpenSpec.upto (s : _root_.Go.ChangeSpec) : _root_.Go.OpenSpec := { _root_.Go.OpenSpec.ofChange s with cond := some uptoSmall }

/-- 'aneroidlaw20.ChannelPlays', WHERE WHAT IT READS IS OF BULK AT MOST 1048576: true; the input reads as it did. -/
def channelPlaysUptoRow : OpenClaim := { program := "ytjifkmldigemkaagreatdoor", sum := "8f2e2d55fc3a4be98e30515a0aa1abbc56ecf4267d8d4753fc0a847b156dccef", func := "aneroid/aneroidlaw20.ChannelPlays", spec := "channelPlays", inPlace := ["math/bits.Add64", "math/bits.Sub64"], unfollowed := true, recurses := true, named := ["aneroid/atmos.counts", "aneroid/sym.places", "aneroid/spread.moves"], apart := false, laid := [("aneroid/sym.places", laid_aneroid_sym_places), ("aneroid/spread.moves", laid_aneroid_spread_moves), ("aneroid/atmos.counts", laid_aneroid_atmos_counts)], narrowed := true }
def ChannelPlaysUptoSaid : Prop := channelPlaysUptoRow.holds Tryz.pinned (OpenSpec.upto channelPlaysSpec)

/-- 'aneroidtop.TopAgain', WHERE WHAT IT READS IS OF BULK AT MOST 1048576: true; the input reads as it did. -/
def topAgainUptoRow : OpenClaim := { program := "ytjifkmldigemkaagreatdoor", sum := "8f2e2d55fc3a4be98e30515a0aa1abbc56ecf4267d8d4753fc0a847b156dccef", func := "aneroid/aneroidtop.TopAgain", spec := "topAgain", inPlace := ["math/bits.Add64", "math/bits.Sub64"], unfollowed := true, recurses := true, named := ["aneroid/atmos.counts", "aneroid/sym.places", "aneroid/spread.moves"], apart := false, laid := [("aneroid/sym.places", laid_aneroid_sym_places), ("aneroid/spread.moves", laid_aneroid_spread_moves), ("aneroid/atmos.counts", laid_aneroid_atmos_counts)], narrowed := true }
def TopAgainUptoSaid : Prop := topAgainUptoRow.holds Tryz.pinned (OpenSpec.upto topAgainSpec)

/-- 'aneroidtop.TopNone', WHERE WHAT IT READS IS OF BULK AT MOST 1048576: true; the input reads as it did. -/
def topNoneUptoRow : OpenClaim := { program := "ytjifkmldigemkaagreatdoor", sum := "8f2e2d55fc3a4be98e30515a0aa1abbc56ecf4267d8d4753fc0a847b156dccef", func := "aneroid/aneroidtop.TopNone", spec := "topNone", inPlace := ["math/bits.Add64", "math/bits.Sub64"], unfollowed := true, recurses := true, named := ["aneroid/atmos.counts", "aneroid/sym.places", "aneroid/spread.moves"], apart := false, laid := [("aneroid/sym.places", laid_aneroid_sym_places), ("aneroid/spread.moves", laid_aneroid_spread_moves), ("aneroid/atmos.counts", laid_aneroid_atmos_counts)], narrowed := true }
def TopNoneUptoSaid : Prop := topNoneUptoRow.holds Tryz.pinned (OpenSpec.upto topNoneSpec)

end Rows
end Go.Proofs.YtjifkmldigemkaaGreatDoor
