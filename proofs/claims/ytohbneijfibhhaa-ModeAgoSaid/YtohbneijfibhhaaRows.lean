/-
  No cell of these rows narrows 'for every input' (looked for: loops, veiled, ifaces, maps, wideKeys, modest, calm, conditions, laid).
  DERIVED. THE GIVEN ROWS OF THIS SEAT. 3 by the template 'for every input the law returns true; each argument reads behind the call as it read before'; 0 by the template 'total and deterministic' (their statements: YtohbneijfibhhaaTotals.lean).
  GIVEN WITH THE SEED: the statements are not yours to turn. If you find one false, say at which input.
  Laid BY PROGRAM, IN A SANDBOX (cutbox-rows.mjs): the forced cells as the released guide's own fill.sh prints them over the translation 85f9abe276f5eaad… (all of the seat's roots in one cut). By AI agents, Wed Nov 11 2026. No macro, syntax, notation, axiom, sorry.
-/
import Derived.Test.YtohbneijfibhhaaChecked
import GoSem.Claim
import GoSem.ClaimJoined
import GoSem.ClaimMapViews
import Derived.JoinedTies
import Derived.KernelRfl
namespace Go.Proofs.Ytohbneijfibhhaa
/- THE CELL 'sum', in the pinned program and in every row, IS THE sha256 OF THE DUMP (.gsa) THAT YtohbneijfibhhaaProg.lean LOADS. Nothing in Lean hashes anything: it is a label: what it is worth is what the hold of that sum in a sandbox is worth. -/
noncomputable def Try.pinned : Pinned := { name := "ytohbneijfibhhaa", sum := "85f9abe276f5eaada7c5ba25945e4dcb392a76f1c9f706a5dae6ed9f4d424ed8", checked := Try.checked }
namespace Rows
def none {H : Type} : Left H := { results := [], args := [] }

/-- 'aneroidlaw19.ModeOn': WHATEVER THE INPUT: true; the input reads as it did. -/
def modeOnSpec : ChangeSpec := { name := "modeOn", fn := fun _ => fun
  | [d1, d2, d3] => { results := [.lit (.bool true)], args := [d1, d2, d3] }
  | _ => none }
def modeOnRow : OpenClaim := { program := "ytohbneijfibhhaa", sum := "85f9abe276f5eaada7c5ba25945e4dcb392a76f1c9f706a5dae6ed9f4d424ed8", func := "aneroid/aneroidlaw19.ModeOn", spec := "modeOn", unfollowed := true, recurses := true, apart := false }
def ModeOnSaid : Prop := modeOnRow.holds Try.pinned (OpenSpec.ofChange modeOnSpec)

/-- ITS FALSE NEIGHBOUR: 'it returns false'. Refute it at one input. -/
def modeOnWrong : ChangeSpec := { name := "modeOn", fn := fun _ => fun
  | [d1, d2, d3] => { results := [.lit (.bool false)], args := [d1, d2, d3] }
  | _ => none }
def ModeOnWrongFalsely : Prop := modeOnRow.holds Try.pinned (OpenSpec.ofChange modeOnWrong)

/-- 'aneroidlaw19.ModeRuns': WHATEVER THE INPUT: true; the input reads as it did. -/
def modeRunsSpec : ChangeSpec := { name := "modeRuns", fn := fun _ => fun
  | [d1, d2, d3] => { results := [.lit (.bool true)], args := [d1, d2, d3] }
  | _ => none }
def modeRunsRow : OpenClaim := { program := "ytohbneijfibhhaa", sum := "85f9abe276f5eaada7c5ba25945e4dcb392a76f1c9f706a5dae6ed9f4d424ed8", func := "aneroid/aneroidlaw19.ModeRuns", spec := "modeRuns", unfollowed := true, recurses := true, apart := false }
def ModeRunsSaid : Prop := modeRunsRow.holds Try.pinned (OpenSpec.ofChange modeRunsSpec)

/-- ITS FALSE NEIGHBOUR: 'it returns false'. Refute it at one input. -/
def modeRunsWrong : ChangeSpec := { name := "modeRuns", fn := fun _ => fun
  | [d1, d2, d3] => { results := [.lit (.bool false)], args := [d1, d2, d3] }
  | _ => none }
def ModeRunsWrongFalsely : Prop := modeRunsRow.holds Try.pinned (OpenSpec.ofChange modeRunsWrong)

/-- 'aneroidlaw19.ModeAgo': WHATEVER THE INPUT: true; the input reads as it did. -/
def modeAgoSpec : ChangeSpec := { name := "modeAgo", fn := fun _ => fun
  | [d1, d2, d3] => { results := [.lit (.bool true)], args := [d1, d2, d3] }
  | _ => none }
def modeAgoRow : OpenClaim := { program := "ytohbneijfibhhaa", sum := "85f9abe276f5eaada7c5ba25945e4dcb392a76f1c9f706a5dae6ed9f4d424ed8", func := "aneroid/aneroidlaw19.ModeAgo", spec := "modeAgo", unfollowed := true, recurses := true, apart := false }
def ModeAgoSaid : Prop := modeAgoRow.holds Try.pinned (OpenSpec.ofChange modeAgoSpec)

/-- ITS FALSE NEIGHBOUR: 'it returns false'. Refute it at one input. -/
def modeAgoWrong : ChangeSpec := { name := "modeAgo", fn := fun _ => fun
  | [d1, d2, d3] => { results := [.lit (.bool false)], args := [d1, d2, d3] }
  | _ => none }
def ModeAgoWrongFalsely : Prop := modeAgoRow.holds Try.pinned (OpenSpec.ofChange modeAgoWrong)

/- THE SECOND FORM. 'bulk': how many values and letters a reading holds, each counted each time it is reached (what is shared counts as often as it is met; a slice's spare places count too). A statement '..UptoSaid' is the law's where the arguments, and the package variables that the reading takes, are together of bulk at most 1048576: NARROWER than '..Said'. Prove '..Said' where nothing that the law and all that it calls make is longer than what came in: it says more and counts as full. Else prove '..UptoSaid'. A law counts once. -/
mutual
def uptoBulk {H : Type} : DataW H → Nat
  | .lit (.string bytes) => bytes.length + 1
  | .lit _ => 1
  | .nil => 1
  | .ptr d => uptoBulk d + 1
  | .slice elems spare => uptoBulkAll elems + uptoBulkAll spare + 1
  | .agg parts => uptoBulkAll parts + 1
  | .iface _ d => uptoBulk d + 1
  | .map entries => uptoBulkEntries entries + 1
  | .held _ => 1
def uptoBulkAll {H : Type} : List (DataW H) → Nat
  | [] => 0
  | d :: r => uptoBulk d + uptoBulkAll r
def uptoBulkEntries {H : Type} : List (Lit × DataW H) → Nat
  | [] => 0
  | x :: r => uptoBulkEntry x + uptoBulkEntries r
def uptoBulkEntry {H : Type} : Lit × DataW H → Nat
  | (.string bytes, d) => bytes.length + uptoBulk d + 1
  | (_, d) => uptoBulk d + 1
 end
def uptoSmall : (H : Type) → List (DataW H) → Bool := fun _ ds => decide (uptoBulkAll ds ≤ 1048576)
def OpenSpec.upto (s : _root_.Go.ChangeSpec) : _root_.Go.OpenSpec := { _root_.Go.OpenSpec.ofChange s with cond := some uptoSmall }

/-- 'aneroidlaw19.ModeOn', WHERE WHAT IT READS IS OF BULK AT MOST 1048576: true; the input reads as it did. -/
def modeOnUptoRow : OpenClaim := { program := "ytohbneijfibhhaa", sum := "85f9abe276f5eaada7c5ba25945e4dcb392a76f1c9f706a5dae6ed9f4d424ed8", func := "aneroid/aneroidlaw19.ModeOn", spec := "modeOn", unfollowed := true, recurses := true, apart := false, narrowed := true }
def ModeOnUptoSaid : Prop := modeOnUptoRow.holds Try.pinned (OpenSpec.upto modeOnSpec)

/-- 'aneroidlaw19.ModeRuns', WHERE WHAT IT READS IS OF BULK AT MOST 1048576: true; the input reads as it did. -/
def modeRunsUptoRow : OpenClaim := { program := "ytohbneijfibhhaa", sum := "85f9abe276f5eaada7c5ba25945e4dcb392a76f1c9f706a5dae6ed9f4d424ed8", func := "aneroid/aneroidlaw19.ModeRuns", spec := "modeRuns", unfollowed := true, recurses := true, apart := false, narrowed := true }
def ModeRunsUptoSaid : Prop := modeRunsUptoRow.holds Try.pinned (OpenSpec.upto modeRunsSpec)

/-- 'aneroidlaw19.ModeAgo', WHERE WHAT IT READS IS OF BULK AT MOST 1048576: true; the input reads as it did. -/
def modeAgoUptoRow : OpenClaim := { program := "ytohbneijfibhhaa", sum := "85f9abe276f5eaada7c5ba25945e4dcb392a76f1c9f706a5dae6ed9f4d424ed8", func := "aneroid/aneroidlaw19.ModeAgo", spec := "modeAgo", unfollowed := true, recurses := true, apart := false, narrowed := true }
def ModeAgoUptoSaid : Prop := modeAgoUptoRow.holds Try.pinned (OpenSpec.upto modeAgoSpec)

end Rows
end Go.Proofs.Ytohbneijfibhhaa
