/-
  No cell of these rows narrows 'for every input' (looked for: loops, veiled, ifaces, maps, wideKeys, modest, calm, conditions, laid).
  DERIVED. THE GIVEN ROWS OF THIS SEAT. 4 by the template 'for every input the law returns true; each argument reads behind the call as it read before'; 0 by the template 'total and deterministic' (their statements: YtfenmkcniiiglaaTotals.lean).
  GIVEN WITH THE SEED: the statements are not yours to turn. If you find one false, say at which input.
  Laid BY PROGRAM, IN A SANDBOX (cutbox-rows.mjs): the forced cells as the released guide's own fill.sh prints them over the translation 27b339908683a971… (all of the seat's roots in one cut). By AI agents, Wed Nov 11 2026. No macro, syntax, notation, axiom, sorry.
-/
import Derived.Test.YtfenmkcniiiglaaChecked
import GoSem.Claim
import GoSem.ClaimJoined
import GoSem.ClaimMapViews
import Derived.JoinedTies
import Derived.KernelRfl
namespace Go.Proofs.Ytfenmkcniiiglaa
/- THE CELL 'sum', in the pinned program and in every row, IS THE sha256 OF THE DUMP (.gsa) THAT YtfenmkcniiiglaaProg.lean LOADS. Nothing in Lean hashes anything: it is a label: what it is worth is what the hold of that sum in a sandbox is worth. -/
noncomputable def Try.pinned : Pinned := { name := "ytfenmkcniiiglaa", sum := "27b339908683a9710ee146993a261d5fe367167ca158a744358e51c4e9fb61d2", checked := Try.checked }
namespace Rows
def none {H : Type} : Left H := { results := [], args := [] }

/-- 'aneroidlaw21.TapePuts': WHATEVER THE INPUT: true; the input reads as it did. -/
def tapePutsSpec : ChangeSpec := { name := "tapePuts", fn := fun _ => fun
  | [d] => { results := [.lit (.bool true)], args := [d] }
  | _ => none }
def tapePutsRow : OpenClaim := { program := "ytfenmkcniiiglaa", sum := "27b339908683a9710ee146993a261d5fe367167ca158a744358e51c4e9fb61d2", func := "aneroid/aneroidlaw21.TapePuts", spec := "tapePuts", apart := false }
def TapePutsSaid : Prop := tapePutsRow.holds Try.pinned (OpenSpec.ofChange tapePutsSpec)

/-- ITS FALSE NEIGHBOUR: 'it returns false'. Refute it at one input. -/
def tapePutsWrong : ChangeSpec := { name := "tapePuts", fn := fun _ => fun
  | [d] => { results := [.lit (.bool false)], args := [d] }
  | _ => none }
def TapePutsWrongFalsely : Prop := tapePutsRow.holds Try.pinned (OpenSpec.ofChange tapePutsWrong)

/-- 'aneroidlaw21.TapeGets': WHATEVER THE INPUT: true; the input reads as it did. -/
def tapeGetsSpec : ChangeSpec := { name := "tapeGets", fn := fun _ => fun
  | [d] => { results := [.lit (.bool true)], args := [d] }
  | _ => none }
def tapeGetsRow : OpenClaim := { program := "ytfenmkcniiiglaa", sum := "27b339908683a9710ee146993a261d5fe367167ca158a744358e51c4e9fb61d2", func := "aneroid/aneroidlaw21.TapeGets", spec := "tapeGets", apart := false }
def TapeGetsSaid : Prop := tapeGetsRow.holds Try.pinned (OpenSpec.ofChange tapeGetsSpec)

/-- ITS FALSE NEIGHBOUR: 'it returns false'. Refute it at one input. -/
def tapeGetsWrong : ChangeSpec := { name := "tapeGets", fn := fun _ => fun
  | [d] => { results := [.lit (.bool false)], args := [d] }
  | _ => none }
def TapeGetsWrongFalsely : Prop := tapeGetsRow.holds Try.pinned (OpenSpec.ofChange tapeGetsWrong)

/-- 'aneroidlaw21.TapeTold': WHATEVER THE INPUT: true; the input reads as it did. -/
def tapeToldSpec : ChangeSpec := { name := "tapeTold", fn := fun _ => fun
  | [d1, d2] => { results := [.lit (.bool true)], args := [d1, d2] }
  | _ => none }
def tapeToldRow : OpenClaim := { program := "ytfenmkcniiiglaa", sum := "27b339908683a9710ee146993a261d5fe367167ca158a744358e51c4e9fb61d2", func := "aneroid/aneroidlaw21.TapeTold", spec := "tapeTold", apart := false }
def TapeToldSaid : Prop := tapeToldRow.holds Try.pinned (OpenSpec.ofChange tapeToldSpec)

/-- ITS FALSE NEIGHBOUR: 'it returns false'. Refute it at one input. -/
def tapeToldWrong : ChangeSpec := { name := "tapeTold", fn := fun _ => fun
  | [d1, d2] => { results := [.lit (.bool false)], args := [d1, d2] }
  | _ => none }
def TapeToldWrongFalsely : Prop := tapeToldRow.holds Try.pinned (OpenSpec.ofChange tapeToldWrong)

/-- 'aneroidlaw21.TapeParts': WHATEVER THE INPUT: true; the input reads as it did. -/
def tapePartsSpec : ChangeSpec := { name := "tapeParts", fn := fun _ => fun
  | [d1, d2, d3] => { results := [.lit (.bool true)], args := [d1, d2, d3] }
  | _ => none }
def tapePartsRow : OpenClaim := { program := "ytfenmkcniiiglaa", sum := "27b339908683a9710ee146993a261d5fe367167ca158a744358e51c4e9fb61d2", func := "aneroid/aneroidlaw21.TapeParts", spec := "tapeParts", apart := false }
def TapePartsSaid : Prop := tapePartsRow.holds Try.pinned (OpenSpec.ofChange tapePartsSpec)

/-- ITS FALSE NEIGHBOUR: 'it returns false'. Refute it at one input. -/
def tapePartsWrong : ChangeSpec := { name := "tapeParts", fn := fun _ => fun
  | [d1, d2, d3] => { results := [.lit (.bool false)], args := [d1, d2, d3] }
  | _ => none }
def TapePartsWrongFalsely : Prop := tapePartsRow.holds Try.pinned (OpenSpec.ofChange tapePartsWrong)

/- THE SECOND FORM. 'bulk': how many values and letters a reading holds, each counted each time it is reached (what is shared counts as often as it is met; a slice's spare places count too). A statement '..UptoSaid' is the law's where the arguments, and the package variables that the reading takes, are together of bulk at most 1048576: NARROWER than '..Said'. Prove '..Said' where nothing that the law and all that it calls make is longer than what came in: it says more and counts as full. Else prove '..UptoSaid'. A law counts once. -/
mutual
def uptoBulk {H : Type} : DataW H → Nat
  | .lit (.string bytes) => bytes.length + 1
  | .lit _ => 1
  | .nil => 1
  | .ptr d => uptoBulk d + 1
  | .slice elems spare => uptoBulkAll elems + uptoBulkAll spare + 1
  | .agg parts => uptoBulkAll parts + 1
  | .iface _ d => uptoBulk d + 1
  | .map entries => uptoBulkEntries entries + 1
  | .held _ => 1
def uptoBulkAll {H : Type} : List (DataW H) → Nat
  | [] => 0
  | d :: r => uptoBulk d + uptoBulkAll r
def uptoBulkEntries {H : Type} : List (Lit × DataW H) → Nat
  | [] => 0
  | x :: r => uptoBulkEntry x + uptoBulkEntries r
def uptoBulkEntry {H : Type} : Lit × DataW H → Nat
  | (.string bytes, d) => bytes.length + uptoBulk d + 1
  | (_, d) => uptoBulk d + 1
 end
def uptoSmall : (H : Type) → List (DataW H) → Bool := fun _ ds => decide (uptoBulkAll ds ≤ 1048576)
def OpenSpec.upto (s : _root_.Go.ChangeSpec) : _root_.Go.OpenSpec := { _root_.Go.OpenSpec.ofChange s with cond := some uptoSmall }

/-- 'aneroidlaw21.TapePuts', WHERE WHAT IT READS IS OF BULK AT MOST 1048576: true; the input reads as it did. -/
def tapePutsUptoRow : OpenClaim := { program := "ytfenmkcniiiglaa", sum := "27b339908683a9710ee146993a261d5fe367167ca158a744358e51c4e9fb61d2", func := "aneroid/aneroidlaw21.TapePuts", spec := "tapePuts", apart := false, narrowed := true }
def TapePutsUptoSaid : Prop := tapePutsUptoRow.holds Try.pinned (OpenSpec.upto tapePutsSpec)

/-- 'aneroidlaw21.TapeGets', WHERE WHAT IT READS IS OF BULK AT MOST 1048576: true; the input reads as it did. -/
def tapeGetsUptoRow : OpenClaim := { program := "ytfenmkcniiiglaa", sum := "27b339908683a9710ee146993a261d5fe367167ca158a744358e51c4e9fb61d2", func := "aneroid/aneroidlaw21.TapeGets", spec := "tapeGets", apart := false, narrowed := true }
def TapeGetsUptoSaid : Prop := tapeGetsUptoRow.holds Try.pinned (OpenSpec.upto tapeGetsSpec)

/-- 'aneroidlaw21.TapeTold', WHERE WHAT IT READS IS OF BULK AT MOST 1048576: true; the input reads as it did. -/
def tapeToldUptoRow : OpenClaim := { program := "ytfenmkcniiiglaa", sum := "27b339908683a9710ee146993a261d5fe367167ca158a744358e51c4e9fb61d2", func := "aneroid/aneroidlaw21.TapeTold", spec := "tapeTold", apart := false, narrowed := true }
def TapeToldUptoSaid : Prop := tapeToldUptoRow.holds Try.pinned (OpenSpec.upto tapeToldSpec)

/-- 'aneroidlaw21.TapeParts', WHERE WHAT IT READS IS OF BULK AT MOST 1048576: true; the input reads as it did. -/
def tapePartsUptoRow : OpenClaim := { program := "ytfenmkcniiiglaa", sum := "27b339908683a9710ee146993a261d5fe367167ca158a744358e51c4e9fb61d2", func := "aneroid/aneroidlaw21.TapeParts", spec := "tapeParts", apart := false, narrowed := true }
def TapePartsUptoSaid : Prop := tapePartsUptoRow.holds Try.pinned (OpenSpec.upto tapePartsSpec)

end Rows
end Go.Proofs.Ytfenmkcniiiglaa
