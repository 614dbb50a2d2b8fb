/-
  NARROWER THAN 'FOR EVERY INPUT', by the rows' own cells (each row's printed sentence says how): TamePlays: laid · TameSound: laid · TameStays: laid.
  DERIVED. THE GIVEN ROWS OF THIS SEAT. 3 by the template 'for every input the law returns true; each argument reads behind the call as it read before'; 0 by the template 'total and deterministic' (their statements: YtjafcnbghbfehaaDoorTotals.lean).
  GIVEN WITH THE SEED: the statements are not yours to turn. If you find one false, say at which input.
  Laid BY PROGRAM, IN A SANDBOX (cutbox-rows.mjs): the forced cells as the released guide's own fill.sh prints them over the translation f44e9ae7158d0944… (all of the seat's roots in one cut). By AI agents, Wed Nov 11 2026. No macro, syntax, notation, axiom, sorry.
-/
import Derived.Test.YtjafcnbghbfehaaDoorChecked
import GoSem.Claim
import GoSem.ClaimJoined
import GoSem.ClaimMapViews
import Derived.JoinedTies
import Derived.KernelRfl
namespace Go.Proofs.YtjafcnbghbfehaaDoor
/- THE CELL 'sum', in the pinned program and in every row, IS THE sha256 OF THE DUMP (.gsa) THAT YtjafcnbghbfehaaDoorProg.lean LOADS. Nothing in Lean hashes anything: it is a label: what it is worth is what the hold of that sum in a sandbox is worth. -/
noncomputable def Tryd.pinned : Pinned := { name := "ytjafcnbghbfehaadoor", sum := "f44e9ae7158d09449cf28394687ab5df0102420bd4e08dcfcb1dc5359a8e3ef4", checked := Tryd.checked }
namespace Rows
def none {H : Type} : Left H := { results := [], args := [] }

/- WHAT THE LISTED PACKAGE-LEVEL VARIABLES READ AS WHEN THE CALL BEGINS. Each datum BY PROGRAM (the guide's laid-datum.mjs) off the statement by which the dump's own 'gosem.cut.vars' lays the variable. In a bare row this is a premise. The card (YtjafcnbghbfehaaDoorCards.lean) ties it to the program's text. -/
def laid_aneroid_sym_places {H : Type} : DataW H := .agg [.agg [.lit (.int .i64 0), .lit (.int .i64 1), .lit (.int .i64 2)], .agg [.lit (.int .i64 1), .lit (.int .i64 3), .lit (.int .i64 4)], .agg [.lit (.int .i64 2), .lit (.int .i64 4), .lit (.int .i64 5)]]

/-- 'aneroidlaw09.TamePlays': WHATEVER THE INPUT: true; the input reads as it did. -/
def tamePlaysSpec : ChangeSpec := { name := "tamePlays", fn := fun _ => fun
  | [d1, d2, d3] => { results := [.lit (.bool true)], args := [d1, d2, d3] }
  | _ => none }
def tamePlaysRow : OpenClaim := { program := "ytjafcnbghbfehaadoor", sum := "f44e9ae7158d09449cf28394687ab5df0102420bd4e08dcfcb1dc5359a8e3ef4", func := "aneroid/aneroidlaw09.TamePlays", spec := "tamePlays", named := ["aneroid/sym.places"], apart := false, laid := [("aneroid/sym.places", laid_aneroid_sym_places)] }
def TamePlaysSaid : Prop := tamePlaysRow.holds Tryd.pinned (OpenSpec.ofChange tamePlaysSpec)

/-- ITS FALSE NEIGHBOUR: 'it returns false'. Refute it at one input. -/
def tamePlaysWrong : ChangeSpec := { name := "tamePlays", fn := fun _ => fun
  | [d1, d2, d3] => { results := [.lit (.bool false)], args := [d1, d2, d3] }
  | _ => none }
def TamePlaysWrongFalsely : Prop := tamePlaysRow.holds Tryd.pinned (OpenSpec.ofChange tamePlaysWrong)

/-- 'aneroidlaw09.TameSound': WHATEVER THE INPUT: true; the input reads as it did. -/
def tameSoundSpec : ChangeSpec := { name := "tameSound", fn := fun _ => fun
  | [d1, d2, d3] => { results := [.lit (.bool true)], args := [d1, d2, d3] }
  | _ => none }
def tameSoundRow : OpenClaim := { program := "ytjafcnbghbfehaadoor", sum := "f44e9ae7158d09449cf28394687ab5df0102420bd4e08dcfcb1dc5359a8e3ef4", func := "aneroid/aneroidlaw09.TameSound", spec := "tameSound", named := ["aneroid/sym.places"], apart := false, laid := [("aneroid/sym.places", laid_aneroid_sym_places)] }
def TameSoundSaid : Prop := tameSoundRow.holds Tryd.pinned (OpenSpec.ofChange tameSoundSpec)

/-- ITS FALSE NEIGHBOUR: 'it returns false'. Refute it at one input. -/
def tameSoundWrong : ChangeSpec := { name := "tameSound", fn := fun _ => fun
  | [d1, d2, d3] => { results := [.lit (.bool false)], args := [d1, d2, d3] }
  | _ => none }
def TameSoundWrongFalsely : Prop := tameSoundRow.holds Tryd.pinned (OpenSpec.ofChange tameSoundWrong)

/-- 'aneroidlaw09.TameStays': WHATEVER THE INPUT: true; the input reads as it did. -/
def tameStaysSpec : ChangeSpec := { name := "tameStays", fn := fun _ => fun
  | [d1, d2, d3] => { results := [.lit (.bool true)], args := [d1, d2, d3] }
  | _ => none }
def tameStaysRow : OpenClaim := { program := "ytjafcnbghbfehaadoor", sum := "f44e9ae7158d09449cf28394687ab5df0102420bd4e08dcfcb1dc5359a8e3ef4", func := "aneroid/aneroidlaw09.TameStays", spec := "tameStays", named := ["aneroid/sym.places"], apart := false, laid := [("aneroid/sym.places", laid_aneroid_sym_places)] }
def TameStaysSaid : Prop := tameStaysRow.holds Tryd.pinned (OpenSpec.ofChange tameStaysSpec)

/-- ITS FALSE NEIGHBOUR: 'it returns false'. Refute it at one input. -/
def tameStaysWrong : ChangeSpec := { name := "tameStays", fn := fun _ => fun
  | [d1, d2, d3] => { results := [.lit (.bool false)], args := [d1, d2, d3] }
  | _ => none }
def TameStaysWrongFalsely : Prop := tameStaysRow.holds Tryd.pinned (OpenSpec.ofChange tameStaysWrong)

/- THE SECOND FORM. 'bulk': how many values and letters a reading holds, each counted each time it is reached (what is shared counts as often as it is met; a slice's spare places count too). A statement '..UptoSaid' is the law's where the arguments, and the package variables that the reading takes, are together of bulk at most 1048576: NARROWER than '..Said'. Prove '..Said' where nothing that the law and all that it calls make is longer than what came in: it says more and counts as full. Else prove '..UptoSaid'. A law counts once. -/
mutual
def uptoBulk {H : Type} : DataW H → Nat
  | .lit (.string bytes) => bytes.length + 1
  | .lit _ => 1
  | .nil => 1
  | .ptr d => uptoBulk d + 1
  | .slice elems spare => uptoBulkAll elems + uptoBulkAll spare + 1
  | .agg parts => uptoBulkAll parts + 1
  | .iface _ d => uptoBulk d + 1
  | .map entries => uptoBulkEntries entries + 1
  | .held _ => 1
def uptoBulkAll {H : Type} : List (DataW H) → Nat
  | [] => 0
  | d :: r => uptoBulk d + uptoBulkAll r
def uptoBulkEntries {H : Type} : List (Lit × DataW H) → Nat
  | [] => 0
  | x :: r => uptoBulkEntry x + uptoBulkEntries r
def uptoBulkEntry {H : Type} : Lit × DataW H → Nat
  | (.string bytes, d) => bytes.length + uptoBulk d + 1
  | (_, d) => uptoBulk d + 1
 end
def uptoSmall : (H : Type) → List (DataW H) → Bool := fun _ ds => decide (uptoBulkAll ds ≤ 1048576)
def OpenSpec.upto (s : _root_.Go.ChangeSpec) : _root_.Go.OpenSpec := { _root_.Go.OpenSpec.ofChange s with cond := some uptoSmall }

/-- 'aneroidlaw09.TamePlays', WHERE WHAT IT READS IS OF BULK AT MOST 1048576: true; the input reads as it did. -/
def tamePlaysUptoRow : OpenClaim := { program := "ytjafcnbghbfehaadoor", sum := "f44e9ae7158d09449cf28394687ab5df0102420bd4e08dcfcb1dc5359a8e3ef4", func := "aneroid/aneroidlaw09.TamePlays", spec := "tamePlays", named := ["aneroid/sym.places"], apart := false, laid := [("aneroid/sym.places", laid_aneroid_sym_places)], narrowed := true }
def TamePlaysUptoSaid : Prop := tamePlaysUptoRow.holds Tryd.pinned (OpenSpec.upto tamePlaysSpec)

/-- 'aneroidlaw09.TameSound', WHERE WHAT IT READS IS OF BULK AT MOST 1048576: true; the input reads as it did. -/
def tameSoundUptoRow : OpenClaim := { program := "ytjafcnbghbfehaadoor", sum := "f44e9ae7158d09449cf28394687ab5df0102420bd4e08dcfcb1dc5359a8e3ef4", func := "aneroid/aneroidlaw09.TameSound", spec := "tameSound", named := ["aneroid/sym.places"], apart := false, laid := [("aneroid/sym.places", laid_aneroid_sym_places)], narrowed := true }
def TameSoundUptoSaid : Prop := tameSoundUptoRow.holds Tryd.pinned (OpenSpec.upto tameSoundSpec)

/-- 'aneroidlaw09.TameStays', WHERE WHAT IT READS IS OF BULK AT MOST 1048576: true; the input reads as it did. -/
def tameStaysUptoRow : OpenClaim := { program := "ytjafcnbghbfehaadoor", sum := "f44e9ae7158d09449cf28394687ab5df0102420bd4e08dcfcb1dc5359a8e3ef4", func := "aneroid/aneroidlaw09.TameStays", spec := "tameStays", named := ["aneroid/sym.places"], apart := false, laid := [("aneroid/sym.places", laid_aneroid_sym_places)], narrowed := true }
def TameStaysUptoSaid : Prop := tameStaysUptoRow.holds Tryd.pinned (OpenSpec.upto tameStaysSpec)

end Rows
end Go.Proofs.YtjafcnbghbfehaaDoor
