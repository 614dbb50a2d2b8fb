import Derived.Lib.SmallJoins
import Derived.Deep.WholeRow
import Derived.StillTactics
import Derived.Laws.Pointers
import Derived.Deep.RegionHeld3
import Derived.Deep.QuietTactic
import Derived.BigQuiet
import Derived.RowKit3
import Derived.Lib.Hide
import Derived.Lib.QuietBelow
import Derived.Laws.Bits64b
import Derived.Test.YtmcchknilnejgaaGreatDoorProg
import Derived.Shelf.Spec.BitsCarry
import Derived.Shelf.Bits.Mul64
import Derived.WalkKit
import Derived.WalkSpells
import Derived.Maps.AppendAt
import Derived.Laws.OwnMore
import Derived.Deep.AppendLies
import Derived.Test.YtmcchknilnejgaaGreatDoorKag
import Derived.Test.YtmcchknilnejgaaGreatDoorKab
import Derived.Test.YtmcchknilnejgaaGreatDoorKaa
namespace Go.Proofs.YtmcchknilnejgaaGreatDoor
open Go.RowKit Go.Shelf Go.Joins
theorem below_grown {a w w':World} {row:Option Nat} (E:Below a.heap.size a w) (hg:w.grownBy w' row) (hr:∀ q,row=some q→a.heap.size≤q):Below a.heap.size a w' :=
 ⟨hg.os.trans E.os,hg.tape.trans E.tape,hg.output.trans E.output,Nat.le_trans E.size hg.size,fun k hk=>(hg.block k (Nat.lt_of_lt_of_le hk E.size) (fun e=>by have:=hr _ e.symm; omega)).trans (E.block k hk)⟩
end Go.Proofs.YtmcchknilnejgaaGreatDoor
