import Derived.Orders
import Derived.RegionTactic
import Derived.Below
import Derived.Test.YthnofhjgfhapiaaGreatDoorWab
namespace Go.Proofs.YthnofhjgfhapiaaGreatDoor
open Go.RowKit
section
variable {P:Program} {ops:Array Oper} {Q:Exit→Act→World→Prop}
end
theorem yields {ops:Array Oper} {f:Act} {j:Nat} {o:Oper} {d:Tmp} {b:Bool} (ho:ops[j]?=some o) (hd:o.dst=some d) (ht:f.tmps[d]?=some (.bool b)):yielded ops f.tmps j=some b:=by
 simp [yielded,ho,hd,ht]
theorem wpOp_callg {P:Program} {ops:Array Oper} {Q:Exit→Act→World→Prop} {i:Nat} {K:Act→World→Prop} {f:Act} {w:World} {dst:Option Tmp} {fid:FuncId} {xs:Array Operand} {ats:Array TypeId} {ty:TypeId} {pos:String} {after:Array Edge} {vs:Array Value} {R:Ending→World→Prop} {j:Nat} {b:Bool}
  (ho:ops[i]?=some { dst,op:=.call { callee:=.value (.func fid),args:=xs,argTypes:=ats },type:=ty,pos,after,guard:=some (j,b) })
  (hy:yielded ops f.tmps j=some b)
  (hr:∀ args w,(callFunc fid args).run P w=.ok (.enter fid args) w) (hv:xs.map f.eval=vs) (hc:Calls P fid vs w R)
  (hR:∀ e w',R e w'→∃ v,e=.returned v∧K (f.put dst v) w'):wpOp P ops Q i K f w:=by
 refine wpOp_step ho fun K' hK=>?_
 rw [if_pos (by simp [Region.wanted,hy])]
 unfold Oper.wp
 rw [show execOp f.eval { dst,op:=.call { callee:=.value (.func fid),args:=xs,argTypes:=ats },type:=ty,pos,after,guard:=some (j,b) }=callFunc fid (#[] ++ xs.map f.eval ++ #[]) from rfl]
 simp only [hv,Array.empty_append,Array.append_empty,hr,Oper.upon_enter]
 refine hc.mono ?_
 intro e w' h
 obtain ⟨v,rfl,k⟩:=hR e w' h
 exact hK _ _ k
end Go.Proofs.YthnofhjgfhapiaaGreatDoor
