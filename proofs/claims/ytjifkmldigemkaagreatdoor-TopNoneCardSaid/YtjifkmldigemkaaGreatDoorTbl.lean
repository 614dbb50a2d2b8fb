import Derived.Lib.SmallJoins
import Derived.Deep.WholeRow
import Derived.StillTactics
import Derived.Laws.Pointers
import Derived.Deep.RegionHeld3
import Derived.Deep.QuietTactic
import Derived.BigQuiet
import Derived.RowKit3
import Derived.Lib.Hide
import Derived.Lib.QuietBelow
import Derived.Laws.Bits64b
import Derived.Test.YtjifkmldigemkaaGreatDoorProg
import Derived.Shelf.Spec.BitsCarry
import Derived.Shelf.Bits.Mul64
import Derived.WalkKit
import Derived.WalkSpells
import Derived.Maps.AppendAt
import Derived.Laws.OwnMore
import Derived.Deep.AppendLies
import Derived.Test.YtjifkmldigemkaaGreatDoorTag
import Derived.Test.YtjifkmldigemkaaGreatDoorTab
import Derived.Test.YtjifkmldigemkaaGreatDoorTaa
import Derived.Test.YtjifkmldigemkaaGreatDoorTae
namespace Go.Proofs.YtjifkmldigemkaaGreatDoor
open Go.RowKit Go.Shelf Go.Joins
theorem add_off (b off i:Nat):(⟨b,off,none⟩:Addr).add i=⟨b,off+i,none⟩:=by unfold Addr.add; split <;> simp_all
theorem is_keep {w w':World} {B n:Nat} {sa:Option Addr} {z:Nat→Int} (hb:Below w.heap.size w w') (h:IS w B sa n z):IS w' B sa n z:=fun k hk=>by
 obtain ⟨gb,off,e,hB,c⟩:=h k hk
 exact ⟨gb,off,e,hB,cell_keep hb c⟩
theorem ints_len (z:Nat→Int) (n:Nat):(ints z n).length=n:=by simp [ints]
theorem ints_at {z:Nat→Int} {n j:Nat} {u:Value} (h:(ints z n)[j]?=some u):j<n∧u=.int .i64 (z j):=by
 have hj:j<n:=by
  have:=(List.getElem?_eq_some_iff.1 h).1
  rwa [ints_len] at this
 refine ⟨hj,?_⟩
 simp [ints,hj] at h
 exact h.symm
theorem ints_cell {z:Nat→Int} {n:Nat}:∀ u ∈ ints z n,u.oneCell'=true:=fun u hu=>by
 unfold ints at hu
 obtain ⟨k,_,rfl⟩:=List.mem_map.1 hu
 rfl
theorem oi_part {w:World} {B:Nat} {t:TypeId} {v:Value} {n:Nat} {xs:List Value} (h:w.ownsRow B t 1 v n xs):∀ q,v.ownBlock=some q→B≤q:=fun q hq=>(h.lt q hq).1
theorem oi_empty (w:World) (t:TypeId):(w.alloc (Obj.cells #[] t)).ownsRow w.heap.size t 1 (.slice (some ⟨w.heap.size,0,none⟩) 0 0) 0 [] :=
 World.ownsRow_made w #[] 0 (Nat.le_refl _) (by decide) rfl
theorem below_grown {a w w':World} {row:Option Nat} (E:Below a.heap.size a w) (hg:w.grownBy w' row) (hr:∀ q,row=some q→a.heap.size≤q):Below a.heap.size a w' :=
 ⟨hg.os.trans E.os,hg.tape.trans E.tape,hg.output.trans E.output,Nat.le_trans E.size hg.size,fun k hk=>(hg.block k (Nat.lt_of_lt_of_le hk E.size) (fun e=>by have:=hr _ e.symm; omega)).trans (E.block k hk)⟩
theorem run_append_empty {P:Program} (w:World) (base:Nat) (t ty e:TypeId) (i:TypeInfo) (size:Nat) (ht:P.underlying t=some (.slice e)) (hi:P.info? e=some i)
  (v:Value) (n:Nat) (xs:List Value) (hown:w.ownsRow base e size v n xs) (c:Nat):(Builtin.append_ #[t,t] ty #[v,.slice none 0 c]).run P w=.ok v w:=by
 rcases hown.2 with ⟨rfl,rfl⟩ | ⟨g,cap,cur,rfl,_,_,hnc,_⟩
 ·simp [Builtin.append_,run_underlying ht,sizeOf,typeInfo,hi,Builtin.lenOf,Builtin.firstCells]
 ·simp [Builtin.append_,run_underlying ht,sizeOf,typeInfo,hi,Builtin.lenOf,Builtin.firstCells,hnc,storeCells]
theorem wpList_append_ints {P:Program} {w:World} {ops:Array Oper} {rest:List Oper} {o:Oper} {a:Act} {Q:Exit→Act→World→Prop} (hgd:o.guard=none) (s x:Operand) (t:TypeId)
  (ho:o.op=.call { callee:=.builtin .append,args:=#[s,x],argTypes:=#[t,t] })
  (base:Nat) (e:TypeId) (i:TypeInfo) (z0:Value) (bytes:Nat) (ht:P.underlying t=some (.slice e)) (hi:P.info? e=some i) (hz:i.zero=some z0)
  (hsize:i.size=1) (hby:i.bytes=bytes) (hzs:z0.cells.size=1)
  (v:Value) (n:Nat) (xs:List Value) (hs:a.eval s=v) (hown:w.ownsRow base e 1 v n xs)
  (B:Nat) (sa:Option Addr) (m c:Nat) (z:Nat→Int) (hx:a.eval x=.slice sa m c) (hr:IS w B sa m z)
  (h63:n+m≤maxLen) (hbytes:(n+m)*bytes≤140737488355328) (hbase:base≤w.heap.size)
  (h:∀ v' w',w'.ownsRow base e 1 v' (n+m) (xs ++ ints z m)→w.grownBy w' v.ownBlock→wpList P ops Q rest (a.put o.dst v') w'):wpList P ops Q (o :: rest) a w:=by
 cases sa with
 | none =>
  have hm:m=0:=by
   rcases Nat.eq_zero_or_pos m with h0 | h0
   ·exact h0
   ·obtain ⟨_,_,h1,_⟩:=hr 0 h0
    cases h1
  subst hm
  refine wpList_plain hgd fun K hK=>?_
  have hrun:=run_append_empty (P:=P) w base t o.type e i 1 ht hi v n xs hown c
  unfold Oper.wp execOp
  simp only [ho,resolve,invoke,builtin,Sem.run_bind,Sem.run_pure,Result.andThen_ok,List.map_toArray,List.map_cons,List.map_nil,hs,hx,hrun]
  exact hK _ _ (h v w (by simpa [ints] using hown) ⟨rfl,rfl,rfl,Nat.le_refl _,fun _ _ _=>rfl⟩)
 | some ad =>
  refine wpList_append_own w hgd s x t ho base e i z0 1 bytes ht hi hz hsize hby hzs (by decide) v n xs hs hown ad m c (ints z m) hx (by rw [ints_len,Nat.mul_one]) (fun j u hj=>?_) ints_cell h63 hbytes hbase (fun v' w' h1 h2 _=>h v' w' h1 h2)
  obtain ⟨hj',rfl⟩:=ints_at hj
  obtain ⟨gb,off,e,_,hc⟩:=hr j hj'
  injection e with e
  subst e
  rw [add_off]
  exact hc
end Go.Proofs.YtjifkmldigemkaaGreatDoor
