import Derived.Test.YthnofhjgfhapiaaGreatDoorShelf
import Derived.Lib.ItoaNum
import Derived.Lib.ItoaLen
import Derived.Lib.AtoiAllCases
import Derived.Lib.ParseIntBTie
import Derived.Lib.IndexAny
import Derived.Deep.LoopGhost
import Derived.BigQuiet
import Derived.Deep.QuietTactic
import Derived.Laws.RangeAny
import Derived.Laws.Runes
import Derived.Lib.OthersKept
import Derived.Lib.Hide
import Derived.Lib.TrimU
import Derived.WalkSpells
import Derived.Outline
import Derived.WalkLawsBesides
import Derived.Lib.AppendIntMem
import Derived.Lib.Slices
import Derived.Lib.AppendStr
import Derived.Deep.RegionLaw
import Derived.Laws.IdiomStrings
import Derived.Test.YthnofhjgfhapiaaGreatDoorWbj
import Derived.Test.YthnofhjgfhapiaaGreatDoorWaa
import Derived.Test.YthnofhjgfhapiaaGreatDoorWac
import Derived.Test.YthnofhjgfhapiaaGreatDoorWaf
import Derived.Test.YthnofhjgfhapiaaGreatDoorWbo
import Derived.Test.YthnofhjgfhapiaaGreatDoorWbl
import Derived.Test.YthnofhjgfhapiaaGreatDoorWbi
import Derived.Test.YthnofhjgfhapiaaGreatDoorWag
import Derived.Test.YthnofhjgfhapiaaGreatDoorWbp
import Derived.Test.YthnofhjgfhapiaaGreatDoorWaj
import Derived.Test.YthnofhjgfhapiaaGreatDoorWai
import Derived.Test.YthnofhjgfhapiaaGreatDoorWae
import Derived.Tactics
import Derived.Tactics2
import Derived.Defers
import Derived.Recover
import Derived.Laws.Pointers
set_option maxHeartbeats 8000000
set_option maxRecDepth 20000
namespace Go.Proofs.YthnofhjgfhapiaaGreatDoor
open Go.RowKit Go.Shelf Go.Lib Go.Maps
def rowOf (z:Nat→Int):Array Value:=((List.range 31).map fun i=>.int .i64 (z i)).toArray
def RW (w:World) (c:Nat) (z:Nat→Int):Prop:=w.heap[c]?=some (.cells (rowOf z) 27 (0,0))
end Go.Proofs.YthnofhjgfhapiaaGreatDoor
namespace Go.Proofs.YthnofhjgfhapiaaGreatDoor
open Go.RowKit Go.Shelf Go.Lib Go.Maps
theorem row_at31 (z:Nat→Int) (i:Nat) (h:i<31):(rowOf z)[i]?=some (.int .i64 (z i)):=by simp [rowOf,h]
theorem row_set (z:Nat→Int) (o:Nat) (v:Int) (h:o<31):(rowOf z).setIfInBounds o (.int .i64 v)=rowOf (ipd z o v):=by
 apply Array.ext_getElem?
 intro i
 rw [Array.getElem?_setIfInBounds]
 by_cases hi:i<31
 ·by_cases e:o=i
  ·subst e
   rw [if_pos rfl,if_pos (by simpa [rowOf] using h),row_at31 _ _ hi,ipd_at]
  ·rw [if_neg e,row_at31 _ _ hi,row_at31 _ _ hi,ipd_other _ _ (Ne.symm e)]
 ·have a1:(rowOf z)[i]?=none:=Array.getElem?_eq_none (by simp [rowOf]; omega)
  have a2:(rowOf (ipd z o v))[i]?=none:=Array.getElem?_eq_none (by simp [rowOf]; omega)
  rw [a1,a2]
  split
  ·rename_i e
   subst e
   omega
  ·rfl
theorem rw_keep {w w':World} {c:Nat} {z:Nat→Int} (hb:Below w.heap.size w w') (h:RW w c z):RW w' c z:=block_keep hb h
theorem rw_set {w:World} {c o:Nat} {z:Nat→Int} {v:Int} (h:RW w c z) (ho:o<31):RW (w.setCell ⟨c,o,none⟩ (.int .i64 v)) c (ipd z o v):=by
 unfold RW
 rw [setCell_eq_setRow _ _ _ _ _ _ _ h,row_set z o v ho]
 exact setRow_heap _ _ _ _ _ _ h
def Off (c:Nat) (a w:World):Prop:=∀ p v,p.block≠c→a.cell? p=some v→w.cell? p=some v
theorem off_refl (c:Nat) (a:World):Off c a a:=fun _ _ _ h=>h
theorem off_keep {c:Nat} {a w w':World} (h:Off c a w) (hb:Below w.heap.size w w'):Off c a w':=fun p v hp hv=>cell_keep hb (h p v hp hv)
theorem off_set {c o:Nat} {a w:World} {v:Value} (h:Off c a w):Off c a (w.setCell ⟨c,o,none⟩ v):=fun p u hp hv=>by
 rw [World.cell?_setCell_far _ _ _ _ (Ne.symm hp)]
 exact h p u hp hv
theorem set_other {w:World} {b c o:Nat} {ob:Obj} {v:Value} (h:w.heap[b]?=some ob) (hn:c≠b):(w.setCell ⟨c,o,none⟩ v).heap[b]?=some ob:=by
 rw [← h]
 unfold World.setCell
 simp [Array.getElem?_modify,hn]
theorem ipd_64 {z:Nat→Int} (h:C64 z) (o:Nat) {v:Int} (hv:R64 v):C64 (ipd z o v):=fun i hi=>by
 unfold ipd
 split
 ·exact hv
 ·exact h i hi
def RetRd (l:List UInt8) (w:World) (e:Ending) (w':World):Prop:=(∃ x,Reads l x∧e=.returned (.agg (rowOf x))∧Below w.heap.size w w')∨(NoConf l∧Thrown w e w')
theorem rd_no {l:List UInt8} {w w':World} (h:NoConf l) (hb:Below w.heap.size w w'):RetRd l w (.panicked [{ v:=.iface 28 (.int .i64 6),recovered:=false }]) w':=Or.inr ⟨h,rfl,hb⟩
theorem rd_ok {l:List UInt8} {x:Nat→Int} {w w':World} (h:Reads l x) (hb:Below w.heap.size w w'):RetRd l w (.returned (.agg (rowOf x))) w':=Or.inl ⟨x,h,rfl,hb⟩
theorem ln_apart {w:World} {b i c N:Nat} {z:Nat→Int} {k:Nat} (h:w.heap[N]?=some (.cells (pcs b i k) 71 (0,0))) (hc:RW w c z):N≠c:=by
 intro e
 subst e
 unfold RW at hc
 rw [h] at hc
 injection hc with hc
 injection hc with _ hc
 revert hc
 decide
theorem ln_form2 {w:World} {b i c:Nat} {v:Value} {z:Nat→Int} (h:LN w b i v) (hc:RW w c z):∃ a,v=.slice a (cntL i) (cntL i)∧∀ j,j<cntL i→∃ N,a=some ⟨N,0,none⟩∧N≠c∧w.cell? ⟨N,j,none⟩=some (.pointer (some ⟨b,offL i+j,none⟩)):=by
 rcases h with ⟨h,rfl⟩ | ⟨N,rfl,hN⟩
 ·rw [h]
  exact ⟨none,rfl,fun j hj=>by omega⟩
 ·refine ⟨_,rfl,fun j hj=>⟨N,rfl,ln_apart hN hc,?_⟩⟩
  rw [cell_of_row _ _ j _ _ _ hN]
  simp [pcs,hj]
theorem read_any (s:ByteArray) (hs:s.size≤3000) (w:World) (ev:EV w):Calls Tryz.prog 39 #[.string s] w (RetRd s.data.toList w):=by
 obtain ⟨l,hl⟩:∃ l,s.data.toList=l:=⟨_,rfl⟩
 rw [hl]
 have hll:l.length≤3000:=by rw [← hl,← Lib.size_eq]; exact hs
 obtain ⟨z0,hz0⟩:∃ z0:Nat→Int,z0=fun _=>0:=⟨_,rfl⟩
 have R1:RW ((w.alloc (Obj.cells #[.int .i64 0,.int .i64 0,.int .i64 0,.int .i64 0,.int .i64 0,.int .i64 0,.int .i64 0,.int .i64 0,.int .i64 0,.int .i64 0,.int .i64 0,.int .i64 0,.int .i64 0,.int .i64 0,.int .i64 0,.int .i64 0,.int .i64 0,.int .i64 0,.int .i64 0,.int .i64 0,.int .i64 0,.int .i64 0,.int .i64 0,.int .i64 0,.int .i64 0,.int .i64 0,.int .i64 0,.int .i64 0,.int .i64 0,.int .i64 0,.int .i64 0] 27)).alloc (Obj.cells #[.int .i64 0,.int .i64 0,.int .i64 0,.int .i64 0,.int .i64 0,.int .i64 0,.int .i64 0,.int .i64 0,.int .i64 0,.int .i64 0,.int .i64 0,.int .i64 0,.int .i64 0,.int .i64 0,.int .i64 0,.int .i64 0,.int .i64 0,.int .i64 0,.int .i64 0,.int .i64 0,.int .i64 0,.int .i64 0,.int .i64 0,.int .i64 0,.int .i64 0,.int .i64 0,.int .i64 0,.int .i64 0,.int .i64 0,.int .i64 0,.int .i64 0] 27)) (w.heap.size+1) z0:=by
  have:=heap_alloc_last (w.alloc (Obj.cells #[.int .i64 0,.int .i64 0,.int .i64 0,.int .i64 0,.int .i64 0,.int .i64 0,.int .i64 0,.int .i64 0,.int .i64 0,.int .i64 0,.int .i64 0,.int .i64 0,.int .i64 0,.int .i64 0,.int .i64 0,.int .i64 0,.int .i64 0,.int .i64 0,.int .i64 0,.int .i64 0,.int .i64 0,.int .i64 0,.int .i64 0,.int .i64 0,.int .i64 0,.int .i64 0,.int .i64 0,.int .i64 0,.int .i64 0,.int .i64 0,.int .i64 0] 27)) (Obj.cells #[.int .i64 0,.int .i64 0,.int .i64 0,.int .i64 0,.int .i64 0,.int .i64 0,.int .i64 0,.int .i64 0,.int .i64 0,.int .i64 0,.int .i64 0,.int .i64 0,.int .i64 0,.int .i64 0,.int .i64 0,.int .i64 0,.int .i64 0,.int .i64 0,.int .i64 0,.int .i64 0,.int .i64 0,.int .i64 0,.int .i64 0,.int .i64 0,.int .i64 0,.int .i64 0,.int .i64 0,.int .i64 0,.int .i64 0,.int .i64 0,.int .i64 0] 27)
  rw [show (w.alloc (Obj.cells #[.int .i64 0,.int .i64 0,.int .i64 0,.int .i64 0,.int .i64 0,.int .i64 0,.int .i64 0,.int .i64 0,.int .i64 0,.int .i64 0,.int .i64 0,.int .i64 0,.int .i64 0,.int .i64 0,.int .i64 0,.int .i64 0,.int .i64 0,.int .i64 0,.int .i64 0,.int .i64 0,.int .i64 0,.int .i64 0,.int .i64 0,.int .i64 0,.int .i64 0,.int .i64 0,.int .i64 0,.int .i64 0,.int .i64 0,.int .i64 0,.int .i64 0] 27)).heap.size=w.heap.size+1 by simp] at this
  rw [hz0]
  exact this
 have Q1:((w.alloc (Obj.cells #[.int .i64 0,.int .i64 0,.int .i64 0,.int .i64 0,.int .i64 0,.int .i64 0,.int .i64 0,.int .i64 0,.int .i64 0,.int .i64 0,.int .i64 0,.int .i64 0,.int .i64 0,.int .i64 0,.int .i64 0,.int .i64 0,.int .i64 0,.int .i64 0,.int .i64 0,.int .i64 0,.int .i64 0,.int .i64 0,.int .i64 0,.int .i64 0,.int .i64 0,.int .i64 0,.int .i64 0,.int .i64 0,.int .i64 0,.int .i64 0,.int .i64 0] 27)).alloc (Obj.cells #[.int .i64 0,.int .i64 0,.int .i64 0,.int .i64 0,.int .i64 0,.int .i64 0,.int .i64 0,.int .i64 0,.int .i64 0,.int .i64 0,.int .i64 0,.int .i64 0,.int .i64 0,.int .i64 0,.int .i64 0,.int .i64 0,.int .i64 0,.int .i64 0,.int .i64 0,.int .i64 0,.int .i64 0,.int .i64 0,.int .i64 0,.int .i64 0,.int .i64 0,.int .i64 0,.int .i64 0,.int .i64 0,.int .i64 0,.int .i64 0,.int .i64 0] 27)).heap[w.heap.size]?=some (.cells #[.int .i64 0,.int .i64 0,.int .i64 0,.int .i64 0,.int .i64 0,.int .i64 0,.int .i64 0,.int .i64 0,.int .i64 0,.int .i64 0,.int .i64 0,.int .i64 0,.int .i64 0,.int .i64 0,.int .i64 0,.int .i64 0,.int .i64 0,.int .i64 0,.int .i64 0,.int .i64 0,.int .i64 0,.int .i64 0,.int .i64 0,.int .i64 0,.int .i64 0,.int .i64 0,.int .i64 0,.int .i64 0,.int .i64 0,.int .i64 0,.int .i64 0] 27 (0,0)):=block_alloc (heap_alloc_last w _)
 have E:Below w.heap.size w ((w.alloc (Obj.cells #[.int .i64 0,.int .i64 0,.int .i64 0,.int .i64 0,.int .i64 0,.int .i64 0,.int .i64 0,.int .i64 0,.int .i64 0,.int .i64 0,.int .i64 0,.int .i64 0,.int .i64 0,.int .i64 0,.int .i64 0,.int .i64 0,.int .i64 0,.int .i64 0,.int .i64 0,.int .i64 0,.int .i64 0,.int .i64 0,.int .i64 0,.int .i64 0,.int .i64 0,.int .i64 0,.int .i64 0,.int .i64 0,.int .i64 0,.int .i64 0,.int .i64 0] 27)).alloc (Obj.cells #[.int .i64 0,.int .i64 0,.int .i64 0,.int .i64 0,.int .i64 0,.int .i64 0,.int .i64 0,.int .i64 0,.int .i64 0,.int .i64 0,.int .i64 0,.int .i64 0,.int .i64 0,.int .i64 0,.int .i64 0,.int .i64 0,.int .i64 0,.int .i64 0,.int .i64 0,.int .i64 0,.int .i64 0,.int .i64 0,.int .i64 0,.int .i64 0,.int .i64 0,.int .i64 0,.int .i64 0,.int .i64 0,.int .i64 0,.int .i64 0,.int .i64 0] 27)):=b_alloc (b_alloc (Below.refl _ _))
 have HS:=Lib.hid hl
 have HZ:=Lib.hid hz0
 clear hl hz0
 go_enter Tryz.func39,Tryz.ntmps39
 go_wp2_with fail
 have hsz0:w.heap.size+2≤((w.alloc (Obj.cells #[.int .i64 0,.int .i64 0,.int .i64 0,.int .i64 0,.int .i64 0,.int .i64 0,.int .i64 0,.int .i64 0,.int .i64 0,.int .i64 0,.int .i64 0,.int .i64 0,.int .i64 0,.int .i64 0,.int .i64 0,.int .i64 0,.int .i64 0,.int .i64 0,.int .i64 0,.int .i64 0,.int .i64 0,.int .i64 0,.int .i64 0,.int .i64 0,.int .i64 0,.int .i64 0,.int .i64 0,.int .i64 0,.int .i64 0,.int .i64 0,.int .i64 0] 27)).alloc (Obj.cells #[.int .i64 0,.int .i64 0,.int .i64 0,.int .i64 0,.int .i64 0,.int .i64 0,.int .i64 0,.int .i64 0,.int .i64 0,.int .i64 0,.int .i64 0,.int .i64 0,.int .i64 0,.int .i64 0,.int .i64 0,.int .i64 0,.int .i64 0,.int .i64 0,.int .i64 0,.int .i64 0,.int .i64 0,.int .i64 0,.int .i64 0,.int .i64 0,.int .i64 0,.int .i64 0,.int .i64 0,.int .i64 0,.int .i64 0,.int .i64 0,.int .i64 0] 27)).heap.size:=by simp
 generalize ((w.alloc (Obj.cells #[.int .i64 0,.int .i64 0,.int .i64 0,.int .i64 0,.int .i64 0,.int .i64 0,.int .i64 0,.int .i64 0,.int .i64 0,.int .i64 0,.int .i64 0,.int .i64 0,.int .i64 0,.int .i64 0,.int .i64 0,.int .i64 0,.int .i64 0,.int .i64 0,.int .i64 0,.int .i64 0,.int .i64 0,.int .i64 0,.int .i64 0,.int .i64 0,.int .i64 0,.int .i64 0,.int .i64 0,.int .i64 0,.int .i64 0,.int .i64 0,.int .i64 0] 27)).alloc (Obj.cells #[.int .i64 0,.int .i64 0,.int .i64 0,.int .i64 0,.int .i64 0,.int .i64 0,.int .i64 0,.int .i64 0,.int .i64 0,.int .i64 0,.int .i64 0,.int .i64 0,.int .i64 0,.int .i64 0,.int .i64 0,.int .i64 0,.int .i64 0,.int .i64 0,.int .i64 0,.int .i64 0,.int .i64 0,.int .i64 0,.int .i64 0,.int .i64 0,.int .i64 0,.int .i64 0,.int .i64 0,.int .i64 0,.int .i64 0,.int .i64 0,.int .i64 0] 27))=y0 at *
 refine (lines_any _ _).mono ?_
 rintro e y1 ⟨g,vs,rfl,hlt,hg,hb⟩
 replace E:=b_trans E hb
 replace R1:=rw_keep hb R1
 replace Q1:=block_keep hb Q1
 have EV1:=ev_keep E ev
 have HL:=Lib.hid hlt
 have HEV:=Lib.hid ev
 have AT:=at_start l z0
 have HR0:=Lib.hid R1
 have HQ0:=Lib.hid Q1
 have HE:=Lib.hid E
 have hgc:g≠w.heap.size+1:=by omega
 have hc0:w.heap.size≤w.heap.size+1:=Nat.le_succ _
 have hz64:C64 z0:=by rw [HZ.out]; intro i _; show R64 0; exact ⟨by decide,by decide⟩
 clear hlt hb ev R1 Q1 E EV1 hsz0
 go_wp2
 go_loopw [0,10] (fun tv iv wr=>∃ (k:Nat) (z:Nat→Int) (tb:ByteArray),k≤18∧iv=.int .i64 k∧tv=.string tb∧tb.size≤3000∧AtLine l tb.data.toList k z∧C64 z∧RW wr (w.heap.size+1) z∧Off (w.heap.size+1) y1 wr∧wr.heap[w.heap.size]?=some (.cells #[.int .i64 0,.int .i64 0,.int .i64 0,.int .i64 0,.int .i64 0,.int .i64 0,.int .i64 0,.int .i64 0,.int .i64 0,.int .i64 0,.int .i64 0,.int .i64 0,.int .i64 0,.int .i64 0,.int .i64 0,.int .i64 0,.int .i64 0,.int .i64 0,.int .i64 0,.int .i64 0,.int .i64 0,.int .i64 0,.int .i64 0,.int .i64 0,.int .i64 0,.int .i64 0,.int .i64 0,.int .i64 0,.int .i64 0,.int .i64 0,.int .i64 0] 27 (0,0))∧Below w.heap.size w wr) (fun _ iv _=>18 - (RowKit.intOf iv).toNat)
 case atStart=>exact ⟨0,z0,s,Nat.zero_le _,rfl,rfl,hs,by rw [HS.out]; exact AT,hz64,HR0.out,off_refl _ _,HQ0.out,HE.out⟩
 case round =>
  clear AT hz64
  obtain ⟨k,z,tb,hk,rfl,rfl,hts,hat,hz,hr,hoff,hq,hb⟩:=hrel
  have HQ:=Lib.hid hq
  have HR:=Lib.hid hr
  have HO:=Lib.hid hoff
  have HZ6:=Lib.hid hz
  have HB:=Lib.hid hb
  have HAT:=Lib.hid hat
  have evr:=Lib.hid (ev_keep hb HEV.out)
  clear hq hr hoff hz hb hat
  by_cases hkt:k<18
  ·obtain ⟨a,ha,hcs⟩:=ln_form2 (HL.out k hkt).2.2 HR0.out
   have c1:=HO.out _ _ hgc (HL.out k hkt).1
   have c2:=HO.out _ _ hgc (HL.out k hkt).2.1
   rw [ha] at c2
   obtain ⟨c,hc⟩:∃ c,cntL k=c:=⟨_,rfl⟩
   rw [hc] at hcs c2
   have hc3:c≤3:=by rw [← hc]; exact cnt_le k hkt
   obtain ⟨nm,hnm⟩:∃ nm:ByteArray,⟨(nmL k).toArray⟩=nm:=⟨_,rfl⟩
   rw [hnm] at c1
   have hnl:nm.data.toList=nmL k:=by rw [← hnm]
   have HNL:=Lib.hid hnl
   have HNM:=Lib.hid hnm
   have HA:=Lib.hid ha
   have HC:=Lib.hid hc
   have HCS:=Lib.hid hcs
   have hbl:w.heap.size+1<wr.heap.size:=(Array.getElem?_eq_some_iff.1 HR.out).1
   clear hnl hnm ha hc hcs
   go_wp2_with fail
   by_cases hp:∃ r,tb.data.toList=nmL k ++ r
   ·obtain ⟨r,hp⟩:=hp
    have HP:=Lib.hid hp
    have ca:=fun w=>after_ok tb nm r w (by rw [HP.out,HNL.out])
    obtain ⟨rb,hrb⟩:∃ rb:ByteArray,⟨r.toArray⟩=rb:=⟨_,rfl⟩
    have hrl:rb.data.toList=r:=by rw [← hrb]
    have hrs:rb.size≤3000:=by
     have:=congrArg List.length HP.out
     rw [List.length_append,← Lib.size_eq] at this
     rw [Lib.size_eq,hrl]
     omega
    rw [hrb] at ca
    have A0:AtNum l rb.data.toList k 0 z:=by
     rw [hrl]
     refine at_name hkt ?_
     rw [← HP.out]
     exact HAT.out
    have HA0:=Lib.hid A0
    have HRB:=Lib.hid hrb
    have HRL:=Lib.hid hrl
    clear hp hrb hrl A0
    refine (ca _).mono ?_
    rintro e w2 ⟨rfl,hw⟩
    rw [hw]
    clear hw
    clear c1 c2 ca
    go_wp2
    have hr1:RW (wr.alloc (Obj.cells #[.string nm,.slice a c c] 70)) (w.heap.size+1) z:=rw_keep (b_alloc (Below.refl _ _)) HR.out
    have ho1:Off (w.heap.size+1) y1 (wr.alloc (Obj.cells #[.string nm,.slice a c c] 70)):=off_keep HO.out (b_alloc (Below.refl _ _))
    have hq1:=block_alloc (q:=Obj.cells #[.string nm,.slice a c c] 70) HQ.out
    have hb1:=b_alloc (o:=Obj.cells #[.string nm,.slice a c c] 70) HB.out
    generalize wr.alloc (Obj.cells #[.string nm,.slice a c c] 70)=y2 at *
    have HR1:=Lib.hid hr1
    have HO1:=Lib.hid ho1
    have HQ1:=Lib.hid hq1
    have HB1:=Lib.hid hb1
    clear hr1 ho1 hq1 hb1
    go_loopw [0,21] (fun tv jv wz=>∃ (j:Nat) (z:Nat→Int) (tb:ByteArray),j≤c∧jv=.int .i64 j∧tv=.string tb∧tb.size≤3000∧AtNum l tb.data.toList k j z∧C64 z∧RW wz (w.heap.size+1) z∧Off (w.heap.size+1) y1 wz∧wz.heap[w.heap.size]?=some (.cells #[.int .i64 0,.int .i64 0,.int .i64 0,.int .i64 0,.int .i64 0,.int .i64 0,.int .i64 0,.int .i64 0,.int .i64 0,.int .i64 0,.int .i64 0,.int .i64 0,.int .i64 0,.int .i64 0,.int .i64 0,.int .i64 0,.int .i64 0,.int .i64 0,.int .i64 0,.int .i64 0,.int .i64 0,.int .i64 0,.int .i64 0,.int .i64 0,.int .i64 0,.int .i64 0,.int .i64 0,.int .i64 0,.int .i64 0,.int .i64 0,.int .i64 0] 27 (0,0))∧Below w.heap.size w wz) (fun _ jv _=>c - (RowKit.intOf jv).toNat)
    case atStart=>exact ⟨0,z,rb,Nat.zero_le _,rfl,rfl,hrs,HA0.out,HZ6.out,HR1.out,HO1.out,HQ1.out,HB1.out⟩
    case round =>
     clear HA0 HR1 HO1 HQ1 HB1 HR HO HQ HB HAT HP HRL HRB hrs evr HZ6 hts hbl
     obtain ⟨j,z,tb,hj,rfl,rfl,hts,hat,hz,hr,hoff,hq,hb⟩:=hrel
     have HQ:=Lib.hid hq
     have HR:=Lib.hid hr
     have HO:=Lib.hid hoff
     have HZ6:=Lib.hid hz
     have HB:=Lib.hid hb
     have HAT:=Lib.hid hat
     have evr:=Lib.hid (ev_keep hb HEV.out)
     clear hq hr hoff hz hb hat
     by_cases hjt:j<c
     ·obtain ⟨N,rfl,hNc,hcell⟩:=HCS.out j hjt
      have hc1:=HO.out ⟨N,j,none⟩ _ hNc hcell
      obtain ⟨o,hoo⟩:∃ o,offL k+j=o:=⟨_,rfl⟩
      have ho31:o<31:=by rw [← hoo]; have:=off_le k hkt; have:=HC.out; omega
      rw [hoo] at hc1
      have hjc:j<cntL k:=by rw [HC.out]; exact hjt
      have e5:IntKind.i64.wrap ((j:Int)+1)=(j:Int)+1:=by rw [IntKind.wrap_i64]; omega
      have HOO:=Lib.hid hoo
      have HCE:=Lib.hid hcell
      clear hoo hcell
      go_wp2_with fail
      by_cases hp:∃ r,tb.data.toList=32 :: r
      ·obtain ⟨r,hp⟩:=hp
       have HP:=Lib.hid hp
       have ca:=fun w=>after_ok tb ⟨#[32]⟩ r w (by rw [HP.out]; rfl)
       obtain ⟨rb,hrb⟩:∃ rb:ByteArray,⟨r.toArray⟩=rb:=⟨_,rfl⟩
       have hrl:rb.data.toList=r:=by rw [← hrb]
       have hrs:rb.size≤3000:=by
        have:=congrArg List.length HP.out
        rw [List.length_cons,← Lib.size_eq] at this
        rw [Lib.size_eq,hrl]
        omega
       rw [hrb] at ca
       have HRB:=Lib.hid hrb
       have HRL:=Lib.hid hrl
       clear hp hrb hrl
       refine (ca _).mono ?_
       rintro e w2 ⟨rfl,hw⟩
       rw [hw]
       clear hw ca
       go_wp2_with fail
       by_cases hn:∃ v c s,R64 v∧Sep c∧r=itoa v ++ c :: s
       ·obtain ⟨v,d,q,hv,hd,hn⟩:=hn
        have cn:=fun w ev=>number_ok rb v d q w ev hrs hv hd (by rw [HRL.out,hn])
        obtain ⟨qb,hqb⟩:∃ qb:ByteArray,⟨(d :: q).toArray⟩=qb:=⟨_,rfl⟩
        have hql:qb.data.toList=d :: q:=by rw [← hqb]
        have hqs:qb.size≤3000:=by
         have:=congrArg List.length HRL.out
         rw [hn,List.length_append,← Lib.size_eq] at this
         rw [Lib.size_eq,hql]
         omega
        rw [hqb] at cn
        have A1:=at_num hkt hjc hv hd (by rw [← hn,← HP.out]; exact HAT.out)
        rw [← hql,HOO.out] at A1
        have HA1:=Lib.hid A1
        have HN:=Lib.hid hn
        have HQB:=Lib.hid hqb
        have HQL:=Lib.hid hql
        clear hn hqb hql A1
        refine (cn _ evr.out).mono ?_
        rintro e w3 ⟨rfl,hb3⟩
        have hr3:=rw_keep hb3 HR.out
        have hcc:w3.cell? ⟨w.heap.size+1,o,none⟩=some (.int .i64 (z o)):=(cell_of_row _ _ o _ _ _ hr3).trans (row_at31 z o ho31)
        have hff:w3.frozen? ⟨w.heap.size+1,o,none⟩=false:=frozen_of_row w3 _ o _ _ hr3
        have HR3:=Lib.hid (rw_set (v:=v) hr3 ho31)
        have HO3:=Lib.hid (off_set (o:=o) (v:=.int .i64 v) (off_keep HO.out hb3))
        have HB3:=Lib.hid (b_set (p:=⟨w.heap.size+1,o,none⟩) (v:=.int .i64 v) (b_trans HB.out hb3) hc0)
        have HQ3:=Lib.hid (set_other (c:=w.heap.size+1) (o:=o) (v:=.int .i64 v) (block_keep hb3 HQ.out) (by omega))
        have HZ3:=Lib.hid (ipd_64 HZ6.out o hv)
        clear hb3 hr3 cn
        go_wp2
        go_roundw
        case rel=>exact ⟨j+1,ipd z o v,qb,by omega,by go_num,rfl,hqs,HA1.out,HZ3.out,HR3.out,HO3.out,HQ3.out,HB3.out⟩
        case measure=>simp [RowKit.intOf]; omega
       ·have HN:=Lib.hid (no_num hkt hjc (by rw [← HP.out]; exact HAT.out) (fun v c s hv hc h=>hn ⟨v,c,s,hv,hc,h⟩))
        have cn:=fun w ev=>number_bad rb w ev hrs (fun v c s hv hc h=>hn ⟨v,c,s,hv,hc,by rw [← HRL.out]; exact h⟩)
        clear hn
        refine (cn _ evr.out).mono ?_
        rintro e w3 ⟨rfl,hb3⟩
        exact ⟨rfl,rd_no HN.out (b_trans HB.out hb3)⟩
      ·have HN:=Lib.hid (no_blank hjc HAT.out (fun r h=>hp ⟨r,h⟩))
       have ca:=fun w=>after_bad tb ⟨#[32]⟩ w (fun r h=>hp ⟨r,h⟩)
       clear hp
       refine (ca _).mono ?_
       rintro e w2 ⟨rfl,hb2⟩
       exact ⟨rfl,rd_no HN.out (b_trans HB.out hb2)⟩
     ·obtain rfl:j=c:=by omega
      have e5:IntKind.i64.wrap ((k:Int)+1)=(k:Int)+1:=by rw [IntKind.wrap_i64]; omega
      go_wp2_with fail
      by_cases hp:∃ r,tb.data.toList=10 :: r
      ·obtain ⟨r,hp⟩:=hp
       have HP:=Lib.hid hp
       have ca:=fun w=>after_ok tb ⟨#[10]⟩ r w (by rw [HP.out]; rfl)
       obtain ⟨rb,hrb⟩:∃ rb:ByteArray,⟨r.toArray⟩=rb:=⟨_,rfl⟩
       have hrl:rb.data.toList=r:=by rw [← hrb]
       have hrs:rb.size≤3000:=by
        have:=congrArg List.length HP.out
        rw [List.length_cons,← Lib.size_eq] at this
        rw [Lib.size_eq,hrl]
        omega
       rw [hrb] at ca
       have A1:AtLine l rb.data.toList (k+1) z:=by
        rw [hrl]
        refine at_end hkt ?_
        rw [← HP.out,HC.out]
        exact HAT.out
       have HA1:=Lib.hid A1
       have HRB:=Lib.hid hrb
       have HRL:=Lib.hid hrl
       clear hp hrb hrl A1
       refine (ca _).mono ?_
       rintro e w2 ⟨rfl,hw⟩
       rw [hw]
       clear hw ca
       go_wp2
       go_roundw
       case rel=>exact ⟨k+1,z,rb,by omega,by go_num,rfl,hrs,HA1.out,HZ6.out,HR.out,HO.out,HQ.out,HB.out⟩
       case measure=>simp [RowKit.intOf]; omega
      ·have HN:=Lib.hid (no_end (by rw [HC.out]; exact HAT.out) (fun r h=>hp ⟨r,h⟩))
       have ca:=fun w=>after_bad tb ⟨#[10]⟩ w (fun r h=>hp ⟨r,h⟩)
       clear hp
       refine (ca _).mono ?_
       rintro e w2 ⟨rfl,hb2⟩
       exact ⟨rfl,rd_no HN.out (b_trans HB.out hb2)⟩
   ·have HN:=Lib.hid (no_name hkt HAT.out (fun r h=>hp ⟨r,h⟩))
    have ca:=fun w=>after_bad tb nm w (by rw [HNL.out]; exact fun r h=>hp ⟨r,h⟩)
    clear hp c1 c2
    refine (ca _).mono ?_
    rintro e w2 ⟨rfl,hb2⟩
    exact ⟨rfl,rd_no HN.out (b_trans (b_alloc HB.out) hb2)⟩
  ·obtain rfl:k=18:=by omega
   have gr:=HR.out
   unfold RW at gr
   by_cases he:tb.data.toList=[]
   ·have n1:tb.toList=[]:=by rw [Lib.toList_data,he]
    have n2:tb.toList.isEmpty=true:=by rw [n1]; rfl
    have HX:=Lib.hid (show Reads l z from ⟨HZ6.out,at_last (by rw [← he]; exact HAT.out)⟩)
    clear he
    go_wp2_with (with_reducible refine stop_at (some 40) rfl ?_)
    refine unstop ?_
    refine wpList_load_row rfl 27 (.tmp 3) rfl (w.heap.size+1) rfl 27 _ (0,0) _ gr Tryz.underlying27 rfl (by kernel_rfl) ?_
    go_wp2_with (with_reducible refine stop_at none rfl ?_)
    refine unstop ?_
    refine wpList_store_row rfl 27 (.tmp 2) (.tmp 40) rfl w.heap.size (rowOf z) rfl rfl 27 _ HQ.out (by kernel_rfl) rfl (by kernel_rfl) ?_
    have hg2:=setRow_heap _ _ _ (rowOf z) _ _ HQ.out
    have E4:=row_below HB.out (g:=w.heap.size) (cs:=rowOf z) (Nat.le_refl _)
    generalize wr.setRow w.heap.size (rowOf z)=y3 at *
    clear gr
    go_wp2
    exact bodyPost_ret (v:=.agg (rowOf z)) (results_cell_row Tryz.results39 _ _ w.heap.size 27 _ (0,0) _ rfl hg2 Tryz.underlying27 rfl (by kernel_rfl)) rfl (rd_ok HX.out E4)
   ·have n1:¬ tb.toList=[]:=by rw [Lib.toList_data]; exact he
    have n2:tb.toList.isEmpty=false:=by simpa using n1
    have HN:=Lib.hid (no_last HAT.out he)
    clear he gr
    go_wp2
    exact ⟨rfl,rd_no HN.out HB.out⟩
end Go.Proofs.YthnofhjgfhapiaaGreatDoor
namespace Go.Proofs.YthnofhjgfhapiaaGreatDoor
open Go.RowKit Go.Shelf Go.Lib Go.Maps
abbrev thr (r:Bool):PanicEntry:={ v:=.iface 28 (.int .i64 6),recovered:=r }
theorem catch_thrown (c e:Nat) (old:Array Value) (hce:c≠e) (older:List PanicEntry) (w:World) (hc:w.heap[c]?=some (.cells old 27 (0,0))) (ho:old.size=31) (he:w.cell? ⟨e,0,none⟩=some (.int .i64 0)) (hf:w.frozen? ⟨e,0,none⟩=false) :
  CallsD Tryz.prog 38 #[.pointer (some ⟨c,0,none⟩),.pointer (some ⟨e,0,none⟩)] (.panicking (thr false :: older)) w fun en u' w'=>en=.returned (.tuple #[])∧u'=.panicking (thr true :: older)∧w'=(w.setRow c #[.int .i64 0,.int .i64 0,.int .i64 0,.int .i64 0,.int .i64 0,.int .i64 0,.int .i64 0,.int .i64 0,.int .i64 0,.int .i64 0,.int .i64 0,.int .i64 0,.int .i64 0,.int .i64 0,.int .i64 0,.int .i64 0,.int .i64 0,.int .i64 0,.int .i64 0,.int .i64 0,.int .i64 0,.int .i64 0,.int .i64 0,.int .i64 0,.int .i64 0,.int .i64 0,.int .i64 0,.int .i64 0,.int .i64 0,.int .i64 0,.int .i64 0]).setCell ⟨e,0,none⟩ (.int .i64 6):=by
 have ta:∀ xT w,(Instr.typeAssert (.iface 28 (.int .i64 6)) xT 28 true).run Tryz.prog w=.ok (.tuple #[.int .i64 6,.bool true]) w:=fun xT w=>by kernel_rfl
 refine callsD_of_wpS Tryz.func38 rfl fun c₀ cs hu=>?_
 change Code.wpS _ _ _ { tmps:=#[.pointer (some ⟨c,0,none⟩),.pointer (some ⟨e,0,none⟩),undef,undef,undef,undef,undef,undef,undef,undef,undef,undef,undef,undef,undef,undef,undef,undef],defers:=[] } _ _
 apply wpS_seq
 apply wpS_region
 simp [wpOpsS,go_sem,recoverD,hu,Exit.thenS]
 refine wpS_of_wp ?_
 have f1:(w.setRow c #[.int .i64 0,.int .i64 0,.int .i64 0,.int .i64 0,.int .i64 0,.int .i64 0,.int .i64 0,.int .i64 0,.int .i64 0,.int .i64 0,.int .i64 0,.int .i64 0,.int .i64 0,.int .i64 0,.int .i64 0,.int .i64 0,.int .i64 0,.int .i64 0,.int .i64 0,.int .i64 0,.int .i64 0,.int .i64 0,.int .i64 0,.int .i64 0,.int .i64 0,.int .i64 0,.int .i64 0,.int .i64 0,.int .i64 0,.int .i64 0,.int .i64 0]).cell? ⟨e,0,none⟩=some (.int .i64 0):=by rw [cell_setRow_other _ _ _ _ (Ne.symm hce)]; exact he
 have f2:(w.setRow c #[.int .i64 0,.int .i64 0,.int .i64 0,.int .i64 0,.int .i64 0,.int .i64 0,.int .i64 0,.int .i64 0,.int .i64 0,.int .i64 0,.int .i64 0,.int .i64 0,.int .i64 0,.int .i64 0,.int .i64 0,.int .i64 0,.int .i64 0,.int .i64 0,.int .i64 0,.int .i64 0,.int .i64 0,.int .i64 0,.int .i64 0,.int .i64 0,.int .i64 0,.int .i64 0,.int .i64 0,.int .i64 0,.int .i64 0,.int .i64 0,.int .i64 0]).frozen? ⟨e,0,none⟩=false:=by rw [show (w.setRow c #[.int .i64 0,.int .i64 0,.int .i64 0,.int .i64 0,.int .i64 0,.int .i64 0,.int .i64 0,.int .i64 0,.int .i64 0,.int .i64 0,.int .i64 0,.int .i64 0,.int .i64 0,.int .i64 0,.int .i64 0,.int .i64 0,.int .i64 0,.int .i64 0,.int .i64 0,.int .i64 0,.int .i64 0,.int .i64 0,.int .i64 0,.int .i64 0,.int .i64 0,.int .i64 0,.int .i64 0,.int .i64 0,.int .i64 0,.int .i64 0,.int .i64 0]).frozen? ⟨e,0,none⟩=w.frozen? ⟨e,0,none⟩ from by simp [World.frozen?,setRow_other w c e #[.int .i64 0,.int .i64 0,.int .i64 0,.int .i64 0,.int .i64 0,.int .i64 0,.int .i64 0,.int .i64 0,.int .i64 0,.int .i64 0,.int .i64 0,.int .i64 0,.int .i64 0,.int .i64 0,.int .i64 0,.int .i64 0,.int .i64 0,.int .i64 0,.int .i64 0,.int .i64 0,.int .i64 0,.int .i64 0,.int .i64 0,.int .i64 0,.int .i64 0,.int .i64 0,.int .i64 0,.int .i64 0,.int .i64 0,.int .i64 0,.int .i64 0] (Ne.symm hce)]]; exact hf
 have HC:=Lib.hid hc
 obtain ⟨w1,hw1⟩:∃ w1,w.setRow c #[.int .i64 0,.int .i64 0,.int .i64 0,.int .i64 0,.int .i64 0,.int .i64 0,.int .i64 0,.int .i64 0,.int .i64 0,.int .i64 0,.int .i64 0,.int .i64 0,.int .i64 0,.int .i64 0,.int .i64 0,.int .i64 0,.int .i64 0,.int .i64 0,.int .i64 0,.int .i64 0,.int .i64 0,.int .i64 0,.int .i64 0,.int .i64 0,.int .i64 0,.int .i64 0,.int .i64 0,.int .i64 0,.int .i64 0,.int .i64 0,.int .i64 0]=w1:=⟨_,rfl⟩
 rw [hw1] at f1 f2
 have HW:=Lib.hid hw1
 clear hc hw1
 go_wp2_with (with_reducible refine stop_at none rfl ?_)
 refine unstop ?_
 refine wpList_store_row rfl 27 (.tmp 0) (.tmp 16) rfl c #[.int .i64 0,.int .i64 0,.int .i64 0,.int .i64 0,.int .i64 0,.int .i64 0,.int .i64 0,.int .i64 0,.int .i64 0,.int .i64 0,.int .i64 0,.int .i64 0,.int .i64 0,.int .i64 0,.int .i64 0,.int .i64 0,.int .i64 0,.int .i64 0,.int .i64 0,.int .i64 0,.int .i64 0,.int .i64 0,.int .i64 0,.int .i64 0,.int .i64 0,.int .i64 0,.int .i64 0,.int .i64 0,.int .i64 0,.int .i64 0,.int .i64 0] rfl rfl 27 old HC.out (by kernel_rfl) ho (by kernel_rfl) ?_
 rw [HW.out]
 go_wp2
 exact ⟨rfl,.panicking (thr true :: older),rfl,.tuple #[],by simp [results,Tryz.results38],rfl,rfl,by rw [HW.out]⟩
theorem catch_idle (c e:Nat) (w:World) :
  CallsD Tryz.prog 38 #[.pointer (some ⟨c,0,none⟩),.pointer (some ⟨e,0,none⟩)] .returning w fun en u' w'=>en=.returned (.tuple #[])∧u'=.returning∧w'=w:=by
 refine callsD_of_wpS Tryz.func38 rfl fun c₀ cs hu=>?_
 change Code.wpS _ _ _ { tmps:=#[.pointer (some ⟨c,0,none⟩),.pointer (some ⟨e,0,none⟩),undef,undef,undef,undef,undef,undef,undef,undef,undef,undef,undef,undef,undef,undef,undef,undef],defers:=[] } _ _
 apply wpS_seq
 apply wpS_region
 simp [wpOpsS,go_sem,recoverD,hu,Exit.thenS]
 refine wpS_of_wp ?_
 go_wp2
 exact ⟨rfl,.returning,by rw [← hu],.tuple #[],by simp [results,Tryz.results38],rfl,rfl,rfl⟩
theorem results_two {P:Program} {fn:Func} {p q:Tmp} {ty te:TypeId} (h:fn.results=#[.cell p ty,.cell q te]) (tmps:Array Value) (w:World) (g e:Nat) (t:TypeId) (cs:Array Value) (fr:Nat × Nat) (d:TypeDesc) (v:Value)
  (hp:tmps.getD p undef=.pointer (some ⟨g,0,none⟩)) (hq:tmps.getD q undef=.pointer (some ⟨e,0,none⟩)) (hg:w.heap[g]?=some (.cells cs t fr))
  (hu:P.underlying ty=some d) (hd:(match d with | .struct _ | .array _ _=>true | _=>false)=true) (hi:(P.info? ty).map (·.size)=some cs.size) (hv:(loadVar te ⟨e,0,none⟩).run P w=.ok v w) :
  (results fn tmps).run P w=.ok (.tuple #[.agg cs,v]) w:=by
 have hp':tmps[p]?.getD undef=.pointer (some ⟨g,0,none⟩):=by simpa using hp
 have hq':tmps[q]?.getD undef=.pointer (some ⟨e,0,none⟩):=by simpa using hq
 simp [results,h,hp',hq',asAddr,run_loadVar_row w g t ty cs fr d hg hu hd hi,hv]
def RetGt (l:List UInt8) (w:World) (e:Ending) (w':World):Prop:=(∃ x,Reads l x∧e=.returned (.tuple #[.agg (rowOf x),.int .i64 0])∧Below w.heap.size w w')∨(NoConf l∧e=.returned (.tuple #[zv,.int .i64 6])∧Below w.heap.size w w')
theorem get_any (s:ByteArray) (hs:s.size≤3000) (w:World) (ev:EV w):Calls Tryz.prog 15 #[.string s] w (RetGt s.data.toList w):=by
 have hmf:∀ (fn:Fn) (first cap:Array Value) (w:World),(Instr.makeFunc fn first cap).run Tryz.prog w=.ok (.func fn first cap) w:=fun _ _ _ _=>rfl
 have cr:=read_any s hs
 obtain ⟨l,hl⟩:∃ l,s.data.toList=l:=⟨_,rfl⟩
 rw [hl] at cr ⊢
 have HL:=Lib.hid hl
 have HEV:=Lib.hid ev
 clear hl ev
 go_enter_defers Tryz.func15,Tryz.ntmps15
 go_wp2_with fail
 have E0:Below w.heap.size w ((w.alloc (Obj.cells #[.int .i64 0,.int .i64 0,.int .i64 0,.int .i64 0,.int .i64 0,.int .i64 0,.int .i64 0,.int .i64 0,.int .i64 0,.int .i64 0,.int .i64 0,.int .i64 0,.int .i64 0,.int .i64 0,.int .i64 0,.int .i64 0,.int .i64 0,.int .i64 0,.int .i64 0,.int .i64 0,.int .i64 0,.int .i64 0,.int .i64 0,.int .i64 0,.int .i64 0,.int .i64 0,.int .i64 0,.int .i64 0,.int .i64 0,.int .i64 0,.int .i64 0] 27)).alloc (Obj.cells #[.int .i64 0] 28)):=b_alloc (b_alloc (Below.refl _ _))
 have Q0:((w.alloc (Obj.cells #[.int .i64 0,.int .i64 0,.int .i64 0,.int .i64 0,.int .i64 0,.int .i64 0,.int .i64 0,.int .i64 0,.int .i64 0,.int .i64 0,.int .i64 0,.int .i64 0,.int .i64 0,.int .i64 0,.int .i64 0,.int .i64 0,.int .i64 0,.int .i64 0,.int .i64 0,.int .i64 0,.int .i64 0,.int .i64 0,.int .i64 0,.int .i64 0,.int .i64 0,.int .i64 0,.int .i64 0,.int .i64 0,.int .i64 0,.int .i64 0,.int .i64 0] 27)).alloc (Obj.cells #[.int .i64 0] 28)).heap[w.heap.size]?=some (.cells #[.int .i64 0,.int .i64 0,.int .i64 0,.int .i64 0,.int .i64 0,.int .i64 0,.int .i64 0,.int .i64 0,.int .i64 0,.int .i64 0,.int .i64 0,.int .i64 0,.int .i64 0,.int .i64 0,.int .i64 0,.int .i64 0,.int .i64 0,.int .i64 0,.int .i64 0,.int .i64 0,.int .i64 0,.int .i64 0,.int .i64 0,.int .i64 0,.int .i64 0,.int .i64 0,.int .i64 0,.int .i64 0,.int .i64 0,.int .i64 0,.int .i64 0] 27 (0,0)):=block_alloc (heap_alloc_last w _)
 have P0:((w.alloc (Obj.cells #[.int .i64 0,.int .i64 0,.int .i64 0,.int .i64 0,.int .i64 0,.int .i64 0,.int .i64 0,.int .i64 0,.int .i64 0,.int .i64 0,.int .i64 0,.int .i64 0,.int .i64 0,.int .i64 0,.int .i64 0,.int .i64 0,.int .i64 0,.int .i64 0,.int .i64 0,.int .i64 0,.int .i64 0,.int .i64 0,.int .i64 0,.int .i64 0,.int .i64 0,.int .i64 0,.int .i64 0,.int .i64 0,.int .i64 0,.int .i64 0,.int .i64 0] 27)).alloc (Obj.cells #[.int .i64 0] 28)).heap[w.heap.size+1]?=some (.cells #[.int .i64 0] 28 (0,0)):=by
  have:=heap_alloc_last (w.alloc (Obj.cells #[.int .i64 0,.int .i64 0,.int .i64 0,.int .i64 0,.int .i64 0,.int .i64 0,.int .i64 0,.int .i64 0,.int .i64 0,.int .i64 0,.int .i64 0,.int .i64 0,.int .i64 0,.int .i64 0,.int .i64 0,.int .i64 0,.int .i64 0,.int .i64 0,.int .i64 0,.int .i64 0,.int .i64 0,.int .i64 0,.int .i64 0,.int .i64 0,.int .i64 0,.int .i64 0,.int .i64 0,.int .i64 0,.int .i64 0,.int .i64 0,.int .i64 0] 27)) (Obj.cells #[.int .i64 0] 28)
  rw [show (w.alloc (Obj.cells #[.int .i64 0,.int .i64 0,.int .i64 0,.int .i64 0,.int .i64 0,.int .i64 0,.int .i64 0,.int .i64 0,.int .i64 0,.int .i64 0,.int .i64 0,.int .i64 0,.int .i64 0,.int .i64 0,.int .i64 0,.int .i64 0,.int .i64 0,.int .i64 0,.int .i64 0,.int .i64 0,.int .i64 0,.int .i64 0,.int .i64 0,.int .i64 0,.int .i64 0,.int .i64 0,.int .i64 0,.int .i64 0,.int .i64 0,.int .i64 0,.int .i64 0] 27)).heap.size=w.heap.size+1 by simp] at this
  exact this
 generalize ((w.alloc (Obj.cells #[.int .i64 0,.int .i64 0,.int .i64 0,.int .i64 0,.int .i64 0,.int .i64 0,.int .i64 0,.int .i64 0,.int .i64 0,.int .i64 0,.int .i64 0,.int .i64 0,.int .i64 0,.int .i64 0,.int .i64 0,.int .i64 0,.int .i64 0,.int .i64 0,.int .i64 0,.int .i64 0,.int .i64 0,.int .i64 0,.int .i64 0,.int .i64 0,.int .i64 0,.int .i64 0,.int .i64 0,.int .i64 0,.int .i64 0,.int .i64 0,.int .i64 0] 27)).alloc (Obj.cells #[.int .i64 0] 28))=y0 at *
 refine (cr _ (ev_keep E0 HEV.out)).mono ?_
 rintro e w3 (⟨x,hx,rfl,hb⟩ | ⟨hn,rfl,hb⟩)
 ·replace E0:=b_trans E0 hb
  replace Q0:=block_keep hb Q0
  replace P0:=block_keep hb P0
  have HX:=Lib.hid hx
  have HE:=Lib.hid E0
  have HQ:=Lib.hid Q0
  have f1:(w3.setRow w.heap.size (rowOf x)).cell? ⟨w.heap.size+1,0,none⟩=some (.int .i64 0):=row_at ((setRow_other _ _ _ _ (by omega)).trans P0) rfl
  have f2:(w3.setRow w.heap.size (rowOf x)).frozen? ⟨w.heap.size+1,0,none⟩=false:=frozen_of_row _ _ 0 _ _ ((setRow_other _ _ _ _ (by omega)).trans P0)
  have f3:=Lib.hid (set_other (c:=w.heap.size+1) (o:=0) (v:=.int .i64 0) (setRow_heap _ _ _ (rowOf x) _ _ Q0) (by omega))
  have E4:=Lib.hid (b_set (p:=⟨w.heap.size+1,0,none⟩) (v:=.int .i64 0) (row_below E0 (g:=w.heap.size) (cs:=rowOf x) (Nat.le_refl _)) (Nat.le_succ _))
  clear hx E0 Q0 P0 hb cr
  go_wp2_with (with_reducible refine stop_at none rfl ?_)
  refine unstop ?_
  refine wpList_store_row rfl 27 (.tmp 2) (.tmp 6) rfl w.heap.size (rowOf x) rfl rfl 27 _ HQ.out (by kernel_rfl) rfl (by kernel_rfl) ?_
  generalize w3.setRow w.heap.size (rowOf x)=w4 at *
  go_wp2
  refine leaves_cons (f:=38) (args:=#[.pointer (some ⟨w.heap.size,0,none⟩),.pointer (some ⟨w.heap.size+1,0,none⟩)]) (by simp) (by simp [go_sem]) ?_
  refine (catch_idle _ _ _).mono ?_
  rintro e u' w'' ⟨rfl,rfl,hw⟩
  rw [hw]
  have hres:=results_two (P:=Tryz.prog) Tryz.results15 #[.string s,undef,.pointer (some ⟨w.heap.size,0,none⟩),.pointer (some ⟨w.heap.size+1,0,none⟩),.func (.func 38) #[] #[.pointer (some ⟨w.heap.size,0,none⟩),.pointer (some ⟨w.heap.size+1,0,none⟩)],.string s,.agg (rowOf x)] (w4.setCell ⟨w.heap.size+1,0,none⟩ (.int .i64 0)) w.heap.size (w.heap.size+1) 27 _ (0,0) _ (.int .i64 0) rfl rfl f3.out Tryz.underlying27 rfl (by kernel_rfl) (by simp [go_sem,f1])
  exact ⟨_,hres,Or.inl ⟨x,HX.out,rfl,E4.out⟩⟩
 ·replace E0:=b_trans E0 hb
  replace Q0:=block_keep hb Q0
  replace P0:=block_keep hb P0
  have HN:=Lib.hid hn
  clear hn hb cr
  refine leaves_cons (f:=38) (args:=#[.pointer (some ⟨w.heap.size,0,none⟩),.pointer (some ⟨w.heap.size+1,0,none⟩)]) (by simp) (by simp [go_sem]) ?_
  refine (catch_thrown w.heap.size (w.heap.size+1) #[.int .i64 0,.int .i64 0,.int .i64 0,.int .i64 0,.int .i64 0,.int .i64 0,.int .i64 0,.int .i64 0,.int .i64 0,.int .i64 0,.int .i64 0,.int .i64 0,.int .i64 0,.int .i64 0,.int .i64 0,.int .i64 0,.int .i64 0,.int .i64 0,.int .i64 0,.int .i64 0,.int .i64 0,.int .i64 0,.int .i64 0,.int .i64 0,.int .i64 0,.int .i64 0,.int .i64 0,.int .i64 0,.int .i64 0,.int .i64 0,.int .i64 0] (by omega) [] _ Q0 rfl (row_at P0 rfl) (frozen_of_row _ _ 0 _ _ P0)).mono ?_
  rintro e u' w'' ⟨rfl,rfl,hw⟩
  rw [hw]
  have f1:(w3.setRow w.heap.size #[.int .i64 0,.int .i64 0,.int .i64 0,.int .i64 0,.int .i64 0,.int .i64 0,.int .i64 0,.int .i64 0,.int .i64 0,.int .i64 0,.int .i64 0,.int .i64 0,.int .i64 0,.int .i64 0,.int .i64 0,.int .i64 0,.int .i64 0,.int .i64 0,.int .i64 0,.int .i64 0,.int .i64 0,.int .i64 0,.int .i64 0,.int .i64 0,.int .i64 0,.int .i64 0,.int .i64 0,.int .i64 0,.int .i64 0,.int .i64 0,.int .i64 0]).cell? ⟨w.heap.size+1,0,none⟩=some (.int .i64 0):=row_at ((setRow_other _ _ _ _ (by omega)).trans P0) rfl
  have f3:=set_other (c:=w.heap.size+1) (o:=0) (v:=.int .i64 6) (setRow_heap _ _ _ #[.int .i64 0,.int .i64 0,.int .i64 0,.int .i64 0,.int .i64 0,.int .i64 0,.int .i64 0,.int .i64 0,.int .i64 0,.int .i64 0,.int .i64 0,.int .i64 0,.int .i64 0,.int .i64 0,.int .i64 0,.int .i64 0,.int .i64 0,.int .i64 0,.int .i64 0,.int .i64 0,.int .i64 0,.int .i64 0,.int .i64 0,.int .i64 0,.int .i64 0,.int .i64 0,.int .i64 0,.int .i64 0,.int .i64 0,.int .i64 0,.int .i64 0] _ _ Q0) (by omega)
  have E4:=b_set (p:=⟨w.heap.size+1,0,none⟩) (v:=.int .i64 6) (row_below E0 (g:=w.heap.size) (cs:=#[.int .i64 0,.int .i64 0,.int .i64 0,.int .i64 0,.int .i64 0,.int .i64 0,.int .i64 0,.int .i64 0,.int .i64 0,.int .i64 0,.int .i64 0,.int .i64 0,.int .i64 0,.int .i64 0,.int .i64 0,.int .i64 0,.int .i64 0,.int .i64 0,.int .i64 0,.int .i64 0,.int .i64 0,.int .i64 0,.int .i64 0,.int .i64 0,.int .i64 0,.int .i64 0,.int .i64 0,.int .i64 0,.int .i64 0,.int .i64 0,.int .i64 0]) (Nat.le_refl _)) (Nat.le_succ _)
  generalize w3.setRow w.heap.size #[.int .i64 0,.int .i64 0,.int .i64 0,.int .i64 0,.int .i64 0,.int .i64 0,.int .i64 0,.int .i64 0,.int .i64 0,.int .i64 0,.int .i64 0,.int .i64 0,.int .i64 0,.int .i64 0,.int .i64 0,.int .i64 0,.int .i64 0,.int .i64 0,.int .i64 0,.int .i64 0,.int .i64 0,.int .i64 0,.int .i64 0,.int .i64 0,.int .i64 0,.int .i64 0,.int .i64 0,.int .i64 0,.int .i64 0,.int .i64 0,.int .i64 0]=w4 at *
  have hres:=results_two (P:=Tryz.prog) Tryz.results15 #[.string s,undef,.pointer (some ⟨w.heap.size,0,none⟩),.pointer (some ⟨w.heap.size+1,0,none⟩),.func (.func 38) #[] #[.pointer (some ⟨w.heap.size,0,none⟩),.pointer (some ⟨w.heap.size+1,0,none⟩)],.string s,undef] (w4.setCell ⟨w.heap.size+1,0,none⟩ (.int .i64 6)) w.heap.size (w.heap.size+1) 27 _ (0,0) _ (.int .i64 6) rfl rfl f3 Tryz.underlying27 rfl (by kernel_rfl) (by simp [go_sem,f1])
  exact ⟨_,hres,Or.inr ⟨HN.out,rfl,E4⟩⟩
end Go.Proofs.YthnofhjgfhapiaaGreatDoor
