import Derived.Lib.SmallJoins
import Derived.Deep.WholeRow
import Derived.StillTactics
import Derived.Laws.Pointers
import Derived.Deep.RegionHeld3
import Derived.Deep.QuietTactic
import Derived.BigQuiet
import Derived.RowKit3
import Derived.Lib.Hide
import Derived.Lib.QuietBelow
import Derived.Laws.Bits64b
import Derived.Test.YtjifkmldigemkaaGreatDoorProg
import Derived.Shelf.Spec.BitsCarry
import Derived.Shelf.Bits.Mul64
import Derived.WalkKit
import Derived.WalkSpells
import Derived.Test.YtjifkmldigemkaaGreatDoorTag
import Derived.Test.YtjifkmldigemkaaGreatDoorTab
import Derived.Test.YtjifkmldigemkaaGreatDoorTaa
import Derived.Orders
import Derived.RegionTactic
import Derived.Below
import Derived.Laws.AppendOwn
import Derived.OwnWalk
import Derived.Test.YtjifkmldigemkaaGreatDoorTbq
import Derived.Test.YtjifkmldigemkaaGreatDoorTbo
set_option maxHeartbeats 2000000
set_option maxRecDepth 10000
namespace Go.Proofs.YtjifkmldigemkaaGreatDoor
open Go.RowKit Go.Shelf Go.Joins
theorem lat_yes {p:Int} {k:Nat} (h:p≤tb (k+1)):lat p (k+1)=k+1:=if_pos h
theorem lat_no {p:Int} {k:Nat} (h:¬ p≤tb (k+1)):lat p (k+1)=lat p k:=if_neg h
end Go.Proofs.YtjifkmldigemkaaGreatDoor
namespace Go.Proofs.YtjifkmldigemkaaGreatDoor
open Go.RowKit Go.Shelf Go.Joins
def DG (w:World) (v:Value) (l:List Int):Prop :=
 (v=.slice none 0 0∧l=[])∨∃ g cap cur fr,v=.slice (some ⟨g,0,none⟩) l.length cap∧w.heap[g]?=some (.cells cur 171 fr)∧l.length≤cap∧cap≤maxLen∧cur.size=cap∧cur.toList.take l.length=l.map (Value.int .u64)
theorem dg_keep {w w':World} {v:Value} {l:List Int} (h:DG w v l) (hb:Below w.heap.size w w'):DG w' v l:=by
 rcases h with h | ⟨g,cap,cur,fr,h1,h2,h3⟩
 ·exact Or.inl h
 ·refine Or.inr ⟨g,cap,cur,fr,h1,?_,h3⟩
  obtain ⟨hg,_⟩:=Array.getElem?_eq_some_iff.1 h2
  rw [hb.block g hg]; exact h2
theorem dg_of_owns {w:World} {base n:Nat} {v:Value} {l:List Int} (h:w.ownsRow base 171 1 v n (l.map (Value.int .u64))):DG w v l:=by
 obtain ⟨hl,h⟩:=h
 simp at hl
 subst hl
 rcases h with ⟨h1,h2⟩ | ⟨g,cap,cur,h1,_,h3,h4,h5,h6,h7⟩
 ·exact Or.inl ⟨h1,List.eq_nil_of_length_eq_zero h2⟩
 ·exact Or.inr ⟨g,cap,cur,(0,0),h1,h3,h4,h5,by omega,by simpa using h7⟩
theorem dg_len {w:World} {v:Value} {l:List Int} (h:DG w v l):∃ a cap,v=.slice a l.length cap∧l.length≤cap∧cap≤maxLen:=by
 rcases h with ⟨rfl,rfl⟩ | ⟨g,cap,cur,fr,h1,h2,h3,h4,_⟩
 ·exact ⟨none,0,rfl,Nat.le_refl _,by decide⟩
 ·exact ⟨_,cap,h1,h3,h4⟩
theorem dg_cell {w:World} {v:Value} {l:List Int} (h:DG w v l) (j:Nat) (hj:j<l.length):∃ g cap,v=.slice (some ⟨g,0,none⟩) l.length cap∧l.length≤cap∧cap≤maxLen∧w.cell? ⟨g,j,none⟩=some (.int .u64 (l.getD j 0)):=by
 rcases h with ⟨rfl,rfl⟩ | ⟨g,cap,cur,fr,h1,h2,h3,h4,h5,h6⟩
 ·simp at hj
 ·refine ⟨g,cap,h1,h3,h4,?_⟩
  rw [cell_of_block h2]
  have e:(cur.toList.take l.length)[j]?=(l.map (Value.int .u64))[j]?:=by rw [h6]
  rw [List.getElem?_take_of_lt hj,List.getElem?_map,List.getElem?_eq_getElem hj] at e
  rw [← Array.getElem?_toList,e,List.getD_eq_getElem?_getD,List.getElem?_eq_getElem hj]
  rfl
def BG (w:World) (v:Value) (z:Int):Prop :=
 ∃ n dv l,v=.agg #[.bool n,dv]∧DG w dv l∧Dig l∧Norm l∧(n=true→l≠[])∧z=sgn n (val l)
theorem bg_keep {w w':World} {v:Value} {z:Int} (h:BG w v z) (hb:Below w.heap.size w w'):BG w' v z:=by
 obtain ⟨n,dv,l,h1,h2,h3⟩:=h
 exact ⟨n,dv,l,h1,dg_keep h2 hb,h3⟩
def RetB (z:Int) (w:World) (e:Ending) (w':World):Prop:=∃ v,e=.returned v∧BG w' v z∧Below w.heap.size w w'
def RetD (z:Int) (k:Nat) (w:World) (e:Ending) (w':World):Prop :=
 ∃ v l,e=.returned v∧DG w' v l∧Dig l∧val l=z∧l.length≤k∧Below w.heap.size w w'
theorem sgn_neg {n:Bool} {l:List Int} (h:Dig l) (hn:Norm l) (hl:n=true→l≠[]):(sgn n (val l)<0↔n=true)∧(sgn n (val l)=0↔l=[])∧((sgn n (val l)).natAbs:Int)=val l:=by
 have h0:=val_nonneg h
 have hz:=val_zero h hn
 unfold sgn
 cases n with
 | false=>refine ⟨by simp; omega,by simpa using hz,by simp; omega⟩
 | true =>
  have hp:val l≠0:=fun e=>hl rfl (hz.1 e)
  refine ⟨by simp; omega,?_,by simp; omega⟩
  simp only [if_true]
  constructor
  ·intro e; exact hz.1 (by omega)
  ·rintro rfl; rfl
abbrev BC (w:World) (b:Nat) (n:Bool) (d:Value):Prop:=w.cell? ⟨b,0,none⟩=some (.bool n)∧w.cell? ⟨b,1,none⟩=some d
theorem bc_keep {w w':World} (hb:Below w.heap.size w w') {b:Nat} {n:Bool} {d:Value} (c:BC w b n d):BC w' b n d:=⟨cell_keep hb c.1,cell_keep hb c.2⟩
theorem digit_any (v:Value) (l:List Int) (i:Int) (w:World) (h:DG w v l) (i0:0≤i) (i1:i≤9223372036854775807) :
  Calls Tryz.prog 106 #[v,.int .i64 i] w fun e w'=>e=.returned (.int .u64 (l.getD i.toNat 0))∧w=w':=by
 obtain ⟨i,rfl⟩:=Int.eq_ofNat_of_zero_le i0
 rw [Int.toNat_natCast]
 by_cases c:i<l.length
 ·obtain ⟨g,cap,rfl,h3,h4,hc⟩:=dg_cell h i c
  unfold maxLen at h4
  clear h
  generalize l.getD i 0=q at *
  go_enter Tryz.func106,Tryz.ntmps106
  go_wp2
  go_ret
  exact ⟨rfl,rfl⟩
 ·obtain ⟨a,cap,rfl,h3,h4⟩:=dg_len h
  unfold maxLen at h4
  have e:l.getD i 0=0:=by rw [List.getD_eq_getElem?_getD,List.getElem?_eq_none (by omega)]; rfl
  rw [e]
  clear h e
  go_enter Tryz.func106,Tryz.ntmps106
  go_wp2
  go_ret
  exact ⟨rfl,rfl⟩
theorem Tryz.infoU:(Tryz.prog.info? 171).map (fun i=>(i.zero,i.size,i.bytes))=some (some (.int .u64 0),1,8):=by kernel_rfl
theorem cut_norm {l:List Int} {n:Nat} (hn:n≤l.length) (h:n=0∨l.getD (n - 1) 0≠0):Norm (l.take n):=by
 intro d hd
 rcases h with rfl | h
 ·simp at hd
 ·by_cases z:n=0
  ·subst z; simp at hd
  ·rw [List.getLast?_eq_getElem?,List.length_take,Nat.min_eq_left hn,List.getElem?_take_of_lt (by omega)] at hd
   rw [List.getD_eq_getElem?_getD,hd] at h
   exact h
theorem cut_take {l:List Int} {n:Nat} (h:l.getD n 0=0) (e:val (l.take (n+1))=val l):val (l.take n)=val l:=by
 rw [val_take_succ,h] at e; omega
theorem bg_cut {neg:Bool} {g cap:Nat} {cur:Array Value} {fr:Nat × Nat} {l:List Int} {n:Nat} {w:World} (hd:Dig l) (h2:w.heap[g]?=some (.cells cur 171 fr)) (h3:l.length≤cap) (h4:cap≤maxLen) (h5:cur.size=cap) (h6:cur.toList.take l.length=l.map (Value.int .u64))
  (hn:n≤l.length) (hv:val (l.take n)=val l) (hz:n=0∨l.getD (n - 1) 0≠0):BG w (.agg #[.bool (neg && decide (0<n)),.slice (some ⟨g,0,none⟩) n cap]) (sgn neg (val l)):=by
 have hl:(l.take n).length=n:=by rw [List.length_take,Nat.min_eq_left hn]
 refine ⟨_,_,l.take n,rfl,Or.inr ⟨g,cap,cur,fr,by rw [hl],h2,by omega,h4,h5,?_⟩,dig_take hd n,cut_norm hn hz,?_,?_⟩
 ·rw [hl,List.map_take,← h6,List.take_take,Nat.min_eq_left hn]
 ·intro h e
  have:n=0:=by rw [← hl,e]; rfl
  subst this
  simp at h
 ·rw [hv]
  by_cases c:n=0
  ·subst c
   simp [val] at hv
   rw [← hv]
   cases neg <;> rfl
  ·rw [show (neg && decide (0<n))=neg by simp [show 0<n by omega]]
theorem cut_some (neg:Bool) (g cap:Nat) (cur:Array Value) (fr:Nat × Nat) (l:List Int) (w:World) (hd:Dig l) (h2:w.heap[g]?=some (.cells cur 171 fr)) (h3:l.length≤cap) (h4:cap≤maxLen) (h5:cur.size=cap) (h6:cur.toList.take l.length=l.map (Value.int .u64)) :
  Calls Tryz.prog 108 #[.bool neg,.slice (some ⟨g,0,none⟩) l.length cap] w (RetB (sgn neg (val l)) w):=by
 have hD:DG w (.slice (some ⟨g,0,none⟩) l.length cap) l:=Or.inr ⟨g,cap,cur,fr,rfl,h2,h3,h4,h5,h6⟩
 have hg:g<w.heap.size:=(Array.getElem?_eq_some_iff.1 h2).1
 have hcell:∀ n:Nat,n<l.length→(w.alloc (Obj.cells #[.bool false,.slice none 0 0] 116)).cell? ⟨g,n,none⟩=some (.int .u64 (l.getD n 0)):=fun n hn=>by
  obtain ⟨g',cap',e,_,_,hc⟩:=dg_cell hD n hn
  simp at e
  obtain ⟨rfl,rfl⟩:=e
  rw [World.cell?_alloc_past _ _ _ hg]; exact hc
 have m4:cap≤9223372036854775807:=by unfold maxLen at h4; omega
 have HC:=Lib.hid hcell
 have HR:=Lib.hid (fun (o:Obj) n hn hv hz=>bg_cut (neg:=neg) (n:=n) (w:=w.alloc o) hd (by rw [Below.heap_alloc w o g hg]; exact h2) h3 h4 h5 h6 hn hv hz)
 clear hD hcell h2 h4 h5 h6 hd
 cases neg
 all_goals
  go_enter Tryz.func108,Tryz.ntmps108
  go_wp2
  go_loop [5] (fun nv=>∃ n:Nat,n≤l.length∧nv=.int .i64 n∧val (l.take n)=val l) (fun nv=>(intOf nv).toNat)
  case atStart=>exact ⟨l.length,Nat.le_refl _,rfl,by rw [val_take_all (Nat.le_refl _)]⟩
  case round =>
   obtain ⟨n,hn,rfl,hv⟩:=hrel
   have HV:=Lib.hid hv
   clear hv
   by_cases c:0<n
   ·obtain ⟨k,rfl⟩:∃ k,n=k+1:=⟨n - 1,by omega⟩
    have hc:=HC.out k (by omega)
    by_cases z:l.getD k 0=0
    ·have HZ:=Lib.hid z
     rw [z] at hc
     clear z
     go_wp2
     exact ⟨⟨k,by omega,rfl,cut_take HZ.out HV.out⟩,by simp [intOf]⟩
    ·have z1:(l.getD k 0 == 0)=false:=by rw [beq_eq_false_iff_ne]; exact z
     have HZ:=Lib.hid z
     clear z
     generalize hq:l.getD k 0=q at hc z1
     clear hq
     go_wp2
     exact bodyPost_ret (v:=.agg #[.bool (_ && decide (0<k+1)),.slice (some ⟨g,0,none⟩) (k+1) cap]) (by simp [results,Tryz.results108,go_sem]) rfl ⟨_,rfl,HR.out _ (k+1) hn HV.out (Or.inr HZ.out),b_alloc (Below.refl _ _)⟩
   ·obtain rfl:n=0:=by omega
    go_wp2
    exact bodyPost_ret (v:=.agg #[.bool (_ && decide (0<0)),.slice (some ⟨g,0,none⟩) 0 cap]) (by simp [results,Tryz.results108,go_sem]) rfl ⟨_,rfl,HR.out _ 0 hn HV.out (Or.inl rfl),b_alloc (Below.refl _ _)⟩
theorem cut_nil (neg:Bool) (w:World):Calls Tryz.prog 108 #[.bool neg,.slice none 0 0] w (RetB (sgn neg 0) w):=by
 have e:sgn neg 0=0:=by cases neg <;> rfl
 rw [e]
 clear e
 cases neg
 all_goals
  go_enter Tryz.func108,Tryz.ntmps108
  go_wp2
  refine wp_loop_rounds 1 ?_
  rw [rounds_succ]
  go_wp2
  exact bodyPost_ret (v:=.agg #[.bool false,.slice none 0 0]) (by simp [results,Tryz.results108,go_sem]) rfl ⟨_,rfl,⟨_,_,[],rfl,Or.inl ⟨rfl,rfl⟩,dig_nil,fun d h=>absurd h (by simp),by simp,rfl⟩,b_alloc (Below.refl _ _)⟩
theorem cut_any (neg:Bool) (v:Value) (l:List Int) (w:World) (hd:Dig l) (h:DG w v l):Calls Tryz.prog 108 #[.bool neg,v] w (RetB (sgn neg (val l)) w):=by
 rcases h with ⟨rfl,rfl⟩ | ⟨g,cap,cur,fr,rfl,h2,h3,h4,h5,h6⟩
 ·exact cut_nil neg w
 ·exact cut_some neg g cap cur fr l w hd h2 h3 h4 h5 h6
def OW (w:World) (base:Nat) (v:Value) (l:List Int):Prop:=w.ownsRow base 171 1 v l.length (l.map (Value.int .u64))
theorem ow_start {w:World} {base n:Nat} (hn:n=w.heap.size) (h:base≤w.heap.size):OW (w.alloc (Obj.cells #[] 171)) base (.slice (some ⟨n,0,none⟩) 0 0) []:=by
 subst hn
 exact ⟨rfl,Or.inr ⟨w.heap.size,0,#[],rfl,h,(MapKept.heap_alloc w _).1,Nat.le_refl _,by decide,rfl,rfl⟩⟩
theorem ow_block {w:World} {base:Nat} {v:Value} {l:List Int} (h:OW w base v l):∀ k,v.ownBlock=some k→base≤k:=by
 intro k hk
 obtain ⟨_,h⟩:=h
 rcases h with ⟨rfl,_⟩ | ⟨g,cap,cur,rfl,hb,_⟩
 ·simp [Value.ownBlock] at hk
 ·simp [Value.ownBlock] at hk; omega
theorem ow_snoc {w:World} {base:Nat} {v:Value} {l:List Int} {d:Int} (h:w.ownsRow base 171 1 v (l.length+1) (l.map (Value.int .u64) ++ [.int .u64 d])):OW w base v (l ++ [d]):=by
 unfold OW
 rw [List.length_append,List.map_append]
 exact h
theorem dg_set {w:World} {v:Value} {l:List Int} {p:Addr} {u:Value} {t:TypeId} {cs:Array Value} {fr:Nat × Nat} (h:DG w v l) (hp:w.heap[p.block]?=some (.cells cs t fr)) (ht:t≠171):DG (w.setCell p u) v l:=by
 rcases h with h | ⟨g,cap,cur,fr',h1,h2,h3⟩
 ·exact Or.inl h
 ·refine Or.inr ⟨g,cap,cur,fr',h1,?_,h3⟩
  rw [Below.heap_setCell w p u g ?_]
  ·exact h2
  ·intro e
   rw [e,hp] at h2
   simp at h2
   exact ht h2.2.1
def BV (w:World) (b:Nat):Prop:=∃ n a l c,w.heap[b]?=some (.cells #[.bool n,.slice a l c] 116 (0,0))
theorem bv_keep {w w':World} (hb:Below w.heap.size w w') {b:Nat} (h:BV w b):BV w' b:=by
 obtain ⟨n,a,l,c,h⟩:=h
 exact ⟨n,a,l,c,by rw [hb.block b (Array.getElem?_eq_some_iff.1 h).1]; exact h⟩
theorem bv_below {B:Nat} {w w':World} (hb:Below B w w') {b:Nat} (h:BV w b) (hB:b<B):BV w' b:=by
 obtain ⟨n,a,l,c,h⟩:=h
 exact ⟨n,a,l,c,by rw [hb.block b hB]; exact h⟩
theorem bv_new {w:World} {b:Nat} (n:Bool) (a:Option Addr) (l c:Nat) (hn:b=w.heap.size):BV (w.alloc (Obj.cells #[.bool n,.slice a l c] 116)) b:=by
 subst hn; exact ⟨n,a,l,c,(MapKept.heap_alloc w _).1⟩
theorem bv_lt {w:World} {b:Nat} (h:BV w b):b<w.heap.size:=by
 obtain ⟨n,a,l,c,h⟩:=h
 exact (Array.getElem?_eq_some_iff.1 h).1
theorem bv_use {w:World} {b:Nat} (h:BV w b):∃ n a l c,BC w b n (.slice a l c)∧WF w b:=by
 obtain ⟨n,a,l,c,h⟩:=h
 exact ⟨n,a,l,c,⟨by rw [cell_of_block h]; rfl,by rw [cell_of_block h]; rfl⟩,⟨unfrozen_of_block h 0,unfrozen_of_block h 1⟩⟩
theorem dg_store {w:World} {b:Nat} {v:Value} {l:List Int} {u u':Value} (hv:BV w b) (h:DG w v l):DG ((w.setCell ⟨b,0,none⟩ u).setCell ⟨b,1,none⟩ u') v l:=by
 obtain ⟨n,a,k,c,hv⟩:=hv
 exact dg_set (dg_set h hv (by decide)) (block_setCell hv u) (by decide)
theorem bg_store {w:World} {b:Nat} {v:Value} {z:Int} {u u':Value} (hv:BV w b) (h:BG w v z):BG ((w.setCell ⟨b,0,none⟩ u).setCell ⟨b,1,none⟩ u') v z:=by
 obtain ⟨n,dv,l,h1,h2,h3⟩:=h
 exact ⟨n,dv,l,h1,dg_store hv h2,h3⟩
theorem bg_form {w:World} {v:Value} {z:Int} (h:BG w v z):∃ n a k c,v=.agg #[.bool n,.slice a k c]:=by
 obtain ⟨n,dv,l,rfl,h2,_⟩:=h
 obtain ⟨a,c,rfl,_⟩:=dg_len h2
 exact ⟨n,a,_,c,rfl⟩
theorem val_natural {l:List Int} {x y:Int} (e:val l+65536 ^ l.length*y=x):val (l ++ [y % 65536])+65536 ^ (l ++ [y % 65536]).length*(y / 65536)=x:=by
 rw [val_snoc,List.length_append,List.length_cons,List.length_nil,Int.pow_succ]
 rw [← e]
 have h:(65536:Int) ^ l.length*y=65536 ^ l.length*(y % 65536+65536*(y / 65536)):=by congr 1; omega
 rw [h,Int.mul_add,← Int.mul_assoc]
 omega
theorem natural_any (x:Int) (x0:0≤x) (x1:x≤18446744073709551615) (w:World) :
  Calls Tryz.prog 109 #[.int .u64 x] w (RetB x w):=by
 obtain ⟨i0,hi,hz0,hz1,hz2⟩:=info_parts Tryz.infoU
 go_enter Tryz.func109,Tryz.ntmps109
 go_wp2
 go_loopw [0,3,4] (fun xv v i wr=>∃ (l:List Int) (y:Int),l.length≤4∧i=.int .i64 l.length∧xv=.int .u64 y∧0≤y∧y≤18446744073709551615∧OW wr (w.heap.size+1) v l∧Dig l∧val l+65536 ^ l.length*y=x∧Below (w.heap.size+1) (w.alloc (Obj.cells #[.bool false,.slice none 0 0] 116)) wr) (fun _ _ i _=>4 - (intOf i).toNat)
 case atStart=>exact ⟨[],x,Nat.zero_le _,rfl,rfl,x0,x1,ow_start (by simp) (by simp),dig_nil,by simp [val],(Below.refl _ _).alloc (by simp) _⟩
 case round =>
  obtain ⟨l,y,hl,rfl,rfl,y0,y1,hown,hd,he,hnx⟩:=hrel
  have HE:=Lib.hid he
  have hsz:=hnx.size
  simp at hsz
  clear he
  by_cases c:l.length<4
  ·go_wp2_with (at_builtin; refine wpList_append_own _ rfl _ _ 114 rfl (w.heap.size+1) 171 i0 (.int .u64 0) 1 8 Tryz.underlying114 hi hz0 hz1 hz2 rfl (by decide) _ _ _ rfl (World.ownsRow.alloc hown _) ⟨wr.heap.size,0,none⟩ 1 1 [.int .u64 (y % 65536)] rfl rfl ?c1 ?c2 ?c3 ?c4 ?c5 ?_)
   case c1 =>
    intro j u hj
    match j,hj with
    | 0,hj=>simp at hj; subst hj; simp [Addr.add]
   case c2=>intro u hu; simp at hu; subst hu; rfl
   case c3=>unfold maxLen; omega
   case c4=>omega
   case c5=>simp; omega
   intro v' w1 hown' hgrow _
   have R1:=ow_snoc hown'
   have R2:Below (w.heap.size+1) (w.alloc (Obj.cells #[.bool false,.slice none 0 0] 116)) w1:=(hnx.alloc (by omega) _).grown hgrow (by simp; omega) (ow_block hown)
   clear hown' hgrow hown
   go_wp2
   go_roundw
   case rel=>exact ⟨l ++ [y % 65536],y / 65536,by simp; omega,by simp,rfl,by omega,by omega,R1,dig_app hd (dig_one (by omega) (by omega)),val_natural HE.out,R2⟩
   case measure=>simp [intOf]; omega
  ·have hk:l.length=4:=by omega
   have e1:val l=x:=by
    have h1:=HE.out
    have h2:=val_nonneg hd
    have h3:=val_lt hd
    rw [hk] at h1
    have:(65536:Int) ^ 4=18446744073709551616:=by decide
    omega
   have E1:=Lib.hid e1
   clear e1 hk
   go_wp2_with fail
   refine (cut_any false _ l wr hd (dg_of_owns hown)).mono ?_
   rintro e w2 ⟨bv,rfl,hB,hb2⟩
   obtain ⟨n,a,k,c',rfl⟩:=bg_form hB
   have r2:BV w2 w.heap.size:=bv_keep hb2 (bv_below hnx (bv_new _ _ _ _ rfl) (by omega))
   obtain ⟨n',a',k',c'',r3,f3⟩:=bv_use r2
   have B2:Below w.heap.size w w2:=b_trans (((Below.refl _ _).alloc (Nat.le_refl _) _).trans (hnx.mono (by omega))) hb2
   rw [show sgn false (val l)=x from E1.out] at hB
   have HB:=Lib.hid (And.intro r2 hB)
   clear hnx hown hb2 hB r2
   go_wp2
   exact bodyPost_ret (v:=.agg #[.bool n,.slice a k c']) (by simp [results,Tryz.results109,go_sem,r3]) rfl ⟨_,rfl,bg_store HB.out.1 HB.out.2,b_set (b_set B2 (Nat.le_refl _)) (Nat.le_refl _)⟩
end Go.Proofs.YtjifkmldigemkaaGreatDoor
