import Derived.Test.YthnofhjgfhapiaaGreatDoorShelf
import Derived.Lib.AppendIntMem
import Derived.Lib.ItoaLen
import Derived.Lib.Slices
import Derived.Lib.ItoaNum
import Derived.Lib.AtoiAllCases
import Derived.Lib.ParseIntBTie
import Derived.Lib.IndexAny
import Derived.StillTactics
import Derived.Laws.Pointers
import Derived.Deep.RegionHeld3
import Derived.Deep.QuietTactic
import Derived.BigQuiet
import Derived.RowKit3
import Derived.Lib.Hide
import Derived.Lib.QuietBelow
import Derived.Laws.Bits64b
import Derived.Test.YthnofhjgfhapiaaGreatDoorProg
import Derived.Shelf.Spec.BitsCarry
import Derived.Shelf.Bits.Mul64
import Derived.WalkKit
import Derived.WalkSpells
import Derived.Orders
import Derived.RegionTactic
import Derived.Below
import Derived.Laws.Concat
import Derived.Deep.WholeRow
import Derived.Deep.LoopGhost
import Derived.Lib.SmallJoins
import Derived.Laws.AppendOwn
import Derived.OwnWalk
import Derived.Maps.AppendAt
import Derived.Deep.Onto
import Derived.Laws.Cover1
import Derived.ChangeKeysEq
import Derived.ScopeJumps
import Derived.WalkMore
import Derived.IntWalk
import Derived.StillTailTactics
import Derived.LoopN
import Derived.Test.YthnofhjgfhapiaaGreatDoorWbj
import Derived.Test.YthnofhjgfhapiaaGreatDoorWbi
import Derived.Test.YthnofhjgfhapiaaGreatDoorWaa
import Derived.Test.YthnofhjgfhapiaaGreatDoorWac
import Derived.Test.YthnofhjgfhapiaaGreatDoorWbk
import Derived.Test.YthnofhjgfhapiaaGreatDoorWab
import Derived.Test.YthnofhjgfhapiaaGreatDoorWaj
import Derived.Test.YthnofhjgfhapiaaGreatDoorWah
import Derived.Test.YthnofhjgfhapiaaGreatDoorWbm
import Derived.Test.YthnofhjgfhapiaaGreatDoorWag
import Derived.Test.YthnofhjgfhapiaaGreatDoorWai
import Derived.Test.YthnofhjgfhapiaaGreatDoorWbn
import Derived.Test.YthnofhjgfhapiaaGreatDoorWae
import Derived.Test.YthnofhjgfhapiaaGreatDoorWad
import Derived.Test.YthnofhjgfhapiaaGreatDoorWaf
import Derived.Laws.RangeAny
import Derived.Laws.Runes
import Derived.Lib.OthersKept
import Derived.Lib.TrimU
import Derived.Outline
import Derived.WalkLawsBesides
import Derived.Lib.AppendStr
import Derived.Deep.RegionLaw
import Derived.Laws.IdiomStrings
import Derived.Test.YthnofhjgfhapiaaGreatDoorWbp
set_option maxHeartbeats 4000000
set_option maxRecDepth 20000
namespace Go.Proofs.YthnofhjgfhapiaaGreatDoor
open Go.RowKit Go.Shelf Go.Lib Go.Maps
theorem grown_block {w w':World} {row:Option Nat} {g:Nat} {o:Obj} (h:w.grownBy w' row) (hg:w.heap[g]?=some o) (hn:row≠some g):w'.heap[g]?=some o:=by
 have hl:g<w.heap.size:=(Array.getElem?_eq_some_iff.1 hg).1
 rw [h.block g hl (fun e=>hn e.symm)]
 exact hg
theorem block_keep {w w':World} {g:Nat} {o:Obj} (hb:Below w.heap.size w w') (hg:w.heap[g]?=some o):w'.heap[g]?=some o:=(hb.block g (Array.getElem?_eq_some_iff.1 hg).1).trans hg
theorem block_alloc {w:World} {g:Nat} {o q:Obj} (hg:w.heap[g]?=some o):(w.alloc q).heap[g]?=some o:=block_keep (b_alloc (Below.refl _ _)) hg
theorem own_row {w:World} {B:Nat} {t:TypeId} {v:Value} {n:Nat} {xs:List Value} (h:w.ownsRow B t 1 v n xs) (hn:0<n):∃ g cap cur,v=.slice (some ⟨g,0,none⟩) n cap∧B≤g∧w.heap[g]?=some (.cells cur t (0,0))∧n≤cur.size∧∀ (i:Nat) (u:Value),xs[i]?=some u→cur[i]?=some u:=by
 rcases h.2 with ⟨rfl,rfl⟩ | ⟨g0,cap,c0,rfl,hb,hg,hc,_,hs,ht⟩
 ·cases hn
 ·refine ⟨g0,cap,c0,rfl,hb,hg,by omega,fun i u hi=>?_⟩
  rw [← ht] at hi
  have hl:i<n*1:=by
   have:=(List.getElem?_eq_some_iff.1 hi).1
   rw [List.length_take] at this
   omega
  rw [List.getElem?_take_of_lt hl] at hi
  simpa using hi
theorem row_at {w:World} {g i:Nat} {cur:Array Value} {t:TypeId} {u:Value} (hg:w.heap[g]?=some (.cells cur t (0,0))) (hi:cur[i]?=some u):w.cell? ⟨g,i,none⟩=some u:=(cell_of_row _ _ i _ _ _ hg).trans hi
abbrev zv:Value:=.agg #[.int .i64 0,.int .i64 0,.int .i64 0,.int .i64 0,.int .i64 0,.int .i64 0,.int .i64 0,.int .i64 0,.int .i64 0,.int .i64 0,.int .i64 0,.int .i64 0,.int .i64 0,.int .i64 0,.int .i64 0,.int .i64 0,.int .i64 0,.int .i64 0,.int .i64 0,.int .i64 0,.int .i64 0,.int .i64 0,.int .i64 0,.int .i64 0,.int .i64 0,.int .i64 0,.int .i64 0,.int .i64 0,.int .i64 0,.int .i64 0,.int .i64 0]
end Go.Proofs.YthnofhjgfhapiaaGreatDoor
namespace Go.Proofs.YthnofhjgfhapiaaGreatDoor
open Go.RowKit Go.Shelf Go.Lib Go.Maps
theorem own_nup {w:World} {B:Nat} {t:TypeId} {v:Value} {n:Nat} {xs:List Value} (h:w.ownsRow B t 1 v n xs):v.ownBlock≠some w.heap.size:=fun e=>absurd (h.lt _ e).2 (Nat.lt_irrefl _)
end Go.Proofs.YthnofhjgfhapiaaGreatDoor
namespace Go.Proofs.YthnofhjgfhapiaaGreatDoor
open Go.RowKit Go.Shelf Go.Lib Go.Maps
theorem info_u8:(Tryz.prog.info? 5).map (fun i=>(i.zero,i.size,i.bytes))=some (some (.int .u8 0),1,1):=by kernel_rfl
theorem ln_form {w:World} {b i:Nat} {v:Value} (h:LN w b i v):∃ a,v=.slice a (cntL i) (cntL i)∧∀ j,j<cntL i→∃ N,a=some ⟨N,0,none⟩∧w.cell? ⟨N,j,none⟩=some (.pointer (some ⟨b,offL i+j,none⟩)):=by
 rcases h with ⟨h,rfl⟩ | ⟨N,rfl,hN⟩
 ·rw [h]
  exact ⟨none,rfl,fun j hj=>by omega⟩
 ·refine ⟨_,rfl,fun j hj=>⟨N,rfl,?_⟩⟩
  rw [cell_of_row _ _ j _ _ _ hN]
  simp [pcs,hj]
theorem step_append_own {P:Program} {ops:Array Oper} {o:Oper} {a:Act} {w:World} {K:Act→World→Prop} {Q:Exit→Act→World→Prop} {E:Prop} (hg:o.guard=none) (s x:Operand) (t:TypeId)
  (ho:o.op=.call { callee:=.builtin .append,args:=#[s,x],argTypes:=#[t,t] })
  (base:Nat) (e:TypeId) (i:TypeInfo) (z:Value) (size bytes:Nat) (ht:P.underlying t=some (.slice e)) (hi:P.info? e=some i) (hz:i.zero=some z)
  (hsize:i.size=size) (hby:i.bytes=bytes) (hzs:z.cells.size=size) (hsz:0<size)
  (v:Value) (n:Nat) (xs:List Value) (hs:a.eval s=v) (hown:w.ownsRow base e size v n xs)
  (ad:Addr) (m c:Nat) (news:List Value) (hx:a.eval x=.slice (some ad) m c) (hl:news.length=m*size) (hnews:∀ j u,news[j]?=some u→w.cell? (ad.add j)=some u) (h1:∀ u ∈ news,u.oneCell'=true)
  (h63:n+m≤maxLen) (hbytes:(n+m)*bytes≤140737488355328) (hbase:base≤w.heap.size)
  (h:∀ v' w',w'.ownsRow base e size v' (n+m) (xs ++ news)→w.grownBy w' v.ownBlock→K (a.put o.dst v') w'):if Region.wanted o (yielded ops a.tmps)=true then Oper.wp P o a w K Q else E:=by
 have hw:Region.wanted o (yielded ops a.tmps)=true:=by simp [Region.wanted,hg]
 rw [if_pos hw]
 exact wp_append_own w s x t ho base e i z size bytes ht hi hz hsize hby hzs hsz v n xs hs hown ad m c news hx hl hnews h1 h63 hbytes hbase (fun v' w' h2 h3 _=>h v' w' h2 h3)
theorem bc_app (l m:List UInt8):byteCells (l ++ m)=byteCells l ++ byteCells m:=by simp [byteCells]
theorem own_num {w:World} {B:Nat} {t:TypeId} {v:Value} {T:List UInt8} {X:Int} (h:w.ownsRow B t 1 v (T.length+1+(itoa X).length) (byteCells T ++ [.int .u8 32] ++ byteCells (itoa X))):w.ownsRow B t 1 v (T ++ 32 :: itoa X).length (byteCells (T ++ 32 :: itoa X)):=by
 have e1:byteCells (T ++ 32 :: itoa X)=byteCells T ++ [.int .u8 32] ++ byteCells (itoa X):=by simp [byteCells]
 have e2:(T ++ 32 :: itoa X).length=T.length+1+(itoa X).length:=by simp; omega
 rw [e1,e2]
 exact h
theorem line_len (x:Nat→Int) (hx:C64 x) (k j:Nat) (hk:k<18) (hj:j≤cntL k):(suf 0 k x ++ (nmL k ++ nums (offL k) j x)).length≤1500:=by
 have h1:=suf_len x hx k (by omega)
 have h2:=nm_len k hk
 have h3:=cnt_le k hk
 have h4:=off_le k hk
 have h5:=nums_len x j (offL k) (fun i _ hi=>hx i (by omega))
 simp only [List.length_append]
 omega
theorem put_any (x:Nat→Int) (hx:C64 x) (w:World) (ev:EV w):Calls Tryz.prog 7 #[cv x] w (RetV (.string ⟨(txt x).toArray⟩) w):=by
 obtain ⟨i0,hi,hz0,hz1,hz2⟩:=info_parts info_u8
 have E:Below w.heap.size w (w.alloc (Obj.cells #[.int .i64 (x 0),.int .i64 (x 1),.int .i64 (x 2),.int .i64 (x 3),.int .i64 (x 4),.int .i64 (x 5),.int .i64 (x 6),.int .i64 (x 7),.int .i64 (x 8),.int .i64 (x 9),.int .i64 (x 10),.int .i64 (x 11),.int .i64 (x 12),.int .i64 (x 13),.int .i64 (x 14),.int .i64 (x 15),.int .i64 (x 16),.int .i64 (x 17),.int .i64 (x 18),.int .i64 (x 19),.int .i64 (x 20),.int .i64 (x 21),.int .i64 (x 22),.int .i64 (x 23),.int .i64 (x 24),.int .i64 (x 25),.int .i64 (x 26),.int .i64 (x 27),.int .i64 (x 28),.int .i64 (x 29),.int .i64 (x 30)] 27)):=b_alloc (Below.refl _ _)
 have K:CF (w.alloc (Obj.cells #[.int .i64 (x 0),.int .i64 (x 1),.int .i64 (x 2),.int .i64 (x 3),.int .i64 (x 4),.int .i64 (x 5),.int .i64 (x 6),.int .i64 (x 7),.int .i64 (x 8),.int .i64 (x 9),.int .i64 (x 10),.int .i64 (x 11),.int .i64 (x 12),.int .i64 (x 13),.int .i64 (x 14),.int .i64 (x 15),.int .i64 (x 16),.int .i64 (x 17),.int .i64 (x 18),.int .i64 (x 19),.int .i64 (x 20),.int .i64 (x 21),.int .i64 (x 22),.int .i64 (x 23),.int .i64 (x 24),.int .i64 (x 25),.int .i64 (x 26),.int .i64 (x 27),.int .i64 (x 28),.int .i64 (x 29),.int .i64 (x 30)] 27)) w.heap.size x:=cf_new rfl
 have EV0:=ev_keep E ev
 go_enter Tryz.func7,Tryz.ntmps7
 go_wp2_with fail
 generalize (w.alloc (Obj.cells #[.int .i64 (x 0),.int .i64 (x 1),.int .i64 (x 2),.int .i64 (x 3),.int .i64 (x 4),.int .i64 (x 5),.int .i64 (x 6),.int .i64 (x 7),.int .i64 (x 8),.int .i64 (x 9),.int .i64 (x 10),.int .i64 (x 11),.int .i64 (x 12),.int .i64 (x 13),.int .i64 (x 14),.int .i64 (x 15),.int .i64 (x 16),.int .i64 (x 17),.int .i64 (x 18),.int .i64 (x 19),.int .i64 (x 20),.int .i64 (x 21),.int .i64 (x 22),.int .i64 (x 23),.int .i64 (x 24),.int .i64 (x 25),.int .i64 (x 26),.int .i64 (x 27),.int .i64 (x 28),.int .i64 (x 29),.int .i64 (x 30)] 27))=y0 at *
 refine (lines_any _ _).mono ?_
 rintro e y1 ⟨g,vs,rfl,hl,hg,hb⟩
 replace E:=b_trans E hb
 replace K:=cf_keep hb K
 have EV1:=Lib.hid (ev_keep hb EV0)
 have HK:=Lib.hid K
 have HL:=Lib.hid hl
 have HE:=Lib.hid E
 have hbs:w.heap.size≤y1.heap.size:=E.size
 clear hb EV0 ev hl K E
 go_wp2
 go_loopw [3,10] (fun tv iv wr=>∃ k:Nat,k≤18∧iv=.int .i64 k∧wr.ownsRow y1.heap.size 5 1 tv (suf 0 k x).length (byteCells (suf 0 k x))∧Below y1.heap.size y1 wr) (fun _ iv _=>18 - (RowKit.intOf iv).toNat)
 case atStart=>exact ⟨0,Nat.zero_le _,rfl,World.ownsRow_nil _ _ _ _,Below.refl _ _⟩
 case round =>
  obtain ⟨k,hk,rfl,ho,hb⟩:=hrel
  by_cases hlt:k<18
  ·obtain ⟨c1,c2,hn⟩:=lt_keep hb HL.out k hlt
   have K:=cf_keep hb HK.out
   have hsz:=hb.size
   obtain ⟨a,ha,hcs⟩:=ln_form (HL.out k hlt).2.2
   rw [ha] at c2
   obtain ⟨c,hc⟩:∃ c,cntL k=c:=⟨_,rfl⟩
   rw [hc] at hcs c2
   have hc3:c≤3:=by rw [← hc]; exact cnt_le k hlt
   have HO:=Lib.hid ho
   have HB:=Lib.hid hb
   have HA:=Lib.hid ha
   have HC:=Lib.hid hc
   have HCS:=Lib.hid hcs
   obtain ⟨nm,hnm⟩:∃ nm:ByteArray,⟨(nmL k).toArray⟩=nm:=⟨_,rfl⟩
   rw [hnm] at c1
   have hns:strCells nm=byteCells (nmL k):=by rw [← hnm]; rfl
   have hnz:nm.size=(nmL k).length:=by rw [← hnm]; rfl
   have hlen:=line_len x hx k 0 hlt (Nat.zero_le _)
   simp only [nums,List.append_nil,List.length_append] at hlen
   have HNS:=Lib.hid hns
   have HNZ:=Lib.hid hnz
   have HNM:=Lib.hid hnm
   clear ho hb hn ha hc hcs hns hnm
   go_wp2_with (at_builtin; refine wpList_append_own_string _ rfl _ _ 64 9 rfl y1.heap.size 5 i0 Tryz.underlying64 Tryz.underlying9 hi hz0 hz1 hz2 _ _ _ rfl (HO.out.alloc _) nm rfl (by unfold maxLen; omega) (by omega) (by simp; omega) ?_; intro v' w3 hown' hgrow3 hnil3; have cl:=row_at (i:=1) (u:=.slice a c c) (grown_block hgrow3 (heap_alloc_last wr _) (own_nup HO.out)) rfl; have hB3:=Lib.hid (Below.grown (b_alloc HB.out) hgrow3 (by simp; omega) (own_part HO.out)); have hO3:=Lib.hid hown'; clear hown' hgrow3 hnil3)
   have hO4:Hid (w3.ownsRow y1.heap.size 5 1 v' (suf 0 k x ++ (nmL k ++ nums (offL k) 0 x)).length (byteCells (suf 0 k x ++ (nmL k ++ nums (offL k) 0 x)))):=by
    have:=hO3.out
    rw [HNS.out,HNZ.out,← bc_app,← List.length_append] at this
    rw [nums,List.append_nil]
    exact Lib.hid this
   clear hO3 cl hsz c1 c2
   go_loopw [3,21] (fun tv jv wz=>∃ j:Nat,j≤c∧jv=.int .i64 j∧wz.ownsRow y1.heap.size 5 1 tv (suf 0 k x ++ (nmL k ++ nums (offL k) j x)).length (byteCells (suf 0 k x ++ (nmL k ++ nums (offL k) j x)))∧Below y1.heap.size y1 wz) (fun _ jv _=>c - (RowKit.intOf jv).toNat)
   case atStart=>exact ⟨0,Nat.zero_le _,rfl,hO4.out,hB3.out⟩
   case round =>
    obtain ⟨j,hj,rfl,ho,hb⟩:=hrel
    clear hO4 hB3 HO HB
    have hsz:=hb.size
    by_cases hjt:j<c
    ·obtain ⟨N,rfl,hcell⟩:=HCS.out j hjt
     have hc1:=cell_keep hb hcell
     obtain ⟨o,hoo⟩:∃ o,offL k+j=o:=⟨_,rfl⟩
     have ho31:o<31:=by rw [← hoo]; have:=off_le k hlt; have:=HC.out; omega
     rw [hoo] at hc1
     obtain ⟨X,hX⟩:∃ X,x o=X:=⟨_,rfl⟩
     have hX64:R64 X:=by rw [← hX]; exact hx o ho31
     have hc2:=cf_keep hb HK.out o ho31
     rw [hX] at hc2
     have hlen2:=line_len x hx k j hlt (by rw [HC.out]; exact hj)
     have hbl:w.heap.size<wr.heap.size:=World.block_lt_of_cell? wr _ hc2
     have hnx:nums (offL k) (j+1) x=nums (offL k) j x ++ 32 :: itoa X:=by rw [nums_snoc,hoo,hX]
     have hev:=ev_on (ev_keep hb EV1.out) (Below.refl GN wr)
     have HEV:=Lib.hid hev
     have HO:=Lib.hid ho
     have HB:=Lib.hid hb
     have HX:=Lib.hid hX
     have HOO:=Lib.hid hoo
     have HNX:=Lib.hid hnx
     have HCE:=Lib.hid hcell
     obtain ⟨T,hT⟩:∃ T,suf 0 k x ++ (nmL k ++ nums (offL k) j x)=T:=⟨_,rfl⟩
     rw [hT] at hlen2
     have HO2:Hid (wr.ownsRow y1.heap.size 5 1 u3 T.length (byteCells T)):=by rw [← hT]; exact HO
     have HT:=Lib.hid hT
     have gB:GN≤y1.heap.size:=EV1.out.1
     clear ho hb hX hoo hnx hcell hev HO hT
     have e5:IntKind.i64.wrap ((j:Int)+1)=(j:Int)+1:=by rw [IntKind.wrap_i64]; omega
     go_wp2_with fail
     go_region_law (first
      | (refine step_append_own rfl (.tmp 25) (.tmp 26) 64 rfl y1.heap.size 5 i0 (.int .u8 0) 1 1 Tryz.underlying64 hi hz0 hz1 hz2 rfl (by decide) _ _ _ rfl (HO2.out.drew.alloc _) ⟨wr.heap.size,0,none⟩ 1 1 [.int .u8 32] rfl rfl (cell_one_new _ _ _) (fun x hx=>by simp at hx; subst hx; rfl) (by unfold maxLen; omega) (by omega) (by simp; omega) ?_; intro va w1 hown1 hgrow1; have hB1:=Below.grown (b_alloc (b_drew HB.out)) hgrow1 (by simp; omega) (own_part HO2.out); have hc3:=(cf_keep hB1 HK.out o ho31).trans (by rw [HX.out]); have HO6:=Lib.hid hown1; have HB6:=Lib.hid hB1; clear hown1 hgrow1 hB1)
      | (go_simp; refine (append_int y1.heap.size _ X _ _ _ hX64 (ev_on EV1.out (HB6.out.mono gB)) gB HB6.out.size HO6.out (by omega)).mono ?_; rintro e w5 ⟨v5,rfl,ho5,hb5⟩; have HO7:=Lib.hid ho5; have HB7:=Lib.hid (HB6.out.trans hb5); clear ho5 hb5))
     all_goals
      have hkey:suf 0 k x ++ (nmL k ++ nums (offL k) (j+1) x)=T ++ 32 :: itoa X:=by rw [HNX.out,← HT.out]; simp
      have HKEY:=Lib.hid hkey
      clear hkey
      go_wp2
      go_roundw
      case rel=>exact ⟨j+1,by omega,by go_num,by rw [HKEY.out]; exact own_num HO7.out,HB7.out⟩
      case measure=>simp [RowKit.intOf]; omega
    ·obtain rfl:j=c:=by omega
     have hkey:suf 0 (k+1) x=suf 0 k x ++ (nmL k ++ nums (offL k) j x) ++ [10]:=by rw [suf_snoc,Nat.zero_add,lnL,HC.out]; simp
     have hlen2:=line_len x hx k j hlt (by rw [HC.out]; exact Nat.le_refl _)
     have e5:IntKind.i64.wrap ((k:Int)+1)=(k:Int)+1:=by rw [IntKind.wrap_i64]; omega
     obtain ⟨T,hT⟩:∃ T,suf 0 k x ++ (nmL k ++ nums (offL k) j x)=T:=⟨_,rfl⟩
     rw [hT] at hlen2 hkey ho
     have HT:=Lib.hid hT
     have HKEY:=Lib.hid hkey
     have HO2:=Lib.hid ho
     have HB:=Lib.hid hb
     clear hkey ho hb hT
     go_wp2_with (at_builtin; refine wpList_append_own _ rfl _ _ 64 rfl y1.heap.size 5 i0 (.int .u8 0) 1 1 Tryz.underlying64 hi hz0 hz1 hz2 rfl (by decide) _ _ _ rfl (HO2.out.alloc _) ⟨wr.heap.size,0,none⟩ 1 1 [.int .u8 10] rfl rfl (cell_one_new _ _ _) (fun x hx=>by simp at hx; subst hx; rfl) (by unfold maxLen; omega) (by omega) (by simp; omega) ?_; intro va w4 hown4 hgrow4 hnil4; have hB4:=Lib.hid (Below.grown (b_alloc HB.out) hgrow4 (by simp; omega) (own_part HO2.out)); have hO4:=Lib.hid hown4; clear hown4 hgrow4 hnil4)
     go_roundw
     case rel=>exact ⟨k+1,by omega,by go_num,by rw [HKEY.out,List.length_append,bc_app]; exact hO4.out,hB4.out⟩
     case measure=>simp [RowKit.intOf]; omega
  ·obtain rfl:k=18:=by omega
   have hpos:0<(suf 0 18 x).length:=by
    rw [show (18:Nat)=17+1 from rfl,suf_snoc,lnL,List.length_append,List.length_append,List.length_append]
    simp
    omega
   obtain ⟨gt,capt,curt,rfl,hgB,hgt,hct,hcv⟩:=own_row ho hpos
   have E5:=Lib.hid (HE.out.trans (hb.mono hbs))
   obtain ⟨l,hl18⟩:∃ l,suf 0 18 x=l:=⟨_,rfl⟩
   rw [hl18] at hcv hpos ⊢
   have hcv2:=run_convert_bytes_back (P:=Tryz.prog) wr 64 9 5 ⟨gt,0,none⟩ capt l Tryz.underlying64 Tryz.underlying5 Tryz.underlying9 (fun j hj=>by
    have e1:(⟨gt,0,none⟩:Addr).add j=⟨gt,j,none⟩:=by unfold Addr.add; split <;> simp_all
    rw [e1]
    exact row_at hgt (hcv j _ (by unfold byteCells; rw [List.getElem?_map,List.getElem?_eq_getElem hj]; rfl)))
   have HL18:=Lib.hid hl18
   clear hcv hgt ho hb hl18
   go_wp2
   go_ret
   exact ⟨by rw [show txt x=l from HL18.out]; rfl,E5.out⟩
end Go.Proofs.YthnofhjgfhapiaaGreatDoor
