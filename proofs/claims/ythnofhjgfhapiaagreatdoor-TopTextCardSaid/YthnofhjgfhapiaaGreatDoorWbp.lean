import Derived.Lib.ItoaNum
import Derived.Lib.ItoaLen
import Derived.Lib.AtoiAllCases
import Derived.Lib.ParseIntBTie
import Derived.Lib.IndexAny
import Derived.StillTactics
import Derived.Laws.Pointers
import Derived.Deep.RegionHeld3
import Derived.Deep.QuietTactic
import Derived.BigQuiet
import Derived.RowKit3
import Derived.Lib.Hide
import Derived.Lib.QuietBelow
import Derived.Laws.Bits64b
import Derived.Test.YthnofhjgfhapiaaGreatDoorProg
import Derived.Shelf.Spec.BitsCarry
import Derived.Shelf.Bits.Mul64
import Derived.WalkKit
import Derived.WalkSpells
import Derived.Orders
import Derived.RegionTactic
import Derived.Below
import Derived.Deep.WholeRow
import Derived.Test.YthnofhjgfhapiaaGreatDoorWbi
import Derived.Test.YthnofhjgfhapiaaGreatDoorWaa
import Derived.Test.YthnofhjgfhapiaaGreatDoorWac
import Derived.Test.YthnofhjgfhapiaaGreatDoorWbk
import Derived.Test.YthnofhjgfhapiaaGreatDoorWab
import Derived.Test.YthnofhjgfhapiaaGreatDoorWae
set_option maxHeartbeats 8000000
set_option maxRecDepth 20000
namespace Go.Proofs.YthnofhjgfhapiaaGreatDoor
open Go.RowKit Go.Shelf Go.Lib
def pcs (b o k:Nat):Array Value:=((List.range k).map fun j=>.pointer (some ⟨b,o+j,none⟩)).toArray
def LN (w:World) (b i:Nat) (v:Value):Prop:=(cntL i=0∧v=.slice none 0 0)∨∃ N,v=.slice (some ⟨N,0,none⟩) (cntL i) (cntL i)∧w.heap[N]?=some (.cells (pcs b (offL i) (cntL i)) 71 (0,0))
theorem ln_keep {w w':World} {b i:Nat} {v:Value} (hb:Below w.heap.size w w') (h:LN w b i v):LN w' b i v:=by
 rcases h with h | ⟨N,h1,h2⟩
 ·exact Or.inl h
 ·exact Or.inr ⟨N,h1,(hb.block N (Array.getElem?_eq_some_iff.1 h2).1).trans h2⟩
theorem row_any (b o:Nat) (w:World):Calls Tryz.prog 41 #[.pointer (some ⟨b,o,none⟩)] w fun e w'=>∃ N,e=.returned (.slice (some ⟨N,0,none⟩) 3 3)∧w'.heap[N]?=some (.cells (pcs b o 3) 71 (0,0))∧Below w.heap.size w w':=by
 have e:pcs b o 3=#[.pointer (some ⟨b,o,none⟩),.pointer (some ⟨b,o+1,none⟩),.pointer (some ⟨b,o+2,none⟩)]:=rfl
 rw [e]
 clear e
 go_enter Tryz.func41,Tryz.ntmps41
 go_wp2
 go_region
 go_wp2
 go_ret
 exact ⟨w.heap.size,rfl,heap_alloc_last w _,b_drew (b_alloc (Below.refl _ _))⟩
theorem par_one (b o:Nat) (w:World):Calls Tryz.prog 42 #[.pointer (some ⟨b,o,none⟩)] w fun e w'=>∃ N,e=.returned (.slice (some ⟨N,0,none⟩) 1 1)∧w'.heap[N]?=some (.cells (pcs b o 1) 71 (0,0))∧Below w.heap.size w w':=by
 have e:pcs b o 1=#[.pointer (some ⟨b,o,none⟩)]:=rfl
 rw [e]
 clear e
 go_enter Tryz.func42,Tryz.ntmps42
 go_wp2
 go_ret
 exact ⟨w.heap.size,rfl,heap_alloc_last w _,b_alloc (Below.refl _ _)⟩
def LT (w:World) (b g:Nat) (vs:Nat→Value):Prop:=∀ i,i<18→w.cell? ⟨g,i*2,none⟩=some (.string ⟨(nmL i).toArray⟩)∧w.cell? ⟨g,i*2+1,none⟩=some (vs i)∧LN w b i (vs i)
theorem lt_keep {w w':World} {b g:Nat} {vs:Nat→Value} (hb:Below w.heap.size w w') (h:LT w b g vs):LT w' b g vs:=fun i hi=>⟨cell_keep hb (h i hi).1,cell_keep hb (h i hi).2.1,ln_keep hb (h i hi).2.2⟩
def RetL (b:Nat) (w:World) (e:Ending) (w':World):Prop:=∃ g vs,e=.returned (.slice (some ⟨g,0,none⟩) 18 18)∧LT w' b g vs∧w.heap.size≤g∧Below w.heap.size w w'
theorem lines_any (b:Nat) (w:World):Calls Tryz.prog 18 #[.pointer (some ⟨b,0,none⟩)] w (RetL b w):=by
 go_enter Tryz.func18,Tryz.ntmps18
 go_wp2
 refine region_each [3,4,5,6,7,8,9,10,11,12,13,14,15,16,17,18,19,20,21,22,23,24,25,26,27,28,29,30,31,32,33,34,35,36,37,38,39,40,41,42,43,44,45,46,47,48,49,50,51,52,53,54,55,56,57,58,59,60,61,62,63,64,65,66,67,68,69,70,71,72,73,74,75,76,77,78,79,80,81,82,83,84,85,86,87,88] (fun i_ X_ U_=>match i_ with | 0=>X_=.pointer (some ⟨b,0,none⟩) | 1=>X_=.pointer (some ⟨b,0,none⟩) | 2=>X_=.pointer (some ⟨b,0,none⟩) | 3=>∃ N,X_=.slice (some ⟨N,0,none⟩) 3 3∧U_.heap[N]?=some (.cells (pcs b 0 3) 71 (0,0)) | 4=>∃ N,X_=.agg #[.string ⟨#[113]⟩,.slice (some ⟨N,0,none⟩) 3 3]∧U_.heap[N]?=some (.cells (pcs b 0 3) 71 (0,0)) | 5=>X_=.pointer (some ⟨b,0,none⟩) | 6=>X_=.pointer (some ⟨b,0,none⟩) | 7=>X_=.pointer (some ⟨b,3,none⟩) | 8=>∃ N,X_=.slice (some ⟨N,0,none⟩) 3 3∧U_.heap[N]?=some (.cells (pcs b 3 3) 71 (0,0)) | 9=>∃ N,X_=.agg #[.string ⟨#[108,111,111,115,101]⟩,.slice (some ⟨N,0,none⟩) 3 3]∧U_.heap[N]?=some (.cells (pcs b 3 3) 71 (0,0)) | 10=>X_=.pointer (some ⟨b,0,none⟩) | 11=>X_=.pointer (some ⟨b,0,none⟩) | 12=>X_=.pointer (some ⟨b,6,none⟩) | 13=>∃ N,X_=.slice (some ⟨N,0,none⟩) 1 1∧U_.heap[N]?=some (.cells (pcs b 6 1) 71 (0,0)) | 14=>∃ N,X_=.agg #[.string ⟨#[114]⟩,.slice (some ⟨N,0,none⟩) 1 1]∧U_.heap[N]?=some (.cells (pcs b 6 1) 71 (0,0)) | 15=>X_=.pointer (some ⟨b,0,none⟩) | 16=>X_=.pointer (some ⟨b,0,none⟩) | 17=>X_=.pointer (some ⟨b,7,none⟩) | 18=>∃ N,X_=.slice (some ⟨N,0,none⟩) 1 1∧U_.heap[N]?=some (.cells (pcs b 7 1) 71 (0,0)) | 19=>∃ N,X_=.agg #[.string ⟨#[114,103,114,111,117,110,100]⟩,.slice (some ⟨N,0,none⟩) 1 1]∧U_.heap[N]?=some (.cells (pcs b 7 1) 71 (0,0)) | 20=>X_=.pointer (some ⟨b,0,none⟩) | 21=>X_=.pointer (some ⟨b,0,none⟩) | 22=>X_=.pointer (some ⟨b,8,none⟩) | 23=>∃ N,X_=.slice (some ⟨N,0,none⟩) 3 3∧U_.heap[N]?=some (.cells (pcs b 8 3) 71 (0,0)) | 24=>∃ N,X_=.agg #[.string ⟨#[115,116,97,114,116]⟩,.slice (some ⟨N,0,none⟩) 3 3]∧U_.heap[N]?=some (.cells (pcs b 8 3) 71 (0,0)) | 25=>X_=.pointer (some ⟨b,0,none⟩) | 26=>X_=.pointer (some ⟨b,0,none⟩) | 27=>X_=.pointer (some ⟨b,11,none⟩) | 28=>∃ N,X_=.slice (some ⟨N,0,none⟩) 3 3∧U_.heap[N]?=some (.cells (pcs b 11 3) 71 (0,0)) | 29=>∃ N,X_=.agg #[.string ⟨#[102,108,111,111,114]⟩,.slice (some ⟨N,0,none⟩) 3 3]∧U_.heap[N]?=some (.cells (pcs b 11 3) 71 (0,0)) | 30=>X_=.pointer (some ⟨b,0,none⟩) | 31=>X_=.pointer (some ⟨b,0,none⟩) | 32=>X_=.pointer (some ⟨b,14,none⟩) | 33=>∃ N,X_=.slice (some ⟨N,0,none⟩) 3 3∧U_.heap[N]?=some (.cells (pcs b 14 3) 71 (0,0)) | 34=>∃ N,X_=.agg #[.string ⟨#[99,101,105,108]⟩,.slice (some ⟨N,0,none⟩) 3 3]∧U_.heap[N]?=some (.cells (pcs b 14 3) 71 (0,0)) | 35=>X_=.pointer (some ⟨b,0,none⟩) | 36=>X_=.pointer (some ⟨b,0,none⟩) | 37=>X_=.pointer (some ⟨b,17,none⟩) | 38=>∃ N,X_=.slice (some ⟨N,0,none⟩) 3 3∧U_.heap[N]?=some (.cells (pcs b 17 3) 71 (0,0)) | 39=>∃ N,X_=.agg #[.string ⟨#[98,111,117,110,100]⟩,.slice (some ⟨N,0,none⟩) 3 3]∧U_.heap[N]?=some (.cells (pcs b 17 3) 71 (0,0)) | 40=>X_=.pointer (some ⟨b,0,none⟩) | 41=>X_=.pointer (some ⟨b,0,none⟩) | 42=>X_=.pointer (some ⟨b,20,none⟩) | 43=>∃ N,X_=.slice (some ⟨N,0,none⟩) 1 1∧U_.heap[N]?=some (.cells (pcs b 20 1) 71 (0,0)) | 44=>∃ N,X_=.agg #[.string ⟨#[103,97,116,101]⟩,.slice (some ⟨N,0,none⟩) 1 1]∧U_.heap[N]?=some (.cells (pcs b 20 1) 71 (0,0)) | 45=>X_=.pointer (some ⟨b,0,none⟩) | 46=>X_=.pointer (some ⟨b,0,none⟩) | 47=>X_=.pointer (some ⟨b,21,none⟩) | 48=>∃ N,X_=.slice (some ⟨N,0,none⟩) 3 3∧U_.heap[N]?=some (.cells (pcs b 21 3) 71 (0,0)) | 49=>∃ N,X_=.agg #[.string ⟨#[116,97,98,108,101]⟩,.slice (some ⟨N,0,none⟩) 3 3]∧U_.heap[N]?=some (.cells (pcs b 21 3) 71 (0,0)) | 50=>X_=.pointer (some ⟨b,0,none⟩) | 51=>X_=.pointer (some ⟨b,0,none⟩) | 52=>X_=.pointer (some ⟨b,24,none⟩) | 53=>∃ N,X_=.slice (some ⟨N,0,none⟩) 1 1∧U_.heap[N]?=some (.cells (pcs b 24 1) 71 (0,0)) | 54=>∃ N,X_=.agg #[.string ⟨#[115,99,97,108,101]⟩,.slice (some ⟨N,0,none⟩) 1 1]∧U_.heap[N]?=some (.cells (pcs b 24 1) 71 (0,0)) | 55=>X_=.pointer (some ⟨b,0,none⟩) | 56=>X_=.pointer (some ⟨b,0,none⟩) | 57=>X_=.pointer (some ⟨b,25,none⟩) | 58=>∃ N,X_=.slice (some ⟨N,0,none⟩) 1 1∧U_.heap[N]?=some (.cells (pcs b 25 1) 71 (0,0)) | 59=>∃ N,X_=.agg #[.string ⟨#[114,101,115,116]⟩,.slice (some ⟨N,0,none⟩) 1 1]∧U_.heap[N]?=some (.cells (pcs b 25 1) 71 (0,0)) | 60=>X_=.pointer (some ⟨b,0,none⟩) | 61=>X_=.pointer (some ⟨b,0,none⟩) | 62=>X_=.pointer (some ⟨b,26,none⟩) | 63=>∃ N,X_=.slice (some ⟨N,0,none⟩) 1 1∧U_.heap[N]?=some (.cells (pcs b 26 1) 71 (0,0)) | 64=>∃ N,X_=.agg #[.string ⟨#[99,108,105,112]⟩,.slice (some ⟨N,0,none⟩) 1 1]∧U_.heap[N]?=some (.cells (pcs b 26 1) 71 (0,0)) | 65=>X_=.pointer (some ⟨b,0,none⟩) | 66=>X_=.pointer (some ⟨b,0,none⟩) | 67=>X_=.pointer (some ⟨b,27,none⟩) | 68=>∃ N,X_=.slice (some ⟨N,0,none⟩) 1 1∧U_.heap[N]?=some (.cells (pcs b 27 1) 71 (0,0)) | 69=>∃ N,X_=.agg #[.string ⟨#[104,111,108,100]⟩,.slice (some ⟨N,0,none⟩) 1 1]∧U_.heap[N]?=some (.cells (pcs b 27 1) 71 (0,0)) | 70=>X_=.pointer (some ⟨b,0,none⟩) | 71=>X_=.pointer (some ⟨b,0,none⟩) | 72=>X_=.pointer (some ⟨b,28,none⟩) | 73=>∃ N,X_=.slice (some ⟨N,0,none⟩) 1 1∧U_.heap[N]?=some (.cells (pcs b 28 1) 71 (0,0)) | 74=>∃ N,X_=.agg #[.string ⟨#[99,111,97,115,116]⟩,.slice (some ⟨N,0,none⟩) 1 1]∧U_.heap[N]?=some (.cells (pcs b 28 1) 71 (0,0)) | 75=>X_=.pointer (some ⟨b,0,none⟩) | 76=>X_=.pointer (some ⟨b,0,none⟩) | 77=>X_=.pointer (some ⟨b,29,none⟩) | 78=>∃ N,X_=.slice (some ⟨N,0,none⟩) 1 1∧U_.heap[N]?=some (.cells (pcs b 29 1) 71 (0,0)) | 79=>∃ N,X_=.agg #[.string ⟨#[111,117,116]⟩,.slice (some ⟨N,0,none⟩) 1 1]∧U_.heap[N]?=some (.cells (pcs b 29 1) 71 (0,0)) | 80=>X_=.pointer (some ⟨b,0,none⟩) | 81=>X_=.pointer (some ⟨b,0,none⟩) | 82=>X_=.pointer (some ⟨b,30,none⟩) | 83=>∃ N,X_=.slice (some ⟨N,0,none⟩) 1 1∧U_.heap[N]?=some (.cells (pcs b 30 1) 71 (0,0)) | 84=>∃ N,X_=.agg #[.string ⟨#[98,97,110,100]⟩,.slice (some ⟨N,0,none⟩) 1 1]∧U_.heap[N]?=some (.cells (pcs b 30 1) 71 (0,0)) | 85=>X_=.agg #[.string ⟨#[101,110,100]⟩,.slice none 0 0] | _=>True) (fun i_=>false) (by kernel_rfl) (by kernel_rfl) (by kernel_rfl) (by kernel_rfl) (by kernel_rfl) ?_ (fun i x w hi ha h=>by cases ha) ?_ ?_
 ·refine swp (upS (upS (upS (upS (upS (upS (upS (upS (upS (upS (upS (upS (upS (upS (upS (upS (upS (upS (upS (upS (upS (upS (upS (upS (upS (upS (upS (upS (upS (upS (upS (upS (upS (upS (upS (upS (upS (upS (upS (upS (upS (upS (upS (upS (upS (upS (upS (upS (upS (upS (upS (upS (upS (upS (upS (upS (upS (upS (upS (upS (upS (upS (upS (upS (upS (upS (upS (upS (upS (upS (upS (upS (upS (upS (upS (upS (upS (upS (upS (upS (upS (upS (upS (upS (upS (upS up0 ?_) ?_) ?_) ?_) ?_) ?_) ?_) ?_) ?_) ?_) ?_) ?_) ?_) ?_) ?_) ?_) ?_) ?_) ?_) ?_) ?_) ?_) ?_) ?_) ?_) ?_) ?_) ?_) ?_) ?_) ?_) ?_) ?_) ?_) ?_) ?_) ?_) ?_) ?_) ?_) ?_) ?_) ?_) ?_) ?_) ?_) ?_) ?_) ?_) ?_) ?_) ?_) ?_) ?_) ?_) ?_) ?_) ?_) ?_) ?_) ?_) ?_) ?_) ?_) ?_) ?_) ?_) ?_) ?_) ?_) ?_) ?_) ?_) ?_) ?_) ?_) ?_) ?_) ?_) ?_) ?_) ?_) ?_) ?_) ?_) ?_)
  ·exact fun _ _ _ h _=>h
  ·exact fun _ _ _ h _=>h
  ·exact fun _ _ _ h _=>h
  ·intro x w w' h hb; obtain ⟨N,e,hN⟩:=h; exact ⟨N,e,(hb.block N (Array.getElem?_eq_some_iff.1 hN).1).trans hN⟩
  ·intro x w w' h hb; obtain ⟨N,e,hN⟩:=h; exact ⟨N,e,(hb.block N (Array.getElem?_eq_some_iff.1 hN).1).trans hN⟩
  ·exact fun _ _ _ h _=>h
  ·exact fun _ _ _ h _=>h
  ·exact fun _ _ _ h _=>h
  ·intro x w w' h hb; obtain ⟨N,e,hN⟩:=h; exact ⟨N,e,(hb.block N (Array.getElem?_eq_some_iff.1 hN).1).trans hN⟩
  ·intro x w w' h hb; obtain ⟨N,e,hN⟩:=h; exact ⟨N,e,(hb.block N (Array.getElem?_eq_some_iff.1 hN).1).trans hN⟩
  ·exact fun _ _ _ h _=>h
  ·exact fun _ _ _ h _=>h
  ·exact fun _ _ _ h _=>h
  ·intro x w w' h hb; obtain ⟨N,e,hN⟩:=h; exact ⟨N,e,(hb.block N (Array.getElem?_eq_some_iff.1 hN).1).trans hN⟩
  ·intro x w w' h hb; obtain ⟨N,e,hN⟩:=h; exact ⟨N,e,(hb.block N (Array.getElem?_eq_some_iff.1 hN).1).trans hN⟩
  ·exact fun _ _ _ h _=>h
  ·exact fun _ _ _ h _=>h
  ·exact fun _ _ _ h _=>h
  ·intro x w w' h hb; obtain ⟨N,e,hN⟩:=h; exact ⟨N,e,(hb.block N (Array.getElem?_eq_some_iff.1 hN).1).trans hN⟩
  ·intro x w w' h hb; obtain ⟨N,e,hN⟩:=h; exact ⟨N,e,(hb.block N (Array.getElem?_eq_some_iff.1 hN).1).trans hN⟩
  ·exact fun _ _ _ h _=>h
  ·exact fun _ _ _ h _=>h
  ·exact fun _ _ _ h _=>h
  ·intro x w w' h hb; obtain ⟨N,e,hN⟩:=h; exact ⟨N,e,(hb.block N (Array.getElem?_eq_some_iff.1 hN).1).trans hN⟩
  ·intro x w w' h hb; obtain ⟨N,e,hN⟩:=h; exact ⟨N,e,(hb.block N (Array.getElem?_eq_some_iff.1 hN).1).trans hN⟩
  ·exact fun _ _ _ h _=>h
  ·exact fun _ _ _ h _=>h
  ·exact fun _ _ _ h _=>h
  ·intro x w w' h hb; obtain ⟨N,e,hN⟩:=h; exact ⟨N,e,(hb.block N (Array.getElem?_eq_some_iff.1 hN).1).trans hN⟩
  ·intro x w w' h hb; obtain ⟨N,e,hN⟩:=h; exact ⟨N,e,(hb.block N (Array.getElem?_eq_some_iff.1 hN).1).trans hN⟩
  ·exact fun _ _ _ h _=>h
  ·exact fun _ _ _ h _=>h
  ·exact fun _ _ _ h _=>h
  ·intro x w w' h hb; obtain ⟨N,e,hN⟩:=h; exact ⟨N,e,(hb.block N (Array.getElem?_eq_some_iff.1 hN).1).trans hN⟩
  ·intro x w w' h hb; obtain ⟨N,e,hN⟩:=h; exact ⟨N,e,(hb.block N (Array.getElem?_eq_some_iff.1 hN).1).trans hN⟩
  ·exact fun _ _ _ h _=>h
  ·exact fun _ _ _ h _=>h
  ·exact fun _ _ _ h _=>h
  ·intro x w w' h hb; obtain ⟨N,e,hN⟩:=h; exact ⟨N,e,(hb.block N (Array.getElem?_eq_some_iff.1 hN).1).trans hN⟩
  ·intro x w w' h hb; obtain ⟨N,e,hN⟩:=h; exact ⟨N,e,(hb.block N (Array.getElem?_eq_some_iff.1 hN).1).trans hN⟩
  ·exact fun _ _ _ h _=>h
  ·exact fun _ _ _ h _=>h
  ·exact fun _ _ _ h _=>h
  ·intro x w w' h hb; obtain ⟨N,e,hN⟩:=h; exact ⟨N,e,(hb.block N (Array.getElem?_eq_some_iff.1 hN).1).trans hN⟩
  ·intro x w w' h hb; obtain ⟨N,e,hN⟩:=h; exact ⟨N,e,(hb.block N (Array.getElem?_eq_some_iff.1 hN).1).trans hN⟩
  ·exact fun _ _ _ h _=>h
  ·exact fun _ _ _ h _=>h
  ·exact fun _ _ _ h _=>h
  ·intro x w w' h hb; obtain ⟨N,e,hN⟩:=h; exact ⟨N,e,(hb.block N (Array.getElem?_eq_some_iff.1 hN).1).trans hN⟩
  ·intro x w w' h hb; obtain ⟨N,e,hN⟩:=h; exact ⟨N,e,(hb.block N (Array.getElem?_eq_some_iff.1 hN).1).trans hN⟩
  ·exact fun _ _ _ h _=>h
  ·exact fun _ _ _ h _=>h
  ·exact fun _ _ _ h _=>h
  ·intro x w w' h hb; obtain ⟨N,e,hN⟩:=h; exact ⟨N,e,(hb.block N (Array.getElem?_eq_some_iff.1 hN).1).trans hN⟩
  ·intro x w w' h hb; obtain ⟨N,e,hN⟩:=h; exact ⟨N,e,(hb.block N (Array.getElem?_eq_some_iff.1 hN).1).trans hN⟩
  ·exact fun _ _ _ h _=>h
  ·exact fun _ _ _ h _=>h
  ·exact fun _ _ _ h _=>h
  ·intro x w w' h hb; obtain ⟨N,e,hN⟩:=h; exact ⟨N,e,(hb.block N (Array.getElem?_eq_some_iff.1 hN).1).trans hN⟩
  ·intro x w w' h hb; obtain ⟨N,e,hN⟩:=h; exact ⟨N,e,(hb.block N (Array.getElem?_eq_some_iff.1 hN).1).trans hN⟩
  ·exact fun _ _ _ h _=>h
  ·exact fun _ _ _ h _=>h
  ·exact fun _ _ _ h _=>h
  ·intro x w w' h hb; obtain ⟨N,e,hN⟩:=h; exact ⟨N,e,(hb.block N (Array.getElem?_eq_some_iff.1 hN).1).trans hN⟩
  ·intro x w w' h hb; obtain ⟨N,e,hN⟩:=h; exact ⟨N,e,(hb.block N (Array.getElem?_eq_some_iff.1 hN).1).trans hN⟩
  ·exact fun _ _ _ h _=>h
  ·exact fun _ _ _ h _=>h
  ·exact fun _ _ _ h _=>h
  ·intro x w w' h hb; obtain ⟨N,e,hN⟩:=h; exact ⟨N,e,(hb.block N (Array.getElem?_eq_some_iff.1 hN).1).trans hN⟩
  ·intro x w w' h hb; obtain ⟨N,e,hN⟩:=h; exact ⟨N,e,(hb.block N (Array.getElem?_eq_some_iff.1 hN).1).trans hN⟩
  ·exact fun _ _ _ h _=>h
  ·exact fun _ _ _ h _=>h
  ·exact fun _ _ _ h _=>h
  ·intro x w w' h hb; obtain ⟨N,e,hN⟩:=h; exact ⟨N,e,(hb.block N (Array.getElem?_eq_some_iff.1 hN).1).trans hN⟩
  ·intro x w w' h hb; obtain ⟨N,e,hN⟩:=h; exact ⟨N,e,(hb.block N (Array.getElem?_eq_some_iff.1 hN).1).trans hN⟩
  ·exact fun _ _ _ h _=>h
  ·exact fun _ _ _ h _=>h
  ·exact fun _ _ _ h _=>h
  ·intro x w w' h hb; obtain ⟨N,e,hN⟩:=h; exact ⟨N,e,(hb.block N (Array.getElem?_eq_some_iff.1 hN).1).trans hN⟩
  ·intro x w w' h hb; obtain ⟨N,e,hN⟩:=h; exact ⟨N,e,(hb.block N (Array.getElem?_eq_some_iff.1 hN).1).trans hN⟩
  ·exact fun _ _ _ h _=>h
  ·exact fun _ _ _ h _=>h
  ·exact fun _ _ _ h _=>h
  ·intro x w w' h hb; obtain ⟨N,e,hN⟩:=h; exact ⟨N,e,(hb.block N (Array.getElem?_eq_some_iff.1 hN).1).trans hN⟩
  ·intro x w w' h hb; obtain ⟨N,e,hN⟩:=h; exact ⟨N,e,(hb.block N (Array.getElem?_eq_some_iff.1 hN).1).trans hN⟩
  ·exact fun _ _ _ h _=>h
 ·refine upS (upS (upS (upS (upS (upS (upS (upS (upS (upS (upS (upS (upS (upS (upS (upS (upS (upS (upS (upS (upS (upS (upS (upS (upS (upS (upS (upS (upS (upS (upS (upS (upS (upS (upS (upS (upS (upS (upS (upS (upS (upS (upS (upS (upS (upS (upS (upS (upS (upS (upS (upS (upS (upS (upS (upS (upS (upS (upS (upS (upS (upS (upS (upS (upS (upS (upS (upS (upS (upS (upS (upS (upS (upS (upS (upS (upS (upS (upS (upS (upS (upS (upS (upS (upS (upS up0 ?_) ?_) ?_) ?_) ?_) ?_) ?_) ?_) ?_) ?_) ?_) ?_) ?_) ?_) ?_) ?_) ?_) ?_) ?_) ?_) ?_) ?_) ?_) ?_) ?_) ?_) ?_) ?_) ?_) ?_) ?_) ?_) ?_) ?_) ?_) ?_) ?_) ?_) ?_) ?_) ?_) ?_) ?_) ?_) ?_) ?_) ?_) ?_) ?_) ?_) ?_) ?_) ?_) ?_) ?_) ?_) ?_) ?_) ?_) ?_) ?_) ?_) ?_) ?_) ?_) ?_) ?_) ?_) ?_) ?_) ?_) ?_) ?_) ?_) ?_) ?_) ?_) ?_) ?_) ?_) ?_) ?_) ?_) ?_) ?_) ?_
  all_goals intro v f w' hb hv hB hd
  ·have b0:f.tmps[0]?=some (.pointer (some ⟨b,0,none⟩)):=(hb 0 (by decide)).trans rfl
   clear hb hv hd
   refine wpOp_step rfl fun K hK=>?_
   go_simp
   exact hK _ _ ⟨_,rfl,Below.refl _ _,rfl,fun h=>absurd h (by decide)⟩
  ·have d0:=got (hv 0 3 rfl) (hd 0 (by kernel_rfl))
   clear hb hv hd
   refine wpOp_step rfl fun K hK=>?_
   go_simp
   exact hK _ _ ⟨_,rfl,Below.refl _ _,rfl,fun h=>absurd h (by decide)⟩
  ·have d1:=got (hv 1 4 rfl) (hd 1 (by kernel_rfl))
   clear hb hv hd
   refine wpOp_step rfl fun K hK=>?_
   go_simp
   exact hK _ _ ⟨_,rfl,Below.refl _ _,rfl,fun h=>absurd h (by decide)⟩
  ·have d2:=got (hv 2 5 rfl) (hd 2 (by kernel_rfl))
   clear hb hv hd
   refine wpOp_call rfl Tryz.call41 (args1 (eval_tmp d2)) (row_any b 0 _) ?_
   rintro e5 w5 ⟨N,rfl,hN,hb5⟩
   exact ⟨_,rfl,_,rfl,hb5,⟨N,rfl,hN⟩,fun h=>absurd h (by decide)⟩
  ·have h3:∃ N,(v 3)=.slice (some ⟨N,0,none⟩) 3 3∧w'.heap[N]?=some (.cells (pcs b 0 3) 71 (0,0)):=hd 3 (by kernel_rfl)
   have d3:f.tmps[6]?=some (v 3):=hv 3 6 rfl
   clear hb hv hd
   obtain ⟨N,eN,hN⟩:=h3
   rw [eN] at d3
   clear eN
   refine wpOp_step rfl fun K hK=>?_
   go_simp
   exact hK _ _ ⟨_,rfl,Below.refl _ _,⟨N,rfl,hN⟩,fun h=>absurd h (by decide)⟩
  ·have b0:f.tmps[0]?=some (.pointer (some ⟨b,0,none⟩)):=(hb 0 (by decide)).trans rfl
   clear hb hv hd
   refine wpOp_step rfl fun K hK=>?_
   go_simp
   exact hK _ _ ⟨_,rfl,Below.refl _ _,rfl,fun h=>absurd h (by decide)⟩
  ·have d5:=got (hv 5 8 rfl) (hd 5 (by kernel_rfl))
   clear hb hv hd
   refine wpOp_step rfl fun K hK=>?_
   go_simp
   exact hK _ _ ⟨_,rfl,Below.refl _ _,rfl,fun h=>absurd h (by decide)⟩
  ·have d6:=got (hv 6 9 rfl) (hd 6 (by kernel_rfl))
   clear hb hv hd
   refine wpOp_step rfl fun K hK=>?_
   go_simp
   exact hK _ _ ⟨_,rfl,Below.refl _ _,rfl,fun h=>absurd h (by decide)⟩
  ·have d7:=got (hv 7 10 rfl) (hd 7 (by kernel_rfl))
   clear hb hv hd
   refine wpOp_call rfl Tryz.call41 (args1 (eval_tmp d7)) (row_any b 3 _) ?_
   rintro e5 w5 ⟨N,rfl,hN,hb5⟩
   exact ⟨_,rfl,_,rfl,hb5,⟨N,rfl,hN⟩,fun h=>absurd h (by decide)⟩
  ·have h8:∃ N,(v 8)=.slice (some ⟨N,0,none⟩) 3 3∧w'.heap[N]?=some (.cells (pcs b 3 3) 71 (0,0)):=hd 8 (by kernel_rfl)
   have d8:f.tmps[11]?=some (v 8):=hv 8 11 rfl
   clear hb hv hd
   obtain ⟨N,eN,hN⟩:=h8
   rw [eN] at d8
   clear eN
   refine wpOp_step rfl fun K hK=>?_
   go_simp
   exact hK _ _ ⟨_,rfl,Below.refl _ _,⟨N,rfl,hN⟩,fun h=>absurd h (by decide)⟩
  ·have b0:f.tmps[0]?=some (.pointer (some ⟨b,0,none⟩)):=(hb 0 (by decide)).trans rfl
   clear hb hv hd
   refine wpOp_step rfl fun K hK=>?_
   go_simp
   exact hK _ _ ⟨_,rfl,Below.refl _ _,rfl,fun h=>absurd h (by decide)⟩
  ·have d10:=got (hv 10 13 rfl) (hd 10 (by kernel_rfl))
   clear hb hv hd
   refine wpOp_step rfl fun K hK=>?_
   go_simp
   exact hK _ _ ⟨_,rfl,Below.refl _ _,rfl,fun h=>absurd h (by decide)⟩
  ·have d11:=got (hv 11 14 rfl) (hd 11 (by kernel_rfl))
   clear hb hv hd
   refine wpOp_step rfl fun K hK=>?_
   go_simp
   exact hK _ _ ⟨_,rfl,Below.refl _ _,rfl,fun h=>absurd h (by decide)⟩
  ·have d12:=got (hv 12 15 rfl) (hd 12 (by kernel_rfl))
   clear hb hv hd
   refine wpOp_call rfl Tryz.call42 (args1 (eval_tmp d12)) (par_one b 6 _) ?_
   rintro e5 w5 ⟨N,rfl,hN,hb5⟩
   exact ⟨_,rfl,_,rfl,hb5,⟨N,rfl,hN⟩,fun h=>absurd h (by decide)⟩
  ·have h13:∃ N,(v 13)=.slice (some ⟨N,0,none⟩) 1 1∧w'.heap[N]?=some (.cells (pcs b 6 1) 71 (0,0)):=hd 13 (by kernel_rfl)
   have d13:f.tmps[16]?=some (v 13):=hv 13 16 rfl
   clear hb hv hd
   obtain ⟨N,eN,hN⟩:=h13
   rw [eN] at d13
   clear eN
   refine wpOp_step rfl fun K hK=>?_
   go_simp
   exact hK _ _ ⟨_,rfl,Below.refl _ _,⟨N,rfl,hN⟩,fun h=>absurd h (by decide)⟩
  ·have b0:f.tmps[0]?=some (.pointer (some ⟨b,0,none⟩)):=(hb 0 (by decide)).trans rfl
   clear hb hv hd
   refine wpOp_step rfl fun K hK=>?_
   go_simp
   exact hK _ _ ⟨_,rfl,Below.refl _ _,rfl,fun h=>absurd h (by decide)⟩
  ·have d15:=got (hv 15 18 rfl) (hd 15 (by kernel_rfl))
   clear hb hv hd
   refine wpOp_step rfl fun K hK=>?_
   go_simp
   exact hK _ _ ⟨_,rfl,Below.refl _ _,rfl,fun h=>absurd h (by decide)⟩
  ·have d16:=got (hv 16 19 rfl) (hd 16 (by kernel_rfl))
   clear hb hv hd
   refine wpOp_step rfl fun K hK=>?_
   go_simp
   exact hK _ _ ⟨_,rfl,Below.refl _ _,rfl,fun h=>absurd h (by decide)⟩
  ·have d17:=got (hv 17 20 rfl) (hd 17 (by kernel_rfl))
   clear hb hv hd
   refine wpOp_call rfl Tryz.call42 (args1 (eval_tmp d17)) (par_one b 7 _) ?_
   rintro e5 w5 ⟨N,rfl,hN,hb5⟩
   exact ⟨_,rfl,_,rfl,hb5,⟨N,rfl,hN⟩,fun h=>absurd h (by decide)⟩
  ·have h18:∃ N,(v 18)=.slice (some ⟨N,0,none⟩) 1 1∧w'.heap[N]?=some (.cells (pcs b 7 1) 71 (0,0)):=hd 18 (by kernel_rfl)
   have d18:f.tmps[21]?=some (v 18):=hv 18 21 rfl
   clear hb hv hd
   obtain ⟨N,eN,hN⟩:=h18
   rw [eN] at d18
   clear eN
   refine wpOp_step rfl fun K hK=>?_
   go_simp
   exact hK _ _ ⟨_,rfl,Below.refl _ _,⟨N,rfl,hN⟩,fun h=>absurd h (by decide)⟩
  ·have b0:f.tmps[0]?=some (.pointer (some ⟨b,0,none⟩)):=(hb 0 (by decide)).trans rfl
   clear hb hv hd
   refine wpOp_step rfl fun K hK=>?_
   go_simp
   exact hK _ _ ⟨_,rfl,Below.refl _ _,rfl,fun h=>absurd h (by decide)⟩
  ·have d20:=got (hv 20 23 rfl) (hd 20 (by kernel_rfl))
   clear hb hv hd
   refine wpOp_step rfl fun K hK=>?_
   go_simp
   exact hK _ _ ⟨_,rfl,Below.refl _ _,rfl,fun h=>absurd h (by decide)⟩
  ·have d21:=got (hv 21 24 rfl) (hd 21 (by kernel_rfl))
   clear hb hv hd
   refine wpOp_step rfl fun K hK=>?_
   go_simp
   exact hK _ _ ⟨_,rfl,Below.refl _ _,rfl,fun h=>absurd h (by decide)⟩
  ·have d22:=got (hv 22 25 rfl) (hd 22 (by kernel_rfl))
   clear hb hv hd
   refine wpOp_call rfl Tryz.call41 (args1 (eval_tmp d22)) (row_any b 8 _) ?_
   rintro e5 w5 ⟨N,rfl,hN,hb5⟩
   exact ⟨_,rfl,_,rfl,hb5,⟨N,rfl,hN⟩,fun h=>absurd h (by decide)⟩
  ·have h23:∃ N,(v 23)=.slice (some ⟨N,0,none⟩) 3 3∧w'.heap[N]?=some (.cells (pcs b 8 3) 71 (0,0)):=hd 23 (by kernel_rfl)
   have d23:f.tmps[26]?=some (v 23):=hv 23 26 rfl
   clear hb hv hd
   obtain ⟨N,eN,hN⟩:=h23
   rw [eN] at d23
   clear eN
   refine wpOp_step rfl fun K hK=>?_
   go_simp
   exact hK _ _ ⟨_,rfl,Below.refl _ _,⟨N,rfl,hN⟩,fun h=>absurd h (by decide)⟩
  ·have b0:f.tmps[0]?=some (.pointer (some ⟨b,0,none⟩)):=(hb 0 (by decide)).trans rfl
   clear hb hv hd
   refine wpOp_step rfl fun K hK=>?_
   go_simp
   exact hK _ _ ⟨_,rfl,Below.refl _ _,rfl,fun h=>absurd h (by decide)⟩
  ·have d25:=got (hv 25 28 rfl) (hd 25 (by kernel_rfl))
   clear hb hv hd
   refine wpOp_step rfl fun K hK=>?_
   go_simp
   exact hK _ _ ⟨_,rfl,Below.refl _ _,rfl,fun h=>absurd h (by decide)⟩
  ·have d26:=got (hv 26 29 rfl) (hd 26 (by kernel_rfl))
   clear hb hv hd
   refine wpOp_step rfl fun K hK=>?_
   go_simp
   exact hK _ _ ⟨_,rfl,Below.refl _ _,rfl,fun h=>absurd h (by decide)⟩
  ·have d27:=got (hv 27 30 rfl) (hd 27 (by kernel_rfl))
   clear hb hv hd
   refine wpOp_call rfl Tryz.call41 (args1 (eval_tmp d27)) (row_any b 11 _) ?_
   rintro e5 w5 ⟨N,rfl,hN,hb5⟩
   exact ⟨_,rfl,_,rfl,hb5,⟨N,rfl,hN⟩,fun h=>absurd h (by decide)⟩
  ·have h28:∃ N,(v 28)=.slice (some ⟨N,0,none⟩) 3 3∧w'.heap[N]?=some (.cells (pcs b 11 3) 71 (0,0)):=hd 28 (by kernel_rfl)
   have d28:f.tmps[31]?=some (v 28):=hv 28 31 rfl
   clear hb hv hd
   obtain ⟨N,eN,hN⟩:=h28
   rw [eN] at d28
   clear eN
   refine wpOp_step rfl fun K hK=>?_
   go_simp
   exact hK _ _ ⟨_,rfl,Below.refl _ _,⟨N,rfl,hN⟩,fun h=>absurd h (by decide)⟩
  ·have b0:f.tmps[0]?=some (.pointer (some ⟨b,0,none⟩)):=(hb 0 (by decide)).trans rfl
   clear hb hv hd
   refine wpOp_step rfl fun K hK=>?_
   go_simp
   exact hK _ _ ⟨_,rfl,Below.refl _ _,rfl,fun h=>absurd h (by decide)⟩
  ·have d30:=got (hv 30 33 rfl) (hd 30 (by kernel_rfl))
   clear hb hv hd
   refine wpOp_step rfl fun K hK=>?_
   go_simp
   exact hK _ _ ⟨_,rfl,Below.refl _ _,rfl,fun h=>absurd h (by decide)⟩
  ·have d31:=got (hv 31 34 rfl) (hd 31 (by kernel_rfl))
   clear hb hv hd
   refine wpOp_step rfl fun K hK=>?_
   go_simp
   exact hK _ _ ⟨_,rfl,Below.refl _ _,rfl,fun h=>absurd h (by decide)⟩
  ·have d32:=got (hv 32 35 rfl) (hd 32 (by kernel_rfl))
   clear hb hv hd
   refine wpOp_call rfl Tryz.call41 (args1 (eval_tmp d32)) (row_any b 14 _) ?_
   rintro e5 w5 ⟨N,rfl,hN,hb5⟩
   exact ⟨_,rfl,_,rfl,hb5,⟨N,rfl,hN⟩,fun h=>absurd h (by decide)⟩
  ·have h33:∃ N,(v 33)=.slice (some ⟨N,0,none⟩) 3 3∧w'.heap[N]?=some (.cells (pcs b 14 3) 71 (0,0)):=hd 33 (by kernel_rfl)
   have d33:f.tmps[36]?=some (v 33):=hv 33 36 rfl
   clear hb hv hd
   obtain ⟨N,eN,hN⟩:=h33
   rw [eN] at d33
   clear eN
   refine wpOp_step rfl fun K hK=>?_
   go_simp
   exact hK _ _ ⟨_,rfl,Below.refl _ _,⟨N,rfl,hN⟩,fun h=>absurd h (by decide)⟩
  ·have b0:f.tmps[0]?=some (.pointer (some ⟨b,0,none⟩)):=(hb 0 (by decide)).trans rfl
   clear hb hv hd
   refine wpOp_step rfl fun K hK=>?_
   go_simp
   exact hK _ _ ⟨_,rfl,Below.refl _ _,rfl,fun h=>absurd h (by decide)⟩
  ·have d35:=got (hv 35 38 rfl) (hd 35 (by kernel_rfl))
   clear hb hv hd
   refine wpOp_step rfl fun K hK=>?_
   go_simp
   exact hK _ _ ⟨_,rfl,Below.refl _ _,rfl,fun h=>absurd h (by decide)⟩
  ·have d36:=got (hv 36 39 rfl) (hd 36 (by kernel_rfl))
   clear hb hv hd
   refine wpOp_step rfl fun K hK=>?_
   go_simp
   exact hK _ _ ⟨_,rfl,Below.refl _ _,rfl,fun h=>absurd h (by decide)⟩
  ·have d37:=got (hv 37 40 rfl) (hd 37 (by kernel_rfl))
   clear hb hv hd
   refine wpOp_call rfl Tryz.call41 (args1 (eval_tmp d37)) (row_any b 17 _) ?_
   rintro e5 w5 ⟨N,rfl,hN,hb5⟩
   exact ⟨_,rfl,_,rfl,hb5,⟨N,rfl,hN⟩,fun h=>absurd h (by decide)⟩
  ·have h38:∃ N,(v 38)=.slice (some ⟨N,0,none⟩) 3 3∧w'.heap[N]?=some (.cells (pcs b 17 3) 71 (0,0)):=hd 38 (by kernel_rfl)
   have d38:f.tmps[41]?=some (v 38):=hv 38 41 rfl
   clear hb hv hd
   obtain ⟨N,eN,hN⟩:=h38
   rw [eN] at d38
   clear eN
   refine wpOp_step rfl fun K hK=>?_
   go_simp
   exact hK _ _ ⟨_,rfl,Below.refl _ _,⟨N,rfl,hN⟩,fun h=>absurd h (by decide)⟩
  ·have b0:f.tmps[0]?=some (.pointer (some ⟨b,0,none⟩)):=(hb 0 (by decide)).trans rfl
   clear hb hv hd
   refine wpOp_step rfl fun K hK=>?_
   go_simp
   exact hK _ _ ⟨_,rfl,Below.refl _ _,rfl,fun h=>absurd h (by decide)⟩
  ·have d40:=got (hv 40 43 rfl) (hd 40 (by kernel_rfl))
   clear hb hv hd
   refine wpOp_step rfl fun K hK=>?_
   go_simp
   exact hK _ _ ⟨_,rfl,Below.refl _ _,rfl,fun h=>absurd h (by decide)⟩
  ·have d41:=got (hv 41 44 rfl) (hd 41 (by kernel_rfl))
   clear hb hv hd
   refine wpOp_step rfl fun K hK=>?_
   go_simp
   exact hK _ _ ⟨_,rfl,Below.refl _ _,rfl,fun h=>absurd h (by decide)⟩
  ·have d42:=got (hv 42 45 rfl) (hd 42 (by kernel_rfl))
   clear hb hv hd
   refine wpOp_call rfl Tryz.call42 (args1 (eval_tmp d42)) (par_one b 20 _) ?_
   rintro e5 w5 ⟨N,rfl,hN,hb5⟩
   exact ⟨_,rfl,_,rfl,hb5,⟨N,rfl,hN⟩,fun h=>absurd h (by decide)⟩
  ·have h43:∃ N,(v 43)=.slice (some ⟨N,0,none⟩) 1 1∧w'.heap[N]?=some (.cells (pcs b 20 1) 71 (0,0)):=hd 43 (by kernel_rfl)
   have d43:f.tmps[46]?=some (v 43):=hv 43 46 rfl
   clear hb hv hd
   obtain ⟨N,eN,hN⟩:=h43
   rw [eN] at d43
   clear eN
   refine wpOp_step rfl fun K hK=>?_
   go_simp
   exact hK _ _ ⟨_,rfl,Below.refl _ _,⟨N,rfl,hN⟩,fun h=>absurd h (by decide)⟩
  ·have b0:f.tmps[0]?=some (.pointer (some ⟨b,0,none⟩)):=(hb 0 (by decide)).trans rfl
   clear hb hv hd
   refine wpOp_step rfl fun K hK=>?_
   go_simp
   exact hK _ _ ⟨_,rfl,Below.refl _ _,rfl,fun h=>absurd h (by decide)⟩
  ·have d45:=got (hv 45 48 rfl) (hd 45 (by kernel_rfl))
   clear hb hv hd
   refine wpOp_step rfl fun K hK=>?_
   go_simp
   exact hK _ _ ⟨_,rfl,Below.refl _ _,rfl,fun h=>absurd h (by decide)⟩
  ·have d46:=got (hv 46 49 rfl) (hd 46 (by kernel_rfl))
   clear hb hv hd
   refine wpOp_step rfl fun K hK=>?_
   go_simp
   exact hK _ _ ⟨_,rfl,Below.refl _ _,rfl,fun h=>absurd h (by decide)⟩
  ·have d47:=got (hv 47 50 rfl) (hd 47 (by kernel_rfl))
   clear hb hv hd
   refine wpOp_call rfl Tryz.call41 (args1 (eval_tmp d47)) (row_any b 21 _) ?_
   rintro e5 w5 ⟨N,rfl,hN,hb5⟩
   exact ⟨_,rfl,_,rfl,hb5,⟨N,rfl,hN⟩,fun h=>absurd h (by decide)⟩
  ·have h48:∃ N,(v 48)=.slice (some ⟨N,0,none⟩) 3 3∧w'.heap[N]?=some (.cells (pcs b 21 3) 71 (0,0)):=hd 48 (by kernel_rfl)
   have d48:f.tmps[51]?=some (v 48):=hv 48 51 rfl
   clear hb hv hd
   obtain ⟨N,eN,hN⟩:=h48
   rw [eN] at d48
   clear eN
   refine wpOp_step rfl fun K hK=>?_
   go_simp
   exact hK _ _ ⟨_,rfl,Below.refl _ _,⟨N,rfl,hN⟩,fun h=>absurd h (by decide)⟩
  ·have b0:f.tmps[0]?=some (.pointer (some ⟨b,0,none⟩)):=(hb 0 (by decide)).trans rfl
   clear hb hv hd
   refine wpOp_step rfl fun K hK=>?_
   go_simp
   exact hK _ _ ⟨_,rfl,Below.refl _ _,rfl,fun h=>absurd h (by decide)⟩
  ·have d50:=got (hv 50 53 rfl) (hd 50 (by kernel_rfl))
   clear hb hv hd
   refine wpOp_step rfl fun K hK=>?_
   go_simp
   exact hK _ _ ⟨_,rfl,Below.refl _ _,rfl,fun h=>absurd h (by decide)⟩
  ·have d51:=got (hv 51 54 rfl) (hd 51 (by kernel_rfl))
   clear hb hv hd
   refine wpOp_step rfl fun K hK=>?_
   go_simp
   exact hK _ _ ⟨_,rfl,Below.refl _ _,rfl,fun h=>absurd h (by decide)⟩
  ·have d52:=got (hv 52 55 rfl) (hd 52 (by kernel_rfl))
   clear hb hv hd
   refine wpOp_call rfl Tryz.call42 (args1 (eval_tmp d52)) (par_one b 24 _) ?_
   rintro e5 w5 ⟨N,rfl,hN,hb5⟩
   exact ⟨_,rfl,_,rfl,hb5,⟨N,rfl,hN⟩,fun h=>absurd h (by decide)⟩
  ·have h53:∃ N,(v 53)=.slice (some ⟨N,0,none⟩) 1 1∧w'.heap[N]?=some (.cells (pcs b 24 1) 71 (0,0)):=hd 53 (by kernel_rfl)
   have d53:f.tmps[56]?=some (v 53):=hv 53 56 rfl
   clear hb hv hd
   obtain ⟨N,eN,hN⟩:=h53
   rw [eN] at d53
   clear eN
   refine wpOp_step rfl fun K hK=>?_
   go_simp
   exact hK _ _ ⟨_,rfl,Below.refl _ _,⟨N,rfl,hN⟩,fun h=>absurd h (by decide)⟩
  ·have b0:f.tmps[0]?=some (.pointer (some ⟨b,0,none⟩)):=(hb 0 (by decide)).trans rfl
   clear hb hv hd
   refine wpOp_step rfl fun K hK=>?_
   go_simp
   exact hK _ _ ⟨_,rfl,Below.refl _ _,rfl,fun h=>absurd h (by decide)⟩
  ·have d55:=got (hv 55 58 rfl) (hd 55 (by kernel_rfl))
   clear hb hv hd
   refine wpOp_step rfl fun K hK=>?_
   go_simp
   exact hK _ _ ⟨_,rfl,Below.refl _ _,rfl,fun h=>absurd h (by decide)⟩
  ·have d56:=got (hv 56 59 rfl) (hd 56 (by kernel_rfl))
   clear hb hv hd
   refine wpOp_step rfl fun K hK=>?_
   go_simp
   exact hK _ _ ⟨_,rfl,Below.refl _ _,rfl,fun h=>absurd h (by decide)⟩
  ·have d57:=got (hv 57 60 rfl) (hd 57 (by kernel_rfl))
   clear hb hv hd
   refine wpOp_call rfl Tryz.call42 (args1 (eval_tmp d57)) (par_one b 25 _) ?_
   rintro e5 w5 ⟨N,rfl,hN,hb5⟩
   exact ⟨_,rfl,_,rfl,hb5,⟨N,rfl,hN⟩,fun h=>absurd h (by decide)⟩
  ·have h58:∃ N,(v 58)=.slice (some ⟨N,0,none⟩) 1 1∧w'.heap[N]?=some (.cells (pcs b 25 1) 71 (0,0)):=hd 58 (by kernel_rfl)
   have d58:f.tmps[61]?=some (v 58):=hv 58 61 rfl
   clear hb hv hd
   obtain ⟨N,eN,hN⟩:=h58
   rw [eN] at d58
   clear eN
   refine wpOp_step rfl fun K hK=>?_
   go_simp
   exact hK _ _ ⟨_,rfl,Below.refl _ _,⟨N,rfl,hN⟩,fun h=>absurd h (by decide)⟩
  ·have b0:f.tmps[0]?=some (.pointer (some ⟨b,0,none⟩)):=(hb 0 (by decide)).trans rfl
   clear hb hv hd
   refine wpOp_step rfl fun K hK=>?_
   go_simp
   exact hK _ _ ⟨_,rfl,Below.refl _ _,rfl,fun h=>absurd h (by decide)⟩
  ·have d60:=got (hv 60 63 rfl) (hd 60 (by kernel_rfl))
   clear hb hv hd
   refine wpOp_step rfl fun K hK=>?_
   go_simp
   exact hK _ _ ⟨_,rfl,Below.refl _ _,rfl,fun h=>absurd h (by decide)⟩
  ·have d61:=got (hv 61 64 rfl) (hd 61 (by kernel_rfl))
   clear hb hv hd
   refine wpOp_step rfl fun K hK=>?_
   go_simp
   exact hK _ _ ⟨_,rfl,Below.refl _ _,rfl,fun h=>absurd h (by decide)⟩
  ·have d62:=got (hv 62 65 rfl) (hd 62 (by kernel_rfl))
   clear hb hv hd
   refine wpOp_call rfl Tryz.call42 (args1 (eval_tmp d62)) (par_one b 26 _) ?_
   rintro e5 w5 ⟨N,rfl,hN,hb5⟩
   exact ⟨_,rfl,_,rfl,hb5,⟨N,rfl,hN⟩,fun h=>absurd h (by decide)⟩
  ·have h63:∃ N,(v 63)=.slice (some ⟨N,0,none⟩) 1 1∧w'.heap[N]?=some (.cells (pcs b 26 1) 71 (0,0)):=hd 63 (by kernel_rfl)
   have d63:f.tmps[66]?=some (v 63):=hv 63 66 rfl
   clear hb hv hd
   obtain ⟨N,eN,hN⟩:=h63
   rw [eN] at d63
   clear eN
   refine wpOp_step rfl fun K hK=>?_
   go_simp
   exact hK _ _ ⟨_,rfl,Below.refl _ _,⟨N,rfl,hN⟩,fun h=>absurd h (by decide)⟩
  ·have b0:f.tmps[0]?=some (.pointer (some ⟨b,0,none⟩)):=(hb 0 (by decide)).trans rfl
   clear hb hv hd
   refine wpOp_step rfl fun K hK=>?_
   go_simp
   exact hK _ _ ⟨_,rfl,Below.refl _ _,rfl,fun h=>absurd h (by decide)⟩
  ·have d65:=got (hv 65 68 rfl) (hd 65 (by kernel_rfl))
   clear hb hv hd
   refine wpOp_step rfl fun K hK=>?_
   go_simp
   exact hK _ _ ⟨_,rfl,Below.refl _ _,rfl,fun h=>absurd h (by decide)⟩
  ·have d66:=got (hv 66 69 rfl) (hd 66 (by kernel_rfl))
   clear hb hv hd
   refine wpOp_step rfl fun K hK=>?_
   go_simp
   exact hK _ _ ⟨_,rfl,Below.refl _ _,rfl,fun h=>absurd h (by decide)⟩
  ·have d67:=got (hv 67 70 rfl) (hd 67 (by kernel_rfl))
   clear hb hv hd
   refine wpOp_call rfl Tryz.call42 (args1 (eval_tmp d67)) (par_one b 27 _) ?_
   rintro e5 w5 ⟨N,rfl,hN,hb5⟩
   exact ⟨_,rfl,_,rfl,hb5,⟨N,rfl,hN⟩,fun h=>absurd h (by decide)⟩
  ·have h68:∃ N,(v 68)=.slice (some ⟨N,0,none⟩) 1 1∧w'.heap[N]?=some (.cells (pcs b 27 1) 71 (0,0)):=hd 68 (by kernel_rfl)
   have d68:f.tmps[71]?=some (v 68):=hv 68 71 rfl
   clear hb hv hd
   obtain ⟨N,eN,hN⟩:=h68
   rw [eN] at d68
   clear eN
   refine wpOp_step rfl fun K hK=>?_
   go_simp
   exact hK _ _ ⟨_,rfl,Below.refl _ _,⟨N,rfl,hN⟩,fun h=>absurd h (by decide)⟩
  ·have b0:f.tmps[0]?=some (.pointer (some ⟨b,0,none⟩)):=(hb 0 (by decide)).trans rfl
   clear hb hv hd
   refine wpOp_step rfl fun K hK=>?_
   go_simp
   exact hK _ _ ⟨_,rfl,Below.refl _ _,rfl,fun h=>absurd h (by decide)⟩
  ·have d70:=got (hv 70 73 rfl) (hd 70 (by kernel_rfl))
   clear hb hv hd
   refine wpOp_step rfl fun K hK=>?_
   go_simp
   exact hK _ _ ⟨_,rfl,Below.refl _ _,rfl,fun h=>absurd h (by decide)⟩
  ·have d71:=got (hv 71 74 rfl) (hd 71 (by kernel_rfl))
   clear hb hv hd
   refine wpOp_step rfl fun K hK=>?_
   go_simp
   exact hK _ _ ⟨_,rfl,Below.refl _ _,rfl,fun h=>absurd h (by decide)⟩
  ·have d72:=got (hv 72 75 rfl) (hd 72 (by kernel_rfl))
   clear hb hv hd
   refine wpOp_call rfl Tryz.call42 (args1 (eval_tmp d72)) (par_one b 28 _) ?_
   rintro e5 w5 ⟨N,rfl,hN,hb5⟩
   exact ⟨_,rfl,_,rfl,hb5,⟨N,rfl,hN⟩,fun h=>absurd h (by decide)⟩
  ·have h73:∃ N,(v 73)=.slice (some ⟨N,0,none⟩) 1 1∧w'.heap[N]?=some (.cells (pcs b 28 1) 71 (0,0)):=hd 73 (by kernel_rfl)
   have d73:f.tmps[76]?=some (v 73):=hv 73 76 rfl
   clear hb hv hd
   obtain ⟨N,eN,hN⟩:=h73
   rw [eN] at d73
   clear eN
   refine wpOp_step rfl fun K hK=>?_
   go_simp
   exact hK _ _ ⟨_,rfl,Below.refl _ _,⟨N,rfl,hN⟩,fun h=>absurd h (by decide)⟩
  ·have b0:f.tmps[0]?=some (.pointer (some ⟨b,0,none⟩)):=(hb 0 (by decide)).trans rfl
   clear hb hv hd
   refine wpOp_step rfl fun K hK=>?_
   go_simp
   exact hK _ _ ⟨_,rfl,Below.refl _ _,rfl,fun h=>absurd h (by decide)⟩
  ·have d75:=got (hv 75 78 rfl) (hd 75 (by kernel_rfl))
   clear hb hv hd
   refine wpOp_step rfl fun K hK=>?_
   go_simp
   exact hK _ _ ⟨_,rfl,Below.refl _ _,rfl,fun h=>absurd h (by decide)⟩
  ·have d76:=got (hv 76 79 rfl) (hd 76 (by kernel_rfl))
   clear hb hv hd
   refine wpOp_step rfl fun K hK=>?_
   go_simp
   exact hK _ _ ⟨_,rfl,Below.refl _ _,rfl,fun h=>absurd h (by decide)⟩
  ·have d77:=got (hv 77 80 rfl) (hd 77 (by kernel_rfl))
   clear hb hv hd
   refine wpOp_call rfl Tryz.call42 (args1 (eval_tmp d77)) (par_one b 29 _) ?_
   rintro e5 w5 ⟨N,rfl,hN,hb5⟩
   exact ⟨_,rfl,_,rfl,hb5,⟨N,rfl,hN⟩,fun h=>absurd h (by decide)⟩
  ·have h78:∃ N,(v 78)=.slice (some ⟨N,0,none⟩) 1 1∧w'.heap[N]?=some (.cells (pcs b 29 1) 71 (0,0)):=hd 78 (by kernel_rfl)
   have d78:f.tmps[81]?=some (v 78):=hv 78 81 rfl
   clear hb hv hd
   obtain ⟨N,eN,hN⟩:=h78
   rw [eN] at d78
   clear eN
   refine wpOp_step rfl fun K hK=>?_
   go_simp
   exact hK _ _ ⟨_,rfl,Below.refl _ _,⟨N,rfl,hN⟩,fun h=>absurd h (by decide)⟩
  ·have b0:f.tmps[0]?=some (.pointer (some ⟨b,0,none⟩)):=(hb 0 (by decide)).trans rfl
   clear hb hv hd
   refine wpOp_step rfl fun K hK=>?_
   go_simp
   exact hK _ _ ⟨_,rfl,Below.refl _ _,rfl,fun h=>absurd h (by decide)⟩
  ·have d80:=got (hv 80 83 rfl) (hd 80 (by kernel_rfl))
   clear hb hv hd
   refine wpOp_step rfl fun K hK=>?_
   go_simp
   exact hK _ _ ⟨_,rfl,Below.refl _ _,rfl,fun h=>absurd h (by decide)⟩
  ·have d81:=got (hv 81 84 rfl) (hd 81 (by kernel_rfl))
   clear hb hv hd
   refine wpOp_step rfl fun K hK=>?_
   go_simp
   exact hK _ _ ⟨_,rfl,Below.refl _ _,rfl,fun h=>absurd h (by decide)⟩
  ·have d82:=got (hv 82 85 rfl) (hd 82 (by kernel_rfl))
   clear hb hv hd
   refine wpOp_call rfl Tryz.call42 (args1 (eval_tmp d82)) (par_one b 30 _) ?_
   rintro e5 w5 ⟨N,rfl,hN,hb5⟩
   exact ⟨_,rfl,_,rfl,hb5,⟨N,rfl,hN⟩,fun h=>absurd h (by decide)⟩
  ·have h83:∃ N,(v 83)=.slice (some ⟨N,0,none⟩) 1 1∧w'.heap[N]?=some (.cells (pcs b 30 1) 71 (0,0)):=hd 83 (by kernel_rfl)
   have d83:f.tmps[86]?=some (v 83):=hv 83 86 rfl
   clear hb hv hd
   obtain ⟨N,eN,hN⟩:=h83
   rw [eN] at d83
   clear eN
   refine wpOp_step rfl fun K hK=>?_
   go_simp
   exact hK _ _ ⟨_,rfl,Below.refl _ _,⟨N,rfl,hN⟩,fun h=>absurd h (by decide)⟩
  ·clear hb hv hd
   refine wpOp_step rfl fun K hK=>?_
   go_simp
   exact hK _ _ ⟨_,rfl,Below.refl _ _,rfl,fun h=>absurd h (by decide)⟩
 ·intro v w' hB hF hD
  have F0:v 0=_:=hF 0 (by simp)
  have F1:v 1=_:=hF 1 (by simp)
  have F2:v 2=_:=hF 2 (by simp)
  have F3:∃ N,(v 3)=.slice (some ⟨N,0,none⟩) 3 3∧w'.heap[N]?=some (.cells (pcs b 0 3) 71 (0,0)):=hF 3 (by simp)
  have F4:∃ N,(v 4)=.agg #[.string ⟨#[113]⟩,.slice (some ⟨N,0,none⟩) 3 3]∧w'.heap[N]?=some (.cells (pcs b 0 3) 71 (0,0)):=hF 4 (by simp)
  have F5:v 5=_:=hF 5 (by simp)
  have F6:v 6=_:=hF 6 (by simp)
  have F7:v 7=_:=hF 7 (by simp)
  have F8:∃ N,(v 8)=.slice (some ⟨N,0,none⟩) 3 3∧w'.heap[N]?=some (.cells (pcs b 3 3) 71 (0,0)):=hF 8 (by simp)
  have F9:∃ N,(v 9)=.agg #[.string ⟨#[108,111,111,115,101]⟩,.slice (some ⟨N,0,none⟩) 3 3]∧w'.heap[N]?=some (.cells (pcs b 3 3) 71 (0,0)):=hF 9 (by simp)
  have F10:v 10=_:=hF 10 (by simp)
  have F11:v 11=_:=hF 11 (by simp)
  have F12:v 12=_:=hF 12 (by simp)
  have F13:∃ N,(v 13)=.slice (some ⟨N,0,none⟩) 1 1∧w'.heap[N]?=some (.cells (pcs b 6 1) 71 (0,0)):=hF 13 (by simp)
  have F14:∃ N,(v 14)=.agg #[.string ⟨#[114]⟩,.slice (some ⟨N,0,none⟩) 1 1]∧w'.heap[N]?=some (.cells (pcs b 6 1) 71 (0,0)):=hF 14 (by simp)
  have F15:v 15=_:=hF 15 (by simp)
  have F16:v 16=_:=hF 16 (by simp)
  have F17:v 17=_:=hF 17 (by simp)
  have F18:∃ N,(v 18)=.slice (some ⟨N,0,none⟩) 1 1∧w'.heap[N]?=some (.cells (pcs b 7 1) 71 (0,0)):=hF 18 (by simp)
  have F19:∃ N,(v 19)=.agg #[.string ⟨#[114,103,114,111,117,110,100]⟩,.slice (some ⟨N,0,none⟩) 1 1]∧w'.heap[N]?=some (.cells (pcs b 7 1) 71 (0,0)):=hF 19 (by simp)
  have F20:v 20=_:=hF 20 (by simp)
  have F21:v 21=_:=hF 21 (by simp)
  have F22:v 22=_:=hF 22 (by simp)
  have F23:∃ N,(v 23)=.slice (some ⟨N,0,none⟩) 3 3∧w'.heap[N]?=some (.cells (pcs b 8 3) 71 (0,0)):=hF 23 (by simp)
  have F24:∃ N,(v 24)=.agg #[.string ⟨#[115,116,97,114,116]⟩,.slice (some ⟨N,0,none⟩) 3 3]∧w'.heap[N]?=some (.cells (pcs b 8 3) 71 (0,0)):=hF 24 (by simp)
  have F25:v 25=_:=hF 25 (by simp)
  have F26:v 26=_:=hF 26 (by simp)
  have F27:v 27=_:=hF 27 (by simp)
  have F28:∃ N,(v 28)=.slice (some ⟨N,0,none⟩) 3 3∧w'.heap[N]?=some (.cells (pcs b 11 3) 71 (0,0)):=hF 28 (by simp)
  have F29:∃ N,(v 29)=.agg #[.string ⟨#[102,108,111,111,114]⟩,.slice (some ⟨N,0,none⟩) 3 3]∧w'.heap[N]?=some (.cells (pcs b 11 3) 71 (0,0)):=hF 29 (by simp)
  have F30:v 30=_:=hF 30 (by simp)
  have F31:v 31=_:=hF 31 (by simp)
  have F32:v 32=_:=hF 32 (by simp)
  have F33:∃ N,(v 33)=.slice (some ⟨N,0,none⟩) 3 3∧w'.heap[N]?=some (.cells (pcs b 14 3) 71 (0,0)):=hF 33 (by simp)
  have F34:∃ N,(v 34)=.agg #[.string ⟨#[99,101,105,108]⟩,.slice (some ⟨N,0,none⟩) 3 3]∧w'.heap[N]?=some (.cells (pcs b 14 3) 71 (0,0)):=hF 34 (by simp)
  have F35:v 35=_:=hF 35 (by simp)
  have F36:v 36=_:=hF 36 (by simp)
  have F37:v 37=_:=hF 37 (by simp)
  have F38:∃ N,(v 38)=.slice (some ⟨N,0,none⟩) 3 3∧w'.heap[N]?=some (.cells (pcs b 17 3) 71 (0,0)):=hF 38 (by simp)
  have F39:∃ N,(v 39)=.agg #[.string ⟨#[98,111,117,110,100]⟩,.slice (some ⟨N,0,none⟩) 3 3]∧w'.heap[N]?=some (.cells (pcs b 17 3) 71 (0,0)):=hF 39 (by simp)
  have F40:v 40=_:=hF 40 (by simp)
  have F41:v 41=_:=hF 41 (by simp)
  have F42:v 42=_:=hF 42 (by simp)
  have F43:∃ N,(v 43)=.slice (some ⟨N,0,none⟩) 1 1∧w'.heap[N]?=some (.cells (pcs b 20 1) 71 (0,0)):=hF 43 (by simp)
  have F44:∃ N,(v 44)=.agg #[.string ⟨#[103,97,116,101]⟩,.slice (some ⟨N,0,none⟩) 1 1]∧w'.heap[N]?=some (.cells (pcs b 20 1) 71 (0,0)):=hF 44 (by simp)
  have F45:v 45=_:=hF 45 (by simp)
  have F46:v 46=_:=hF 46 (by simp)
  have F47:v 47=_:=hF 47 (by simp)
  have F48:∃ N,(v 48)=.slice (some ⟨N,0,none⟩) 3 3∧w'.heap[N]?=some (.cells (pcs b 21 3) 71 (0,0)):=hF 48 (by simp)
  have F49:∃ N,(v 49)=.agg #[.string ⟨#[116,97,98,108,101]⟩,.slice (some ⟨N,0,none⟩) 3 3]∧w'.heap[N]?=some (.cells (pcs b 21 3) 71 (0,0)):=hF 49 (by simp)
  have F50:v 50=_:=hF 50 (by simp)
  have F51:v 51=_:=hF 51 (by simp)
  have F52:v 52=_:=hF 52 (by simp)
  have F53:∃ N,(v 53)=.slice (some ⟨N,0,none⟩) 1 1∧w'.heap[N]?=some (.cells (pcs b 24 1) 71 (0,0)):=hF 53 (by simp)
  have F54:∃ N,(v 54)=.agg #[.string ⟨#[115,99,97,108,101]⟩,.slice (some ⟨N,0,none⟩) 1 1]∧w'.heap[N]?=some (.cells (pcs b 24 1) 71 (0,0)):=hF 54 (by simp)
  have F55:v 55=_:=hF 55 (by simp)
  have F56:v 56=_:=hF 56 (by simp)
  have F57:v 57=_:=hF 57 (by simp)
  have F58:∃ N,(v 58)=.slice (some ⟨N,0,none⟩) 1 1∧w'.heap[N]?=some (.cells (pcs b 25 1) 71 (0,0)):=hF 58 (by simp)
  have F59:∃ N,(v 59)=.agg #[.string ⟨#[114,101,115,116]⟩,.slice (some ⟨N,0,none⟩) 1 1]∧w'.heap[N]?=some (.cells (pcs b 25 1) 71 (0,0)):=hF 59 (by simp)
  have F60:v 60=_:=hF 60 (by simp)
  have F61:v 61=_:=hF 61 (by simp)
  have F62:v 62=_:=hF 62 (by simp)
  have F63:∃ N,(v 63)=.slice (some ⟨N,0,none⟩) 1 1∧w'.heap[N]?=some (.cells (pcs b 26 1) 71 (0,0)):=hF 63 (by simp)
  have F64:∃ N,(v 64)=.agg #[.string ⟨#[99,108,105,112]⟩,.slice (some ⟨N,0,none⟩) 1 1]∧w'.heap[N]?=some (.cells (pcs b 26 1) 71 (0,0)):=hF 64 (by simp)
  have F65:v 65=_:=hF 65 (by simp)
  have F66:v 66=_:=hF 66 (by simp)
  have F67:v 67=_:=hF 67 (by simp)
  have F68:∃ N,(v 68)=.slice (some ⟨N,0,none⟩) 1 1∧w'.heap[N]?=some (.cells (pcs b 27 1) 71 (0,0)):=hF 68 (by simp)
  have F69:∃ N,(v 69)=.agg #[.string ⟨#[104,111,108,100]⟩,.slice (some ⟨N,0,none⟩) 1 1]∧w'.heap[N]?=some (.cells (pcs b 27 1) 71 (0,0)):=hF 69 (by simp)
  have F70:v 70=_:=hF 70 (by simp)
  have F71:v 71=_:=hF 71 (by simp)
  have F72:v 72=_:=hF 72 (by simp)
  have F73:∃ N,(v 73)=.slice (some ⟨N,0,none⟩) 1 1∧w'.heap[N]?=some (.cells (pcs b 28 1) 71 (0,0)):=hF 73 (by simp)
  have F74:∃ N,(v 74)=.agg #[.string ⟨#[99,111,97,115,116]⟩,.slice (some ⟨N,0,none⟩) 1 1]∧w'.heap[N]?=some (.cells (pcs b 28 1) 71 (0,0)):=hF 74 (by simp)
  have F75:v 75=_:=hF 75 (by simp)
  have F76:v 76=_:=hF 76 (by simp)
  have F77:v 77=_:=hF 77 (by simp)
  have F78:∃ N,(v 78)=.slice (some ⟨N,0,none⟩) 1 1∧w'.heap[N]?=some (.cells (pcs b 29 1) 71 (0,0)):=hF 78 (by simp)
  have F79:∃ N,(v 79)=.agg #[.string ⟨#[111,117,116]⟩,.slice (some ⟨N,0,none⟩) 1 1]∧w'.heap[N]?=some (.cells (pcs b 29 1) 71 (0,0)):=hF 79 (by simp)
  have F80:v 80=_:=hF 80 (by simp)
  have F81:v 81=_:=hF 81 (by simp)
  have F82:v 82=_:=hF 82 (by simp)
  have F83:∃ N,(v 83)=.slice (some ⟨N,0,none⟩) 1 1∧w'.heap[N]?=some (.cells (pcs b 30 1) 71 (0,0)):=hF 83 (by simp)
  have F84:∃ N,(v 84)=.agg #[.string ⟨#[98,97,110,100]⟩,.slice (some ⟨N,0,none⟩) 1 1]∧w'.heap[N]?=some (.cells (pcs b 30 1) 71 (0,0)):=hF 84 (by simp)
  have F85:v 85=_:=hF 85 (by simp)
  clear hF
  obtain ⟨N0,E0,hN0⟩:=F4
  obtain ⟨N1,E1,hN1⟩:=F9
  obtain ⟨N2,E2,hN2⟩:=F14
  obtain ⟨N3,E3,hN3⟩:=F19
  obtain ⟨N4,E4,hN4⟩:=F24
  obtain ⟨N5,E5,hN5⟩:=F29
  obtain ⟨N6,E6,hN6⟩:=F34
  obtain ⟨N7,E7,hN7⟩:=F39
  obtain ⟨N8,E8,hN8⟩:=F44
  obtain ⟨N9,E9,hN9⟩:=F49
  obtain ⟨N10,E10,hN10⟩:=F54
  obtain ⟨N11,E11,hN11⟩:=F59
  obtain ⟨N12,E12,hN12⟩:=F64
  obtain ⟨N13,E13,hN13⟩:=F69
  obtain ⟨N14,E14,hN14⟩:=F74
  obtain ⟨N15,E15,hN15⟩:=F79
  obtain ⟨N16,E16,hN16⟩:=F84
  obtain ⟨M0,G0,_⟩:=F3
  obtain ⟨M1,G1,_⟩:=F8
  obtain ⟨M2,G2,_⟩:=F13
  obtain ⟨M3,G3,_⟩:=F18
  obtain ⟨M4,G4,_⟩:=F23
  obtain ⟨M5,G5,_⟩:=F28
  obtain ⟨M6,G6,_⟩:=F33
  obtain ⟨M7,G7,_⟩:=F38
  obtain ⟨M8,G8,_⟩:=F43
  obtain ⟨M9,G9,_⟩:=F48
  obtain ⟨M10,G10,_⟩:=F53
  obtain ⟨M11,G11,_⟩:=F58
  obtain ⟨M12,G12,_⟩:=F63
  obtain ⟨M13,G13,_⟩:=F68
  obtain ⟨M14,G14,_⟩:=F73
  obtain ⟨M15,G15,_⟩:=F78
  obtain ⟨M16,G16,_⟩:=F83
  have L0:LN w' b 0 (.slice (some ⟨N0,0,none⟩) 3 3):=Or.inr ⟨N0,rfl,hN0⟩
  have L1:LN w' b 1 (.slice (some ⟨N1,0,none⟩) 3 3):=Or.inr ⟨N1,rfl,hN1⟩
  have L2:LN w' b 2 (.slice (some ⟨N2,0,none⟩) 1 1):=Or.inr ⟨N2,rfl,hN2⟩
  have L3:LN w' b 3 (.slice (some ⟨N3,0,none⟩) 1 1):=Or.inr ⟨N3,rfl,hN3⟩
  have L4:LN w' b 4 (.slice (some ⟨N4,0,none⟩) 3 3):=Or.inr ⟨N4,rfl,hN4⟩
  have L5:LN w' b 5 (.slice (some ⟨N5,0,none⟩) 3 3):=Or.inr ⟨N5,rfl,hN5⟩
  have L6:LN w' b 6 (.slice (some ⟨N6,0,none⟩) 3 3):=Or.inr ⟨N6,rfl,hN6⟩
  have L7:LN w' b 7 (.slice (some ⟨N7,0,none⟩) 3 3):=Or.inr ⟨N7,rfl,hN7⟩
  have L8:LN w' b 8 (.slice (some ⟨N8,0,none⟩) 1 1):=Or.inr ⟨N8,rfl,hN8⟩
  have L9:LN w' b 9 (.slice (some ⟨N9,0,none⟩) 3 3):=Or.inr ⟨N9,rfl,hN9⟩
  have L10:LN w' b 10 (.slice (some ⟨N10,0,none⟩) 1 1):=Or.inr ⟨N10,rfl,hN10⟩
  have L11:LN w' b 11 (.slice (some ⟨N11,0,none⟩) 1 1):=Or.inr ⟨N11,rfl,hN11⟩
  have L12:LN w' b 12 (.slice (some ⟨N12,0,none⟩) 1 1):=Or.inr ⟨N12,rfl,hN12⟩
  have L13:LN w' b 13 (.slice (some ⟨N13,0,none⟩) 1 1):=Or.inr ⟨N13,rfl,hN13⟩
  have L14:LN w' b 14 (.slice (some ⟨N14,0,none⟩) 1 1):=Or.inr ⟨N14,rfl,hN14⟩
  have L15:LN w' b 15 (.slice (some ⟨N15,0,none⟩) 1 1):=Or.inr ⟨N15,rfl,hN15⟩
  have L16:LN w' b 16 (.slice (some ⟨N16,0,none⟩) 1 1):=Or.inr ⟨N16,rfl,hN16⟩
  have L17:LN w' b 17 (.slice none 0 0):=Or.inl ⟨rfl,rfl⟩
  clear hD hN0 hN1 hN2 hN3 hN4 hN5 hN6 hN7 hN8 hN9 hN10 hN11 hN12 hN13 hN14 hN15 hN16
  simp only [frOf,frGo,Nat.zero_add,Nat.reduceAdd,F0,F1,F2,F5,F6,F7,F10,F11,F12,F15,F16,F17,F20,F21,F22,F25,F26,F27,F30,F31,F32,F35,F36,F37,F40,F41,F42,F45,F46,F47,F50,F51,F52,F55,F56,F57,F60,F61,F62,F65,F66,F67,F70,F71,F72,F75,F76,F77,F80,F81,F82,F85,E0,E1,E2,E3,E4,E5,E6,E7,E8,E9,E10,E11,E12,E13,E14,E15,E16,G0,G1,G2,G3,G4,G5,G6,G7,G8,G9,G10,G11,G12,G13,G14,G15,G16]
  clear F0 F1 F2 F5 F6 F7 F10 F11 F12 F15 F16 F17 F20 F21 F22 F25 F26 F27 F30 F31 F32 F35 F36 F37 F40 F41 F42 F45 F46 F47 F50 F51 F52 F55 F56 F57 F60 F61 F62 F65 F66 F67 F70 F71 F72 F75 F76 F77 F80 F81 F82 F85 E0 E1 E2 E3 E4 E5 E6 E7 E8 E9 E10 E11 E12 E13 E14 E15 E16 G0 G1 G2 G3 G4 G5 G6 G7 G8 G9 G10 G11 G12 G13 G14 G15 G16
  simp only [List.append_eq,List.cons_append,List.nil_append,List.length_cons,List.length_nil,Nat.zero_add,Nat.reduceAdd,List.drop_succ_cons,List.drop_zero]
  simp only [Act.put,List.setIfInBounds_toArray,List.set_cons_zero,List.set_cons_succ]
  go_step
  have E:=hB
  have hg:=heap_alloc_last w' (Obj.cells #[.string ⟨#[113]⟩,.slice (some ⟨N0,0,none⟩) 3 3,.string ⟨#[108,111,111,115,101]⟩,.slice (some ⟨N1,0,none⟩) 3 3,.string ⟨#[114]⟩,.slice (some ⟨N2,0,none⟩) 1 1,.string ⟨#[114,103,114,111,117,110,100]⟩,.slice (some ⟨N3,0,none⟩) 1 1,.string ⟨#[115,116,97,114,116]⟩,.slice (some ⟨N4,0,none⟩) 3 3,.string ⟨#[102,108,111,111,114]⟩,.slice (some ⟨N5,0,none⟩) 3 3,.string ⟨#[99,101,105,108]⟩,.slice (some ⟨N6,0,none⟩) 3 3,.string ⟨#[98,111,117,110,100]⟩,.slice (some ⟨N7,0,none⟩) 3 3,.string ⟨#[103,97,116,101]⟩,.slice (some ⟨N8,0,none⟩) 1 1,.string ⟨#[116,97,98,108,101]⟩,.slice (some ⟨N9,0,none⟩) 3 3,.string ⟨#[115,99,97,108,101]⟩,.slice (some ⟨N10,0,none⟩) 1 1,.string ⟨#[114,101,115,116]⟩,.slice (some ⟨N11,0,none⟩) 1 1,.string ⟨#[99,108,105,112]⟩,.slice (some ⟨N12,0,none⟩) 1 1,.string ⟨#[104,111,108,100]⟩,.slice (some ⟨N13,0,none⟩) 1 1,.string ⟨#[99,111,97,115,116]⟩,.slice (some ⟨N14,0,none⟩) 1 1,.string ⟨#[111,117,116]⟩,.slice (some ⟨N15,0,none⟩) 1 1,.string ⟨#[98,97,110,100]⟩,.slice (some ⟨N16,0,none⟩) 1 1,.string ⟨#[101,110,100]⟩,.slice none 0 0] 70)
  have G:=b_alloc (o:=Obj.cells #[.string ⟨#[113]⟩,.slice (some ⟨N0,0,none⟩) 3 3,.string ⟨#[108,111,111,115,101]⟩,.slice (some ⟨N1,0,none⟩) 3 3,.string ⟨#[114]⟩,.slice (some ⟨N2,0,none⟩) 1 1,.string ⟨#[114,103,114,111,117,110,100]⟩,.slice (some ⟨N3,0,none⟩) 1 1,.string ⟨#[115,116,97,114,116]⟩,.slice (some ⟨N4,0,none⟩) 3 3,.string ⟨#[102,108,111,111,114]⟩,.slice (some ⟨N5,0,none⟩) 3 3,.string ⟨#[99,101,105,108]⟩,.slice (some ⟨N6,0,none⟩) 3 3,.string ⟨#[98,111,117,110,100]⟩,.slice (some ⟨N7,0,none⟩) 3 3,.string ⟨#[103,97,116,101]⟩,.slice (some ⟨N8,0,none⟩) 1 1,.string ⟨#[116,97,98,108,101]⟩,.slice (some ⟨N9,0,none⟩) 3 3,.string ⟨#[115,99,97,108,101]⟩,.slice (some ⟨N10,0,none⟩) 1 1,.string ⟨#[114,101,115,116]⟩,.slice (some ⟨N11,0,none⟩) 1 1,.string ⟨#[99,108,105,112]⟩,.slice (some ⟨N12,0,none⟩) 1 1,.string ⟨#[104,111,108,100]⟩,.slice (some ⟨N13,0,none⟩) 1 1,.string ⟨#[99,111,97,115,116]⟩,.slice (some ⟨N14,0,none⟩) 1 1,.string ⟨#[111,117,116]⟩,.slice (some ⟨N15,0,none⟩) 1 1,.string ⟨#[98,97,110,100]⟩,.slice (some ⟨N16,0,none⟩) 1 1,.string ⟨#[101,110,100]⟩,.slice none 0 0] 70) (Below.refl w'.heap.size w')
  replace L0:=ln_keep G L0
  replace L1:=ln_keep G L1
  replace L2:=ln_keep G L2
  replace L3:=ln_keep G L3
  replace L4:=ln_keep G L4
  replace L5:=ln_keep G L5
  replace L6:=ln_keep G L6
  replace L7:=ln_keep G L7
  replace L8:=ln_keep G L8
  replace L9:=ln_keep G L9
  replace L10:=ln_keep G L10
  replace L11:=ln_keep G L11
  replace L12:=ln_keep G L12
  replace L13:=ln_keep G L13
  replace L14:=ln_keep G L14
  replace L15:=ln_keep G L15
  replace L16:=ln_keep G L16
  replace L17:=ln_keep G L17
  have hle:=E.size
  replace E:=b_trans E G
  have HL:LT (w'.alloc (Obj.cells #[.string ⟨#[113]⟩,.slice (some ⟨N0,0,none⟩) 3 3,.string ⟨#[108,111,111,115,101]⟩,.slice (some ⟨N1,0,none⟩) 3 3,.string ⟨#[114]⟩,.slice (some ⟨N2,0,none⟩) 1 1,.string ⟨#[114,103,114,111,117,110,100]⟩,.slice (some ⟨N3,0,none⟩) 1 1,.string ⟨#[115,116,97,114,116]⟩,.slice (some ⟨N4,0,none⟩) 3 3,.string ⟨#[102,108,111,111,114]⟩,.slice (some ⟨N5,0,none⟩) 3 3,.string ⟨#[99,101,105,108]⟩,.slice (some ⟨N6,0,none⟩) 3 3,.string ⟨#[98,111,117,110,100]⟩,.slice (some ⟨N7,0,none⟩) 3 3,.string ⟨#[103,97,116,101]⟩,.slice (some ⟨N8,0,none⟩) 1 1,.string ⟨#[116,97,98,108,101]⟩,.slice (some ⟨N9,0,none⟩) 3 3,.string ⟨#[115,99,97,108,101]⟩,.slice (some ⟨N10,0,none⟩) 1 1,.string ⟨#[114,101,115,116]⟩,.slice (some ⟨N11,0,none⟩) 1 1,.string ⟨#[99,108,105,112]⟩,.slice (some ⟨N12,0,none⟩) 1 1,.string ⟨#[104,111,108,100]⟩,.slice (some ⟨N13,0,none⟩) 1 1,.string ⟨#[99,111,97,115,116]⟩,.slice (some ⟨N14,0,none⟩) 1 1,.string ⟨#[111,117,116]⟩,.slice (some ⟨N15,0,none⟩) 1 1,.string ⟨#[98,97,110,100]⟩,.slice (some ⟨N16,0,none⟩) 1 1,.string ⟨#[101,110,100]⟩,.slice none 0 0] 70)) b w'.heap.size (fun i=>match i with | 0=>.slice (some ⟨N0,0,none⟩) 3 3 | 1=>.slice (some ⟨N1,0,none⟩) 3 3 | 2=>.slice (some ⟨N2,0,none⟩) 1 1 | 3=>.slice (some ⟨N3,0,none⟩) 1 1 | 4=>.slice (some ⟨N4,0,none⟩) 3 3 | 5=>.slice (some ⟨N5,0,none⟩) 3 3 | 6=>.slice (some ⟨N6,0,none⟩) 3 3 | 7=>.slice (some ⟨N7,0,none⟩) 3 3 | 8=>.slice (some ⟨N8,0,none⟩) 1 1 | 9=>.slice (some ⟨N9,0,none⟩) 3 3 | 10=>.slice (some ⟨N10,0,none⟩) 1 1 | 11=>.slice (some ⟨N11,0,none⟩) 1 1 | 12=>.slice (some ⟨N12,0,none⟩) 1 1 | 13=>.slice (some ⟨N13,0,none⟩) 1 1 | 14=>.slice (some ⟨N14,0,none⟩) 1 1 | 15=>.slice (some ⟨N15,0,none⟩) 1 1 | 16=>.slice (some ⟨N16,0,none⟩) 1 1 | _=>.slice none 0 0):=fun i hi=>match i,hi with
   | 0,_=>⟨(cell_of_row _ _ 0 _ _ _ hg).trans rfl,(cell_of_row _ _ 1 _ _ _ hg).trans rfl,L0⟩
   | 1,_=>⟨(cell_of_row _ _ 2 _ _ _ hg).trans rfl,(cell_of_row _ _ 3 _ _ _ hg).trans rfl,L1⟩
   | 2,_=>⟨(cell_of_row _ _ 4 _ _ _ hg).trans rfl,(cell_of_row _ _ 5 _ _ _ hg).trans rfl,L2⟩
   | 3,_=>⟨(cell_of_row _ _ 6 _ _ _ hg).trans rfl,(cell_of_row _ _ 7 _ _ _ hg).trans rfl,L3⟩
   | 4,_=>⟨(cell_of_row _ _ 8 _ _ _ hg).trans rfl,(cell_of_row _ _ 9 _ _ _ hg).trans rfl,L4⟩
   | 5,_=>⟨(cell_of_row _ _ 10 _ _ _ hg).trans rfl,(cell_of_row _ _ 11 _ _ _ hg).trans rfl,L5⟩
   | 6,_=>⟨(cell_of_row _ _ 12 _ _ _ hg).trans rfl,(cell_of_row _ _ 13 _ _ _ hg).trans rfl,L6⟩
   | 7,_=>⟨(cell_of_row _ _ 14 _ _ _ hg).trans rfl,(cell_of_row _ _ 15 _ _ _ hg).trans rfl,L7⟩
   | 8,_=>⟨(cell_of_row _ _ 16 _ _ _ hg).trans rfl,(cell_of_row _ _ 17 _ _ _ hg).trans rfl,L8⟩
   | 9,_=>⟨(cell_of_row _ _ 18 _ _ _ hg).trans rfl,(cell_of_row _ _ 19 _ _ _ hg).trans rfl,L9⟩
   | 10,_=>⟨(cell_of_row _ _ 20 _ _ _ hg).trans rfl,(cell_of_row _ _ 21 _ _ _ hg).trans rfl,L10⟩
   | 11,_=>⟨(cell_of_row _ _ 22 _ _ _ hg).trans rfl,(cell_of_row _ _ 23 _ _ _ hg).trans rfl,L11⟩
   | 12,_=>⟨(cell_of_row _ _ 24 _ _ _ hg).trans rfl,(cell_of_row _ _ 25 _ _ _ hg).trans rfl,L12⟩
   | 13,_=>⟨(cell_of_row _ _ 26 _ _ _ hg).trans rfl,(cell_of_row _ _ 27 _ _ _ hg).trans rfl,L13⟩
   | 14,_=>⟨(cell_of_row _ _ 28 _ _ _ hg).trans rfl,(cell_of_row _ _ 29 _ _ _ hg).trans rfl,L14⟩
   | 15,_=>⟨(cell_of_row _ _ 30 _ _ _ hg).trans rfl,(cell_of_row _ _ 31 _ _ _ hg).trans rfl,L15⟩
   | 16,_=>⟨(cell_of_row _ _ 32 _ _ _ hg).trans rfl,(cell_of_row _ _ 33 _ _ _ hg).trans rfl,L16⟩
   | 17,_=>⟨(cell_of_row _ _ 34 _ _ _ hg).trans rfl,(cell_of_row _ _ 35 _ _ _ hg).trans rfl,L17⟩
   | n+18,h=>absurd h (by omega)
  clear hg G L0 L1 L2 L3 L4 L5 L6 L7 L8 L9 L10 L11 L12 L13 L14 L15 L16 L17
  go_wp2
  go_ret
  exact ⟨w'.heap.size,_,rfl,HL,hle,E⟩
end Go.Proofs.YthnofhjgfhapiaaGreatDoor
