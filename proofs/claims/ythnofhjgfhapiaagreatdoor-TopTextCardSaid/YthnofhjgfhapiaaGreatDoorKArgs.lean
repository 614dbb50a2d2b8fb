import Derived.Test.YthnofhjgfhapiaaGreatDoorRows
import Derived.Test.YthnofhjgfhapiaaGreatDoorWaa
import Derived.ProofKit
import Derived.OpenShut
import Derived.Lib.SmallJoins
import Derived.Test.YthnofhjgfhapiaaGreatDoorWae
import Derived.Test.YthnofhjgfhapiaaGreatDoorWag
import Derived.ChangeSame
import Derived.Test.YthnofhjgfhapiaaGreatDoorWai
import Derived.Deep.Slices
import Derived.DataShut
import Derived.Test.YthnofhjgfhapiaaGreatDoorWbj
import Derived.Test.YthnofhjgfhapiaaGreatDoorWam
import Derived.LaidMore
import Derived.Stop.Joined
import Derived.Stop.LaidErr
import Derived.Lib.LaidTab
import Derived.Shelf.Vars
import Derived.HandedShaped
set_option maxRecDepth 100000
namespace Go.Proofs.YthnofhjgfhapiaaGreatDoor
open Go.ChangeShapes Go.WideShapes Go.ChangeAt Go.RowKit Go.Joins
theorem Tryz.own:ownKnob Tryz.prog.godebug=none:=by kernel_rfl
theorem Tryz.cellsWide:Tryz.prog.cellsOf 96=2:=by kernel_rfl
theorem wf_u8 {x:Int} (h:(Lit.int .u8 x).wf=true):0≤x∧x≤255:=by
 simp [Lit.wf,IntKind.min,IntKind.max,IntKind.signed,IntKind.bits] at h
 omega
theorem wf_i64 {x:Int} (h:(Lit.int .i64 x).wf=true):-9223372036854775808≤x∧x≤9223372036854775807:=by
 simp [Lit.wf,IntKind.min,IntKind.max,IntKind.signed,IntKind.bits] at h
 omega
theorem wf_u64 {x:Int} (h:(Lit.int .u64 x).wf=true):0≤x∧x≤18446744073709551615:=by
 simp [Lit.wf,IntKind.min,IntKind.max,IntKind.signed,IntKind.bits] at h
 omega
section
variable {H:Type} {enc:TypeId × Value→H}
theorem post_flat {P:Program} {f:Func} {s:ChangeSpec} {apart fresh handsOn again:Bool} {W W':World} {args:Array Value} {v:Value} {ds gs:List (DataW H)}
  (hW:DataW.Whole enc P f.params.toList s.vars apart W args.toList ds gs [])
  (hres:∀ (b:Nat) (sp:Nat→Bool) (hd:Bool),DataW.TrodAll enc P W' b sp hd f.resultTypes.toList (v.resultList f.resultTypes.size) (s.fn H (ds ++ gs)).results [])
  (hargs:∀ sp:Nat→Bool,DataW.TrodAll enc P W' 0 sp true f.params.toList args.toList (s.fn H (ds ++ gs)).args [])
  (hvars:∀ sp:Nat→Bool,DataW.TrodVars enc P W' sp s.vars (s.fn H (ds ++ gs)).vars [])
  (hb:Below W.heap.size W W')
  (hok:∀ (j:Nat) (t:TypeId) (r:Value),f.resultTypes[j]?=some t→(v.resultList f.resultTypes.size)[j]?=some r→Value.okWide P W' .any 0 t r) :
  s.post enc P f apart fresh handsOn again W args v W':=by
 refine ⟨ds,gs,[],[],[],[],hW,hres _ _ _,hargs _,hvars _,World.keptBut_mono (fun p hp=>absurd hp (by simp)) (hb.frame (· ∈ [])),fun _=>?_⟩
 refine ⟨hok,_,_,[],⟨[],[],trodAll_append (hargs _) (hres _ _ _),hvars _,rfl,fun b off hp=>absurd hp (by simp),fun _=>List.nodup_nil⟩,fun p hp _=>absurd hp (by simp)⟩
theorem open_wide {w:World} {base:Nat} {spare:Nat→Bool} {held:Bool} {r:Reach} {b0:Nat} {v:Value} {d:DataW H} {p:List MemPlace}
  (hv:Value.okWide Tryz.prog w r b0 96 v) (h:DataW.Trod enc Tryz.prog w base spare held 96 v d p) :
  ∃ hi lo:Int,v=wv hi lo∧d=.agg [.lit (.int .i64 hi),.lit (.int .u64 lo)]∧p=[]∧(Lit.int .i64 hi).wf=true∧(Lit.int .u64 lo).wf=true:=by
 obtain ⟨c0,c1,y0,y1,m,rfl,rfl,rfl,hy0,hy1⟩:=open_agg2 Tryz.underlying96 (by kernel_rfl) Tryz.cellsWide hv h
 obtain ⟨a,e0,rfl,wa⟩:=DataW.trod_int Tryz.underlying2 hy0
 obtain ⟨b,e1,rfl,wb⟩:=DataW.trod_int Tryz.underlying91 hy1
 simp at e0 e1
 subst e0 e1
 exact ⟨a,b,rfl,rfl,rfl,wa,wb⟩
theorem shut_wide {w:World} {base:Nat} {spare:Nat→Bool} {held:Bool} {hi lo:Int} (wa:(Lit.int .i64 hi).wf=true) (wb:(Lit.int .u64 lo).wf=true) :
  DataW.Trod enc Tryz.prog w base spare held 96 (wv hi lo) (.agg [.lit (.int .i64 hi),.lit (.int .u64 lo)]) [] :=
 shut_agg2 (y0:=(.lit (.int .i64 hi),[])) (y1:=(.lit (.int .u64 lo),[])) Tryz.underlying96 (by kernel_rfl) Tryz.cellsWide ⟨1,by simp [DataW.trod,Tryz.underlying2,wa]⟩ ⟨1,by simp [DataW.trod,Tryz.underlying91,wb]⟩
theorem isW_of {hi lo:Int} (wa:(Lit.int .i64 hi).wf=true) (wb:(Lit.int .u64 lo).wf=true):IsW hi lo (hi*18446744073709551616+lo) :=
 ⟨(wf_i64 wa).1,(wf_i64 wa).2,(wf_u64 wb).1,(wf_u64 wb).2,rfl⟩
end
end Go.Proofs.YthnofhjgfhapiaaGreatDoor
namespace Go.Proofs.YthnofhjgfhapiaaGreatDoor
open Go.ChangeShapes Go.WideShapes Go.ChangeAt Go.RowKit Go.Joins
section
variable {H:Type} {enc:TypeId × Value→H}
theorem Tryz.cellsVec:Tryz.prog.cellsOf 25=3:=by kernel_rfl
theorem Tryz.cellsOne:Tryz.prog.cellsOf 2=1:=by kernel_rfl
theorem open_vec {w:World} {base:Nat} {spare:Nat→Bool} {held:Bool} {r:Reach} {b0:Nat} {v:Value} {d:DataW H} {p:List MemPlace}
  (hv:Value.okWide Tryz.prog w r b0 25 v) (h:DataW.Trod enc Tryz.prog w base spare held 25 v d p) :
  ∃ x y z:Int,v=tv x y z∧d=.agg [.lit (.int .i64 x),.lit (.int .i64 y),.lit (.int .i64 z)]∧p=[]∧(Lit.int .i64 x).wf=true∧(Lit.int .i64 y).wf=true∧(Lit.int .i64 z).wf=true:=by
 simp only [Value.okWide,Tryz.underlying25] at hv
 obtain ⟨cs,rfl,hsz,_⟩:=hv
 obtain ⟨c0,c1,c2,rfl⟩:=array3 (hsz.trans Tryz.cellsVec)
 obtain ⟨fuel,hf⟩:=h
 obtain ⟨xs,m,_,hx,_,hl,hi⟩:=DataW.trod_array Tryz.underlying25 hf
 have h0:=hi 0 (by decide)
 have h1:=hi 1 (by decide)
 have h2:=hi 2 (by decide)
 simp only [Tryz.cellsOne] at h0 h1 h2
 match xs,hl with
 | [y0,y1,y2],_ =>
  simp [Value.cells] at h0 h1 h2
  obtain ⟨a,e0,rfl,wa⟩:=DataW.trod_int Tryz.underlying2 h0
  obtain ⟨b,e1,rfl,wb⟩:=DataW.trod_int Tryz.underlying2 h1
  obtain ⟨c,e2,rfl,wc⟩:=DataW.trod_int Tryz.underlying2 h2
  simp at e0 e1 e2
  subst e0 e1 e2
  simp at hx
  obtain ⟨rfl,rfl⟩:=hx
  exact ⟨a,b,c,rfl,rfl,rfl,wa,wb,wc⟩
theorem shut_vec {w:World} {base:Nat} {spare:Nat→Bool} {held:Bool} {x y z:Int} (wa:(Lit.int .i64 x).wf=true) (wb:(Lit.int .i64 y).wf=true) (wc:(Lit.int .i64 z).wf=true) :
  DataW.Trod enc Tryz.prog w base spare held 25 (tv x y z) (.agg [.lit (.int .i64 x),.lit (.int .i64 y),.lit (.int .i64 z)]) [] :=
 ⟨2,by simp [DataW.trod,Value.cells,Tryz.underlying25,Tryz.underlying2,Tryz.cellsOne,Tryz.cellsVec,wa,wb,wc,show List.range 3=[0,1,2] from rfl]⟩
end
end Go.Proofs.YthnofhjgfhapiaaGreatDoor
namespace Go.Proofs.YthnofhjgfhapiaaGreatDoor
open Go.ChangeShapes Go.WideShapes Go.ChangeAt Go.RowKit Go.Joins
theorem cells31 {a:Array Value} (h:a.size=31):∃ c0 c1 c2 c3 c4 c5 c6 c7 c8 c9 c10 c11 c12 c13 c14 c15 c16 c17 c18 c19 c20 c21 c22 c23 c24 c25 c26 c27 c28 c29 c30,a=#[c0,c1,c2,c3,c4,c5,c6,c7,c8,c9,c10,c11,c12,c13,c14,c15,c16,c17,c18,c19,c20,c21,c22,c23,c24,c25,c26,c27,c28,c29,c30]:=by
 obtain ⟨l⟩:=a
 match l,h with
 | [c0,c1,c2,c3,c4,c5,c6,c7,c8,c9,c10,c11,c12,c13,c14,c15,c16,c17,c18,c19,c20,c21,c22,c23,c24,c25,c26,c27,c28,c29,c30],_=>exact ⟨c0,c1,c2,c3,c4,c5,c6,c7,c8,c9,c10,c11,c12,c13,c14,c15,c16,c17,c18,c19,c20,c21,c22,c23,c24,c25,c26,c27,c28,c29,c30,rfl⟩
theorem Tryz.cellsConf:Tryz.prog.cellsOf 27=31:=by kernel_rfl
section
variable {H:Type} {enc:TypeId × Value→H}
theorem trod_row {w:World} {base:Nat} {spare:Nat→Bool} {held:Bool} {fuel:Nat} {c0 c1 c2:Value} {x:DataW H × List MemPlace}
  (h:DataW.trod enc Tryz.prog w base spare held fuel 25 [c0,c1,c2]=some x) :
  ∃ x0 x1 x2:Int,c0=.int .i64 x0∧c1=.int .i64 x1∧c2=.int .i64 x2∧x=(.agg [.lit (.int .i64 x0),.lit (.int .i64 x1),.lit (.int .i64 x2)],[]) ∧
   (Lit.int .i64 x0).wf=true∧(Lit.int .i64 x1).wf=true∧(Lit.int .i64 x2).wf=true:=by
 obtain ⟨xs,m,_,rfl,_,hl,hi⟩:=DataW.trod_array Tryz.underlying25 h
 have h0:=hi 0 (by decide)
 have h1:=hi 1 (by decide)
 have h2:=hi 2 (by decide)
 simp only [Tryz.cellsOne] at h0 h1 h2
 match xs,hl with
 | [y0,y1,y2],_ =>
  simp at h0 h1 h2
  obtain ⟨a0,e0,rfl,w0⟩:=DataW.trod_int Tryz.underlying2 h0
  obtain ⟨a1,e1,rfl,w1⟩:=DataW.trod_int Tryz.underlying2 h1
  obtain ⟨a2,e2,rfl,w2⟩:=DataW.trod_int Tryz.underlying2 h2
  simp at e0 e1 e2
  exact ⟨a0,a1,a2,e0,e1,e2,rfl,w0,w1,w2⟩
theorem trod_row_mk {w:World} {base:Nat} {spare:Nat→Bool} {held:Bool} {x y z:Int} (wa:(Lit.int .i64 x).wf=true) (wb:(Lit.int .i64 y).wf=true) (wc:(Lit.int .i64 z).wf=true) :
  DataW.trod enc Tryz.prog w base spare held 2 25 [.int .i64 x,.int .i64 y,.int .i64 z]=some (.agg [.lit (.int .i64 x),.lit (.int .i64 y),.lit (.int .i64 z)],[]):=by
 simp [DataW.trod,Tryz.underlying25,Tryz.underlying2,Tryz.cellsOne,Tryz.cellsVec,wa,wb,wc,show List.range 3=[0,1,2] from rfl]
theorem trod_num_mk {w:World} {base:Nat} {spare:Nat→Bool} {held:Bool} {x:Int} (wa:(Lit.int .i64 x).wf=true) :
  DataW.trod enc Tryz.prog w base spare held 2 2 [.int .i64 x]=some (.lit (.int .i64 x),[]):=by
 simp [DataW.trod,Tryz.underlying2,wa]
abbrev cdat (H:Type) (x:Nat→Int):DataW H:=.agg [.agg [.lit (.int .i64 (x 0)),.lit (.int .i64 (x 1)),.lit (.int .i64 (x 2))],.agg [.lit (.int .i64 (x 3)),.lit (.int .i64 (x 4)),.lit (.int .i64 (x 5))],.lit (.int .i64 (x 6)),.lit (.int .i64 (x 7)),.agg [.lit (.int .i64 (x 8)),.lit (.int .i64 (x 9)),.lit (.int .i64 (x 10))],.agg [.lit (.int .i64 (x 11)),.lit (.int .i64 (x 12)),.lit (.int .i64 (x 13))],.agg [.lit (.int .i64 (x 14)),.lit (.int .i64 (x 15)),.lit (.int .i64 (x 16))],.agg [.lit (.int .i64 (x 17)),.lit (.int .i64 (x 18)),.lit (.int .i64 (x 19))],.lit (.int .i64 (x 20)),.agg [.lit (.int .i64 (x 21)),.lit (.int .i64 (x 22)),.lit (.int .i64 (x 23))],.lit (.int .i64 (x 24)),.lit (.int .i64 (x 25)),.lit (.int .i64 (x 26)),.lit (.int .i64 (x 27)),.lit (.int .i64 (x 28)),.lit (.int .i64 (x 29)),.lit (.int .i64 (x 30))]
theorem open_conf {w:World} {base:Nat} {spare:Nat→Bool} {held:Bool} {r:Reach} {b0:Nat} {v:Value} {d:DataW H} {p:List MemPlace}
  (hv:Value.okWide Tryz.prog w r b0 27 v) (h:DataW.Trod enc Tryz.prog w base spare held 27 v d p) :
  ∃ x:Nat→Int,v=cv x∧d=cdat H x∧p=[]∧∀ i,i<31→(Lit.int .i64 (x i)).wf=true:=by
 simp only [Value.okWide,Tryz.underlying27] at hv
 obtain ⟨cs,rfl,hsz,_⟩:=hv
 obtain ⟨c0,c1,c2,c3,c4,c5,c6,c7,c8,c9,c10,c11,c12,c13,c14,c15,c16,c17,c18,c19,c20,c21,c22,c23,c24,c25,c26,c27,c28,c29,c30,rfl⟩:=cells31 (hsz.trans Tryz.cellsConf)
 obtain ⟨fuel,hf⟩:=h
 obtain ⟨xs,m,_,hx,_,hl,hi⟩:=DataW.trod_struct Tryz.underlying27 hf
 have h0:DataW.trod enc Tryz.prog w base spare held m 25 (([c0,c1,c2,c3,c4,c5,c6,c7,c8,c9,c10,c11,c12,c13,c14,c15,c16,c17,c18,c19,c20,c21,c22,c23,c24,c25,c26,c27,c28,c29,c30].drop 0).take (Tryz.prog.cellsOf 25))=xs[0]?:=hi 0 _ rfl
 have h1:DataW.trod enc Tryz.prog w base spare held m 25 (([c0,c1,c2,c3,c4,c5,c6,c7,c8,c9,c10,c11,c12,c13,c14,c15,c16,c17,c18,c19,c20,c21,c22,c23,c24,c25,c26,c27,c28,c29,c30].drop 3).take (Tryz.prog.cellsOf 25))=xs[1]?:=hi 1 _ rfl
 have h2:DataW.trod enc Tryz.prog w base spare held m 2 (([c0,c1,c2,c3,c4,c5,c6,c7,c8,c9,c10,c11,c12,c13,c14,c15,c16,c17,c18,c19,c20,c21,c22,c23,c24,c25,c26,c27,c28,c29,c30].drop 6).take (Tryz.prog.cellsOf 2))=xs[2]?:=hi 2 _ rfl
 have h3:DataW.trod enc Tryz.prog w base spare held m 2 (([c0,c1,c2,c3,c4,c5,c6,c7,c8,c9,c10,c11,c12,c13,c14,c15,c16,c17,c18,c19,c20,c21,c22,c23,c24,c25,c26,c27,c28,c29,c30].drop 7).take (Tryz.prog.cellsOf 2))=xs[3]?:=hi 3 _ rfl
 have h4:DataW.trod enc Tryz.prog w base spare held m 25 (([c0,c1,c2,c3,c4,c5,c6,c7,c8,c9,c10,c11,c12,c13,c14,c15,c16,c17,c18,c19,c20,c21,c22,c23,c24,c25,c26,c27,c28,c29,c30].drop 8).take (Tryz.prog.cellsOf 25))=xs[4]?:=hi 4 _ rfl
 have h5:DataW.trod enc Tryz.prog w base spare held m 25 (([c0,c1,c2,c3,c4,c5,c6,c7,c8,c9,c10,c11,c12,c13,c14,c15,c16,c17,c18,c19,c20,c21,c22,c23,c24,c25,c26,c27,c28,c29,c30].drop 11).take (Tryz.prog.cellsOf 25))=xs[5]?:=hi 5 _ rfl
 have h6:DataW.trod enc Tryz.prog w base spare held m 25 (([c0,c1,c2,c3,c4,c5,c6,c7,c8,c9,c10,c11,c12,c13,c14,c15,c16,c17,c18,c19,c20,c21,c22,c23,c24,c25,c26,c27,c28,c29,c30].drop 14).take (Tryz.prog.cellsOf 25))=xs[6]?:=hi 6 _ rfl
 have h7:DataW.trod enc Tryz.prog w base spare held m 25 (([c0,c1,c2,c3,c4,c5,c6,c7,c8,c9,c10,c11,c12,c13,c14,c15,c16,c17,c18,c19,c20,c21,c22,c23,c24,c25,c26,c27,c28,c29,c30].drop 17).take (Tryz.prog.cellsOf 25))=xs[7]?:=hi 7 _ rfl
 have h8:DataW.trod enc Tryz.prog w base spare held m 2 (([c0,c1,c2,c3,c4,c5,c6,c7,c8,c9,c10,c11,c12,c13,c14,c15,c16,c17,c18,c19,c20,c21,c22,c23,c24,c25,c26,c27,c28,c29,c30].drop 20).take (Tryz.prog.cellsOf 2))=xs[8]?:=hi 8 _ rfl
 have h9:DataW.trod enc Tryz.prog w base spare held m 25 (([c0,c1,c2,c3,c4,c5,c6,c7,c8,c9,c10,c11,c12,c13,c14,c15,c16,c17,c18,c19,c20,c21,c22,c23,c24,c25,c26,c27,c28,c29,c30].drop 21).take (Tryz.prog.cellsOf 25))=xs[9]?:=hi 9 _ rfl
 have h10:DataW.trod enc Tryz.prog w base spare held m 2 (([c0,c1,c2,c3,c4,c5,c6,c7,c8,c9,c10,c11,c12,c13,c14,c15,c16,c17,c18,c19,c20,c21,c22,c23,c24,c25,c26,c27,c28,c29,c30].drop 24).take (Tryz.prog.cellsOf 2))=xs[10]?:=hi 10 _ rfl
 have h11:DataW.trod enc Tryz.prog w base spare held m 2 (([c0,c1,c2,c3,c4,c5,c6,c7,c8,c9,c10,c11,c12,c13,c14,c15,c16,c17,c18,c19,c20,c21,c22,c23,c24,c25,c26,c27,c28,c29,c30].drop 25).take (Tryz.prog.cellsOf 2))=xs[11]?:=hi 11 _ rfl
 have h12:DataW.trod enc Tryz.prog w base spare held m 2 (([c0,c1,c2,c3,c4,c5,c6,c7,c8,c9,c10,c11,c12,c13,c14,c15,c16,c17,c18,c19,c20,c21,c22,c23,c24,c25,c26,c27,c28,c29,c30].drop 26).take (Tryz.prog.cellsOf 2))=xs[12]?:=hi 12 _ rfl
 have h13:DataW.trod enc Tryz.prog w base spare held m 2 (([c0,c1,c2,c3,c4,c5,c6,c7,c8,c9,c10,c11,c12,c13,c14,c15,c16,c17,c18,c19,c20,c21,c22,c23,c24,c25,c26,c27,c28,c29,c30].drop 27).take (Tryz.prog.cellsOf 2))=xs[13]?:=hi 13 _ rfl
 have h14:DataW.trod enc Tryz.prog w base spare held m 2 (([c0,c1,c2,c3,c4,c5,c6,c7,c8,c9,c10,c11,c12,c13,c14,c15,c16,c17,c18,c19,c20,c21,c22,c23,c24,c25,c26,c27,c28,c29,c30].drop 28).take (Tryz.prog.cellsOf 2))=xs[14]?:=hi 14 _ rfl
 have h15:DataW.trod enc Tryz.prog w base spare held m 2 (([c0,c1,c2,c3,c4,c5,c6,c7,c8,c9,c10,c11,c12,c13,c14,c15,c16,c17,c18,c19,c20,c21,c22,c23,c24,c25,c26,c27,c28,c29,c30].drop 29).take (Tryz.prog.cellsOf 2))=xs[15]?:=hi 15 _ rfl
 have h16:DataW.trod enc Tryz.prog w base spare held m 2 (([c0,c1,c2,c3,c4,c5,c6,c7,c8,c9,c10,c11,c12,c13,c14,c15,c16,c17,c18,c19,c20,c21,c22,c23,c24,c25,c26,c27,c28,c29,c30].drop 30).take (Tryz.prog.cellsOf 2))=xs[16]?:=hi 16 _ rfl
 clear hi hf hsz
 simp only [Tryz.cellsOne,Tryz.cellsVec] at h0 h1 h2 h3 h4 h5 h6 h7 h8 h9 h10 h11 h12 h13 h14 h15 h16
 match xs,hl with
 | [y0,y1,y2,y3,y4,y5,y6,y7,y8,y9,y10,y11,y12,y13,y14,y15,y16],_ =>
  simp at h0
  simp at h1
  simp at h2
  simp at h3
  simp at h4
  simp at h5
  simp at h6
  simp at h7
  simp at h8
  simp at h9
  simp at h10
  simp at h11
  simp at h12
  simp at h13
  simp at h14
  simp at h15
  simp at h16
  obtain ⟨a0,a1,a2,rfl,rfl,rfl,rfl,w0,w1,w2⟩:=trod_row h0
  obtain ⟨a3,a4,a5,rfl,rfl,rfl,rfl,w3,w4,w5⟩:=trod_row h1
  obtain ⟨a6,e6,rfl,w6⟩:=DataW.trod_int Tryz.underlying2 h2
  simp at e6
  subst e6
  obtain ⟨a7,e7,rfl,w7⟩:=DataW.trod_int Tryz.underlying2 h3
  simp at e7
  subst e7
  obtain ⟨a8,a9,a10,rfl,rfl,rfl,rfl,w8,w9,w10⟩:=trod_row h4
  obtain ⟨a11,a12,a13,rfl,rfl,rfl,rfl,w11,w12,w13⟩:=trod_row h5
  obtain ⟨a14,a15,a16,rfl,rfl,rfl,rfl,w14,w15,w16⟩:=trod_row h6
  obtain ⟨a17,a18,a19,rfl,rfl,rfl,rfl,w17,w18,w19⟩:=trod_row h7
  obtain ⟨a20,e20,rfl,w20⟩:=DataW.trod_int Tryz.underlying2 h8
  simp at e20
  subst e20
  obtain ⟨a21,a22,a23,rfl,rfl,rfl,rfl,w21,w22,w23⟩:=trod_row h9
  obtain ⟨a24,e24,rfl,w24⟩:=DataW.trod_int Tryz.underlying2 h10
  simp at e24
  subst e24
  obtain ⟨a25,e25,rfl,w25⟩:=DataW.trod_int Tryz.underlying2 h11
  simp at e25
  subst e25
  obtain ⟨a26,e26,rfl,w26⟩:=DataW.trod_int Tryz.underlying2 h12
  simp at e26
  subst e26
  obtain ⟨a27,e27,rfl,w27⟩:=DataW.trod_int Tryz.underlying2 h13
  simp at e27
  subst e27
  obtain ⟨a28,e28,rfl,w28⟩:=DataW.trod_int Tryz.underlying2 h14
  simp at e28
  subst e28
  obtain ⟨a29,e29,rfl,w29⟩:=DataW.trod_int Tryz.underlying2 h15
  simp at e29
  subst e29
  obtain ⟨a30,e30,rfl,w30⟩:=DataW.trod_int Tryz.underlying2 h16
  simp at e30
  subst e30
  simp at hx
  obtain ⟨rfl,rfl⟩:=hx
  exact ⟨fun i=>[a0,a1,a2,a3,a4,a5,a6,a7,a8,a9,a10,a11,a12,a13,a14,a15,a16,a17,a18,a19,a20,a21,a22,a23,a24,a25,a26,a27,a28,a29,a30].getD i 0,rfl,rfl,rfl,fun i h=>match i,h with
   | 0,_=>w0
   | 1,_=>w1
   | 2,_=>w2
   | 3,_=>w3
   | 4,_=>w4
   | 5,_=>w5
   | 6,_=>w6
   | 7,_=>w7
   | 8,_=>w8
   | 9,_=>w9
   | 10,_=>w10
   | 11,_=>w11
   | 12,_=>w12
   | 13,_=>w13
   | 14,_=>w14
   | 15,_=>w15
   | 16,_=>w16
   | 17,_=>w17
   | 18,_=>w18
   | 19,_=>w19
   | 20,_=>w20
   | 21,_=>w21
   | 22,_=>w22
   | 23,_=>w23
   | 24,_=>w24
   | 25,_=>w25
   | 26,_=>w26
   | 27,_=>w27
   | 28,_=>w28
   | 29,_=>w29
   | 30,_=>w30
   | n+31,h=>absurd h (by omega)⟩
theorem shut_conf {w:World} {base:Nat} {spare:Nat→Bool} {held:Bool} {x:Nat→Int} (k:∀ i,i<31→(Lit.int .i64 (x i)).wf=true) :
  DataW.Trod enc Tryz.prog w base spare held 27 (cv x) (cdat H x) []:=by
 refine ⟨3,trod_struct_mk (n:=2) (xs:=[(.agg [.lit (.int .i64 (x 0)),.lit (.int .i64 (x 1)),.lit (.int .i64 (x 2))],[]),(.agg [.lit (.int .i64 (x 3)),.lit (.int .i64 (x 4)),.lit (.int .i64 (x 5))],[]),(.lit (.int .i64 (x 6)),[]),(.lit (.int .i64 (x 7)),[]),(.agg [.lit (.int .i64 (x 8)),.lit (.int .i64 (x 9)),.lit (.int .i64 (x 10))],[]),(.agg [.lit (.int .i64 (x 11)),.lit (.int .i64 (x 12)),.lit (.int .i64 (x 13))],[]),(.agg [.lit (.int .i64 (x 14)),.lit (.int .i64 (x 15)),.lit (.int .i64 (x 16))],[]),(.agg [.lit (.int .i64 (x 17)),.lit (.int .i64 (x 18)),.lit (.int .i64 (x 19))],[]),(.lit (.int .i64 (x 20)),[]),(.agg [.lit (.int .i64 (x 21)),.lit (.int .i64 (x 22)),.lit (.int .i64 (x 23))],[]),(.lit (.int .i64 (x 24)),[]),(.lit (.int .i64 (x 25)),[]),(.lit (.int .i64 (x 26)),[]),(.lit (.int .i64 (x 27)),[]),(.lit (.int .i64 (x 28)),[]),(.lit (.int .i64 (x 29)),[]),(.lit (.int .i64 (x 30)),[])]) Tryz.underlying27 (by rw [Tryz.cellsConf]; rfl) ?_⟩
 simp only [List.mapM_cons,List.mapM_nil,Tryz.cellsOne,Tryz.cellsVec,Value.cells,List.drop_succ_cons,List.drop_zero,List.take_succ_cons,List.take_zero]
 rw [trod_row_mk (k 0 (by decide)) (k 1 (by decide)) (k 2 (by decide)),trod_row_mk (k 3 (by decide)) (k 4 (by decide)) (k 5 (by decide)),trod_num_mk (k 6 (by decide)),trod_num_mk (k 7 (by decide)),trod_row_mk (k 8 (by decide)) (k 9 (by decide)) (k 10 (by decide)),trod_row_mk (k 11 (by decide)) (k 12 (by decide)) (k 13 (by decide)),trod_row_mk (k 14 (by decide)) (k 15 (by decide)) (k 16 (by decide)),trod_row_mk (k 17 (by decide)) (k 18 (by decide)) (k 19 (by decide)),trod_num_mk (k 20 (by decide)),trod_row_mk (k 21 (by decide)) (k 22 (by decide)) (k 23 (by decide)),trod_num_mk (k 24 (by decide)),trod_num_mk (k 25 (by decide)),trod_num_mk (k 26 (by decide)),trod_num_mk (k 27 (by decide)),trod_num_mk (k 28 (by decide)),trod_num_mk (k 29 (by decide)),trod_num_mk (k 30 (by decide))]
 rfl
end
end Go.Proofs.YthnofhjgfhapiaaGreatDoor
namespace Go.Proofs.YthnofhjgfhapiaaGreatDoor
open Go.ChangeShapes Go.WideShapes Go.ChangeAt Go.RowKit Go.Joins
theorem wf_u16 {x:Int} (h:(Lit.int .u16 x).wf=true):0≤x∧x≤65535:=by
 simp [Lit.wf,IntKind.min,IntKind.max,IntKind.signed,IntKind.bits] at h
 omega
section
variable {H:Type} {enc:TypeId × Value→H}
theorem post_kept {P:Program} {f:Func} {s:ChangeSpec} {apart fresh handsOn again:Bool} {W W':World} {args:Array Value} {v:Value} {ds gs:List (DataW H)} {before pa pv:List MemPlace}
  (hW:DataW.Whole enc P f.params.toList s.vars apart W args.toList ds gs before)
  (hres:∀ (b:Nat) (sp:Nat→Bool) (hd:Bool),DataW.TrodAll enc P W' b sp hd f.resultTypes.toList (v.resultList f.resultTypes.size) (s.fn H (ds ++ gs)).results [])
  (hargs:∀ sp:Nat→Bool,(∀ p ∈ before,sp p.block=true)→DataW.TrodAll enc P W' 0 sp true f.params.toList args.toList (s.fn H (ds ++ gs)).args pa)
  (hvars:∀ sp:Nat→Bool,(∀ p ∈ before,sp p.block=true)→DataW.TrodVars enc P W' sp s.vars (s.fn H (ds ++ gs)).vars pv)
  (hps:before=pa ++ pv) (hb:Below W.heap.size W W')
  (hok:∀ (j:Nat) (t:TypeId) (r:Value),f.resultTypes[j]?=some t→(v.resultList f.resultTypes.size)[j]?=some r→Value.okWide P W' .any 0 t r) :
  s.post enc P f apart fresh handsOn again W args v W':=by
 have hold:∀ p ∈ before,(fun b=>decide (b<W.heap.size)) p.block=true:=fun p hp=>by simpa using hW.lt p hp
 refine ⟨ds,gs,before,[],pa,pv,hW,hres _ _ _,hargs _ hold,hvars _ hold,World.keptBut_mono (fun p hp=>⟨hp,?_⟩) (hb.frame (· ∈ before)),fun _=>?_⟩
 ·rw [hps,List.mem_append] at hp
  exact Or.inr hp
 ·have hlt:=hW.lt
  obtain ⟨_,_,_,_,_,hz,hn⟩:=hW
  refine ⟨hok,_,_,([] ++ pa) ++ pv,⟨[] ++ pa,pv,trodAll_append (hargs _ (fun _ _=>rfl)) (hres _ _ _),hvars _ (fun _ _=>rfl),rfl,?_,?_⟩,?_⟩
  ·intro b off hp
   have hp':MemPlace.cell b off ∈ before:=by rw [hps]; simpa using hp
   rw [hb.frozen (p:=⟨b,off,none⟩) (hlt _ hp')]
   exact hz b off hp'
  ·intro ha
   have:=hn ha
   rw [hps] at this
   simpa using this
  ·intro p hp _
   rw [hps]
   simpa using hp
end
end Go.Proofs.YthnofhjgfhapiaaGreatDoor
namespace Go.Proofs.YthnofhjgfhapiaaGreatDoor
open Go.ChangeShapes Go.WideShapes Go.ChangeAt Go.RowKit Go.Joins Go.Deep
theorem Tryz.cellsTick:Tryz.prog.cellsOf 37=4:=by kernel_rfl
theorem Tryz.cellsNum:Tryz.prog.cellsOf 2=1:=by kernel_rfl
theorem Tryz.cellsBool:Tryz.prog.cellsOf 4=1:=by kernel_rfl
theorem array4 {a:Array Value} (h:a.size=4):∃ c0 c1 c2 c3,a=#[c0,c1,c2,c3]:=by
 obtain ⟨l⟩:=a
 match l,h with
 | [c0,c1,c2,c3],_=>exact ⟨c0,c1,c2,c3,rfl⟩
theorem list4 {l:List Value} (h:l.length=4):∃ c0 c1 c2 c3,l=[c0,c1,c2,c3]:=by
 match l,h with
 | [c0,c1,c2,c3],_=>exact ⟨c0,c1,c2,c3,rfl⟩
section
variable {H:Type} {enc:TypeId × Value→H}
abbrev tdat (H:Type) (a:Int) (h:Bool) (p:Int) (s:Bool):DataW H:=.agg [.lit (.int .i64 a),.lit (.bool h),.lit (.int .i64 p),.lit (.bool s)]
theorem trod_tick {w:World} {base:Nat} {spare:Nat→Bool} {held:Bool} {fuel:Nat} {cs:List Value} {x:DataW H × List MemPlace}
  (hf:DataW.trod enc Tryz.prog w base spare held fuel 37 cs=some x) :
  ∃ (a:Int) (h:Bool) (p:Int) (s:Bool),cs=[.int .i64 a,.bool h,.int .i64 p,.bool s]∧x=(tdat H a h p s,[])∧(Lit.int .i64 a).wf=true∧(Lit.int .i64 p).wf=true:=by
 obtain ⟨xs,m,_,hx,hlen,hl,hi⟩:=DataW.trod_struct Tryz.underlying37 hf
 obtain ⟨c0,c1,c2,c3,rfl⟩:=list4 (hlen.trans Tryz.cellsTick)
 have h0:DataW.trod enc Tryz.prog w base spare held m 2 (([c0,c1,c2,c3].drop 0).take (Tryz.prog.cellsOf 2))=xs[0]?:=hi 0 _ rfl
 have h1:DataW.trod enc Tryz.prog w base spare held m 4 (([c0,c1,c2,c3].drop 1).take (Tryz.prog.cellsOf 4))=xs[1]?:=hi 1 _ rfl
 have h2:DataW.trod enc Tryz.prog w base spare held m 2 (([c0,c1,c2,c3].drop 2).take (Tryz.prog.cellsOf 2))=xs[2]?:=hi 2 _ rfl
 have h3:DataW.trod enc Tryz.prog w base spare held m 4 (([c0,c1,c2,c3].drop 3).take (Tryz.prog.cellsOf 4))=xs[3]?:=hi 3 _ rfl
 clear hi hf hlen
 simp only [Tryz.cellsNum,Tryz.cellsBool] at h0 h1 h2 h3
 match xs,hl with
 | [y0,y1,y2,y3],_ =>
  simp at h0
  simp at h1
  simp at h2
  simp at h3
  obtain ⟨a,e0,rfl,w0⟩:=DataW.trod_int Tryz.underlying2 h0
  simp at e0
  subst e0
  obtain ⟨b,e1,rfl⟩:=DataW.trod_bool Tryz.underlying4 h1
  simp at e1
  subst e1
  obtain ⟨p,e2,rfl,w2⟩:=DataW.trod_int Tryz.underlying2 h2
  simp at e2
  subst e2
  obtain ⟨s,e3,rfl⟩:=DataW.trod_bool Tryz.underlying4 h3
  simp at e3
  subst e3
  exact ⟨a,b,p,s,rfl,hx,w0,w2⟩
theorem trod_tick_mk {w:World} {base:Nat} {spare:Nat→Bool} {held:Bool} {a:Int} {h:Bool} {p:Int} {s:Bool} (wa:(Lit.int .i64 a).wf=true) (wp:(Lit.int .i64 p).wf=true) :
  DataW.trod enc Tryz.prog w base spare held 2 37 [.int .i64 a,.bool h,.int .i64 p,.bool s]=some (tdat H a h p s,[]):=by
 simp [DataW.trod,Tryz.underlying37,Tryz.underlying2,Tryz.underlying4,Tryz.cellsTick,Tryz.cellsNum,Tryz.cellsBool,wa,wp]
theorem open_tick {w:World} {base:Nat} {spare:Nat→Bool} {held:Bool} {r:Reach} {b0:Nat} {v:Value} {d:DataW H} {q:List MemPlace}
  (hv:Value.okWide Tryz.prog w r b0 37 v) (h:DataW.Trod enc Tryz.prog w base spare held 37 v d q) :
  ∃ (a:Int) (h:Bool) (p:Int) (s:Bool),v=tk a h p s∧d=tdat H a h p s∧q=[]∧(Lit.int .i64 a).wf=true∧(Lit.int .i64 p).wf=true:=by
 simp only [Value.okWide,Tryz.underlying37] at hv
 obtain ⟨cs,rfl,hsz,_⟩:=hv
 obtain ⟨c0,c1,c2,c3,rfl⟩:=array4 (hsz.trans Tryz.cellsTick)
 obtain ⟨fuel,hf⟩:=h
 obtain ⟨a,b,p,s,e,ex,wa,wp⟩:=trod_tick hf
 simp [Value.cells] at e
 obtain ⟨rfl,rfl,rfl,rfl⟩:=e
 simp only [Prod.mk.injEq] at ex
 exact ⟨a,b,p,s,rfl,ex.1,ex.2,wa,wp⟩
theorem shut_tick {w:World} {base:Nat} {spare:Nat→Bool} {held:Bool} {a:Int} {h:Bool} {p:Int} {s:Bool} (wa:(Lit.int .i64 a).wf=true) (wp:(Lit.int .i64 p).wf=true) :
  DataW.Trod enc Tryz.prog w base spare held 37 (tk a h p s) (tdat H a h p s) [] :=
 ⟨2,trod_tick_mk wa wp⟩
theorem open_ticks {w:World} {r:Reach} {b0:Nat} {v:Value} {d:DataW H} {q:List MemPlace}
  (hv:Value.okWide Tryz.prog w r b0 22 v) (hd:DataW.Trod enc Tryz.prog w 0 (fun _=>true) true 22 v d q) :
  ∃ (sa:Option Addr) (len cap:Nat) (a:Nat→Int) (h:Nat→Bool) (p:Nat→Int) (s:Nat→Bool),v=.slice sa len cap∧cap≤9223372036854775807∧len≤cap ∧
   (∀ n,-9223372036854775808≤a n∧a n≤9223372036854775807)∧(∀ n,-9223372036854775808≤p n∧p n≤9223372036854775807) ∧
   (∀ k,k<len→∃ gb off,sa=some ⟨gb,off,none⟩∧TW w gb (off+k*4) (a k) (h k) (p k) (s k)) ∧
   (∀ W',Below w.heap.size w W'→∀ sp:Nat→Bool,(∀ x ∈ q,sp x.block=true)→DataW.Trod enc Tryz.prog W' 0 sp true 22 v d q):=by
 obtain ⟨a0,len,cap,rfl⟩:=okWide_slice Tryz.underlying22 hv
 obtain ⟨fuel,hf⟩:=hd
 rcases open_slice Tryz.underlying22 hf with ⟨hcs,hx⟩ | ⟨ad,len',cap',m,n,D,Pl,hcs,_,hl,hm,hmm,hx,hel⟩
 ·simp [Value.cells] at hcs
  obtain ⟨rfl,rfl,rfl⟩:=hcs
  simp only [Prod.mk.injEq] at hx
  obtain ⟨rfl,rfl⟩:=hx
  exact ⟨none,0,0,fun _=>0,fun _=>false,fun _=>0,fun _=>false,rfl,Nat.zero_le _,Nat.le_refl _,fun _=>⟨show (-9223372036854775808:Int)≤0 by decide,show (0:Int)≤9223372036854775807 by decide⟩,fun _=>⟨show (-9223372036854775808:Int)≤0 by decide,show (0:Int)≤9223372036854775807 by decide⟩,fun k hk=>absurd hk (Nat.not_lt_zero _),fun W' _ sp _=>shut_slice_nil Tryz.underlying22⟩
 ·simp [Value.cells] at hcs
  obtain ⟨rfl,rfl,rfl⟩:=hcs
  simp only [Prod.mk.injEq] at hx
  obtain ⟨rfl,rfl⟩:=hx
  simp only [if_true] at hmm
  subst hmm
  rw [Tryz.cellsTick] at hel
  obtain ⟨T,hT⟩:=choose_lt (α:=Int × Bool × Int × Bool) (p:=fun i t=>w.cells? 0 (ad.add (i*4)) 4=some [.int .i64 t.1,.bool t.2.1,.int .i64 t.2.2.1,.bool t.2.2.2]∧D i=tdat H t.1 t.2.1 t.2.2.1 t.2.2.2∧Pl i=[]∧(Lit.int .i64 t.1).wf=true∧(Lit.int .i64 t.2.2.1).wf=true) (fun i hi=>by
   obtain ⟨cs',h1,h2⟩:=hel i hi
   obtain ⟨a,b,p,s,rfl,hx,wa,wp⟩:=trod_tick h2
   simp only [Prod.mk.injEq] at hx
   exact ⟨(a,b,p,s),h1,hx.1,hx.2,wa,wp⟩)
  clear hel
  have w0:(Lit.int .i64 0).wf=true:=by decide
  have hwa:∀ i,(Lit.int .i64 (if i<m then (T i).1 else 0)).wf=true:=fun i=>by
   by_cases c:i<m
   ·rw [if_pos c]; exact (hT i c).2.2.2.1
   ·rw [if_neg c]; exact w0
  have hwp:∀ i,(Lit.int .i64 (if i<m then (T i).2.2.1 else 0)).wf=true:=fun i=>by
   by_cases c:i<m
   ·rw [if_pos c]; exact (hT i c).2.2.2.2
   ·rw [if_neg c]; exact w0
  refine ⟨some ad,len,m,fun i=>if i<m then (T i).1 else 0,fun i=>(T i).2.1,fun i=>if i<m then (T i).2.2.1 else 0,fun i=>(T i).2.2.2,rfl,by unfold maxLen at hm; omega,hl,fun i=>wf_i64 (hwa i),fun i=>wf_i64 (hwp i),fun k hk=>?_,fun W' hb sp hsp=>?_⟩
  ·have hk':k<m:=by omega
   have hc:=(World.cells?_some (hT k hk').1).2.2
   obtain ⟨b,off,spot⟩:=ad
   have hspot:spot=none:=by
    have h0:=(World.cells?_some (hT 0 (by omega)).1).2.2 0 (by decide)
    simpa [Addr.add] using World.cell?_spot h0
   subst hspot
   have e:∀ j,j<4→w.cell? ⟨b,off+k*4+j,none⟩=([.int .i64 (T k).1,.bool (T k).2.1,.int .i64 (T k).2.2.1,.bool (T k).2.2.2]:List Value)[j]?:=fun j hj=>by
    have:=hc j hj
    rw [add_plain,add_plain] at this
    exact this
   refine ⟨b,off,rfl,?_⟩
   simp only [if_pos hk']
   exact ⟨e 0 (by decide),e 1 (by decide),e 2 (by decide),e 3 (by decide)⟩
  ·have hc':∀ i,i<m→∃ cs n,W'.cells? 0 (ad.add (i*Tryz.prog.cellsOf 37)) (Tryz.prog.cellsOf 37)=some cs∧DataW.trod enc Tryz.prog W' 0 sp true n 37 cs=some (D i,Pl i):=fun i hi=>by
    obtain ⟨h1,h2,h3,h4,h5⟩:=hT i hi
    obtain ⟨_,hlen,hc⟩:=World.cells?_some h1
    rw [Tryz.cellsTick,h2,h3]
    refine ⟨_,2,World.cells?_of_each (Nat.zero_le _) hlen fun j hj=>?_,trod_tick_mk h4 h5⟩
    have hj':=hc j hj
    have:j=0∨j=1∨j=2∨j=3:=by omega
    rcases this with rfl | rfl | rfl | rfl <;> exact cell_keep hb hj'
   by_cases hm0:m=0
   ·subst hm0
    have hl0:len=0:=by omega
    subst hl0
    exact ⟨1,by simp [DataW.trod,Value.cells,Tryz.underlying22]⟩
   ·have hspb:sp ad.block=true:=hsp (.cell ad.block ad.off) (List.mem_append_left _ (MemPlace.mem_row.2 ⟨0,by rw [Tryz.cellsTick]; omega,by simp⟩))
    exact shut_slice_whole Tryz.underlying22 (Nat.zero_le _) hl hm hspb D Pl hc'
end
end Go.Proofs.YthnofhjgfhapiaaGreatDoor
namespace Go.Proofs.YthnofhjgfhapiaaGreatDoor
open Go.ChangeShapes Go.WideShapes Go.ChangeAt Go.RowKit Go.Joins
theorem Tryz.cellsChI:Tryz.prog.cellsOf 2=1:=by kernel_rfl
theorem Tryz.cellsChN:Tryz.prog.cellsOf 3=1:=by kernel_rfl
theorem Tryz.cellsChR:Tryz.prog.cellsOf 88=3:=by kernel_rfl
theorem Tryz.cellsChS:Tryz.prog.cellsOf 24=3:=by kernel_rfl
abbrev tabs : List (String × DataW Unit) := [("math/bits.deBruijn32tab", Rows.laid_math_bits_deBruijn32tab), ("math/bits.deBruijn64tab", Rows.laid_math_bits_deBruijn64tab), ("internal/strconv.uint64pow10", Rows.laid_internal_strconv_uint64pow10), ("aneroid/sym.places", Rows.laid_aneroid_sym_places), ("aneroid/spread.moves", Rows.laid_aneroid_spread_moves), ("aneroid/atmos.counts", Rows.laid_aneroid_atmos_counts), ("strconv.ErrRange", Rows.laid_strconv_ErrRange), ("strconv.ErrSyntax", Rows.laid_strconv_ErrSyntax)]
theorem gPlaces : Tryz.prog.globalNamed "aneroid/sym.places" = some 0 := by kernel_rfl
theorem tPlaces:(Tryz.prog.globals[0]?).map (·.type)=some 89:=by kernel_rfl
theorem gMoves : Tryz.prog.globalNamed "aneroid/spread.moves" = some 3 := by kernel_rfl
theorem tMoves:(Tryz.prog.globals[3]?).map (·.type)=some 221:=by kernel_rfl
theorem gCounts : Tryz.prog.globalNamed "aneroid/atmos.counts" = some 1 := by kernel_rfl
theorem tCounts:(Tryz.prog.globals[1]?).map (·.type)=some 149:=by kernel_rfl
theorem door_met (os:Os) (args:Array Value):laidMetH Tryz.prog tabs ((World.doorLaid Tryz.prog 400 os).forCall (fun _ _=>0) ⟨#[],args,[]⟩).memory :=
 laidMetH_of_parts3 (fuel:=8) (laidMet_of_run' 8 (by kernel_rfl) (by kernel_rfl)) (by kernel_rfl) (by kernel_rfl)
theorem laid_tb {H:Type}:(Rows.laid_aneroid_atmos_counts:DataW H)=.agg (tbl.map fun n=>.lit (.int .i64 n)):=rfl
theorem take_three {l:List Value} {n:Nat} {u v x:Value} (h:(l.drop n).take 3=[u,v,x]):l[n]?=some u∧l[n+1]?=some v∧l[n+2]?=some x:=by
 have h0:=congrArg (fun l=>l[0]?) h
 have h1:=congrArg (fun l=>l[1]?) h
 have h2:=congrArg (fun l=>l[2]?) h
 simp [List.getElem?_drop] at h0 h1 h2
 exact ⟨h0,h1,h2⟩
theorem row_of {H:Type} {enc:TypeId × Value→H} {w:World} {base:Nat} {spare:Nat→Bool} {held:Bool} {m:Nat} {cs:List Value} {x:DataW H × List MemPlace} {a b c:Int}
  (h:DataW.trod enc Tryz.prog w base spare held m 88 cs=some x) (he:x.1=.agg [.lit (.int .i64 a),.lit (.int .i64 b),.lit (.int .i64 c)]):cs=[.int .i64 a,.int .i64 b,.int .i64 c]:=by
 obtain ⟨xs,m,_,rfl,hc,hl,hi⟩:=DataW.trod_array Tryz.underlying88 h
 have h0:=hi 0 (by decide)
 have h1:=hi 1 (by decide)
 have h2:=hi 2 (by decide)
 simp only [Tryz.cellsChN] at h0 h1 h2
 simp only [Tryz.cellsChR] at hc
 match cs,hc,xs,hl with
 | [c0,c1,c2],_,[y0,y1,y2],_ =>
  simp at h0 h1 h2
  obtain ⟨a0,e0,rfl,_⟩:=DataW.trod_int Tryz.underlying3 h0
  obtain ⟨a1,e1,rfl,_⟩:=DataW.trod_int Tryz.underlying3 h1
  obtain ⟨a2,e2,rfl,_⟩:=DataW.trod_int Tryz.underlying3 h2
  simp at e0 e1 e2 he
  obtain ⟨rfl,rfl,rfl⟩:=he
  rw [e0,e1,e2]
theorem num_row_of {H:Type} {enc:TypeId × Value→H} {w:World} {base:Nat} {spare:Nat→Bool} {held:Bool} {m:Nat} {cs:List Value} {x:DataW H × List MemPlace} {a b c:Int}
  (h:DataW.trod enc Tryz.prog w base spare held m 24 cs=some x) (he:x.1=.agg [.lit (.int .i64 a),.lit (.int .i64 b),.lit (.int .i64 c)]):cs=[.int .i64 a,.int .i64 b,.int .i64 c]:=by
 obtain ⟨xs,m,_,rfl,hc,hl,hi⟩:=DataW.trod_array Tryz.underlying24 h
 have h0:=hi 0 (by decide)
 have h1:=hi 1 (by decide)
 have h2:=hi 2 (by decide)
 simp only [Tryz.cellsChI] at h0 h1 h2
 simp only [Tryz.cellsChS] at hc
 match cs,hc,xs,hl with
 | [c0,c1,c2],_,[y0,y1,y2],_ =>
  simp at h0 h1 h2
  obtain ⟨a0,e0,rfl,_⟩:=DataW.trod_int Tryz.underlying2 h0
  obtain ⟨a1,e1,rfl,_⟩:=DataW.trod_int Tryz.underlying2 h1
  obtain ⟨a2,e2,rfl,_⟩:=DataW.trod_int Tryz.underlying2 h2
  simp at e0 e1 e2 he
  obtain ⟨rfl,rfl,rfl⟩:=he
  rw [e0,e1,e2]
theorem t3_of {W:World} (h:laidMetH Tryz.prog tabs W):Tb3 W:=by
 rw [MakeChecks.laidMetH_plain _ _ _ (by kernel_rfl)] at h
 replace h:=h.tail.tail.tail
 obtain ⟨ps,⟨g0,t0,cs0,f0,p0,q0,hg0,ht0,hv0,hd0,⟨g1,t1,cs1,f1,p1,q1,hg1,ht1,hv1,hd1,⟨g2,t2,cs2,f2,p2,q2,hg2,ht2,hv2,hd2,_,_⟩,_⟩,_⟩,_,_⟩:=h
 obtain rfl:=Option.some.inj (gPlaces.symm.trans hg0)
 obtain rfl:=Option.some.inj (tPlaces.symm.trans ht0)
 obtain rfl:=Option.some.inj (gMoves.symm.trans hg1)
 obtain rfl:=Option.some.inj (tMoves.symm.trans ht1)
 obtain rfl:=Option.some.inj (gCounts.symm.trans hg2)
 obtain rfl:=Option.some.inj (tCounts.symm.trans ht2)
 refine ⟨?_,?_,?_⟩
 ·obtain ⟨xs,m1,rfl,hx1,hlen,hn3,hel⟩:=DataW.trod_array Tryz.underlying89 hd0
  have h0:=hel 0 (by decide)
  have h1:=hel 1 (by decide)
  have h2:=hel 2 (by decide)
  simp only [Tryz.cellsChR] at h0 h1 h2
  simp only [Prod.mk.injEq,DataW.agg.injEq,Rows.laid_aneroid_sym_places] at hx1
  match xs,hn3,hx1,h0,h1,h2 with
  | [x0,x1,x2],_,hx1,h0,h1,h2 =>
   simp only [List.map_cons,List.map_nil,List.cons.injEq] at hx1
   obtain ⟨⟨e0,e1,e2,_⟩,_⟩:=hx1
   have r0:=take_three (row_of h0 (by rw [← e0]))
   have r1:=take_three (row_of h1 (by rw [← e1]))
   have r2:=take_three (row_of h2 (by rw [← e2]))
   have V:=fun i=>World.var?_cell hg0 hv0 i
   simp only [Array.getElem?_toList] at r0 r1 r2
   exact ⟨(V 0).trans r0.1,(V 1).trans r0.2.1,(V 2).trans r0.2.2,(V 3).trans r1.1,(V 4).trans r1.2.1,(V 5).trans r1.2.2,(V 6).trans r2.1,(V 7).trans r2.2.1,(V 8).trans r2.2.2⟩
 ·obtain ⟨xs,m1,rfl,hx1,hlen,hn3,hel⟩:=DataW.trod_array Tryz.underlying221 hd1
  have h0:=hel 0 (by decide)
  have h1:=hel 1 (by decide)
  have h2:=hel 2 (by decide)
  simp only [Tryz.cellsChS] at h0 h1 h2
  simp only [Prod.mk.injEq,DataW.agg.injEq,Rows.laid_aneroid_spread_moves] at hx1
  match xs,hn3,hx1,h0,h1,h2 with
  | [x0,x1,x2],_,hx1,h0,h1,h2 =>
   simp only [List.map_cons,List.map_nil,List.cons.injEq] at hx1
   obtain ⟨⟨e0,e1,e2,_⟩,_⟩:=hx1
   have r0:=take_three (num_row_of h0 (by rw [← e0]))
   have r1:=take_three (num_row_of h1 (by rw [← e1]))
   have r2:=take_three (num_row_of h2 (by rw [← e2]))
   have V:=fun i=>World.var?_cell hg1 hv1 i
   simp only [Array.getElem?_toList] at r0 r1 r2
   intro i hi a ha
   rcases (show i=0∨i=1∨i=2 by omega) with rfl | rfl | rfl <;> rcases (show a=0∨a=1∨a=2 by omega) with rfl | rfl | rfl
   ·exact (V 0).trans r0.1
   ·exact (V 1).trans r0.2.1
   ·exact (V 2).trans r0.2.2
   ·exact (V 3).trans r1.1
   ·exact (V 4).trans r1.2.1
   ·exact (V 5).trans r1.2.2
   ·exact (V 6).trans r2.1
   ·exact (V 7).trans r2.2.1
   ·exact (V 8).trans r2.2.2
 ·obtain ⟨xs,m1,rfl,hx1,hlen,hn,hel⟩:=DataW.trod_array Tryz.underlying149 hd2
  rw [laid_tb] at hx1
  simp only [Prod.mk.injEq,DataW.agg.injEq] at hx1
  intro i hi
  have h0:=hel i hi
  rw [Tryz.cellsChI] at h0
  obtain ⟨x,hx⟩:∃ x,xs[i]?=some x:=⟨xs[i]'(by omega),List.getElem?_eq_getElem _⟩
  rw [hx] at h0
  obtain ⟨a,e0,rfl,_⟩:=DataW.trod_int Tryz.underlying2 h0
  have e1:(xs.map (·.1))[i]?=some (.lit (.int .i64 a)):=by rw [List.getElem?_map,hx]; rfl
  rw [← hx1.1,List.getElem?_map] at e1
  have e2:tbl[i]?=some a:=by
   cases c:tbl[i]? with
   | none=>rw [c] at e1; cases e1
   | some b =>
    rw [c] at e1
    injection e1 with e1
    injection e1 with e1
    injection e1 with _ e1
    rw [e1]
  have e3:tb i=a:=by unfold tb; rw [List.getD_eq_getElem?_getD,e2]; rfl
  have e4:=congrArg (fun l=>l[0]?) e0
  simp [List.getElem?_drop] at e4
  rw [e3]
  exact (World.var?_cell hg2 hv2 i).trans e4
theorem tTab:(Tryz.prog.globals[2]?).map (·.type)=some 216:=by kernel_rfl
theorem tSyn:(Tryz.prog.globals[5]?).map (·.type)=some 184:=by kernel_rfl
theorem tRan:(Tryz.prog.globals[6]?).map (·.type)=some 184:=by kernel_rfl
theorem cellsErr:Tryz.prog.cellsOf 252=1:=by kernel_rfl
theorem cellsStr:Tryz.prog.cellsOf 9=1:=by kernel_rfl
theorem cellsU64:Tryz.prog.cellsOf 91=1:=by kernel_rfl
theorem cellsTab:Tryz.prog.cellsOf 216=20:=by kernel_rfl
theorem starErr : "*" ++ "errors.errorString" = "*errors.errorString" := by decide
theorem rowErr (u : TypeId) (h : Tryz.prog.typeName? 3 u = some "*errors.errorString") : u = 250 :=
 typeName_ptr_named (nm := "errors.errorString") (by rw [starErr]; kernel_rfl) (by kernel_rfl) (by decide) u (by rw [starErr]; exact h)
theorem ev_laid {W:World} (h:laidMetH Tryz.prog tabs W) (hs:W.ShapedOpen Tryz.prog):EV W:=by
 rw [MakeChecks.laidMetH_plain _ _ _ (by kernel_rfl)] at h
 have hm:∃ m,W.cell? ⟨4,0,none⟩=some (.int .i64 m):=cell_of_shapedOpen_int (t:=3) (zero:=#[.int .i64 0]) hs (of_decide_eq_true (by kernel_rfl)) (by kernel_rfl) rfl (by kernel_rfl) (by kernel_rfl) Tryz.underlying3
 have ht : Lib.TabIs Tryz.prog W "internal/strconv.uint64pow10" .u64 Lib.pow10Tab := Lib.tabIs_of_head gTab tTab Tryz.underlying216 Tryz.underlying91 cellsU64 cellsTab h.tail.tail
 obtain ⟨a1,s1,hv1,-,-,-⟩:=laid_sentinel h.tail.tail.tail.tail.tail.tail gRan tRan Tryz.underlying184 rowErr Tryz.underlying250 Tryz.underlying252 rfl rfl Tryz.underlying9 cellsErr cellsStr
 obtain ⟨a0,s0,hv0,-,-,-⟩:=laid_sentinel h.tail.tail.tail.tail.tail.tail.tail gSyn tSyn Tryz.underlying184 rowErr Tryz.underlying250 Tryz.underlying252 rfl rfl Tryz.underlying9 cellsErr cellsStr
 exact ev_of ⟨hm,ht,⟨_,_,hv0⟩,⟨_,_,hv1⟩⟩
section
variable {H:Type} {enc:TypeId × Value→H}
theorem handed_shaped {C:Checked} {os:Os} {f:FuncId} {fn:Func} {s:ChangeSpec} {X:World→Array Value→Prop}
  (hX:∀ (w w':World) (args:Array Value),w.heap=w'.heap→X w args→X w' args)
  (own:ownKnob C.prog.godebug=none) (started:os.Started) (noInit:C.prog.inits.idxOf? f=none) (hfn:C.prog.funcs[f]?=some fn)
  (witness:∃ (w:World) (tape:Tape) (i:Input),w.os=os∧(w.forCall tape i).Shaped C.prog∧i.vars=[]∧Input.okWide C.prog (w.forCall tape i) .any w.heap.size f i ∧
   ((s.pre enc C.prog fn [] false (w.forCall tape i).memory i.args∧X (w.forCall tape i).memory i.args)∧sizedMet enc C.prog fn (OpenSpec.ofChange s) false (w.forCall tape i).memory i.args)∧({}:Assume).holds C.prog (lone (Frame.enter C.prog f i.args .normal) [] (w.forCall tape i)))
  (contract:∀ (W:World) (base:Nat) (args:Array Value) (ds gs:List (DataW H)) (before:List MemPlace),
   (∀ (j:Nat) t v,fn.params[j]?=some t→args[j]?=some v→Value.okWide C.prog W .any base t v) →
   DataW.Whole enc C.prog fn.params.toList s.vars false W args.toList ds gs before→X W args→W.ShapedOpen C.prog →
   Calls C.prog f args W fun e W'=>∃ v,e=.returned v∧s.post enc C.prog fn false true false false W args v W') :
  ReturnsInHanded {} C os f .any (fun w args=>(s.pre enc C.prog fn [] false w args∧X w args)∧sizedMet enc C.prog fn (OpenSpec.ofChange s) false w args) (s.post enc C.prog fn false true false false):=by
 refine returnsInHanded_of_calls own started noInit witness ?_
 intro w tape i _ hsh _ hok hpre _
 obtain ⟨_,_,_,g,hg,_,_,_,_,hval⟩:=hok
 obtain rfl:g=fn:=Option.some.inj (hg.symm.trans hfn)
 obtain ⟨⟨⟨ds,gs,before,hw,_⟩,hx⟩,_⟩:=hpre
 refine (contract (w.forCall tape i) w.heap.size i.args ds gs before hval (DataW.Whole.of_heap (w':=w.forCall tape i) (by rfl) hw) (hX _ _ _ (by rfl) hx) hsh).mono fun e W' ⟨v,he,hp⟩=>?_
 subst he
 exact ChangeSpec.post_blind hp
end
end Go.Proofs.YthnofhjgfhapiaaGreatDoor
