import Derived.Deep.QuietTactic
import Derived.BigQuiet
import Derived.Test.YtjifkmldigemkaaGreatDoorTbr
import Derived.Test.YtjifkmldigemkaaGreatDoorTbq
import Derived.Test.YtjifkmldigemkaaGreatDoorTbp
import Derived.Test.YtjifkmldigemkaaGreatDoorTag
import Derived.Test.YtjifkmldigemkaaGreatDoorTab
import Derived.Test.YtjifkmldigemkaaGreatDoorTae
import Derived.Test.YtjifkmldigemkaaGreatDoorTaf
import Derived.Test.YtjifkmldigemkaaGreatDoorTaa
set_option maxHeartbeats 4000000
set_option maxRecDepth 10000
namespace Go.Proofs.YtjifkmldigemkaaGreatDoor
open Go.RowKit Go.Shelf Go.Joins
def LIM:Int:=65536 ^ 1000
def Small (z:Int):Prop:=-LIM<z∧z<LIM
theorem lim_ge:(13407807929942597099574024998205846127479365820592393377723561443721764030073546976801874298166903427690031858186486050853753882811946569946433649006084096:Int)≤LIM:=by
 have h:(65536:Int) ^ 32≤65536 ^ 1000:=pow_mono65 (by decide)
 have e:(65536:Int) ^ 32=13407807929942597099574024998205846127479365820592393377723561443721764030073546976801874298166903427690031858186486050853753882811946569946433649006084096:=by decide
 unfold LIM
 omega
theorem small_of {z:Int} (h0:-13407807929942597099574024998205846127479365820592393377723561443721764030073546976801874298166903427690031858186486050853753882811946569946433649006084096<z) (h1:z<13407807929942597099574024998205846127479365820592393377723561443721764030073546976801874298166903427690031858186486050853753882811946569946433649006084096):Small z:=by
 have:=lim_ge
 exact ⟨by omega,by omega⟩
theorem bg_open {w:World} {v:Value} {z:Int} (h:BG w v z):∃ n a l c,v=.agg #[.bool n,.slice a l.length c]∧DG w (.slice a l.length c) l∧Dig l∧Norm l∧(n=true→l≠[])∧z=sgn n (val l)∧l.length≤c∧c≤maxLen:=by
 obtain ⟨n,dv,l,rfl,h2,h3,h4,h5,h6⟩:=h
 obtain ⟨a,c,rfl,k1,k2⟩:=dg_len h2
 exact ⟨n,a,l,c,rfl,h2,h3,h4,h5,h6,k1,k2⟩
theorem small_len {n:Bool} {l:List Int} (h:Dig l) (hn:Norm l) (hl:n=true→l≠[]) (s:Small (sgn n (val l))):l.length≤1000:=by
 have:=(sgn_neg h hn hl).2.2
 obtain ⟨s0,s1⟩:=s
 refine len_le h hn ?_
 show val l<LIM
 omega
theorem bg_minus {w:World} {n:Bool} {d:Value} {z:Int} (h:BG w (.agg #[.bool n,d]) z) (hz:0<z):BG w (.agg #[.bool true,d]) (-z):=by
 obtain ⟨m,dv,l,e,h2,h3,h4,h5,h6⟩:=h
 simp at e
 obtain ⟨rfl,rfl⟩:=e
 obtain ⟨k1,k2,k3⟩:=sgn_neg h3 h4 h5
 refine ⟨true,d,l,rfl,h2,h3,h4,fun _ hc=>?_,?_⟩
 ·rw [← h6] at k2; have:=k2.2 hc; omega
 ·rw [← h6] at k1 k3
  unfold sgn
  simp only [if_true]
  omega
theorem of_pos (x:Int) (x0:0≤x) (x1:x≤9223372036854775807) (w:World):Calls Tryz.prog 44 #[.int .i64 x] w (RetB x w):=by
 go_enter Tryz.func44,Tryz.ntmps44
 go_wp2_with fail
 refine (natural_any _ x0 (by omega) _).mono ?_
 rintro e w2 ⟨bv,rfl,hB,hb2⟩
 obtain ⟨n,a,k,c',rfl⟩:=bg_form hB
 have r2:BV w2 w.heap.size:=bv_keep hb2 (bv_new _ _ _ _ rfl)
 obtain ⟨n',a',k',c'',r3,f3⟩:=bv_use r2
 have B2:Below w.heap.size w w2:=b_trans (b_alloc (Below.refl _ _)) hb2
 have HB:=Lib.hid (And.intro r2 hB)
 clear hb2 hB r2
 go_wp2
 exact bodyPost_ret (v:=.agg #[.bool n,.slice a k c']) (by simp [results,Tryz.results44,go_sem,r3]) rfl ⟨_,rfl,bg_store HB.out.1 HB.out.2,b_set (b_set B2 (Nat.le_refl _)) (Nat.le_refl _)⟩
theorem of_neg (x:Int) (x0:-9223372036854775808≤x) (x1:x<0) (w:World):Calls Tryz.prog 44 #[.int .i64 x] w (RetB x w):=by
 go_enter Tryz.func44,Tryz.ntmps44
 go_wp2_with fail
 refine (natural_any _ (by omega) (by omega) _).mono ?_
 rintro e w2 ⟨bv,rfl,hB,hb2⟩
 obtain ⟨n,a,k,c',rfl⟩:=bg_form hB
 have r2:BV (w2.alloc (Obj.cells #[.bool true,.slice a k c'] 116)) w.heap.size:=bv_keep (b_alloc (Below.refl _ _)) (bv_keep hb2 (bv_new _ _ _ _ rfl))
 obtain ⟨n',a',k',c'',r3,f3⟩:=bv_use r2
 have B2:Below w.heap.size w (w2.alloc (Obj.cells #[.bool true,.slice a k c'] 116)):=b_alloc (b_trans (b_alloc (Below.refl _ _)) hb2)
 have hB2:=bg_keep (bg_minus hB (by omega)) (b_alloc (o:=Obj.cells #[.bool true,.slice a k c'] 116) (Below.refl _ _))
 have HB:=Lib.hid (And.intro r2 hB2)
 clear hb2 hB r2 hB2
 go_wp2
 exact bodyPost_ret (v:=.agg #[.bool true,.slice a k c']) (by simp [results,Tryz.results44,go_sem,r3]) rfl ⟨_,rfl,bg_store HB.out.1 (by have:=HB.out.2; rwa [show -(-(x+1)+1)=x by omega] at this),b_set (b_set B2 (Nat.le_refl _)) (Nat.le_refl _)⟩
theorem of_big (x:Int) (x0:-9223372036854775808≤x) (x1:x≤9223372036854775807) (w:World):Calls Tryz.prog 44 #[.int .i64 x] w (RetB x w):=by
 by_cases c:x<0
 ·exact of_neg x x0 c w
 ·exact of_pos x (by omega) x1 w
theorem turn_any (v:Value) (z:Int) (w:World) (h:BG w v z):Calls Tryz.prog 111 #[v] w (RetB (-z) w):=by
 obtain ⟨n,a,l,c,rfl,hD,hd,hn,hl,rfl,h1,h2⟩:=bg_open h
 have e:-(sgn n (val l))=sgn (!n) (val l):=by unfold sgn; cases n <;> simp
 rw [e]
 clear e h
 go_enter Tryz.func111,Tryz.ntmps111
 go_wp2_with fail
 refine (cut_any (!n) _ l _ hd (dg_keep hD (b_alloc (b_alloc (Below.refl _ _))))).mono ?_
 rintro e w2 ⟨bv,rfl,hB,hb2⟩
 obtain ⟨n9,a9,k9,c9,rfl⟩:=bg_form hB
 have r2:BV w2 (w.heap.size+1):=bv_keep hb2 (bv_new _ _ _ _ (by simp))
 obtain ⟨n',a',k',c'',r3,f3⟩:=bv_use r2
 have B2:Below w.heap.size w w2:=b_trans (b_alloc (b_alloc (Below.refl _ _))) hb2
 have HB:=Lib.hid (And.intro r2 hB)
 clear hb2 hB r2
 go_wp2
 exact bodyPost_ret (v:=.agg #[.bool n9,.slice a9 k9 c9]) (by simp [results,Tryz.results111,go_sem,r3]) rfl ⟨_,rfl,bg_store HB.out.1 HB.out.2,b_set (b_set B2 (by simp)) (by simp)⟩
theorem add_same (n:Bool) (aa ab:Option Addr) (ca cb:Nat) (a b:List Int) (w:World) (hA:DG w (.slice aa a.length ca) a) (hB':DG w (.slice ab b.length cb) b) (da:Dig a) (db:Dig b) (ma:a.length≤1000) (mb:b.length≤1000) :
  Calls Tryz.prog 158 #[.agg #[.bool n,.slice aa a.length ca],.agg #[.bool n,.slice ab b.length cb]] w (RetB (sgn n (val a+val b)) w):=by
 cases n
 ·skip
  go_enter Tryz.func158,Tryz.ntmps158
  go_wp2_with fail
  have B1:Below w.heap.size w (((w.alloc (Obj.cells #[.bool false,.slice aa a.length ca] 116)).alloc (Obj.cells #[.bool false,.slice ab b.length cb] 116)).alloc (Obj.cells #[.bool false,.slice none 0 0] 116)):=b_alloc (b_alloc (b_alloc (Below.refl _ _)))
  have k1:BC (((w.alloc (Obj.cells #[.bool false,.slice aa a.length ca] 116)).alloc (Obj.cells #[.bool false,.slice ab b.length cb] 116)).alloc (Obj.cells #[.bool false,.slice none 0 0] 116)) w.heap.size false (.slice aa a.length ca):=by simp [BC,go_sem,World.cell?_alloc_past]
  have k2:BC (((w.alloc (Obj.cells #[.bool false,.slice aa a.length ca] 116)).alloc (Obj.cells #[.bool false,.slice ab b.length cb] 116)).alloc (Obj.cells #[.bool false,.slice none 0 0] 116)) (w.heap.size+1) false (.slice ab b.length cb):=by simp [BC,go_sem,World.cell?_alloc_past]
  have r1:BV (((w.alloc (Obj.cells #[.bool false,.slice aa a.length ca] 116)).alloc (Obj.cells #[.bool false,.slice ab b.length cb] 116)).alloc (Obj.cells #[.bool false,.slice none 0 0] 116)) (w.heap.size+1+1):=bv_new _ _ _ _ (by simp)
  have gA:=dg_keep hA B1
  have gB:=dg_keep hB' B1
  clear hA hB'
  generalize (((w.alloc (Obj.cells #[.bool false,.slice aa a.length ca] 116)).alloc (Obj.cells #[.bool false,.slice ab b.length cb] 116)).alloc (Obj.cells #[.bool false,.slice none 0 0] 116))=W0 at *
  refine region_each [10,11,12,13,14,15,16,17] (fun i X_ U_=>match i with | 0=>X_=.pointer (some ⟨w.heap.size,0,none⟩) | 1=>X_=.bool false | 2=>X_=.pointer (some ⟨w.heap.size,1,none⟩) | 3=>X_=.slice aa a.length ca | 4=>X_=.pointer (some ⟨w.heap.size+1,1,none⟩) | 5=>X_=.slice ab b.length cb | 6=>∃ l,DG U_ X_ l∧Dig l∧val l=val a+val b∧l.length≤1001 | 7=>BG U_ X_ (sgn false (val a+val b)) | _=>True) (fun i=>false) (by kernel_rfl) (by kernel_rfl) (by kernel_rfl) (by kernel_rfl) (by kernel_rfl) ?_ ?_ ?_ ?_
  ·refine swp (upS (upS (upS (upS (upS (upS (upS (upS up0 ?_) ?_) ?_) ?_) ?_) ?_) ?_) ?_)
   ·exact fun _ _ _ h _=>h
   ·exact fun _ _ _ h _=>h
   ·exact fun _ _ _ h _=>h
   ·exact fun _ _ _ h _=>h
   ·exact fun _ _ _ h _=>h
   ·exact fun _ _ _ h _=>h
   ·intro x w w' h hb; obtain ⟨l,h1,h2⟩:=h; exact ⟨l,dg_keep h1 hb,h2⟩
   ·intro x w w' h hb; exact bg_keep h hb
  ·intro i x w hi ha h
   cases ha
  ·refine upS (upS (upS (upS (upS (upS (upS (upS up0 ?_) ?_) ?_) ?_) ?_) ?_) ?_) ?_
   all_goals intro v f w' hb hv hB hd
   ·have b2:f.tmps[2]?=some (.pointer (some ⟨w.heap.size,0,none⟩)):=(hb 2 (by decide)).trans rfl
    clear hb hv hd
    refine wpOp_step rfl (fun K hK=>?_)
    go_simp
    exact hK _ _ ⟨_,rfl,Below.refl _ _,rfl,fun h=>absurd h (by decide)⟩
   ·have h0:(v 0)=.pointer (some ⟨w.heap.size,0,none⟩):=hd 0 (by kernel_rfl)
    have d0:f.tmps[10]?=some (.pointer (some ⟨w.heap.size,0,none⟩)):=(hv 0 10 rfl).trans (congrArg some h0)
    clear h0
    clear hb hv hd
    have c:=cell_keep hB k1.1
    refine wpOp_step rfl (fun K hK=>?_)
    go_simp
    exact hK _ _ ⟨_,rfl,Below.refl _ _,rfl,fun h=>absurd h (by decide)⟩
   ·have b2:f.tmps[2]?=some (.pointer (some ⟨w.heap.size,0,none⟩)):=(hb 2 (by decide)).trans rfl
    clear hb hv hd
    refine wpOp_step rfl (fun K hK=>?_)
    go_simp
    exact hK _ _ ⟨_,rfl,Below.refl _ _,rfl,fun h=>absurd h (by decide)⟩
   ·have h2:(v 2)=.pointer (some ⟨w.heap.size,1,none⟩):=hd 2 (by kernel_rfl)
    have d2:f.tmps[12]?=some (.pointer (some ⟨w.heap.size,1,none⟩)):=(hv 2 12 rfl).trans (congrArg some h2)
    clear h2
    clear hb hv hd
    have c:=cell_keep hB k1.2
    refine wpOp_step rfl (fun K hK=>?_)
    go_simp
    exact hK _ _ ⟨_,rfl,Below.refl _ _,rfl,fun h=>absurd h (by decide)⟩
   ·have b3:f.tmps[3]?=some (.pointer (some ⟨w.heap.size+1,0,none⟩)):=(hb 3 (by decide)).trans rfl
    clear hb hv hd
    refine wpOp_step rfl (fun K hK=>?_)
    go_simp
    exact hK _ _ ⟨_,rfl,Below.refl _ _,rfl,fun h=>absurd h (by decide)⟩
   ·have h4:(v 4)=.pointer (some ⟨w.heap.size+1,1,none⟩):=hd 4 (by kernel_rfl)
    have d4:f.tmps[14]?=some (.pointer (some ⟨w.heap.size+1,1,none⟩)):=(hv 4 14 rfl).trans (congrArg some h4)
    clear h4
    clear hb hv hd
    have c:=cell_keep hB k2.2
    refine wpOp_step rfl (fun K hK=>?_)
    go_simp
    exact hK _ _ ⟨_,rfl,Below.refl _ _,rfl,fun h=>absurd h (by decide)⟩
   ·have h3:(v 3)=.slice aa a.length ca:=hd 3 (by kernel_rfl)
    have d3:f.tmps[13]?=some (.slice aa a.length ca):=(hv 3 13 rfl).trans (congrArg some h3)
    clear h3
    have h5:(v 5)=.slice ab b.length cb:=hd 5 (by kernel_rfl)
    have d5:f.tmps[15]?=some (.slice ab b.length cb):=(hv 5 15 rfl).trans (congrArg some h5)
    clear h5
    clear hb hv hd
    refine wpOp_call rfl (fun _ _=>by go_simp) (by simp [Act.eval,d3,d5]) (sum_any _ _ a b _ (dg_keep gA hB) (dg_keep gB hB) da db 1000 ma mb (by decide)) ?_
    rintro e w5 ⟨v5,l5,rfl,h5,h6,h7,h8,hb5⟩
    exact ⟨_,rfl,_,rfl,hb5,⟨l5,h5,h6,h7,h8⟩,fun h=>absurd h (by decide)⟩
   ·have h1:(v 1)=.bool false:=hd 1 (by kernel_rfl)
    have d1:f.tmps[11]?=some (.bool false):=(hv 1 11 rfl).trans (congrArg some h1)
    clear h1
    have h6:∃ l,DG w' (v 6) l∧Dig l∧val l=val a+val b∧l.length≤1001:=hd 6 (by kernel_rfl)
    have d6:f.tmps[16]?=some (v 6):=hv 6 16 rfl
    clear hb hv hd
    refine wpOp_step rfl (fun K hK=>?_)
    go_simp
    obtain ⟨l5,g5,g6,g7,g8⟩:=h6
    refine (cut_any false _ l5 _ g6 g5).mono ?_
    rintro e w5 ⟨v5,rfl,h5,hb5⟩
    exact hK _ _ ⟨_,rfl,hb5,by rw [g7] at h5; exact h5,fun h=>absurd h (by decide)⟩
  ·intro v w' hB hF hD
   have F0:(v 0)=.pointer (some ⟨w.heap.size,0,none⟩):=hF 0 (by simp)
   have F1:(v 1)=.bool false:=hF 1 (by simp)
   have F2:(v 2)=.pointer (some ⟨w.heap.size,1,none⟩):=hF 2 (by simp)
   have F3:(v 3)=.slice aa a.length ca:=hF 3 (by simp)
   have F4:(v 4)=.pointer (some ⟨w.heap.size+1,1,none⟩):=hF 4 (by simp)
   have F5:(v 5)=.slice ab b.length cb:=hF 5 (by simp)
   have F6:∃ l,DG w' (v 6) l∧Dig l∧val l=val a+val b∧l.length≤1001:=hF 6 (by simp)
   have F7:BG w' (v 7) (sgn false (val a+val b)):=hF 7 (by simp)
   clear hF
   obtain ⟨n',a',k',c',e7⟩:=bg_form F7
   rw [e7] at F7
   simp only [frOf,frGo,Nat.zero_add,Nat.reduceAdd,F0,F1,F2,F3,F4,F5,e7]
   have r9:=bv_keep hB r1
   have B9:=b_trans B1 hB
   obtain ⟨n'',a'',k'',c'',r8,f8⟩:=bv_use r9
   have HB:=Lib.hid (And.intro r9 F7)
   clear hB hD r9 F7
   go_wp2
   exact bodyPost_ret (v:=.agg #[.bool n',.slice a' k' c']) (by simp [results,Tryz.results158,go_sem,r8]) rfl ⟨_,rfl,bg_store HB.out.1 HB.out.2,b_set (b_set B9 (by simp; omega)) (by simp; omega)⟩
 ·skip
  go_enter Tryz.func158,Tryz.ntmps158
  go_wp2_with fail
  have B1:Below w.heap.size w (((w.alloc (Obj.cells #[.bool true,.slice aa a.length ca] 116)).alloc (Obj.cells #[.bool true,.slice ab b.length cb] 116)).alloc (Obj.cells #[.bool false,.slice none 0 0] 116)):=b_alloc (b_alloc (b_alloc (Below.refl _ _)))
  have k1:BC (((w.alloc (Obj.cells #[.bool true,.slice aa a.length ca] 116)).alloc (Obj.cells #[.bool true,.slice ab b.length cb] 116)).alloc (Obj.cells #[.bool false,.slice none 0 0] 116)) w.heap.size true (.slice aa a.length ca):=by simp [BC,go_sem,World.cell?_alloc_past]
  have k2:BC (((w.alloc (Obj.cells #[.bool true,.slice aa a.length ca] 116)).alloc (Obj.cells #[.bool true,.slice ab b.length cb] 116)).alloc (Obj.cells #[.bool false,.slice none 0 0] 116)) (w.heap.size+1) true (.slice ab b.length cb):=by simp [BC,go_sem,World.cell?_alloc_past]
  have r1:BV (((w.alloc (Obj.cells #[.bool true,.slice aa a.length ca] 116)).alloc (Obj.cells #[.bool true,.slice ab b.length cb] 116)).alloc (Obj.cells #[.bool false,.slice none 0 0] 116)) (w.heap.size+1+1):=bv_new _ _ _ _ (by simp)
  have gA:=dg_keep hA B1
  have gB:=dg_keep hB' B1
  clear hA hB'
  generalize (((w.alloc (Obj.cells #[.bool true,.slice aa a.length ca] 116)).alloc (Obj.cells #[.bool true,.slice ab b.length cb] 116)).alloc (Obj.cells #[.bool false,.slice none 0 0] 116))=W0 at *
  refine region_each [10,11,12,13,14,15,16,17] (fun i X_ U_=>match i with | 0=>X_=.pointer (some ⟨w.heap.size,0,none⟩) | 1=>X_=.bool true | 2=>X_=.pointer (some ⟨w.heap.size,1,none⟩) | 3=>X_=.slice aa a.length ca | 4=>X_=.pointer (some ⟨w.heap.size+1,1,none⟩) | 5=>X_=.slice ab b.length cb | 6=>∃ l,DG U_ X_ l∧Dig l∧val l=val a+val b∧l.length≤1001 | 7=>BG U_ X_ (sgn true (val a+val b)) | _=>True) (fun i=>false) (by kernel_rfl) (by kernel_rfl) (by kernel_rfl) (by kernel_rfl) (by kernel_rfl) ?_ ?_ ?_ ?_
  ·refine swp (upS (upS (upS (upS (upS (upS (upS (upS up0 ?_) ?_) ?_) ?_) ?_) ?_) ?_) ?_)
   ·exact fun _ _ _ h _=>h
   ·exact fun _ _ _ h _=>h
   ·exact fun _ _ _ h _=>h
   ·exact fun _ _ _ h _=>h
   ·exact fun _ _ _ h _=>h
   ·exact fun _ _ _ h _=>h
   ·intro x w w' h hb; obtain ⟨l,h1,h2⟩:=h; exact ⟨l,dg_keep h1 hb,h2⟩
   ·intro x w w' h hb; exact bg_keep h hb
  ·intro i x w hi ha h
   cases ha
  ·refine upS (upS (upS (upS (upS (upS (upS (upS up0 ?_) ?_) ?_) ?_) ?_) ?_) ?_) ?_
   all_goals intro v f w' hb hv hB hd
   ·have b2:f.tmps[2]?=some (.pointer (some ⟨w.heap.size,0,none⟩)):=(hb 2 (by decide)).trans rfl
    clear hb hv hd
    refine wpOp_step rfl (fun K hK=>?_)
    go_simp
    exact hK _ _ ⟨_,rfl,Below.refl _ _,rfl,fun h=>absurd h (by decide)⟩
   ·have h0:(v 0)=.pointer (some ⟨w.heap.size,0,none⟩):=hd 0 (by kernel_rfl)
    have d0:f.tmps[10]?=some (.pointer (some ⟨w.heap.size,0,none⟩)):=(hv 0 10 rfl).trans (congrArg some h0)
    clear h0
    clear hb hv hd
    have c:=cell_keep hB k1.1
    refine wpOp_step rfl (fun K hK=>?_)
    go_simp
    exact hK _ _ ⟨_,rfl,Below.refl _ _,rfl,fun h=>absurd h (by decide)⟩
   ·have b2:f.tmps[2]?=some (.pointer (some ⟨w.heap.size,0,none⟩)):=(hb 2 (by decide)).trans rfl
    clear hb hv hd
    refine wpOp_step rfl (fun K hK=>?_)
    go_simp
    exact hK _ _ ⟨_,rfl,Below.refl _ _,rfl,fun h=>absurd h (by decide)⟩
   ·have h2:(v 2)=.pointer (some ⟨w.heap.size,1,none⟩):=hd 2 (by kernel_rfl)
    have d2:f.tmps[12]?=some (.pointer (some ⟨w.heap.size,1,none⟩)):=(hv 2 12 rfl).trans (congrArg some h2)
    clear h2
    clear hb hv hd
    have c:=cell_keep hB k1.2
    refine wpOp_step rfl (fun K hK=>?_)
    go_simp
    exact hK _ _ ⟨_,rfl,Below.refl _ _,rfl,fun h=>absurd h (by decide)⟩
   ·have b3:f.tmps[3]?=some (.pointer (some ⟨w.heap.size+1,0,none⟩)):=(hb 3 (by decide)).trans rfl
    clear hb hv hd
    refine wpOp_step rfl (fun K hK=>?_)
    go_simp
    exact hK _ _ ⟨_,rfl,Below.refl _ _,rfl,fun h=>absurd h (by decide)⟩
   ·have h4:(v 4)=.pointer (some ⟨w.heap.size+1,1,none⟩):=hd 4 (by kernel_rfl)
    have d4:f.tmps[14]?=some (.pointer (some ⟨w.heap.size+1,1,none⟩)):=(hv 4 14 rfl).trans (congrArg some h4)
    clear h4
    clear hb hv hd
    have c:=cell_keep hB k2.2
    refine wpOp_step rfl (fun K hK=>?_)
    go_simp
    exact hK _ _ ⟨_,rfl,Below.refl _ _,rfl,fun h=>absurd h (by decide)⟩
   ·have h3:(v 3)=.slice aa a.length ca:=hd 3 (by kernel_rfl)
    have d3:f.tmps[13]?=some (.slice aa a.length ca):=(hv 3 13 rfl).trans (congrArg some h3)
    clear h3
    have h5:(v 5)=.slice ab b.length cb:=hd 5 (by kernel_rfl)
    have d5:f.tmps[15]?=some (.slice ab b.length cb):=(hv 5 15 rfl).trans (congrArg some h5)
    clear h5
    clear hb hv hd
    refine wpOp_call rfl (fun _ _=>by go_simp) (by simp [Act.eval,d3,d5]) (sum_any _ _ a b _ (dg_keep gA hB) (dg_keep gB hB) da db 1000 ma mb (by decide)) ?_
    rintro e w5 ⟨v5,l5,rfl,h5,h6,h7,h8,hb5⟩
    exact ⟨_,rfl,_,rfl,hb5,⟨l5,h5,h6,h7,h8⟩,fun h=>absurd h (by decide)⟩
   ·have h1:(v 1)=.bool true:=hd 1 (by kernel_rfl)
    have d1:f.tmps[11]?=some (.bool true):=(hv 1 11 rfl).trans (congrArg some h1)
    clear h1
    have h6:∃ l,DG w' (v 6) l∧Dig l∧val l=val a+val b∧l.length≤1001:=hd 6 (by kernel_rfl)
    have d6:f.tmps[16]?=some (v 6):=hv 6 16 rfl
    clear hb hv hd
    refine wpOp_step rfl (fun K hK=>?_)
    go_simp
    obtain ⟨l5,g5,g6,g7,g8⟩:=h6
    refine (cut_any true _ l5 _ g6 g5).mono ?_
    rintro e w5 ⟨v5,rfl,h5,hb5⟩
    exact hK _ _ ⟨_,rfl,hb5,by rw [g7] at h5; exact h5,fun h=>absurd h (by decide)⟩
  ·intro v w' hB hF hD
   have F0:(v 0)=.pointer (some ⟨w.heap.size,0,none⟩):=hF 0 (by simp)
   have F1:(v 1)=.bool true:=hF 1 (by simp)
   have F2:(v 2)=.pointer (some ⟨w.heap.size,1,none⟩):=hF 2 (by simp)
   have F3:(v 3)=.slice aa a.length ca:=hF 3 (by simp)
   have F4:(v 4)=.pointer (some ⟨w.heap.size+1,1,none⟩):=hF 4 (by simp)
   have F5:(v 5)=.slice ab b.length cb:=hF 5 (by simp)
   have F6:∃ l,DG w' (v 6) l∧Dig l∧val l=val a+val b∧l.length≤1001:=hF 6 (by simp)
   have F7:BG w' (v 7) (sgn true (val a+val b)):=hF 7 (by simp)
   clear hF
   obtain ⟨n',a',k',c',e7⟩:=bg_form F7
   rw [e7] at F7
   simp only [frOf,frGo,Nat.zero_add,Nat.reduceAdd,F0,F1,F2,F3,F4,F5,e7]
   have r9:=bv_keep hB r1
   have B9:=b_trans B1 hB
   obtain ⟨n'',a'',k'',c'',r8,f8⟩:=bv_use r9
   have HB:=Lib.hid (And.intro r9 F7)
   clear hB hD r9 F7
   go_wp2
   exact bodyPost_ret (v:=.agg #[.bool n',.slice a' k' c']) (by simp [results,Tryz.results158,go_sem,r8]) rfl ⟨_,rfl,bg_store HB.out.1 HB.out.2,b_set (b_set B9 (by simp; omega)) (by simp; omega)⟩
theorem add_diff (n:Bool) (aa ab:Option Addr) (ca cb:Nat) (a b:List Int) (w:World) (hA:DG w (.slice aa a.length ca) a) (hB':DG w (.slice ab b.length cb) b) (da:Dig a) (na:Norm a) (db:Dig b) (nb:Norm b) (ma:a.length≤1000) (mb:b.length≤1000) :
  Calls Tryz.prog 158 #[.agg #[.bool n,.slice aa a.length ca],.agg #[.bool (!n),.slice ab b.length cb]] w (RetB (sgn n (val a - val b)) w):=by
 by_cases lt:val a<val b <;> cases n
 all_goals simp only [Bool.not_true,Bool.not_false]
 ·have dl:decide (val a<val b)=true:=by simpa using lt
  go_enter Tryz.func158,Tryz.ntmps158
  go_wp2_with fail
  have B1:Below w.heap.size w (((w.alloc (Obj.cells #[.bool false,.slice aa a.length ca] 116)).alloc (Obj.cells #[.bool true,.slice ab b.length cb] 116)).alloc (Obj.cells #[.bool false,.slice none 0 0] 116)):=b_alloc (b_alloc (b_alloc (Below.refl _ _)))
  have k1:BC (((w.alloc (Obj.cells #[.bool false,.slice aa a.length ca] 116)).alloc (Obj.cells #[.bool true,.slice ab b.length cb] 116)).alloc (Obj.cells #[.bool false,.slice none 0 0] 116)) w.heap.size false (.slice aa a.length ca):=by simp [BC,go_sem,World.cell?_alloc_past]
  have k2:BC (((w.alloc (Obj.cells #[.bool false,.slice aa a.length ca] 116)).alloc (Obj.cells #[.bool true,.slice ab b.length cb] 116)).alloc (Obj.cells #[.bool false,.slice none 0 0] 116)) (w.heap.size+1) true (.slice ab b.length cb):=by simp [BC,go_sem,World.cell?_alloc_past]
  have r1:BV (((w.alloc (Obj.cells #[.bool false,.slice aa a.length ca] 116)).alloc (Obj.cells #[.bool true,.slice ab b.length cb] 116)).alloc (Obj.cells #[.bool false,.slice none 0 0] 116)) (w.heap.size+1+1):=bv_new _ _ _ _ (by simp)
  have gA:=dg_keep hA B1
  have gB:=dg_keep hB' B1
  clear hA hB'
  generalize (((w.alloc (Obj.cells #[.bool false,.slice aa a.length ca] 116)).alloc (Obj.cells #[.bool true,.slice ab b.length cb] 116)).alloc (Obj.cells #[.bool false,.slice none 0 0] 116))=W0 at *
  refine (less_any _ _ a b _ gA gB da na db nb (by omega)).mono ?_
  rintro e w1 ⟨rfl,hb1⟩
  have B1:=b_trans B1 hb1
  have k1:=bc_keep hb1 k1
  have k2:=bc_keep hb1 k2
  have r1:=bv_keep hb1 r1
  have gA:=dg_keep gA hb1
  have gB:=dg_keep gB hb1
  clear hb1
  go_wp2_with fail
  refine region_each [23,24,25,26,27,28,29,30] (fun i X_ U_=>match i with | 0=>X_=.pointer (some ⟨w.heap.size+1,0,none⟩) | 1=>X_=.bool true | 2=>X_=.pointer (some ⟨w.heap.size+1,1,none⟩) | 3=>X_=.slice ab b.length cb | 4=>X_=.pointer (some ⟨w.heap.size,1,none⟩) | 5=>X_=.slice aa a.length ca | 6=>∃ l,DG U_ X_ l∧Dig l∧val l=val b - val a∧l.length≤b.length | 7=>BG U_ X_ (sgn false (val a - val b)) | _=>True) (fun i=>false) (by kernel_rfl) (by kernel_rfl) (by kernel_rfl) (by kernel_rfl) (by kernel_rfl) ?_ ?_ ?_ ?_
  ·refine swp (upS (upS (upS (upS (upS (upS (upS (upS up0 ?_) ?_) ?_) ?_) ?_) ?_) ?_) ?_)
   ·exact fun _ _ _ h _=>h
   ·exact fun _ _ _ h _=>h
   ·exact fun _ _ _ h _=>h
   ·exact fun _ _ _ h _=>h
   ·exact fun _ _ _ h _=>h
   ·exact fun _ _ _ h _=>h
   ·intro x w w' h hb; obtain ⟨l,h1,h2⟩:=h; exact ⟨l,dg_keep h1 hb,h2⟩
   ·intro x w w' h hb; exact bg_keep h hb
  ·intro i x w hi ha h
   cases ha
  ·refine upS (upS (upS (upS (upS (upS (upS (upS up0 ?_) ?_) ?_) ?_) ?_) ?_) ?_) ?_
   all_goals intro v f w' hb hv hB hd
   ·have b3:f.tmps[3]?=some (.pointer (some ⟨w.heap.size+1,0,none⟩)):=(hb 3 (by decide)).trans rfl
    clear hb hv hd
    refine wpOp_step rfl (fun K hK=>?_)
    go_simp
    exact hK _ _ ⟨_,rfl,Below.refl _ _,rfl,fun h=>absurd h (by decide)⟩
   ·have h0:(v 0)=.pointer (some ⟨w.heap.size+1,0,none⟩):=hd 0 (by kernel_rfl)
    have d0:f.tmps[23]?=some (.pointer (some ⟨w.heap.size+1,0,none⟩)):=(hv 0 23 rfl).trans (congrArg some h0)
    clear h0
    clear hb hv hd
    have c:=cell_keep hB k2.1
    refine wpOp_step rfl (fun K hK=>?_)
    go_simp
    exact hK _ _ ⟨_,rfl,Below.refl _ _,rfl,fun h=>absurd h (by decide)⟩
   ·have b3:f.tmps[3]?=some (.pointer (some ⟨w.heap.size+1,0,none⟩)):=(hb 3 (by decide)).trans rfl
    clear hb hv hd
    refine wpOp_step rfl (fun K hK=>?_)
    go_simp
    exact hK _ _ ⟨_,rfl,Below.refl _ _,rfl,fun h=>absurd h (by decide)⟩
   ·have h2:(v 2)=.pointer (some ⟨w.heap.size+1,1,none⟩):=hd 2 (by kernel_rfl)
    have d2:f.tmps[25]?=some (.pointer (some ⟨w.heap.size+1,1,none⟩)):=(hv 2 25 rfl).trans (congrArg some h2)
    clear h2
    clear hb hv hd
    have c:=cell_keep hB k2.2
    refine wpOp_step rfl (fun K hK=>?_)
    go_simp
    exact hK _ _ ⟨_,rfl,Below.refl _ _,rfl,fun h=>absurd h (by decide)⟩
   ·have b2:f.tmps[2]?=some (.pointer (some ⟨w.heap.size,0,none⟩)):=(hb 2 (by decide)).trans rfl
    clear hb hv hd
    refine wpOp_step rfl (fun K hK=>?_)
    go_simp
    exact hK _ _ ⟨_,rfl,Below.refl _ _,rfl,fun h=>absurd h (by decide)⟩
   ·have h4:(v 4)=.pointer (some ⟨w.heap.size,1,none⟩):=hd 4 (by kernel_rfl)
    have d4:f.tmps[27]?=some (.pointer (some ⟨w.heap.size,1,none⟩)):=(hv 4 27 rfl).trans (congrArg some h4)
    clear h4
    clear hb hv hd
    have c:=cell_keep hB k1.2
    refine wpOp_step rfl (fun K hK=>?_)
    go_simp
    exact hK _ _ ⟨_,rfl,Below.refl _ _,rfl,fun h=>absurd h (by decide)⟩
   ·have h3:(v 3)=.slice ab b.length cb:=hd 3 (by kernel_rfl)
    have d3:f.tmps[26]?=some (.slice ab b.length cb):=(hv 3 26 rfl).trans (congrArg some h3)
    clear h3
    have h5:(v 5)=.slice aa a.length ca:=hd 5 (by kernel_rfl)
    have d5:f.tmps[28]?=some (.slice aa a.length ca):=(hv 5 28 rfl).trans (congrArg some h5)
    clear h5
    clear hb hv hd
    refine wpOp_call rfl (fun _ _=>by go_simp) (by simp [Act.eval,d3,d5]) (rest_any _ _ b a _ (dg_keep gB hB) (dg_keep gA hB) db da na (by omega) (by omega)) ?_
    rintro e w5 ⟨v5,l5,rfl,h5,h6,h7,h8,hb5⟩
    exact ⟨_,rfl,_,rfl,hb5,⟨l5,h5,h6,h7,h8⟩,fun h=>absurd h (by decide)⟩
   ·have h1:(v 1)=.bool true:=hd 1 (by kernel_rfl)
    have d1:f.tmps[24]?=some (.bool true):=(hv 1 24 rfl).trans (congrArg some h1)
    clear h1
    have h6:∃ l,DG w' (v 6) l∧Dig l∧val l=val b - val a∧l.length≤b.length:=hd 6 (by kernel_rfl)
    have d6:f.tmps[29]?=some (v 6):=hv 6 29 rfl
    clear hb hv hd
    refine wpOp_step rfl (fun K hK=>?_)
    go_simp
    obtain ⟨l5,g5,g6,g7,g8⟩:=h6
    refine (cut_any true _ l5 _ g6 g5).mono ?_
    rintro e w5 ⟨v5,rfl,h5,hb5⟩
    exact hK _ _ ⟨_,rfl,hb5,by rw [g7] at h5; rwa [show sgn true (val b - val a)=sgn false (val a - val b) by unfold sgn; simp <;> omega] at h5,fun h=>absurd h (by decide)⟩
  ·intro v w' hB hF hD
   have F0:(v 0)=.pointer (some ⟨w.heap.size+1,0,none⟩):=hF 0 (by simp)
   have F1:(v 1)=.bool true:=hF 1 (by simp)
   have F2:(v 2)=.pointer (some ⟨w.heap.size+1,1,none⟩):=hF 2 (by simp)
   have F3:(v 3)=.slice ab b.length cb:=hF 3 (by simp)
   have F4:(v 4)=.pointer (some ⟨w.heap.size,1,none⟩):=hF 4 (by simp)
   have F5:(v 5)=.slice aa a.length ca:=hF 5 (by simp)
   have F6:∃ l,DG w' (v 6) l∧Dig l∧val l=val b - val a∧l.length≤b.length:=hF 6 (by simp)
   have F7:BG w' (v 7) (sgn false (val a - val b)):=hF 7 (by simp)
   clear hF
   obtain ⟨n',a',k',c',e7⟩:=bg_form F7
   rw [e7] at F7
   simp only [frOf,frGo,Nat.zero_add,Nat.reduceAdd,F0,F1,F2,F3,F4,F5,e7]
   have r9:=bv_keep hB r1
   have B9:=b_trans B1 hB
   obtain ⟨n'',a'',k'',c'',r8,f8⟩:=bv_use r9
   have HB:=Lib.hid (And.intro r9 F7)
   clear hB hD r9 F7
   go_wp2
   exact bodyPost_ret (v:=.agg #[.bool n',.slice a' k' c']) (by simp [results,Tryz.results158,go_sem,r8]) rfl ⟨_,rfl,bg_store HB.out.1 HB.out.2,b_set (b_set B9 (by simp; omega)) (by simp; omega)⟩
 ·have dl:decide (val a<val b)=true:=by simpa using lt
  go_enter Tryz.func158,Tryz.ntmps158
  go_wp2_with fail
  have B1:Below w.heap.size w (((w.alloc (Obj.cells #[.bool true,.slice aa a.length ca] 116)).alloc (Obj.cells #[.bool false,.slice ab b.length cb] 116)).alloc (Obj.cells #[.bool false,.slice none 0 0] 116)):=b_alloc (b_alloc (b_alloc (Below.refl _ _)))
  have k1:BC (((w.alloc (Obj.cells #[.bool true,.slice aa a.length ca] 116)).alloc (Obj.cells #[.bool false,.slice ab b.length cb] 116)).alloc (Obj.cells #[.bool false,.slice none 0 0] 116)) w.heap.size true (.slice aa a.length ca):=by simp [BC,go_sem,World.cell?_alloc_past]
  have k2:BC (((w.alloc (Obj.cells #[.bool true,.slice aa a.length ca] 116)).alloc (Obj.cells #[.bool false,.slice ab b.length cb] 116)).alloc (Obj.cells #[.bool false,.slice none 0 0] 116)) (w.heap.size+1) false (.slice ab b.length cb):=by simp [BC,go_sem,World.cell?_alloc_past]
  have r1:BV (((w.alloc (Obj.cells #[.bool true,.slice aa a.length ca] 116)).alloc (Obj.cells #[.bool false,.slice ab b.length cb] 116)).alloc (Obj.cells #[.bool false,.slice none 0 0] 116)) (w.heap.size+1+1):=bv_new _ _ _ _ (by simp)
  have gA:=dg_keep hA B1
  have gB:=dg_keep hB' B1
  clear hA hB'
  generalize (((w.alloc (Obj.cells #[.bool true,.slice aa a.length ca] 116)).alloc (Obj.cells #[.bool false,.slice ab b.length cb] 116)).alloc (Obj.cells #[.bool false,.slice none 0 0] 116))=W0 at *
  refine (less_any _ _ a b _ gA gB da na db nb (by omega)).mono ?_
  rintro e w1 ⟨rfl,hb1⟩
  have B1:=b_trans B1 hb1
  have k1:=bc_keep hb1 k1
  have k2:=bc_keep hb1 k2
  have r1:=bv_keep hb1 r1
  have gA:=dg_keep gA hb1
  have gB:=dg_keep gB hb1
  clear hb1
  go_wp2_with fail
  refine region_each [23,24,25,26,27,28,29,30] (fun i X_ U_=>match i with | 0=>X_=.pointer (some ⟨w.heap.size+1,0,none⟩) | 1=>X_=.bool false | 2=>X_=.pointer (some ⟨w.heap.size+1,1,none⟩) | 3=>X_=.slice ab b.length cb | 4=>X_=.pointer (some ⟨w.heap.size,1,none⟩) | 5=>X_=.slice aa a.length ca | 6=>∃ l,DG U_ X_ l∧Dig l∧val l=val b - val a∧l.length≤b.length | 7=>BG U_ X_ (sgn true (val a - val b)) | _=>True) (fun i=>false) (by kernel_rfl) (by kernel_rfl) (by kernel_rfl) (by kernel_rfl) (by kernel_rfl) ?_ ?_ ?_ ?_
  ·refine swp (upS (upS (upS (upS (upS (upS (upS (upS up0 ?_) ?_) ?_) ?_) ?_) ?_) ?_) ?_)
   ·exact fun _ _ _ h _=>h
   ·exact fun _ _ _ h _=>h
   ·exact fun _ _ _ h _=>h
   ·exact fun _ _ _ h _=>h
   ·exact fun _ _ _ h _=>h
   ·exact fun _ _ _ h _=>h
   ·intro x w w' h hb; obtain ⟨l,h1,h2⟩:=h; exact ⟨l,dg_keep h1 hb,h2⟩
   ·intro x w w' h hb; exact bg_keep h hb
  ·intro i x w hi ha h
   cases ha
  ·refine upS (upS (upS (upS (upS (upS (upS (upS up0 ?_) ?_) ?_) ?_) ?_) ?_) ?_) ?_
   all_goals intro v f w' hb hv hB hd
   ·have b3:f.tmps[3]?=some (.pointer (some ⟨w.heap.size+1,0,none⟩)):=(hb 3 (by decide)).trans rfl
    clear hb hv hd
    refine wpOp_step rfl (fun K hK=>?_)
    go_simp
    exact hK _ _ ⟨_,rfl,Below.refl _ _,rfl,fun h=>absurd h (by decide)⟩
   ·have h0:(v 0)=.pointer (some ⟨w.heap.size+1,0,none⟩):=hd 0 (by kernel_rfl)
    have d0:f.tmps[23]?=some (.pointer (some ⟨w.heap.size+1,0,none⟩)):=(hv 0 23 rfl).trans (congrArg some h0)
    clear h0
    clear hb hv hd
    have c:=cell_keep hB k2.1
    refine wpOp_step rfl (fun K hK=>?_)
    go_simp
    exact hK _ _ ⟨_,rfl,Below.refl _ _,rfl,fun h=>absurd h (by decide)⟩
   ·have b3:f.tmps[3]?=some (.pointer (some ⟨w.heap.size+1,0,none⟩)):=(hb 3 (by decide)).trans rfl
    clear hb hv hd
    refine wpOp_step rfl (fun K hK=>?_)
    go_simp
    exact hK _ _ ⟨_,rfl,Below.refl _ _,rfl,fun h=>absurd h (by decide)⟩
   ·have h2:(v 2)=.pointer (some ⟨w.heap.size+1,1,none⟩):=hd 2 (by kernel_rfl)
    have d2:f.tmps[25]?=some (.pointer (some ⟨w.heap.size+1,1,none⟩)):=(hv 2 25 rfl).trans (congrArg some h2)
    clear h2
    clear hb hv hd
    have c:=cell_keep hB k2.2
    refine wpOp_step rfl (fun K hK=>?_)
    go_simp
    exact hK _ _ ⟨_,rfl,Below.refl _ _,rfl,fun h=>absurd h (by decide)⟩
   ·have b2:f.tmps[2]?=some (.pointer (some ⟨w.heap.size,0,none⟩)):=(hb 2 (by decide)).trans rfl
    clear hb hv hd
    refine wpOp_step rfl (fun K hK=>?_)
    go_simp
    exact hK _ _ ⟨_,rfl,Below.refl _ _,rfl,fun h=>absurd h (by decide)⟩
   ·have h4:(v 4)=.pointer (some ⟨w.heap.size,1,none⟩):=hd 4 (by kernel_rfl)
    have d4:f.tmps[27]?=some (.pointer (some ⟨w.heap.size,1,none⟩)):=(hv 4 27 rfl).trans (congrArg some h4)
    clear h4
    clear hb hv hd
    have c:=cell_keep hB k1.2
    refine wpOp_step rfl (fun K hK=>?_)
    go_simp
    exact hK _ _ ⟨_,rfl,Below.refl _ _,rfl,fun h=>absurd h (by decide)⟩
   ·have h3:(v 3)=.slice ab b.length cb:=hd 3 (by kernel_rfl)
    have d3:f.tmps[26]?=some (.slice ab b.length cb):=(hv 3 26 rfl).trans (congrArg some h3)
    clear h3
    have h5:(v 5)=.slice aa a.length ca:=hd 5 (by kernel_rfl)
    have d5:f.tmps[28]?=some (.slice aa a.length ca):=(hv 5 28 rfl).trans (congrArg some h5)
    clear h5
    clear hb hv hd
    refine wpOp_call rfl (fun _ _=>by go_simp) (by simp [Act.eval,d3,d5]) (rest_any _ _ b a _ (dg_keep gB hB) (dg_keep gA hB) db da na (by omega) (by omega)) ?_
    rintro e w5 ⟨v5,l5,rfl,h5,h6,h7,h8,hb5⟩
    exact ⟨_,rfl,_,rfl,hb5,⟨l5,h5,h6,h7,h8⟩,fun h=>absurd h (by decide)⟩
   ·have h1:(v 1)=.bool false:=hd 1 (by kernel_rfl)
    have d1:f.tmps[24]?=some (.bool false):=(hv 1 24 rfl).trans (congrArg some h1)
    clear h1
    have h6:∃ l,DG w' (v 6) l∧Dig l∧val l=val b - val a∧l.length≤b.length:=hd 6 (by kernel_rfl)
    have d6:f.tmps[29]?=some (v 6):=hv 6 29 rfl
    clear hb hv hd
    refine wpOp_step rfl (fun K hK=>?_)
    go_simp
    obtain ⟨l5,g5,g6,g7,g8⟩:=h6
    refine (cut_any false _ l5 _ g6 g5).mono ?_
    rintro e w5 ⟨v5,rfl,h5,hb5⟩
    exact hK _ _ ⟨_,rfl,hb5,by rw [g7] at h5; rwa [show sgn false (val b - val a)=sgn true (val a - val b) by unfold sgn; simp <;> omega] at h5,fun h=>absurd h (by decide)⟩
  ·intro v w' hB hF hD
   have F0:(v 0)=.pointer (some ⟨w.heap.size+1,0,none⟩):=hF 0 (by simp)
   have F1:(v 1)=.bool false:=hF 1 (by simp)
   have F2:(v 2)=.pointer (some ⟨w.heap.size+1,1,none⟩):=hF 2 (by simp)
   have F3:(v 3)=.slice ab b.length cb:=hF 3 (by simp)
   have F4:(v 4)=.pointer (some ⟨w.heap.size,1,none⟩):=hF 4 (by simp)
   have F5:(v 5)=.slice aa a.length ca:=hF 5 (by simp)
   have F6:∃ l,DG w' (v 6) l∧Dig l∧val l=val b - val a∧l.length≤b.length:=hF 6 (by simp)
   have F7:BG w' (v 7) (sgn true (val a - val b)):=hF 7 (by simp)
   clear hF
   obtain ⟨n',a',k',c',e7⟩:=bg_form F7
   rw [e7] at F7
   simp only [frOf,frGo,Nat.zero_add,Nat.reduceAdd,F0,F1,F2,F3,F4,F5,e7]
   have r9:=bv_keep hB r1
   have B9:=b_trans B1 hB
   obtain ⟨n'',a'',k'',c'',r8,f8⟩:=bv_use r9
   have HB:=Lib.hid (And.intro r9 F7)
   clear hB hD r9 F7
   go_wp2
   exact bodyPost_ret (v:=.agg #[.bool n',.slice a' k' c']) (by simp [results,Tryz.results158,go_sem,r8]) rfl ⟨_,rfl,bg_store HB.out.1 HB.out.2,b_set (b_set B9 (by simp; omega)) (by simp; omega)⟩
 ·have dl:decide (val a<val b)=false:=by simpa using lt
  go_enter Tryz.func158,Tryz.ntmps158
  go_wp2_with fail
  have B1:Below w.heap.size w (((w.alloc (Obj.cells #[.bool false,.slice aa a.length ca] 116)).alloc (Obj.cells #[.bool true,.slice ab b.length cb] 116)).alloc (Obj.cells #[.bool false,.slice none 0 0] 116)):=b_alloc (b_alloc (b_alloc (Below.refl _ _)))
  have k1:BC (((w.alloc (Obj.cells #[.bool false,.slice aa a.length ca] 116)).alloc (Obj.cells #[.bool true,.slice ab b.length cb] 116)).alloc (Obj.cells #[.bool false,.slice none 0 0] 116)) w.heap.size false (.slice aa a.length ca):=by simp [BC,go_sem,World.cell?_alloc_past]
  have k2:BC (((w.alloc (Obj.cells #[.bool false,.slice aa a.length ca] 116)).alloc (Obj.cells #[.bool true,.slice ab b.length cb] 116)).alloc (Obj.cells #[.bool false,.slice none 0 0] 116)) (w.heap.size+1) true (.slice ab b.length cb):=by simp [BC,go_sem,World.cell?_alloc_past]
  have r1:BV (((w.alloc (Obj.cells #[.bool false,.slice aa a.length ca] 116)).alloc (Obj.cells #[.bool true,.slice ab b.length cb] 116)).alloc (Obj.cells #[.bool false,.slice none 0 0] 116)) (w.heap.size+1+1):=bv_new _ _ _ _ (by simp)
  have gA:=dg_keep hA B1
  have gB:=dg_keep hB' B1
  clear hA hB'
  generalize (((w.alloc (Obj.cells #[.bool false,.slice aa a.length ca] 116)).alloc (Obj.cells #[.bool true,.slice ab b.length cb] 116)).alloc (Obj.cells #[.bool false,.slice none 0 0] 116))=W0 at *
  refine (less_any _ _ a b _ gA gB da na db nb (by omega)).mono ?_
  rintro e w1 ⟨rfl,hb1⟩
  have B1:=b_trans B1 hb1
  have k1:=bc_keep hb1 k1
  have k2:=bc_keep hb1 k2
  have r1:=bv_keep hb1 r1
  have gA:=dg_keep gA hb1
  have gB:=dg_keep gB hb1
  clear hb1
  go_wp2_with fail
  refine region_each [31,32,33,34,35,36,37,38] (fun i X_ U_=>match i with | 0=>X_=.pointer (some ⟨w.heap.size,0,none⟩) | 1=>X_=.bool false | 2=>X_=.pointer (some ⟨w.heap.size,1,none⟩) | 3=>X_=.slice aa a.length ca | 4=>X_=.pointer (some ⟨w.heap.size+1,1,none⟩) | 5=>X_=.slice ab b.length cb | 6=>∃ l,DG U_ X_ l∧Dig l∧val l=val a - val b∧l.length≤a.length | 7=>BG U_ X_ (sgn false (val a - val b)) | _=>True) (fun i=>false) (by kernel_rfl) (by kernel_rfl) (by kernel_rfl) (by kernel_rfl) (by kernel_rfl) ?_ ?_ ?_ ?_
  ·refine swp (upS (upS (upS (upS (upS (upS (upS (upS up0 ?_) ?_) ?_) ?_) ?_) ?_) ?_) ?_)
   ·exact fun _ _ _ h _=>h
   ·exact fun _ _ _ h _=>h
   ·exact fun _ _ _ h _=>h
   ·exact fun _ _ _ h _=>h
   ·exact fun _ _ _ h _=>h
   ·exact fun _ _ _ h _=>h
   ·intro x w w' h hb; obtain ⟨l,h1,h2⟩:=h; exact ⟨l,dg_keep h1 hb,h2⟩
   ·intro x w w' h hb; exact bg_keep h hb
  ·intro i x w hi ha h
   cases ha
  ·refine upS (upS (upS (upS (upS (upS (upS (upS up0 ?_) ?_) ?_) ?_) ?_) ?_) ?_) ?_
   all_goals intro v f w' hb hv hB hd
   ·have b2:f.tmps[2]?=some (.pointer (some ⟨w.heap.size,0,none⟩)):=(hb 2 (by decide)).trans rfl
    clear hb hv hd
    refine wpOp_step rfl (fun K hK=>?_)
    go_simp
    exact hK _ _ ⟨_,rfl,Below.refl _ _,rfl,fun h=>absurd h (by decide)⟩
   ·have h0:(v 0)=.pointer (some ⟨w.heap.size,0,none⟩):=hd 0 (by kernel_rfl)
    have d0:f.tmps[31]?=some (.pointer (some ⟨w.heap.size,0,none⟩)):=(hv 0 31 rfl).trans (congrArg some h0)
    clear h0
    clear hb hv hd
    have c:=cell_keep hB k1.1
    refine wpOp_step rfl (fun K hK=>?_)
    go_simp
    exact hK _ _ ⟨_,rfl,Below.refl _ _,rfl,fun h=>absurd h (by decide)⟩
   ·have b2:f.tmps[2]?=some (.pointer (some ⟨w.heap.size,0,none⟩)):=(hb 2 (by decide)).trans rfl
    clear hb hv hd
    refine wpOp_step rfl (fun K hK=>?_)
    go_simp
    exact hK _ _ ⟨_,rfl,Below.refl _ _,rfl,fun h=>absurd h (by decide)⟩
   ·have h2:(v 2)=.pointer (some ⟨w.heap.size,1,none⟩):=hd 2 (by kernel_rfl)
    have d2:f.tmps[33]?=some (.pointer (some ⟨w.heap.size,1,none⟩)):=(hv 2 33 rfl).trans (congrArg some h2)
    clear h2
    clear hb hv hd
    have c:=cell_keep hB k1.2
    refine wpOp_step rfl (fun K hK=>?_)
    go_simp
    exact hK _ _ ⟨_,rfl,Below.refl _ _,rfl,fun h=>absurd h (by decide)⟩
   ·have b3:f.tmps[3]?=some (.pointer (some ⟨w.heap.size+1,0,none⟩)):=(hb 3 (by decide)).trans rfl
    clear hb hv hd
    refine wpOp_step rfl (fun K hK=>?_)
    go_simp
    exact hK _ _ ⟨_,rfl,Below.refl _ _,rfl,fun h=>absurd h (by decide)⟩
   ·have h4:(v 4)=.pointer (some ⟨w.heap.size+1,1,none⟩):=hd 4 (by kernel_rfl)
    have d4:f.tmps[35]?=some (.pointer (some ⟨w.heap.size+1,1,none⟩)):=(hv 4 35 rfl).trans (congrArg some h4)
    clear h4
    clear hb hv hd
    have c:=cell_keep hB k2.2
    refine wpOp_step rfl (fun K hK=>?_)
    go_simp
    exact hK _ _ ⟨_,rfl,Below.refl _ _,rfl,fun h=>absurd h (by decide)⟩
   ·have h3:(v 3)=.slice aa a.length ca:=hd 3 (by kernel_rfl)
    have d3:f.tmps[34]?=some (.slice aa a.length ca):=(hv 3 34 rfl).trans (congrArg some h3)
    clear h3
    have h5:(v 5)=.slice ab b.length cb:=hd 5 (by kernel_rfl)
    have d5:f.tmps[36]?=some (.slice ab b.length cb):=(hv 5 36 rfl).trans (congrArg some h5)
    clear h5
    clear hb hv hd
    refine wpOp_call rfl (fun _ _=>by go_simp) (by simp [Act.eval,d3,d5]) (rest_any _ _ a b _ (dg_keep gA hB) (dg_keep gB hB) da db nb (by omega) (by omega)) ?_
    rintro e w5 ⟨v5,l5,rfl,h5,h6,h7,h8,hb5⟩
    exact ⟨_,rfl,_,rfl,hb5,⟨l5,h5,h6,h7,h8⟩,fun h=>absurd h (by decide)⟩
   ·have h1:(v 1)=.bool false:=hd 1 (by kernel_rfl)
    have d1:f.tmps[32]?=some (.bool false):=(hv 1 32 rfl).trans (congrArg some h1)
    clear h1
    have h6:∃ l,DG w' (v 6) l∧Dig l∧val l=val a - val b∧l.length≤a.length:=hd 6 (by kernel_rfl)
    have d6:f.tmps[37]?=some (v 6):=hv 6 37 rfl
    clear hb hv hd
    refine wpOp_step rfl (fun K hK=>?_)
    go_simp
    obtain ⟨l5,g5,g6,g7,g8⟩:=h6
    refine (cut_any false _ l5 _ g6 g5).mono ?_
    rintro e w5 ⟨v5,rfl,h5,hb5⟩
    exact hK _ _ ⟨_,rfl,hb5,by rw [g7] at h5; exact h5,fun h=>absurd h (by decide)⟩
  ·intro v w' hB hF hD
   have F0:(v 0)=.pointer (some ⟨w.heap.size,0,none⟩):=hF 0 (by simp)
   have F1:(v 1)=.bool false:=hF 1 (by simp)
   have F2:(v 2)=.pointer (some ⟨w.heap.size,1,none⟩):=hF 2 (by simp)
   have F3:(v 3)=.slice aa a.length ca:=hF 3 (by simp)
   have F4:(v 4)=.pointer (some ⟨w.heap.size+1,1,none⟩):=hF 4 (by simp)
   have F5:(v 5)=.slice ab b.length cb:=hF 5 (by simp)
   have F6:∃ l,DG w' (v 6) l∧Dig l∧val l=val a - val b∧l.length≤a.length:=hF 6 (by simp)
   have F7:BG w' (v 7) (sgn false (val a - val b)):=hF 7 (by simp)
   clear hF
   obtain ⟨n',a',k',c',e7⟩:=bg_form F7
   rw [e7] at F7
   simp only [frOf,frGo,Nat.zero_add,Nat.reduceAdd,F0,F1,F2,F3,F4,F5,e7]
   have r9:=bv_keep hB r1
   have B9:=b_trans B1 hB
   obtain ⟨n'',a'',k'',c'',r8,f8⟩:=bv_use r9
   have HB:=Lib.hid (And.intro r9 F7)
   clear hB hD r9 F7
   go_wp2
   exact bodyPost_ret (v:=.agg #[.bool n',.slice a' k' c']) (by simp [results,Tryz.results158,go_sem,r8]) rfl ⟨_,rfl,bg_store HB.out.1 HB.out.2,b_set (b_set B9 (by simp; omega)) (by simp; omega)⟩
 ·have dl:decide (val a<val b)=false:=by simpa using lt
  go_enter Tryz.func158,Tryz.ntmps158
  go_wp2_with fail
  have B1:Below w.heap.size w (((w.alloc (Obj.cells #[.bool true,.slice aa a.length ca] 116)).alloc (Obj.cells #[.bool false,.slice ab b.length cb] 116)).alloc (Obj.cells #[.bool false,.slice none 0 0] 116)):=b_alloc (b_alloc (b_alloc (Below.refl _ _)))
  have k1:BC (((w.alloc (Obj.cells #[.bool true,.slice aa a.length ca] 116)).alloc (Obj.cells #[.bool false,.slice ab b.length cb] 116)).alloc (Obj.cells #[.bool false,.slice none 0 0] 116)) w.heap.size true (.slice aa a.length ca):=by simp [BC,go_sem,World.cell?_alloc_past]
  have k2:BC (((w.alloc (Obj.cells #[.bool true,.slice aa a.length ca] 116)).alloc (Obj.cells #[.bool false,.slice ab b.length cb] 116)).alloc (Obj.cells #[.bool false,.slice none 0 0] 116)) (w.heap.size+1) false (.slice ab b.length cb):=by simp [BC,go_sem,World.cell?_alloc_past]
  have r1:BV (((w.alloc (Obj.cells #[.bool true,.slice aa a.length ca] 116)).alloc (Obj.cells #[.bool false,.slice ab b.length cb] 116)).alloc (Obj.cells #[.bool false,.slice none 0 0] 116)) (w.heap.size+1+1):=bv_new _ _ _ _ (by simp)
  have gA:=dg_keep hA B1
  have gB:=dg_keep hB' B1
  clear hA hB'
  generalize (((w.alloc (Obj.cells #[.bool true,.slice aa a.length ca] 116)).alloc (Obj.cells #[.bool false,.slice ab b.length cb] 116)).alloc (Obj.cells #[.bool false,.slice none 0 0] 116))=W0 at *
  refine (less_any _ _ a b _ gA gB da na db nb (by omega)).mono ?_
  rintro e w1 ⟨rfl,hb1⟩
  have B1:=b_trans B1 hb1
  have k1:=bc_keep hb1 k1
  have k2:=bc_keep hb1 k2
  have r1:=bv_keep hb1 r1
  have gA:=dg_keep gA hb1
  have gB:=dg_keep gB hb1
  clear hb1
  go_wp2_with fail
  refine region_each [31,32,33,34,35,36,37,38] (fun i X_ U_=>match i with | 0=>X_=.pointer (some ⟨w.heap.size,0,none⟩) | 1=>X_=.bool true | 2=>X_=.pointer (some ⟨w.heap.size,1,none⟩) | 3=>X_=.slice aa a.length ca | 4=>X_=.pointer (some ⟨w.heap.size+1,1,none⟩) | 5=>X_=.slice ab b.length cb | 6=>∃ l,DG U_ X_ l∧Dig l∧val l=val a - val b∧l.length≤a.length | 7=>BG U_ X_ (sgn true (val a - val b)) | _=>True) (fun i=>false) (by kernel_rfl) (by kernel_rfl) (by kernel_rfl) (by kernel_rfl) (by kernel_rfl) ?_ ?_ ?_ ?_
  ·refine swp (upS (upS (upS (upS (upS (upS (upS (upS up0 ?_) ?_) ?_) ?_) ?_) ?_) ?_) ?_)
   ·exact fun _ _ _ h _=>h
   ·exact fun _ _ _ h _=>h
   ·exact fun _ _ _ h _=>h
   ·exact fun _ _ _ h _=>h
   ·exact fun _ _ _ h _=>h
   ·exact fun _ _ _ h _=>h
   ·intro x w w' h hb; obtain ⟨l,h1,h2⟩:=h; exact ⟨l,dg_keep h1 hb,h2⟩
   ·intro x w w' h hb; exact bg_keep h hb
  ·intro i x w hi ha h
   cases ha
  ·refine upS (upS (upS (upS (upS (upS (upS (upS up0 ?_) ?_) ?_) ?_) ?_) ?_) ?_) ?_
   all_goals intro v f w' hb hv hB hd
   ·have b2:f.tmps[2]?=some (.pointer (some ⟨w.heap.size,0,none⟩)):=(hb 2 (by decide)).trans rfl
    clear hb hv hd
    refine wpOp_step rfl (fun K hK=>?_)
    go_simp
    exact hK _ _ ⟨_,rfl,Below.refl _ _,rfl,fun h=>absurd h (by decide)⟩
   ·have h0:(v 0)=.pointer (some ⟨w.heap.size,0,none⟩):=hd 0 (by kernel_rfl)
    have d0:f.tmps[31]?=some (.pointer (some ⟨w.heap.size,0,none⟩)):=(hv 0 31 rfl).trans (congrArg some h0)
    clear h0
    clear hb hv hd
    have c:=cell_keep hB k1.1
    refine wpOp_step rfl (fun K hK=>?_)
    go_simp
    exact hK _ _ ⟨_,rfl,Below.refl _ _,rfl,fun h=>absurd h (by decide)⟩
   ·have b2:f.tmps[2]?=some (.pointer (some ⟨w.heap.size,0,none⟩)):=(hb 2 (by decide)).trans rfl
    clear hb hv hd
    refine wpOp_step rfl (fun K hK=>?_)
    go_simp
    exact hK _ _ ⟨_,rfl,Below.refl _ _,rfl,fun h=>absurd h (by decide)⟩
   ·have h2:(v 2)=.pointer (some ⟨w.heap.size,1,none⟩):=hd 2 (by kernel_rfl)
    have d2:f.tmps[33]?=some (.pointer (some ⟨w.heap.size,1,none⟩)):=(hv 2 33 rfl).trans (congrArg some h2)
    clear h2
    clear hb hv hd
    have c:=cell_keep hB k1.2
    refine wpOp_step rfl (fun K hK=>?_)
    go_simp
    exact hK _ _ ⟨_,rfl,Below.refl _ _,rfl,fun h=>absurd h (by decide)⟩
   ·have b3:f.tmps[3]?=some (.pointer (some ⟨w.heap.size+1,0,none⟩)):=(hb 3 (by decide)).trans rfl
    clear hb hv hd
    refine wpOp_step rfl (fun K hK=>?_)
    go_simp
    exact hK _ _ ⟨_,rfl,Below.refl _ _,rfl,fun h=>absurd h (by decide)⟩
   ·have h4:(v 4)=.pointer (some ⟨w.heap.size+1,1,none⟩):=hd 4 (by kernel_rfl)
    have d4:f.tmps[35]?=some (.pointer (some ⟨w.heap.size+1,1,none⟩)):=(hv 4 35 rfl).trans (congrArg some h4)
    clear h4
    clear hb hv hd
    have c:=cell_keep hB k2.2
    refine wpOp_step rfl (fun K hK=>?_)
    go_simp
    exact hK _ _ ⟨_,rfl,Below.refl _ _,rfl,fun h=>absurd h (by decide)⟩
   ·have h3:(v 3)=.slice aa a.length ca:=hd 3 (by kernel_rfl)
    have d3:f.tmps[34]?=some (.slice aa a.length ca):=(hv 3 34 rfl).trans (congrArg some h3)
    clear h3
    have h5:(v 5)=.slice ab b.length cb:=hd 5 (by kernel_rfl)
    have d5:f.tmps[36]?=some (.slice ab b.length cb):=(hv 5 36 rfl).trans (congrArg some h5)
    clear h5
    clear hb hv hd
    refine wpOp_call rfl (fun _ _=>by go_simp) (by simp [Act.eval,d3,d5]) (rest_any _ _ a b _ (dg_keep gA hB) (dg_keep gB hB) da db nb (by omega) (by omega)) ?_
    rintro e w5 ⟨v5,l5,rfl,h5,h6,h7,h8,hb5⟩
    exact ⟨_,rfl,_,rfl,hb5,⟨l5,h5,h6,h7,h8⟩,fun h=>absurd h (by decide)⟩
   ·have h1:(v 1)=.bool true:=hd 1 (by kernel_rfl)
    have d1:f.tmps[32]?=some (.bool true):=(hv 1 32 rfl).trans (congrArg some h1)
    clear h1
    have h6:∃ l,DG w' (v 6) l∧Dig l∧val l=val a - val b∧l.length≤a.length:=hd 6 (by kernel_rfl)
    have d6:f.tmps[37]?=some (v 6):=hv 6 37 rfl
    clear hb hv hd
    refine wpOp_step rfl (fun K hK=>?_)
    go_simp
    obtain ⟨l5,g5,g6,g7,g8⟩:=h6
    refine (cut_any true _ l5 _ g6 g5).mono ?_
    rintro e w5 ⟨v5,rfl,h5,hb5⟩
    exact hK _ _ ⟨_,rfl,hb5,by rw [g7] at h5; exact h5,fun h=>absurd h (by decide)⟩
  ·intro v w' hB hF hD
   have F0:(v 0)=.pointer (some ⟨w.heap.size,0,none⟩):=hF 0 (by simp)
   have F1:(v 1)=.bool true:=hF 1 (by simp)
   have F2:(v 2)=.pointer (some ⟨w.heap.size,1,none⟩):=hF 2 (by simp)
   have F3:(v 3)=.slice aa a.length ca:=hF 3 (by simp)
   have F4:(v 4)=.pointer (some ⟨w.heap.size+1,1,none⟩):=hF 4 (by simp)
   have F5:(v 5)=.slice ab b.length cb:=hF 5 (by simp)
   have F6:∃ l,DG w' (v 6) l∧Dig l∧val l=val a - val b∧l.length≤a.length:=hF 6 (by simp)
   have F7:BG w' (v 7) (sgn true (val a - val b)):=hF 7 (by simp)
   clear hF
   obtain ⟨n',a',k',c',e7⟩:=bg_form F7
   rw [e7] at F7
   simp only [frOf,frGo,Nat.zero_add,Nat.reduceAdd,F0,F1,F2,F3,F4,F5,e7]
   have r9:=bv_keep hB r1
   have B9:=b_trans B1 hB
   obtain ⟨n'',a'',k'',c'',r8,f8⟩:=bv_use r9
   have HB:=Lib.hid (And.intro r9 F7)
   clear hB hD r9 F7
   go_wp2
   exact bodyPost_ret (v:=.agg #[.bool n',.slice a' k' c']) (by simp [results,Tryz.results158,go_sem,r8]) rfl ⟨_,rfl,bg_store HB.out.1 HB.out.2,b_set (b_set B9 (by simp; omega)) (by simp; omega)⟩
theorem add_big (va vb:Value) (x y:Int) (w:World) (hx:BG w va x) (hy:BG w vb y) (sx:Small x) (sy:Small y) :
  Calls Tryz.prog 158 #[va,vb] w (RetB (x+y) w):=by
 obtain ⟨n1,aa,a,ca,rfl,hA,da,na,la,rfl,ca1,ca2⟩:=bg_open hx
 obtain ⟨n2,ab,b,cb,rfl,hB',db,nb,lb,rfl,cb1,cb2⟩:=bg_open hy
 have ma:=small_len da na la sx
 have mb:=small_len db nb lb sy
 clear hx hy sx sy
 by_cases e:n2=n1
 ·subst e
  have:=add_same n2 aa ab ca cb a b w hA hB' da db ma mb
  rwa [show sgn n2 (val a+val b)=sgn n2 (val a)+sgn n2 (val b) by unfold sgn; cases n2 <;> simp; omega] at this
 ·obtain rfl:n2 = !n1:=by cases n1 <;> cases n2 <;> simp_all
  have:=add_diff n1 aa ab ca cb a b w hA hB' da na db nb ma mb
  rwa [show sgn n1 (val a - val b)=sgn n1 (val a)+sgn (!n1) (val b) by unfold sgn; cases n1 <;> simp <;> omega] at this
end Go.Proofs.YtjifkmldigemkaaGreatDoor
